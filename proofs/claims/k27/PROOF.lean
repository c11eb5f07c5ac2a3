import PyProof.Rows.All
import Wide.All
import OpenK.AllK
import Wide.FinOn
import Lean
import PyProof.EqAt
import PyProof.EqKinds
import PyProof.TupleCall
import KE.KDictSum
import KE.KTryDeep
import KE.KTryMore
import PyProof.NsDelKeeps
import PyProof.FString
import PyProof.Rows.SetFrom
import PySem.Challenge.RW_nearstairs_k27_one_room_alone
open List (all_cons all_eq_true any_cons any_eq_true append_assoc append_nil erase_sublist filter_cons filter_sublist find?_cons find?_cons_of_neg find?_cons_of_pos getD_eq_getElem?_getD getElem?_append_left getElem?_append_right getElem?_eq_getElem getElem?_eq_none getElem?_eq_some_iff getElem?_map getElem?_of_mem getElem?_set_ne getElem?_set_self getElem_idxOf getElem_mem length_append length_cons length_drop length_erase_le length_erase_of_mem length_filter_le length_map length_pos_of_mem length_set length_singleton length_take map_append map_cons map_map map_nil mem_append mem_append_left mem_append_right mem_cons mem_cons_of_mem mem_cons_self mem_filter mem_map mem_of_getElem? mem_of_mem_erase mem_range mem_replicate mem_singleton nodup_cons nodup_nil not_mem_nil pairwise_cons replicate_succ replicate_succ' take_length take_succ)
set_option Elab.async false
set_option linter.all false
set_option maxRecDepth 100000
namespace L2
open PySem PySem.Spec PyProof.Rows
abbrev Key:=Sum Int Str
def keyIs:Key->Value->Bool
  | .inl k,v=>Value.isInt k v
  | .inr x,v=>Value.isStrOf x v
def keyH (w:World):Key->Int
  | .inl k=>hashInt k
  | .inr x=>hashStr w x
theorem ZX:∀ {k:Key} {v:Value},keyIs k v=true->(∃ i t,k=Sum.inl i/\v=Value.int i t)\/(∃ x t,k=Sum.inr x/\v=Value.str x t)
  | .inl i,v,h=>by
    obtain ⟨t,e⟩:=Value.isInt_shape (k:=i) (v:=v) h
    exact .inl ⟨i,t,rfl,e⟩
  | .inr x,v,h=>by
    obtain ⟨t,e⟩:=Value.isStrOf_shape (x:=x) (v:=v) h
    exact .inr ⟨x,t,rfl,e⟩
theorem ZjV (i:Int) (t:Tok):keyIs (.inl i) (.int i t)=true:=by simp [keyIs,Value.isInt]
theorem ZjW (x:Str) (t:Tok):keyIs (.inr x) (.str x t)=true:=by simp [keyIs,Value.isStrOf]
theorem ZnL (a b:Int):decide ((Sum.inl a:Key)=Sum.inl b)=(a == b):=by
  by_cases e:a=b
  . subst e; simp
  . have h:¬ (Sum.inl a:Key)=Sum.inl b:=λq=>e (Sum.inl.inj q)
    rw [decide_eq_false h]
    exact (beq_eq_false_iff_ne.mpr e).symm
theorem ZnM (a b:Str):decide ((Sum.inr a:Key)=Sum.inr b)=decide (a=b):=by
  by_cases e:a=b
  . subst e; simp
  . have h:¬ (Sum.inr a:Key)=Sum.inr b:=λq=>e (Sum.inr.inj q)
    rw [decide_eq_false h,decide_eq_false e]
theorem ZnN (a:Int) (b:Str):decide ((Sum.inl a:Key)=Sum.inr b)=false:=decide_eq_false (λq=>nomatch q)
theorem ZnO (a:Str) (b:Int):decide ((Sum.inr a:Key)=Sum.inl b)=false:=decide_eq_false (λq=>nomatch q)
def ZY (prog:Program) (w:World):PySem.KeyKind prog w Key where
  is:=keyIs
  hash:=keyH w
  inj:=λv a b ha hb=>by
    rcases ZX ha with ⟨i,t,rfl,rfl⟩ | ⟨x,t,rfl,rfl⟩
    . rcases ZX hb with ⟨j,u,rfl,e⟩ | ⟨y,u,rfl,e⟩
      . injection e with e1 _; rw [e1]
      . exact nomatch e
    . rcases ZX hb with ⟨j,u,rfl,e⟩ | ⟨y,u,rfl,e⟩
      . exact nomatch e
      . injection e with e1 _; rw [e1]
  byValue:=λk v h=>by
    rcases ZX h with ⟨i,t,rfl,rfl⟩ | ⟨x,t,rfl,rfl⟩ <;> rfl
  pyHash:=λhv h=>by
    rcases ZX hv with ⟨i,t,rfl,rfl⟩ | ⟨x,t,rfl,rfl⟩
    . exact wpAny_pyHash_int h
    . exact wpAny_pyHash_str h
  eqBool:=λhu hv h=>by
    rcases ZX hu with ⟨i,t,rfl,rfl⟩ | ⟨x,t,rfl,rfl⟩
    . rcases ZX hv with ⟨j,u,rfl,rfl⟩ | ⟨y,u,rfl,rfl⟩
      . rw [ZnL] at h; exact wpAny_eqBool_int h
      . rw [ZnN] at h; exact SeqAt.EqAt.int_str i t y u _ _ _ _ h
    . rcases ZX hv with ⟨j,u,rfl,rfl⟩ | ⟨y,u,rfl,rfl⟩
      . rw [ZnO] at h; exact SeqAt.EqAt.str_int x t j u _ _ _ _ h
      . rw [ZnM] at h; exact wpAny_eqBool_str h
  «strs»:=λk x t v h=>by
    rcases ZX h with ⟨i,u,rfl,e⟩ | ⟨y,u,rfl,e⟩
    . exact nomatch e
    . injection e with e1 _
      subst e1
      cases v <;> rfl
theorem Zjr (prog:Program) (w:World) (k:Key) (v:Value):(ZY prog w).is k v=keyIs k v:=rfl
theorem ZhH (prog:Program) (w:World) (i:Int) (t:Tok):(ZY prog w).is (.inl i) (.int i t)=true:=ZjV i t
theorem ZhI (prog:Program) (w:World) (x:Str) (t:Tok):(ZY prog w).is (.inr x) (.str x t)=true:=ZjW x t
end L2
namespace L2
open PySem PySem.Spec PyProof.Rows
inductive V where
  | non | bl (b:Bool) | int (i:Int) | str (x:Str) | byt (b:Array UInt8) | flt (b:UInt64) | ref (a:Addr) | ty (n:String)
  deriving DecidableEq
def RelV:V->Value->Prop
  | .non,u=>u=Value.none
  | .bl b,u=>u=Value.bool b
  | .int i,u=>∃ t,u=Value.int i t
  | .str x,u=>∃ t,u=Value.str x t
  | .byt b,u=>∃ t,u=Value.bytes b t
  | .flt b,u=>∃ t,u=Value.float b t
  | .ref a,u=>u=Value.ref a
  | .ty n,u=>u=Value.type n
abbrev Vals:List V->List Value->Prop:=Paired RelV
theorem Vals.length {xs:List V} {us:List Value} (r:Vals xs us):xs.length=us.length:=Paired.length r
theorem Vals.get:∀ {xs:List V} {us:List Value} {i:Nat} {x:V},Vals xs us->xs[i]?=some x->∃ u,us[i]?=some u/\RelV x u
  | _,_,_,_,.nil,e=>by simp at e
  | _,_,0,_,.cons r _,e=>by simp at e; subst e; exact ⟨_,rfl,r⟩
  | _,_,i+1,x,.cons _ t,e=>by
    obtain ⟨u,h1,h2⟩:=Vals.get (i:=i) (x:=x) t (by simpa using e)
    exact ⟨u,by simpa using h1,h2⟩
theorem Vals.set {x:V} {u:Value} (r:RelV x u):∀ {xs:List V} {us:List Value} (i:Nat),Vals xs us->Vals (xs.set i x) (us.set i u)
  | _,_,_,.nil=>.nil
  | _,_,0,.cons _ t=>.cons r t
  | _,_,i+1,.cons q t=>.cons q (Vals.set r i t)
theorem Vals.append:∀ {xs ys:List V} {us ws:List Value},Vals xs us->Vals ys ws->Vals (xs++ys) (us++ws)
  | _,_,_,_,.nil,s=>s
  | _,_,_,_,.cons r t,s=>.cons r (Vals.append t s)
theorem Vals.take:∀ {xs:List V} {us:List Value} (n:Nat),Vals xs us->Vals (xs.take n) (us.take n)
  | _,_,0,_=>.nil
  | _,_,_+1,.nil=>.nil
  | _,_,n+1,.cons r t=>.cons r (Vals.take n t)
theorem Vals.drop:∀ {xs:List V} {us:List Value} (n:Nat),Vals xs us->Vals (xs.drop n) (us.drop n)
  | _,_,0,r=>r
  | _,_,_+1,.nil=>.nil
  | _,_,n+1,.cons _ t=>Vals.drop n t
def RelO:Option V->Option Value->Prop
  | some v,some u=>RelV v u
  | none,none=>True
  | _,_=>False
def KV {κ:Type}:List (κ×V)->List (κ×Value)->Prop:=Paired λ(p:κ×V) (q:κ×Value)=>p.1=q.1/\RelV p.2 q.2
def kV:Key->V
  | .inl i=>.int i
  | .inr x=>.str x
inductive HO where
    | lst (xs:List V)
    | tup (xs:List V)
    | dK (kvs:List (Key×V)) | dT (kvs:List (List Key×V))
    | set (S:Int->Bool) (n:Nat)
    | ins (C dx:Addr) (fs:List (Str×V))
    | own (x:Addr)
    | xd (fs:List (Str×V))
    | met (f x:Addr)
    | rng (lo hi:Int)
    | frz (o:Obj) (u:HO)
    | tbl (pos:Pos) (qual:Str)
    | ext (φ:Heap->Prop)
abbrev Hp:=Addr->Option HO
def upd (H:Hp) (a:Addr) (o:HO):Hp:=λb=>if b=a then some o else H b
theorem Za {H:Hp} {a:Addr} {o:HO}:upd H a o a=some o:=by unfold upd; rw [if_pos rfl]
theorem Zb {H:Hp} {a b:Addr} {o:HO} (h:b≠a):upd H a o b=H b:=by unfold upd; rw [if_neg h]
theorem Zeg {H:Hp} {a:Addr} {o u:HO}:upd (upd H a o) a u=upd H a u:=by
  funext b; unfold upd; split <;> rfl
theorem ne_of {H:Hp} {a b:Addr} {o u:HO} (h:H a=some o) (h':H b=some u) (d:o≠u):a≠b:=by
  intro e; subst e; rw [h] at h'; exact d (Option.some.inj h')
theorem Zd {H:Hp} {a b:Addr} {o:HO} (h:H a=some o) (h':H b=none):a≠b:=by
  intro e; subst e; rw [h] at h'; cases h'
section
variable (P:Program) (w:World)
def ObjOk (H:Hp) (h:Heap) (a:Addr):HO->Prop
  | .lst xs=>xs.length<=sizeLine/\∃ (its:List Value) (n:Nat),Vals xs its/\h.get? a=some { cls:=.type "list",data:=.seq its.toArray n }
  | .tup xs=>xs.length<=sizeLine/\∃ its:List Value,Vals xs its/\IsTup h a its.toArray
  | .dK kvs=>kvs.length<=sizeLine/\(a == sysModules)=false/\∃ vs,KV kvs vs/\h.DictOf (ZY P w) a vs
  | .dT kvs=>kvs.length<=sizeLine/\(a == sysModules)=false/\∃ xs:List (List Key×Addr×Value),
      Paired (λ(p:List Key×V) (q:List Key×Addr×Value)=>p.1=q.1/\H q.2.1=some (.tup (p.1.map kV))/\RelV p.2 q.2.2) kvs xs /\
      ∃ o es ep,h.get? a=some o/\o.ExactDict/\o.data=.dict es ep/\es.toList=xs.map (entryOfKey (tupleKind (ZY P w)))/\(xs.map (·.1)).Nodup
  | .set S n=>h.SetOf (intKind P w) a S n
  | .ins C dx fs=>H dx=some (.own a)/\fs.length<=1000/\dx≠a/\h.get? a=some (PySem.W.instObj C dx) /\
      ∃ mA,h.Ns1 dx mA/\(∀ f,RelO (fs.lookup f) (mA f))/\PySem.Within mA (fs.map (·.1))
  | .own _=>∃ o,h.get? a=some o
  | .xd fs=>∃ mA,h.Ns1 a mA/\∀ f,RelO (fs.lookup f) (mA f)
  | .rng lo hi=>∃ t u v,h.get? a=some { cls:=.type "range",data:=.fields #[.int lo t,.int hi u,.int 1 v] }
  | .frz o u=>h.get? a=some o/\ObjOk H h a u
  | .tbl pos qual=>∃ ps,h.get? a=some { cls:=.none,data:=.fields ps }/\TriplesOk ps.toList/\∀ cv,codeAmong pos ps.toList=some cv->∃ c oc vs t,cv=.ref c/\H c=some (.frz oc (.own a))/\oc.data=.fields vs/\vs[1]?=some (.str qual t)
  | .met f x=>h.get? a=some (PySem.W.methodObj (.ref f) (.ref x))
  | .ext φ=>φ h/\(∃ o,h.get? a=some o)/\∀ h1 h2:Heap,φ h1->(∀ o,h1.get? a=some o->h2.get? a=some o)->φ h2
def HOk (H:Hp) (h:Heap):Prop:=∀ a o,H a=some o->ObjOk P w H h a o
end
section
variable {P:Program} {w:World} {H H':Hp} {h h':Heap} {a:Addr} {o:HO}
theorem ObjOk.lt (x:ObjOk P w H h a o):a<h.objs.size:=by
  cases o with
  | lst xs=>obtain ⟨_,_,_,_,e⟩:=x; exact Heap.lt_size e
  | tup xs=>obtain ⟨_,_,_,p⟩:=x; exact p.lt
  | dK kvs=>obtain ⟨_,_,_,_,o,_,_,e,_⟩:=x; exact Heap.lt_size e
  | dT kvs=>obtain ⟨_,_,_,_,o,_,_,e,_⟩:=x; exact Heap.lt_size e
  | set S n=>obtain ⟨o,_,_,_,e,_⟩:=x; exact Heap.lt_size e
  | ins C dx fs=>obtain ⟨_,_,_,e,_⟩:=x; exact Heap.lt_size e
  | own y=>obtain ⟨_,e⟩:=x; exact Heap.lt_size e
  | xd fs=>obtain ⟨_,⟨_,_,_,e,_⟩,_⟩:=x; exact Heap.lt_size e
  | rng lo hi=>obtain ⟨_,_,_,e⟩:=x; exact Heap.lt_size e
  | frz ob u=>obtain ⟨e,_⟩:=x; exact Heap.lt_size e
  | tbl p q=>obtain ⟨_,e,_⟩:=x; exact Heap.lt_size e
  | met f y=>exact Heap.lt_size (show h.get? a=some _ from x)
  | ext φ=>obtain ⟨_,⟨_,e⟩,_⟩:=x; exact Heap.lt_size e
theorem Paired.mapP {α β:Type} {F G:α->β->Prop}:∀ {l₁:List α} {l₂:List β},Paired F l₁ l₂->(∀ a b,F a b->G a b)->Paired G l₁ l₂
  | _,_,.nil,_=>.nil
  | _,_,.cons r t,f=>.cons (f _ _ r) (Paired.mapP t f)
theorem ObjOk.stay (x:ObjOk P w H h a o) (k:∀ b u,(b=a\/H b=some (.own a))->h.get? b=some u->h'.get? b=some u)
    (ho:∀ b,H b=some (.own a)->H' b=some (.own a)) (ht:∀ b xs,H b=some (.tup xs)->H' b=some (.tup xs))
    (hz:∀ b oz,H b=some (.frz oz (.own a))->H' b=some (.frz oz (.own a)):=by exact λ_ _ q=>q):ObjOk P w H' h' a o:=by
  induction o with
  | lst xs=>obtain ⟨z,its,n,r,e⟩:=x; exact ⟨z,its,n,r,k _ _ (.inl rfl) e⟩
  | tup xs=>obtain ⟨z,its,r,ob,e,c⟩:=x; exact ⟨z,its,r,ob,k _ _ (.inl rfl) e,c⟩
  | dK kvs=>obtain ⟨z,y,vs,r,ob,es,ep,e,c⟩:=x; exact ⟨z,y,vs,r,ob,es,ep,k _ _ (.inl rfl) e,c⟩
  | dT kvs =>
    obtain ⟨z,y,xs,r,ob,es,ep,e,c⟩:=x
    exact ⟨z,y,xs,Paired.mapP r λp q z=>⟨z.1,ht _ _ z.2.1,z.2.2⟩,ob,es,ep,k _ _ (.inl rfl) e,c⟩
  | set S n=>obtain ⟨ob,es,ep,t,e,c⟩:=x; exact ⟨ob,es,ep,t,k _ _ (.inl rfl) e,c⟩
  | ins C dx fs =>
    obtain ⟨d,z,ne,e,mA,⟨od,es,ep,e2,c⟩,r⟩:=x
    exact ⟨ho _ d,z,ne,k _ _ (.inl rfl) e,mA,⟨od,es,ep,k _ _ (.inr d) e2,c⟩,r⟩
  | own y=>obtain ⟨ob,e⟩:=x; exact ⟨ob,k _ _ (.inl rfl) e⟩
  | xd fs=>obtain ⟨mA,⟨od,es,ep,e,c⟩,r⟩:=x; exact ⟨mA,⟨od,es,ep,k _ _ (.inl rfl) e,c⟩,r⟩
  | rng lo hi=>obtain ⟨t,u,v,e⟩:=x; exact ⟨t,u,v,k _ _ (.inl rfl) e⟩
  | frz ob u ih=>obtain ⟨e,q⟩:=x; exact ⟨k _ _ (.inl rfl) e,ih q⟩
  | tbl p q =>
    obtain ⟨ps,e,tr,hc⟩:=x
    refine ⟨ps,k a _ (.inl rfl) e,tr,λcv e1=>?_⟩
    obtain ⟨c,oc,vs,tt,z,e2,r⟩:=hc cv e1
    exact ⟨c,oc,vs,tt,z,hz _ _ e2,r⟩
  | met f y =>
    have e:h.get? a=some (PySem.W.methodObj (.ref f) (.ref y)):=x
    show h'.get? a=some (PySem.W.methodObj (.ref f) (.ref y))
    exact k a _ (.inl rfl) e
  | ext φ=>obtain ⟨p,⟨o,e⟩,st⟩:=x; exact ⟨st _ _ p λo q=>k _ _ (.inl rfl) q,⟨o,k _ _ (.inl rfl) e⟩,st⟩
theorem HOk.lt (x:HOk P w H h) (e:H a=some o):a<h.objs.size:=(x a o e).lt
theorem HOk.fresh (x:HOk P w H h) (e:h.objs.size<=a):H a=none:=by
  cases q:H a with
  | none=>rfl
  | some u=>exact absurd (Nat.lt_of_lt_of_le (x.lt q) e) (Nat.lt_irrefl _)
theorem HOk.kept (x:HOk P w H h) (k:∀ b u,h.get? b=some u->h'.get? b=some u):HOk P w H h':=λa o e =>
  (x a o e).stay (λb u _ q=>k b u q) (λ_ q=>q) λ_ _ q=>q
theorem HOk.laid (x:HOk P w H h) (k:∀ b u,h.get? b=some u->h'.get? b=some u) (hp:h.objs.size<=a) (new:ObjOk P w (upd H a o) h' a o):HOk P w (upd H a o) h':=λb u e=>by
  have hn:=x.fresh hp
  by_cases hb:b=a
  . subst hb; rw [Za] at e; cases e; exact new
  . rw [Zb hb] at e
    exact (x b u e).stay (λc v _ q=>k c v q) (λc q=>by rw [Zb (Zd q hn)]; exact q) (λc xs q=>by rw [Zb (Zd q hn)]; exact q) λc oz q=>by rw [Zb (Zd q hn)]; exact q
end
def Rd (H:Hp) (a:Addr) (u:HO):Prop:=H a=some u\/∃ o,H a=some (.frz o u)
theorem Rd.ok {P:Program} {w:World} {H:Hp} {h:Heap} {a:Addr} {u:HO} (r:Rd H a u) (x:HOk P w H h):ObjOk P w H h a u:=by
  rcases r with r | ⟨o,r⟩
  . exact x a u r
  . obtain ⟨_,q⟩:=x a _ r
    exact q
def Mut:Option HO->Prop
  | some (.lst _)=>True
  | some (.dK _)=>True
  | some (.dT _)=>True
  | some (.set _ _)=>True
  | some (.ins _ _ _)=>True
  | some (.ext _)=>True
  | _=>False
section
variable {P:Program} {w:World} {H:Hp} {h h':Heap} {x e:Addr} {o':HO}
theorem HOk.write (ok:HOk P w H h) (mu:Mut (H x)) (he:e=x\/H e=some (.own x)) (k:∀ b u,b≠e->h.get? b=some u->h'.get? b=some u) (heo:∃ u,h'.get? e=some u)
    (new:ObjOk P w (upd H x o') h' x o'):HOk P w (upd H x o') h':=λb u q=>by
  have nown:∀ c y,H c=some (.own y)->c≠x:=λc y r z=>by subst z; rw [r] at mu; exact mu
  have ntup:∀ c xs,H c=some (.tup xs)->c≠x:=λc xs r z=>by subst z; rw [r] at mu; exact mu
  by_cases hb:b=x
  . subst hb; rw [Za] at q; cases q; exact new
  . rw [Zb hb] at q
    by_cases hbe:b=e
    . have q':H b=some (.own x):=by
        rcases he with z | z
        . exact absurd (hbe.trans z) hb
        . rw [hbe]; exact z
      rw [q] at q'; cases q'
      obtain ⟨v,hv⟩:=heo
      exact ⟨v,by rw [hbe]; exact hv⟩
    . refine (ok b u q).stay (λc v hc r=>k c v ?_ r) (λc r=>by rw [Zb (nown c b r)]; exact r) (λc xs r=>by rw [Zb (ntup c xs r)]; exact r) λc oz r=>by rw [Zb (λz=>by subst z; rw [r] at mu; exact mu)]; exact r
      rcases hc with rfl | hc
      . exact hbe
      . rintro rfl
        rcases he with z | z
        . exact nown c b hc z
        . rw [hc] at z; cases z; exact hb rfl
end
structure Un (fs ex:List Addr) (H H':Hp) (h h':Heap):Prop where
  keep:∀ b o,h.get? b=some o->H b=none->b∉fs->b∉ex->h'.get? b=some o
  slot:∀ b o,h.get? b=some o->H b=none->b∈fs->b∉ex->∃ sl,h'.get? b=some { o with slots:=sl }
  free:∀ b o,h.get? b=some o->H b=none->b∉ex->H' b=none
  there:∀ b o,h.get? b=some o->b∉ex->∃ o',h'.get? b=some o'
  tups:∀ b xs,H b=some (.tup xs)->H' b=some (.tup xs)
  frzs:∀ b o u,H b=some (.frz o u)->H' b=some (.frz o u)
  tbls:∀ b p q,H b=some (.tbl p q)->H' b=some (.tbl p q)
section
variable {fs fs' ex ex':List Addr} {H H1 H2:Hp} {h h1 h2 h':Heap} {a x e:Addr} {o:HO}
theorem Un.any (u:Un fs ex H H1 h h1) {b:Addr} {ob:Obj} (q:h.get? b=some ob) (n:H b=none) (hx:b∉ex):∃ sl,h1.get? b=some { ob with slots:=sl }:=by
  by_cases hb:b∈fs
  . exact u.slot b ob q n hb hx
  . exact ⟨ob.slots,u.keep b ob q n hb hx⟩
theorem Un.kept (k:∀ b u,h.get? b=some u->h'.get? b=some u):Un fs ex H H h h' :=
  ⟨λb ob q _ _ _=>k b ob q,λb ob q _ _ _=>⟨ob.slots,k b ob q⟩,λ_ _ _ n _=>n,λb ob q _=>⟨ob,k b ob q⟩,λ_ _ q=>q,λ_ _ _ q=>q,λ_ _ _ q=>q⟩
theorem Un.refl:Un fs ex H H h h:=Un.kept λ_ _ q=>q
theorem Un.laid (k:∀ b u,h.get? b=some u->h'.get? b=some u) (hp:h.objs.size<=a) (hn:H a=none):Un fs ex H (upd H a o) h h' where
  keep:=λb u q _ _ _=>k b u q
  slot:=λb u q _ _ _=>⟨u.slots,k b u q⟩
  free:=λb u q n _=>by rw [Zb (Nat.ne_of_lt (Nat.lt_of_lt_of_le (Heap.lt_size q) hp))]; exact n
  there:=λb u q _=>⟨u,k b u q⟩
  tups:=λb xs q=>by rw [Zb (Zd q hn)]; exact q
  frzs:=λb u xs q=>by rw [Zb (Zd q hn)]; exact q
  tbls:=λb _ _ q=>by rw [Zb (Zd q hn)]; exact q
theorem Un.write (mu:Mut (H x)) (he:e=x\/H e=some (.own x)) (k:∀ b u,b≠e->h.get? b=some u->h'.get? b=some u) (heo:∃ u,h'.get? e=some u):Un fs ex H (upd H x o) h h':=by
  have hx:∀ b,H b=none->b≠x:=λb n z=>by subst z; rw [n] at mu; exact mu
  have hb:∀ b,H b=none->b≠e:=λb n z=>by
    subst z
    rcases he with r | r
    . exact hx b n r
    . rw [n] at r; cases r
  have hm:∀ b u,H b=some u->¬ Mut (some u)->b≠x:=λb u q nm z=>by subst z; rw [q] at mu; exact nm mu
  refine ⟨λb u q n _ _=>k b u (hb b n) q,λb u q n _ _=>⟨u.slots,k b u (hb b n) q⟩,λb u q n _=>by rw [Zb (hx b n)]; exact n,λb u q _=>?_,
    λb xs q=>by rw [Zb (hm b _ q λz=>z)]; exact q,λb u xs q=>by rw [Zb (hm b _ q λz=>z)]; exact q,λb _ _ q=>by rw [Zb (hm b _ q λz=>z)]; exact q⟩
  by_cases hbe:b=e
  . subst hbe; exact heo
  . exact ⟨u,k b u hbe q⟩
end
def trk (h:Heap) (H:Hp):List Addr:=(List.range h.objs.size).filter λa=>(H a).isSome
def hidT (h:Heap) (H:Hp):Heap:=PySem.W.hideAll h (trk h H)
theorem ZjX (h:Heap) (H:Hp):(hidT h H).objs.size=h.objs.size:=PySem.W.hideAll_size _ _
theorem ZfA {h:Heap} {H:Hp} {b:Addr} {o:Obj} (e:h.get? b=some o) (n:H b=none):(hidT h H).get? b=some o :=
  PySem.W.hideAll_get _ e λhm=>by
    have q:(H b).isSome=true:=(List.mem_filter.mp hm).2
    rw [n] at q; simp at q
theorem ZmR {h:Heap} {H:Hp} {b:Addr} {o:Obj} (e:(hidT h H).get? b=some o):h.get? b=some o/\H b=none:=by
  have e':h.get? b=some o:=PySem.W.of_hideAll (trk h H) e
  refine ⟨e',?_⟩
  cases q:H b with
  | none=>rfl
  | some x =>
    have hm:b∈trk h H:=List.mem_filter.mpr ⟨List.mem_range.mpr (Heap.lt_size e'),by simp [q]⟩
    have z:(hidT h H).get? b=none:=PySem.W.hideAll_none (trk h H) hm
    rw [z] at e; cases e
end L2
namespace L2
open PySem PySem.Spec PyProof.Rows
structure Mod (K:PySem.W.Frag) (mg:Str->Option Value) (base:Heap):Prop where
  kin:K.In base
  glob:base.Ns mainGlobals mg
  blt:∃ mb,base.Ns builtinsNs mb/\∀ x:Str,x ≠ "__name__" -> mb x=bootBuiltins x
  nolimit:base.NoLimit
structure Cx where
  prog:Program
  w:World
  K:PySem.W.Frag
  mg:Str->Option Value
  base:Heap
  A:Around
  N:List Str
  s₀:Shared
  H₀:Hp
  env:Env
  outer:List Env
  stack:List Env
  ex:List Addr
  fn:Str->Bool
  calm:Bool
  pn:List (Addr×Obj)
  xe:Value->Shared->Prop
def frs (l:List Env):List Addr:=l.filterMap (·.frame)
abbrev Cx.fs (X:Cx):List Addr:=frs X.outer
def Vis (sc:Scope) (x:Str):Prop:=sc.names.lookup x=some .local\/sc.names.lookup x=some .cell\/sc.names.lookup x=some .free
def Loc (sc:Scope) (x:Str):Prop:=sc.names.lookup x=some .local\/sc.names.lookup x=some .cell
def Look (env:Env) (h:Heap) (m:Str->Option Value) (x:Str) (u:Value):Prop :=
  (env.kindOf x=some .local/\m x=some u)\/((env.kindOf x=some .cell\/env.kindOf x=some .free)/\∃ c,env.cells.lookup x=some c/\h.IsCell c (some u))
structure Cx.Ok (X:Cx):Prop where
  mod:Mod X.K X.mg X.base
  kind:X.env.scope.kind=.function
  glob:X.env.globals=mainGlobals
  blt:X.env.builtins=builtinsNs
  above:X.s₀.heap.objs.size<=X.env.locals
  inj:∀ x y c,X.env.cells.lookup x=some c->X.env.cells.lookup y=some c->x=y
  has:∀ x,(X.env.kindOf x=some .cell\/X.env.kindOf x=some .free)->∃ c,X.env.cells.lookup x=some c
  cab:∀ x c,X.fn x=true->X.env.cells.lookup x=some c->X.s₀.heap.objs.size<=c
  hd:X.calm=true->X.A.handled=none
  frames:X.A.frames=some X.stack
  stk:X.stack=X.outer\/(X.stack=X.env :: X.outer/\X.env.frame=some X.env.locals)
  exf:∀ b∈X.ex,b≠X.env.locals/\∀ x c,X.env.cells.lookup x=some c->c≠b
  bs:∀ b o,X.base.get? b=some o->X.s₀.heap.get? b=some o/\X.H₀ b=none
  bsz:X.base.objs.size<=X.s₀.heap.objs.size
  noex:∀ b o,X.base.get? b=some o->b∉X.ex
  exfs:∀ b∈X.ex,b∉X.fs
  funs:X.s₀.heap.FunFrames X.base X.outer
  frf:∀ b∈X.fs,X.H₀ b=none
structure Inv (X:Cx) (pins:List (Addr×Obj)) (σ:List (Option V)) (H:Hp) (s:Shared):Prop where
  ok:X.Ok
  os:s.os=X.s₀.os
  bare:AllBare s.gens
  base:Un X.fs X.ex X.H₀ H X.s₀.heap s.heap
  loc:∃ m,s.heap.Ns X.env.locals m/\∀ (i:Nat) (x:Str) (v:V),X.N[i]?=some x->σ[i]?=some (some v)->Vis X.env.scope x->∃ u,RelV v u/\Look X.env s.heap m x u
  cell:∀ x c,X.env.cells.lookup x=some c->∃ v,s.heap.IsCell c v
  free:H X.env.locals=none
  freeC:∀ x c,X.env.cells.lookup x=some c->H c=none
  pin:∀ p∈X.pn++pins,s.heap.get? p.1=some p.2/\H p.1=none/\p.1≠X.env.locals/\p.1∉X.fs/\∀ v,p.2.data≠.cell v
  hok:HOk X.prog X.w H s.heap
  len:σ.length=X.N.length
section
variable {X:Cx} {pins:List (Addr×Obj)} {σ:List (Option V)} {H H':Hp} {s:Shared} {h':Heap}
theorem Cx.Ok.nofr (ok:X.Ok) {b:Addr} {o:Obj} (e:X.base.get? b=some o):b∉X.fs:=λhb=>by
  have:=(ok.funs.mem hb).1
  rw [e] at this; cases this
theorem Inv.bs (I:Inv X pins σ H s):∀ b o,X.base.get? b=some o->s.heap.get? b=some o/\H b=none:=λb o e =>
  ⟨I.base.keep b o (I.ok.bs b o e).1 (I.ok.bs b o e).2 (I.ok.nofr e) (I.ok.noex b o e),I.base.free b o (I.ok.bs b o e).1 (I.ok.bs b o e).2 (I.ok.noex b o e)⟩
theorem Inv.bk (I:Inv X pins σ H s):∀ b o,X.base.get? b=some o->s.heap.get? b=some o:=λb o e=>(I.bs b o e).1
theorem Inv.mod (I:Inv X pins σ H s):Mod X.K X.mg X.base:=I.ok.mod
theorem Inv.kIn (I:Inv X pins σ H s):X.K.In s.heap:=I.ok.mod.kin.keeps I.bk
theorem Inv.nolimit (I:Inv X pins σ H s):s.heap.NoLimit:=I.ok.mod.nolimit.keeps I.bk
theorem Inv.lt (I:Inv X pins σ H s):X.env.locals<s.heap.objs.size:=let ⟨_,hn,_⟩:=I.loc; hn.lt
theorem Inv.sz (I:Inv X pins σ H s):X.s₀.heap.objs.size<=s.heap.objs.size:=Nat.le_trans I.ok.above (Nat.le_of_lt I.lt)
theorem Inv.nofs (I:Inv X pins σ H s) {a:Addr} (h:s.heap.objs.size<=a):a∉X.fs:=λhb=>by
  obtain ⟨_,o,ho,_⟩:=I.ok.funs.mem hb
  exact absurd (Nat.lt_of_lt_of_le (Heap.lt_size ho) (Nat.le_trans I.sz h)) (Nat.lt_irrefl _)
theorem Inv.cne (I:Inv X pins σ H s):∀ x c,X.env.cells.lookup x=some c->c≠X.env.locals:=λx c e z=>by
  obtain ⟨v,o,ho,hd⟩:=I.cell x c e
  obtain ⟨m,⟨o',es,ep,ho',hd',_⟩,_⟩:=I.loc
  rw [z,ho'] at ho; cases ho; rw [hd'] at hd; cases hd
theorem Inv.funs (I:Inv X pins σ H s):s.heap.FunFrames X.base X.outer:=by
  have all:∀ (l:List Env),(∀ b∈frs l,b∈X.fs)->X.s₀.heap.FunFrames X.base l->s.heap.FunFrames X.base l:=by
    intro l
    induction l with
    | nil=>intro _ _; trivial
    | cons env r ih =>
      intro hs hl
      obtain ⟨hk,⟨L,o,hf,hn,ho,hd⟩,hr⟩:=hl
      have hL:L∈X.fs:=hs L (by unfold frs; rw [List.filterMap_cons,hf]; exact mem_cons_self)
      obtain ⟨sl,e⟩:=I.base.slot L o ho (I.ok.frf L hL) hL λz=>I.ok.exfs L z hL
      exact ⟨hk,⟨L,_,hf,hn,e,hd⟩,ih (λb hb=>hs b (by unfold frs; rw [List.filterMap_cons,hf]; exact mem_cons_of_mem _ hb)) hr⟩
  exact all X.outer (λ_ hb=>hb) I.ok.funs
theorem Inv.stack (I:Inv X pins σ H s):s.heap.FunFrames X.base X.stack:=by
  rcases I.ok.stk with e | ⟨e,hf⟩
  . rw [e]; exact I.funs
  . rw [e]
    obtain ⟨m,hn,_⟩:=I.loc
    refine .cons (by rw [I.ok.kind]; decide) hf hn ?_ I.funs
    exact Heap.get?_none_of_le (Nat.le_trans I.ok.bsz I.ok.above)
theorem Inv.stkSub (I:Inv X pins σ H s):∀ b∈frs X.stack,b∈X.env.locals :: X.fs:=λb hb=>by
  rcases I.ok.stk with e | ⟨e,hf⟩
  . rw [e] at hb; exact mem_cons_of_mem _ hb
  . rw [e] at hb
    unfold frs at hb
    rw [List.filterMap_cons,hf] at hb
    exact hb
theorem Inv.stkFree (I:Inv X pins σ H s):∀ b∈frs X.stack,H b=none:=λb hb=>by
  rcases List.mem_cons.mp (I.stkSub b hb) with e | hb
  . rw [e]; exact I.free
  . obtain ⟨_,o,ho,_⟩:=I.ok.funs.mem hb
    exact I.base.free b o ho (I.ok.frf b hb) λz=>I.ok.exfs b z hb
theorem Inv.step {g':Array GenState} {t':Nat} {d':Drawn} {ch:List Addr} (I:Inv X pins σ H s)
    (hch:∀ b∈ch,(b∈X.ex\/X.s₀.heap.objs.size<=b)/\b≠X.env.locals/\(∀ x c,X.env.cells.lookup x=some c->c≠b)/\∀ p∈X.pn++pins,p.1≠b)
    (keep:∀ b o,b≠X.env.locals->b∉X.fs->b∉ch->s.heap.get? b=some o->H b=none->h'.get? b=some o)
    (slot:∀ b o,b≠X.env.locals->b∈X.fs->b∉ch->s.heap.get? b=some o->H b=none->∃ sl,h'.get? b=some { o with slots:=sl }) (free:∀ b o,b∉ch->s.heap.get? b=some o->H b=none->H' b=none)
    (there:∀ b o,b∉ch->s.heap.get? b=some o->∃ o',h'.get? b=some o')
    (tups:∀ b xs,H b=some (.tup xs)->H' b=some (.tup xs)) (frzs:∀ b o u,H b=some (.frz o u)->H' b=some (.frz o u)) (tbls:∀ b p q,H b=some (.tbl p q)->H' b=some (.tbl p q))
    (ns:∀ m,s.heap.Ns X.env.locals m->h'.Ns X.env.locals m) (hok:HOk X.prog X.w H' h') (hg:AllBare g') :
    Inv X pins σ H' { s with heap:=h',gens:=g',drawn:=d',toks:=t' }:=by
  have neL:∀ b o,X.s₀.heap.get? b=some o->b≠X.env.locals:=λb o e=>Nat.ne_of_lt (Nat.lt_of_lt_of_le (Heap.lt_size e) I.ok.above)
  have neC:∀ b o,X.s₀.heap.get? b=some o->b∉X.ex->b∉ch:=λb o e hx hb=>by
    rcases (hch b hb).1 with z | z
    . exact hx z
    . exact absurd (Nat.lt_of_lt_of_le (Heap.lt_size e) z) (Nat.lt_irrefl _)
  have cellK:∀ x c,X.env.cells.lookup x=some c->∀ v,s.heap.IsCell c v->h'.IsCell c v:=λx c e v ⟨o,ho,hd⟩=>by
    have nch:c∉ch:=λz=>(hch c z).2.2.1 x c e rfl
    by_cases hc:c∈X.fs
    . obtain ⟨sl,q⟩:=slot c o (I.cne x c e) hc nch ho (I.freeC x c e)
      exact ⟨_,q,hd⟩
    . exact ⟨o,keep c o (I.cne x c e) hc nch ho (I.freeC x c e),hd⟩
  refine ⟨I.ok,I.os,hg,⟨λb o e n hb hx=>?_,λb o e n hb hx=>?_,λb o e n hx=>?_,λb o e hx=>?_,λb xs e=>tups b xs (I.base.tups b xs e),λb o xs e=>frzs b o xs (I.base.frzs b o xs e),λb p r e=>tbls b p r (I.base.tbls b p r e)⟩,?_,λx c e=>?_,?_,λx c e=>?_,λp hp=>?_,hok,I.len⟩
  . exact keep b o (neL b o e) hb (neC b o e hx) (I.base.keep b o e n hb hx) (I.base.free b o e n hx)
  . obtain ⟨sl,e1⟩:=I.base.slot b o e n hb hx
    obtain ⟨sl',e2⟩:=slot b _ (neL b o e) hb (neC b o e hx) e1 (I.base.free b o e n hx)
    exact ⟨sl',e2⟩
  . obtain ⟨o',e1⟩:=I.base.there b o e hx
    exact free b o' (neC b o e hx) e1 (I.base.free b o e n hx)
  . obtain ⟨o',e1⟩:=I.base.there b o e hx
    exact there b o' (neC b o e hx) e1
  . obtain ⟨m,hn,hl⟩:=I.loc
    refine ⟨m,ns m hn,λi x v e1 e2 e3=>?_⟩
    obtain ⟨u,r,l⟩:=hl i x v e1 e2 e3
    refine ⟨u,r,?_⟩
    rcases l with l | ⟨k,c,e,z⟩
    . exact .inl l
    . exact .inr ⟨k,c,e,cellK x c e _ z⟩
  . obtain ⟨v,z⟩:=I.cell x c e
    exact ⟨v,cellK x c e v z⟩
  . obtain ⟨m,⟨o,_,_,ho,_⟩,_⟩:=I.loc
    exact free _ o (λz=>(hch _ z).2.1 rfl) ho I.free
  . obtain ⟨v,o,ho,hd⟩:=I.cell x c e
    exact free c o (λz=>(hch c z).2.2.1 x c e rfl) ho (I.freeC x c e)
  . obtain ⟨e,n,ne,nf,d⟩:=I.pin p hp
    have nch:p.1∉ch:=λz=>(hch p.1 z).2.2.2 p hp rfl
    exact ⟨keep p.1 p.2 ne nf nch e n,free p.1 p.2 nch e n,ne,nf,d⟩
theorem Inv.un {t':Nat} (I:Inv X pins σ H s) (u:Un X.fs [] H H' s.heap h') (hok:HOk X.prog X.w H' h'):Inv X pins σ H' { s with heap:=h',toks:=t' }:=by
  obtain ⟨m,⟨o,es,ep,ho,r⟩,_⟩:=id I.loc
  obtain ⟨sl,hL⟩:=u.any ho I.free (by simp)
  exact I.step (g':=s.gens) (d':=s.drawn) (ch:=[]) (λ_ z=>nomatch z) (λb o _ hb _ e n=>u.keep b o e n hb (by simp)) (λb o _ hb _ e n=>u.slot b o e n hb (by simp)) (λb o _ e n=>u.free b o e n (by simp)) (λb o _ e=>u.there b o e (by simp)) u.tups u.frzs u.tbls (λm' hm=>by
    obtain ⟨o',es',ep',ho',r'⟩:=hm
    rw [ho] at ho'; cases ho'
    exact ⟨_,es',ep',hL,r'⟩) hok I.bare
theorem Inv.call {g':Array GenState} {t':Nat} {d':Drawn} {ch:List Addr} (I:Inv X pins σ H s) (u:Un (frs X.stack) ch H H' s.heap h') (hok:HOk X.prog X.w H' h') (hg:AllBare g')
    (hch:∀ b∈ch,(b∈X.ex\/X.s₀.heap.objs.size<=b)/\b≠X.env.locals/\(∀ x c,X.env.cells.lookup x=some c->c≠b)/\∀ p∈X.pn++pins,p.1≠b) :
    Inv X pins σ H' { s with heap:=h',gens:=g',drawn:=d',toks:=t' }:=by
  obtain ⟨m,⟨o,es,ep,ho,r⟩,_⟩:=id I.loc
  obtain ⟨sl,hL⟩:=u.any ho I.free λz=>(hch _ z).2.1 rfl
  exact I.step (ch:=ch) hch (λb o hL hb hc e n=>u.keep b o e n (λz=>(List.mem_cons.mp (I.stkSub b z)).elim hL hb) hc) (λb o _ _ hc e n=>u.any e n hc) (λb o hc e n=>u.free b o e n hc) (λb o hc e=>u.there b o e hc) u.tups u.frzs u.tbls (λm' hm=>by
    obtain ⟨o',es',ep',ho',r'⟩:=hm
    rw [ho] at ho'; cases ho'
    exact ⟨_,es',ep',hL,r'⟩) hok hg
theorem Inv.turned {t':Nat} {it:Addr} (I:Inv X pins σ H s) (k:∀ b o,b≠it->s.heap.get? b=some o->h'.get? b=some o) (hn:H it=none) (hL:it≠X.env.locals)
    (h1:it∈X.ex\/X.s₀.heap.objs.size<=it) (h2:∀ x c,X.env.cells.lookup x=some c->c≠it) (h3:∀ p∈X.pn++pins,p.1≠it):Inv X pins σ H { s with heap:=h',toks:=t' }:=by
  have nit:∀ b u,H b=some u->b≠it:=λb u e z=>by rw [z,hn] at e; cases e
  refine I.step (g':=s.gens) (d':=s.drawn) (ch:=[it]) (λb hb=>?_) (λb o _ _ hc e _=>k b o (λz=>hc (by simp [z])) e) (λb o _ _ hc e _=>⟨o.slots,k b o (λz=>hc (by simp [z])) e⟩) (λ_ _ _ _ n=>n)
    (λb o hc e=>⟨o,k b o (λz=>hc (by simp [z])) e⟩) (λ_ _ e=>e) (λ_ _ _ e=>e) (λ_ _ _ e=>e) (λm hm=>?_) (λb u e=>?_) I.bare
  . have e:b=it:=by simpa using hb
    subst e
    exact ⟨h1,hL,h2,h3⟩
  . obtain ⟨o,es,ep,ho,r⟩:=hm
    exact ⟨o,es,ep,k _ o (Ne.symm hL) ho,r⟩
  . refine (I.hok b u e).stay (λc v hc q=>k c v ?_ q) (λ_ q=>q) λ_ _ q=>q
    rcases hc with z | z
    . rw [z]; exact nit b u e
    . exact nit c _ z
theorem Inv.tok (I:Inv X pins σ H s) (t:Nat):Inv X pins σ H { s with toks:=t }:=I.un (h':=s.heap) (t':=t) Un.refl I.hok
theorem Inv.kept {t':Nat} (I:Inv X pins σ H s) (k:∀ b u,s.heap.get? b=some u->h'.get? b=some u):Inv X pins σ H { s with heap:=h',toks:=t' }:=I.un (Un.kept k) (I.hok.kept k)
theorem Inv.laid {a:Addr} {o:HO} {t':Nat} (I:Inv X pins σ H s) (k:∀ b u,s.heap.get? b=some u->h'.get? b=some u) (hp:s.heap.objs.size<=a) (new:ObjOk X.prog X.w (upd H a o) h' a o) :
    Inv X pins σ (upd H a o) { s with heap:=h',toks:=t' }:=I.un (Un.laid k hp (I.hok.fresh hp)) (I.hok.laid k hp new)
theorem Inv.write {x e:Addr} {o:HO} {t':Nat} (I:Inv X pins σ H s) (mu:Mut (H x)) (he:e=x\/H e=some (.own x)) (k:∀ b u,b≠e->s.heap.get? b=some u->h'.get? b=some u) (heo:∃ u,h'.get? e=some u)
    (new:ObjOk X.prog X.w (upd H x o) h' x o):Inv X pins σ (upd H x o) { s with heap:=h',toks:=t' }:=I.un (Un.write mu he k heo) (I.hok.write mu he k heo new)
theorem Inv.pins_of {pins':List (Addr×Obj)} (I:Inv X pins σ H s) (h:∀ p∈pins',s.heap.get? p.1=some p.2/\H p.1=none/\p.1≠X.env.locals/\p.1∉X.fs/\∀ v,p.2.data≠.cell v):Inv X pins' σ H s :=
  ⟨I.ok,I.os,I.bare,I.base,I.loc,I.cell,I.free,I.freeC,λp hp=>(List.mem_append.mp hp).elim (λz=>I.pin p (mem_append_left _ z)) (h p),I.hok,I.len⟩
theorem Ziy {N:List Str} (hN:N.Nodup) {i j:Nat} {x:Str} (a:N[i]?=some x) (b:N[j]?=some x):i=j:=by
  obtain ⟨h1,e1⟩:=List.getElem?_eq_some_iff.mp a
  obtain ⟨h2,e2⟩:=List.getElem?_eq_some_iff.mp b
  exact (List.getElem_inj hN).mp (e1.trans e2.symm)
theorem Zgw {M:Model} {A:Around} {E:Value->Shared->Prop} {i:Nat} {x:Str} {v:V} {u:Value} {Q:Unit->Shared->Prop} (I:Inv X pins σ H s) (hN:X.N.Nodup) (hi:X.N[i]?=some x) (hx:Loc X.env.scope x) (r:RelV v u)
    (h:∀ s',Inv X pins (σ.set i (some v)) H s'->(∃ a,Heap.SameBut a s.heap s'.heap/\(a=X.env.locals\/X.env.cells.lookup x=some a))->Q () s') (hf:X.fn x=true\/X.env.scope.names.lookup x=some .local:=by first | exact .inl rfl | exact .inr rfl | assumption):wpAny M A (storeName X.env x u) Q E s:=by
  obtain ⟨m,hn,hl⟩:=id I.loc
  have hcls:(X.env.scope.kind == .class || (X.env.scope.kind == .module && X.env.locals != X.env.globals))=false:=by rw [I.ok.kind]; rfl
  have hiσ:i<σ.length:=by rw [I.len]; exact (List.getElem?_eq_some_iff.mp hi).1
  have cne:=I.cne
  have tracked:∀ {a:Addr} {h':Heap},(∃ o,s.heap.get? a=some o/\H a=none)->Heap.SameBut a s.heap h'->HOk X.prog X.w H h':=λ{a h'} ha hs b ob e=>by
    obtain ⟨_,_,hfree⟩:=ha
    refine (I.hok b ob e).stay (λc w' hc q=>(hs.2 c ?_).trans q) (λ_ q=>q) λ_ _ q=>q
    rintro rfl
    rcases hc with rfl | hc
    . rw [hfree] at e; cases e
    . rw [hfree] at hc; cases hc
  rcases hx with hk | hk
  . refine wpAny_storeName_local hk hn (λh' hn' hs=>?_) hcls
    obtain ⟨oL,_,_,hoL,_⟩:=id hn
    refine h _ ⟨I.ok,I.os,I.bare,⟨λb o e n hb hx=>?_,λb o e n hb hx=>?_,I.base.free,λb o e hx=>?_,I.base.tups,I.base.frzs,I.base.tbls⟩,⟨_,hn',λj y v' e1 e2 e3=>?_⟩,λy c e=>?_,I.free,I.freeC,λp hp=>?_,tracked ⟨oL,hoL,I.free⟩ hs,by simpa using I.len⟩ ⟨_,hs,.inl rfl⟩
    . exact (hs.2 b (Nat.ne_of_lt (Nat.lt_of_lt_of_le (Heap.lt_size e) I.ok.above))).trans (I.base.keep b o e n hb hx)
    . obtain ⟨sl,e1⟩:=I.base.slot b o e n hb hx
      exact ⟨sl,(hs.2 b (Nat.ne_of_lt (Nat.lt_of_lt_of_le (Heap.lt_size e) I.ok.above))).trans e1⟩
    . obtain ⟨o',e1⟩:=I.base.there b o e hx
      exact ⟨o',(hs.2 b (Nat.ne_of_lt (Nat.lt_of_lt_of_le (Heap.lt_size e) I.ok.above))).trans e1⟩
    . by_cases hj:j=i
      . subst hj
        rw [hi] at e1; cases e1
        rw [getElem?_set_self hiσ] at e2
        cases e2
        exact ⟨u,r,.inl ⟨hk,by simp⟩⟩
      . rw [getElem?_set_ne (Ne.symm hj)] at e2
        obtain ⟨u',r',q⟩:=hl j y v' e1 e2 e3
        refine ⟨u',r',?_⟩
        rcases q with ⟨k,e⟩ | ⟨k,c,e,z⟩
        . refine .inl ⟨k,?_⟩
          have:y≠x:=λe=>hj (Ziy hN e1 (e ▸ hi))
          simp [this,e]
        . exact .inr ⟨k,c,e,z.sameBut hs (cne y c e)⟩
    . obtain ⟨w',z⟩:=I.cell y c e
      exact ⟨w',z.sameBut hs (cne y c e)⟩
    . obtain ⟨e,n,ne,nf,d⟩:=I.pin p hp
      exact ⟨(hs.2 p.1 ne).trans e,n,ne,nf,d⟩
  . have hfn:X.fn x=true:=by
      rcases hf with z | z
      . exact z
      . rw [z] at hk; cases hk
    obtain ⟨c,hc⟩:=I.ok.has x (.inl hk)
    obtain ⟨w',z⟩:=I.cell x c hc
    refine wpAny_storeName_cell I.ok.kind hk hc z (λh' hc' hs=>?_)
    obtain ⟨oc,hoc,hocd⟩:=id z
    refine h { s with heap:=h' } ⟨I.ok,I.os,I.bare,⟨λb o e n hb hx=>?_,λb o e n hb hx=>?_,I.base.free,λb o e hx=>?_,I.base.tups,I.base.frzs,I.base.tbls⟩,⟨m,hn.sameBut hs (Ne.symm (cne x c hc)),λj y v' e1 e2 e3=>?_⟩,λy c' e=>?_,I.free,I.freeC,λp hp=>?_,tracked ⟨oc,hoc,I.freeC x c hc⟩ hs,by simpa using I.len⟩ ⟨c,hs,.inr hc⟩
    . exact (hs.2 b (Nat.ne_of_lt (Nat.lt_of_lt_of_le (Heap.lt_size e) (I.ok.cab x c hfn hc)))).trans (I.base.keep b o e n hb hx)
    . obtain ⟨sl,e1⟩:=I.base.slot b o e n hb hx
      exact ⟨sl,(hs.2 b (Nat.ne_of_lt (Nat.lt_of_lt_of_le (Heap.lt_size e) (I.ok.cab x c hfn hc)))).trans e1⟩
    . obtain ⟨o',e1⟩:=I.base.there b o e hx
      exact ⟨o',(hs.2 b (Nat.ne_of_lt (Nat.lt_of_lt_of_le (Heap.lt_size e) (I.ok.cab x c hfn hc)))).trans e1⟩
    . by_cases hj:j=i
      . subst hj
        rw [hi] at e1; cases e1
        rw [getElem?_set_self hiσ] at e2
        cases e2
        exact ⟨u,r,.inr ⟨.inl hk,c,hc,hc'⟩⟩
      . rw [getElem?_set_ne (Ne.symm hj)] at e2
        obtain ⟨u',r',q⟩:=hl j y v' e1 e2 e3
        refine ⟨u',r',?_⟩
        rcases q with q | ⟨k,c',e,z'⟩
        . exact .inl q
        . refine .inr ⟨k,c',e,z'.sameBut hs ?_⟩
          rintro rfl
          exact hj (Ziy hN e1 (I.ok.inj _ _ _ e hc ▸ hi))
    . by_cases hcc:c'=c
      . subst hcc; exact ⟨_,hc'⟩
      . obtain ⟨w2,z2⟩:=I.cell y c' e
        exact ⟨w2,z2.sameBut hs hcc⟩
    . obtain ⟨e,n,ne,nf,d⟩:=I.pin p hp
      refine ⟨(hs.2 p.1 ?_).trans e,n,ne,nf,d⟩
      intro q
      rw [q,hoc] at e
      have q':oc=p.2:=Option.some.inj e
      exact d w' (by rw [← q']; exact hocd)
theorem Ziz {M:Model} {A:Around} {E:Value->Shared->Prop} {i:Nat} {x:Str} {v:V} {u:Value} {Q:Unit->Shared->Prop} (I:Inv X pins σ H s) (hN:X.N.Nodup) (hi:X.N[i]?=some x) (hx:Loc X.env.scope x) (r:RelV v u)
    (h:∀ s',Inv X pins (σ.set i (some v)) H s'->Q () s') (hf:X.fn x=true\/X.env.scope.names.lookup x=some .local:=by first | exact .inl rfl | exact .inr rfl | assumption):wpAny M A (storeName X.env x u) Q E s :=
  Zgw I hN hi hx r (λs' I' _=>h s' I') hf
theorem Inv.call' {s':Shared} {ch:List Addr} (I:Inv X pins σ H s) (ho:s'.os=s.os) (u:Un (frs X.stack) ch H H' s.heap s'.heap) (hok:HOk X.prog X.w H' s'.heap) (hg:AllBare s'.gens)
    (hch:∀ b∈ch,(b∈X.ex\/X.s₀.heap.objs.size<=b)/\b≠X.env.locals/\(∀ x c,X.env.cells.lookup x=some c->c≠b)/\∀ p∈X.pn++pins,p.1≠b):Inv X pins σ H' s':=by
  obtain ⟨h',g',d',t',o'⟩:=s'
  have e:o'=s.os:=ho
  subst e
  exact I.call (g':=g') (t':=t') (d':=d') u hok hg hch
end
abbrev XK:=Value->Option Addr->Hp->Prop
abbrev St:=List (Option V)
abbrev VK:=V->Hp->Prop
abbrev TE:=St->Hp->VK->Prop
abbrev TT:=St->Hp->(Bool->Hp->Prop)->Prop
abbrev TA:=St->Hp->(List V->Hp->Prop)->Prop
structure Ends where
  nx:St->Hp->Prop
  rt:VK
  bk:St->Hp->Prop:=λ_ _=>False
  ct:St->Hp->Prop:=λ_ _=>False
abbrev TS:=Ends->St->Hp->Prop
def EP (X:Cx) (pins:List (Addr×Obj)) (σ:St) (Q:VK) (u:Value) (s':Shared):Prop:=∃ v H',Inv X pins σ H' s'/\RelV v u/\Q v H'
def TP (X:Cx) (pins:List (Addr×Obj)) (σ:St) (Q:Bool->Hp->Prop) (b:Bool) (s':Shared):Prop:=∃ H',Inv X pins σ H' s'/\Q b H'
def AP (X:Cx) (pins:List (Addr×Obj)) (σ:St) (Q:List V->Hp->Prop) (us:List Value) (s':Shared):Prop:=∃ vs H',Inv X pins σ H' s'/\Vals vs us/\Q vs H'
def SP (X:Cx) (pins:List (Addr×Obj)) (D:Ends) (f:Flow) (s':Shared):Prop :=
  match f with
  | .next=>∃ σ' H',Inv X pins σ' H' s'/\D.nx σ' H'
  | .brk=>∃ σ' H',Inv X pins σ' H' s'/\D.bk σ' H'
  | .cont=>∃ σ' H',Inv X pins σ' H' s'/\D.ct σ' H'
  | .ret u=>∃ v σ' H',Inv X pins σ' H' s'/\RelV v u/\D.rt v H'
def PE (X:Cx) (e:Expr) (t:TE):Prop :=
  ∀ (pins:List (Addr×Obj)) (s:Shared) (σ:St) (H:Hp) (Q:VK),Inv X pins σ H s->t σ H Q->wpAny (model X.prog X.w) X.A (eval e X.env) (EP X pins σ Q) X.xe s
def PT (X:Cx) (e:Expr) (t:TT):Prop :=
  ∀ (pins:List (Addr×Obj)) (s:Shared) (σ:St) (H:Hp) (Q:Bool->Hp->Prop),Inv X pins σ H s->t σ H Q->wpAny (model X.prog X.w) X.A (isTrue e X.env (eval e X.env)) (TP X pins σ Q) X.xe s
def PW (X:Cx) (e:Expr) (t:TT):Prop :=
  ∀ (whole:Sem Value) (pins:List (Addr×Obj)) (s:Shared) (σ:St) (H:Hp) (Q:Bool->Hp->Prop),Inv X pins σ H s->t σ H Q->wpAny (model X.prog X.w) X.A (isTrue e X.env whole) (TP X pins σ Q) X.xe s
theorem PW.pt {X:Cx} {e:Expr} {t:TT} (h:PW X e t):PT X e t:=h _
def PA (X:Cx) (es:List Expr) (t:TA):Prop :=
  ∀ (pos:Pos) (pins:List (Addr×Obj)) (s:Shared) (σ:St) (H:Hp) (Q:List V->Hp->Prop),Inv X pins σ H s->t σ H Q->wpAny (model X.prog X.w) X.A (spliced (backTo pos (starEach es X.env))) (AP X pins σ Q) X.xe s
def PS (X:Cx) (st:Stmt) (t:TS):Prop :=
  ∀ (pins:List (Addr×Obj)) (s:Shared) (σ:St) (H:Hp) (D:Ends),Inv X pins σ H s->t D σ H->wpAny (model X.prog X.w) X.A (exec st X.env) (SP X pins D) X.xe s
def PSs (X:Cx) (st:List Stmt) (t:TS):Prop :=
  ∀ (pins:List (Addr×Obj)) (s:Shared) (σ:St) (H:Hp) (D:Ends),Inv X pins σ H s->t D σ H->wpAny (model X.prog X.w) X.A (execs st X.env) (SP X pins D) X.xe s
theorem thn {α:Type} {t:Sem α} {Q Q':α->Shared->Prop} {M:Model} {A:Around} {E:Value->Shared->Prop} {s:Shared} (h:wpAny M A t Q E s) (hQ:∀ a s,Q a s->Q' a s):wpAny M A t Q' E s:=wpAny_mono h hQ λ_ _ x=>x
end L2
namespace L2
open PySem PySem.Spec PyProof.Rows
section
variable {X:Cx}
def tVar (i:Nat):TE:=λσ H Q=>∃ v,σ[i]?=some (some v)/\Q v H
def tC (v:V):TE:=λ_ H Q=>Q v H
theorem ZnP {i:Nat} {x:Str} {pos:Pos} (hN:X.N[i]?=some x) (hv:Vis X.env.scope x) (hd:(x == ("__debug__" : Str))=false:=by decide) (hcd:(x == ("__classdict__" : Str))=false:=by decide):PE X (.Name x pos) (tVar i):=by
  intro pins s σ H Q I h
  obtain ⟨v,e,h⟩:=h
  obtain ⟨m,hn,hl⟩:=I.loc
  obtain ⟨u,r,l⟩:=hl i x v hN e hv
  have fin:EP X pins σ Q u s:=⟨v,H,I,r,h⟩
  rcases l with ⟨hk,hm⟩ | ⟨hk,c,hc,hcell⟩
  . exact wpAny_Name (wpAny_loadName_local I.ok.kind hk hn hm fin) hd
  . rcases hk with hk | hk
    . exact wpAny_Name (wpAny_loadName_cell I.ok.kind hk hc hcell fin) hd
    . exact wpAny_Name (wpAny_loadName_free I.ok.kind hk hc hcell fin hcd) hd
theorem Zj {i j pos}:PE X (.Constant (.int i) j pos) (tC (.int i)):=λ_ _ _ H _ I h=>wpAny_Constant_int ⟨.int i,H,I.tok _,⟨_,rfl⟩,h⟩
theorem pe_bl {b j pos}:PE X (.Constant (.bool b) j pos) (tC (.bl b)):=λ_ _ _ H _ I h=>Constant_bool ⟨.bl b,H,I,rfl,h⟩
theorem Zmy {j pos}:PE X (.Constant .none j pos) (tC .non):=λ_ _ _ H _ I h=>Constant_none ⟨.non,H,I,rfl,h⟩
theorem Zbf {x j pos}:PE X (.Constant (.str x) j pos) (tC (.str x)):=λ_ _ _ H _ I h=>Calls.Constant_str ⟨.str x,H,I.tok _,⟨_,rfl⟩,h⟩
def Gl (X:Cx) (x:Str):Prop:=X.env.kindOf x=some .globalImplicit
theorem ZhJ {E:Value->Shared->Prop} {pins:List (Addr×Obj)} {s:Shared} {σ:St} {H:Hp} {x:Str} {u:Value} {pos:Pos} {Q:Value->Shared->Prop} (I:Inv X pins σ H s) (hg:Gl X x) (hm:X.mg x=some u) (h:Q u s)
    (hd:(x == ("__debug__" : Str))=false:=by decide):wpAny (model X.prog X.w) X.A (eval (.Name x pos) X.env) Q E s :=
  Calls.Name_function_global I.ok.kind hg (Calls.loadGlobal_global (by rw [I.ok.glob]; exact I.mod.glob.keeps I.bk) hm h) hd
theorem Zcg {E:Value->Shared->Prop} {pins:List (Addr×Obj)} {s:Shared} {σ:St} {H:Hp} {x:Str} {u:Value} {pos:Pos} {Q:Value->Shared->Prop} (I:Inv X pins σ H s) (hg:Gl X x) (hm:X.mg x=none) (hv:bootBuiltins x=some u) (h:Q u s)
    (hn:x ≠ "__name__" := by decide) (hd:(x == ("__debug__" : Str))=false:=by decide):wpAny (model X.prog X.w) X.A (eval (.Name x pos) X.env) Q E s:=by
  obtain ⟨mb,h1,h2⟩:=I.mod.blt
  exact Calls.Name_function_global I.ok.kind hg (Calls.loadGlobal_builtin (by rw [I.ok.glob]; exact I.mod.glob.keeps I.bk) hm (by rw [I.ok.blt]; exact h1.keeps I.bk) ((h2 x hn).trans hv) h) hd
theorem ZmS {x:Str} {v:V} {u:Value} {pos:Pos} (hg:Gl X x) (hm:X.mg x=some u) (r:RelV v u) (hd:(x == ("__debug__" : Str))=false:=by decide):PE X (.Name x pos) (tC v) :=
  λ_ _ _ H _ I h=>ZhJ I hg hm ⟨v,H,I,r,h⟩ hd
theorem ZbF {x:Str} {v:V} {u:Value} {pos:Pos} (hg:Gl X x) (hm:X.mg x=none) (hv:bootBuiltins x=some u) (r:RelV v u) (hn:x ≠ "__name__" := by decide) (hd:(x == ("__debug__" : Str))=false:=by decide):PE X (.Name x pos) (tC v) :=
  λ_ _ _ H _ I h=>Zcg I hg hm hv ⟨v,H,I,r,h⟩ hn hd
variable {a b:Expr} {ta tb:TE} {pos:Pos}
def PC (X:Cx) (op:CmpOp) (a b:Expr) (t:TE):Prop :=
  ∀ (pins:List (Addr×Obj)) (s:Shared) (σ:St) (H:Hp) (Q:VK),Inv X pins σ H s->t σ H Q ->
    wpAny (model X.prog X.w) X.A (eval a X.env) (λv s₁=>wpAny (model X.prog X.w) X.A (eval b X.env) (λu s₂=>wpAny (model X.prog X.w) X.A (compareOp op v u) (EP X pins σ Q) X.xe s₂) X.xe s₁) X.xe s
theorem ZiA (b:Expr) {op:CmpOp} (h:op≠.In) (h2:op≠.NotIn):behindInMarks op b=false:=by
  have e1:(op == CmpOp.In)=false:=by cases op <;> first | rfl | exact absurd rfl h
  have e2:(op == CmpOp.NotIn)=false:=by cases op <;> first | rfl | exact absurd rfl h2
  cases b <;> simp [behindInMarks,e1,e2]
def tIsN (ta:TE):TE:=λσ H Q=>ta σ H λx H1=>Q (.bl (decide (x=.non))) H1
def tNotN (ta:TE):TE:=λσ H Q=>ta σ H λx H1=>Q (.bl (!decide (x=.non))) H1
theorem RelV.none_iff {x:V} {v:Value} (r:RelV x v):(v == Value.none)=decide (x=.non):=by
  cases x with
  | non=>cases r; rfl
  | bl _=>cases r; rfl
  | int _=>obtain ⟨t,rfl⟩:=r; rfl
  | str _=>obtain ⟨t,rfl⟩:=r; rfl
  | byt _=>obtain ⟨t,rfl⟩:=r; rfl
  | flt _=>obtain ⟨t,rfl⟩:=r; rfl
  | ref _=>cases r; rfl
  | ty _=>cases r; rfl
theorem Zmz {j pos'} (ha:PE X a ta):PC X .Is a (.Constant .none j pos') (tIsN ta):=by
  intro pins s σ H Q I h
  refine thn (ha pins s σ H _ I h) λv s1 ⟨x,H1,I1,r1,q1⟩=>?_
  exact Constant_none (is_none_gen ⟨.bl _,H1,I1,by rw [r1.none_iff]; rfl,q1⟩)
theorem ZhK {j pos'} (ha:PE X a ta):PC X .IsNot a (.Constant .none j pos') (tNotN ta):=by
  intro pins s σ H Q I h
  refine thn (ha pins s σ H _ I h) λv s1 ⟨x,H1,I1,r1,q1⟩=>?_
  exact Constant_none (isnot_none_gen ⟨.bl _,H1,I1,by rw [r1.none_iff]; rfl,q1⟩)
def tB (t:TE):TT:=λσ H Q=>t σ H λx H1=>∃ c,x=.bl c/\Q c H1
theorem ZnQ {op:CmpOp} {t:TE} (h:PC X op a b t) (h1:behindInMarks op b=false:=by first | exact ZiA _ (by decide) (by decide) | rfl):PE X (.Compare a [op] [b] pos) t:=λpins s σ H Q I hw=>wpAny_Compare1 (h pins s σ H Q I hw) h1
theorem Zgx {op:CmpOp} {t:TE} (h:PC X op a b t) (h1:behindInMarks op b=false:=by first | exact ZiA _ (by decide) (by decide) | rfl):PT X (.Compare a [op] [b] pos) (tB t):=by
  intro pins s σ H Q I hw
  refine wpAny_isTrue_Compare1 (thn (h pins s σ H _ I hw) λv s1 h1=>thn h1 λu s2 h2=>thn h2 λc s3 ⟨x,H1,I1,r1,q1⟩=>?_) h1
  obtain ⟨d,rfl,q⟩:=q1
  cases r1
  exact wpAny_truthy_bool ⟨H1,I1,q⟩
theorem ZbA {e:Expr} {t:TE} (h:PE X e t) (he:∀ whole,isTrue e X.env whole=(do let v ← whole; standAt e.pos; holding [v] (truthy v)):=by intro _; rfl):PT X e (tB t):=by
  intro pins s σ H Q I hw
  refine isTrue_plain (thn (h pins s σ H _ I hw) λv s1 ⟨x,H1,I1,r1,q1⟩=>?_) (he _)
  obtain ⟨d,rfl,q⟩:=q1
  cases r1
  exact wpAny_truthy_bool ⟨H1,I1,q⟩
variable {tA tB':TT} {rest:List Expr}
def tAnd (t u:TT):TT:=λσ H Q=>t σ H λc H1=>if c=true then u σ H1 Q else Q false H1
def tOr (t u:TT):TT:=λσ H Q=>t σ H λc H1=>if c=true then Q true H1 else u σ H1 Q
def tNot (t:TT):TT:=λσ H Q=>t σ H λc H1=>Q (!c) H1
theorem ZjY (ha:PT X a tA):PW X (.BoolOp .And [a] pos) tA:=by
  intro wh pins s σ H Q I h
  refine isTrue_and (thn (ha pins s σ H Q I h) λc s1 e=>?_)
  cases c with
  | true=>exact isTrue_and_nil e
  | false=>exact e
theorem ZiB (ha:PT X a tA):PW X (.BoolOp .Or [a] pos) tA:=by
  intro wh pins s σ H Q I h
  refine isTrue_or (thn (ha pins s σ H Q I h) λc s1 e=>?_)
  cases c with
  | false=>exact isTrue_or_nil e
  | true=>exact e
theorem ZmA (ha:PT X a tA) (hb:PW X (.BoolOp .And (b :: rest) pos) tB'):PW X (.BoolOp .And (a :: b :: rest) pos) (tAnd tA tB'):=by
  intro wh pins s σ H Q I h
  refine isTrue_and (thn (ha pins s σ H _ I h) λc s1 ⟨H1,I1,q1⟩=>?_)
  cases c with
  | true=>exact hb wh pins s1 σ H1 Q I1 q1
  | false=>exact ⟨H1,I1,q1⟩
theorem pw_or (ha:PT X a tA) (hb:PW X (.BoolOp .Or (b :: rest) pos) tB'):PW X (.BoolOp .Or (a :: b :: rest) pos) (tOr tA tB'):=by
  intro wh pins s σ H Q I h
  refine isTrue_or (thn (ha pins s σ H _ I h) λc s1 ⟨H1,I1,q1⟩=>?_)
  cases c with
  | true=>exact ⟨H1,I1,q1⟩
  | false=>exact hb wh pins s1 σ H1 Q I1 q1
theorem Zfj (ha:PT X a tA):PT X (.UnaryOp .Not a pos) (tNot tA):=by
  intro pins s σ H Q I h
  exact isTrue_not (ha pins s σ H (λc H1=>Q (!c) H1) I h)
def tAndV (ta tb:TE):TE:=λσ H Q=>ta σ H λx H1=>∃ c,x=.bl c/\if c=true then tb σ H1 Q else Q (.bl false) H1
def tOrV (ta tb:TE):TE:=λσ H Q=>ta σ H λx H1=>∃ c,x=.bl c/\if c=true then Q (.bl true) H1 else tb σ H1 Q
theorem ZiC {op} {t:TE} (h:PE X a t):PE X (.BoolOp op [a] pos) t:=λpins s σ H Q I hw=>BoolOp_one (h pins s σ H Q I hw)
theorem ZiD (ha:PE X a ta) (hb:PE X (.BoolOp .And (b :: rest) pos) tb):PE X (.BoolOp .And (a :: b :: rest) pos) (tAndV ta tb):=by
  intro pins s σ H Q I h
  refine BoolOp_and (thn (ha pins s σ H _ I h) λv s1 ⟨x,H1,I1,r1,q1⟩=>?_)
  obtain ⟨c,rfl,q1⟩:=q1
  cases r1
  refine wpAny_truthy_bool ?_
  cases c with
  | true=>exact hb pins s1 σ H1 Q I1 q1
  | false=>exact ⟨.bl false,H1,I1,rfl,q1⟩
theorem pe_or (ha:PE X a ta) (hb:PE X (.BoolOp .Or (b :: rest) pos) tb):PE X (.BoolOp .Or (a :: b :: rest) pos) (tOrV ta tb):=by
  intro pins s σ H Q I h
  refine BoolOp_or (thn (ha pins s σ H _ I h) λv s1 ⟨x,H1,I1,r1,q1⟩=>?_)
  obtain ⟨c,rfl,q1⟩:=q1
  cases r1
  refine wpAny_truthy_bool ?_
  cases c with
  | false=>exact hb pins s1 σ H1 Q I1 q1
  | true=>exact ⟨.bl true,H1,I1,rfl,q1⟩
def tIf (t:TT) (ta tb:TE):TE:=λσ H Q=>t σ H λc H1=>if c=true then ta σ H1 Q else tb σ H1 Q
theorem ZcD {c:Expr} (hc:PT X c tA) (ha:PE X a ta) (hb:PE X b tb):PE X (.IfExp c a b pos) (tIf tA ta tb):=by
  intro pins s σ H Q I h
  refine wpAny_IfExp (thn (hc pins s σ H _ I h) λd s1 ⟨H1,I1,q1⟩=>?_)
  cases d with
  | true=>exact ha pins s1 σ H1 Q I1 q1
  | false=>exact hb pins s1 σ H1 Q I1 q1
end
end L2
namespace L2
open PySem PySem.Spec PyProof.Rows
def SqL (K:PySem.W.Frag) (H:Hp) (a:Addr) (xs:List V):Prop :=
  Rd H a (.lst xs) \/
    ∃ (o:Obj) (its:Array Value) (n:Nat),K.lookup a=some o/\o.cls=.type "list" /\ o.dict=none/\o.data=.seq its n/\its.size<=sizeLine/\Vals xs its.toList
def SqT (K:PySem.W.Frag) (H:Hp) (a:Addr) (xs:List V):Prop :=
  Rd H a (.tup xs) \/
    ∃ (o:Obj) (its:Array Value) (n:Nat),K.lookup a=some o/\o.cls=.type "tuple" /\ o.data=.seq its n/\its.size<=sizeLine/\Vals xs its.toList
def absV:Value->Option V
  | .none=>some .non
  | .bool b=>some (.bl b)
  | .int i _=>some (.int i)
  | .str x _=>some (.str x)
  | .bytes b _=>some (.byt b)
  | .float b _=>some (.flt b)
  | .ref a=>some (.ref a)
  | .type n=>some (.ty n)
  | _=>none
theorem RelV.abs {x:V} {u:Value} (r:RelV x u):absV u=some x:=by
  cases x with
  | non=>cases r; rfl
  | bl _=>cases r; rfl
  | int _=>obtain ⟨t,rfl⟩:=r; rfl
  | str _=>obtain ⟨t,rfl⟩:=r; rfl
  | byt _=>obtain ⟨t,rfl⟩:=r; rfl
  | flt _=>obtain ⟨t,rfl⟩:=r; rfl
  | ref _=>cases r; rfl
  | ty _=>cases r; rfl
theorem RelV.inj {x y:V} {u:Value} (r:RelV x u) (q:RelV y u):x=y:=Option.some.inj (r.abs.symm.trans q.abs)
theorem Vals.inj:∀ {xs ys:List V} {us:List Value},Vals xs us->Vals ys us->xs=ys
  | _,_,_,.nil,.nil=>rfl
  | _,_,_,.cons r t,.cons r' t'=>by rw [r.inj r',Vals.inj t t']
section
variable {X:Cx} {pins:List (Addr×Obj)} {σ:St} {H:Hp} {s:Shared} {a:Addr} {xs ys:List V}
theorem SqL.of {K:PySem.W.Frag} (h:H a=some (.lst xs)):SqL K H a xs:=.inl (.inl h)
theorem SqT.of {K:PySem.W.Frag} (h:H a=some (.tup xs)):SqT K H a xs:=.inl (.inl h)
theorem Inv.list (I:Inv X pins σ H s) (h:SqL X.K H a xs):∃ its:List Value,Vals xs its/\PlainL s.heap a its.toArray/\xs.length<=sizeLine:=by
  rcases h with h | ⟨o,its,n,hk,hc,hd,hs,hz,r⟩
  . obtain ⟨z,its,n,r,e⟩:=h.ok I.hok
    exact ⟨its,r,⟨_,n,e,rfl,rfl,rfl⟩,z⟩
  . refine ⟨its.toList,r,⟨o,n,I.kIn a o hk,hc,hd,by simpa using hs⟩,?_⟩
    have e:=r.length
    simp only [Array.length_toList] at e
    omega
theorem Inv.tuple (I:Inv X pins σ H s) (h:SqT X.K H a xs):∃ its:List Value,Vals xs its/\IsTup s.heap a its.toArray/\xs.length<=sizeLine:=by
  rcases h with h | ⟨o,its,n,hk,hc,hs,hz,r⟩
  . obtain ⟨z,its,r,p⟩:=h.ok I.hok
    exact ⟨its,r,p,z⟩
  . refine ⟨its.toList,r,⟨o,I.kIn a o hk,hc,n,by simpa using hs⟩,?_⟩
    have e:=r.length
    simp only [Array.length_toList] at e
    omega
theorem Inv.list_inj (I:Inv X pins σ H s) (h:SqL X.K H a xs) (h':SqL X.K H a ys):xs=ys:=by
  obtain ⟨its,r,⟨o,n,e,_,_,d⟩,_⟩:=I.list h
  obtain ⟨its',r',⟨o',n',e',_,_,d'⟩,_⟩:=I.list h'
  rw [e] at e'; cases e'
  rw [d] at d'
  injection d' with d1 _
  have:its=its':=by simpa using congrArg Array.toList d1
  subst this
  exact r.inj r'
theorem Inv.tuple_inj (I:Inv X pins σ H s) (h:SqT X.K H a xs) (h':SqT X.K H a ys):xs=ys:=by
  obtain ⟨its,r,⟨o,e,_,n,d⟩,_⟩:=I.tuple h
  obtain ⟨its',r',⟨o',e',_,n',d'⟩,_⟩:=I.tuple h'
  rw [e] at e'; cases e'
  rw [d] at d'
  injection d' with d1 _
  have:its=its':=by simpa using congrArg Array.toList d1
  subst this
  exact r.inj r'
end
abbrev Cx.wish (X:Cx) (E:Value->Shared->Prop):Cx:={ X with xe:=E }
abbrev Cx.nox (X:Cx):Cx:=X.wish λ_ _=>False
theorem Cx.Ok.wish {X:Cx} (ok:X.Ok) (E:Value->Shared->Prop):(X.wish E).Ok :=
  ⟨ok.mod,ok.kind,ok.glob,ok.blt,ok.above,ok.inj,ok.has,ok.cab,ok.hd,ok.frames,ok.stk,ok.exf,ok.bs,ok.bsz,ok.noex,ok.exfs,ok.funs,ok.frf⟩
theorem Cx.Ok.unwish {X:Cx} {E:Value->Shared->Prop} (ok:(X.wish E).Ok):X.Ok :=
  ⟨ok.mod,ok.kind,ok.glob,ok.blt,ok.above,ok.inj,ok.has,ok.cab,ok.hd,ok.frames,ok.stk,ok.exf,ok.bs,ok.bsz,ok.noex,ok.exfs,ok.funs,ok.frf⟩
section
variable {X:Cx} {pins:List (Addr×Obj)} {σ:St} {H:Hp} {s:Shared} {E:Value->Shared->Prop}
theorem Inv.wish (I:Inv X pins σ H s) (E:Value->Shared->Prop):Inv (X.wish E) pins σ H s:=⟨I.ok.wish E,I.os,I.bare,I.base,I.loc,I.cell,I.free,I.freeC,I.pin,I.hok,I.len⟩
theorem Inv.unwish (I:Inv (X.wish E) pins σ H s):Inv X pins σ H s:=⟨I.ok.unwish,I.os,I.bare,I.base,I.loc,I.cell,I.free,I.freeC,I.pin,I.hok,I.len⟩
theorem SP.unwish {D:Ends} {f:Flow} {s':Shared} (h:SP (X.wish E) pins D f s'):SP X pins D f s':=by
  cases f with
  | next=>obtain ⟨σ',H',I,q⟩:=h; exact ⟨σ',H',I.unwish,q⟩
  | brk=>obtain ⟨σ',H',I,q⟩:=h; exact ⟨σ',H',I.unwish,q⟩
  | cont=>obtain ⟨σ',H',I,q⟩:=h; exact ⟨σ',H',I.unwish,q⟩
  | ret u=>obtain ⟨v,σ',H',I,r,q⟩:=h; exact ⟨v,σ',H',I.unwish,r,q⟩
theorem PSs.nox {st:List Stmt} {t:TS} (h:PSs X.nox st t):PSs X st t:=λpins s σ H D I hw =>
  wpAny_mono (h pins s σ H D (I.wish _) hw) (λ_ _ q=>q.unwish) λ_ _ z=>False.elim z
end
section
variable {X:Cx} {st:Stmt} {rest:List Stmt} {t u:TS} {e:Expr} {te:TE} {pos:Pos}
def tNext:TS:=λD σ H=>D.nx σ H
def tSeq (t u:TS):TS:=λD σ H=>t { D with nx:=u D } σ H
theorem Zz:PSs X [] tNext:=λ_ _ σ H _ I h=>wpAny_execs_nil ⟨σ,H,I,h⟩
theorem Zh (h1:PS X st t) (h2:PSs X rest u):PSs X (st :: rest) (tSeq t u):=by
  intro pins s σ H D I h
  refine wpAny_execs_cons (thn (h1 pins s σ H { D with nx:=u D } I h) λf s1 q=>?_)
  cases f with
  | next =>
    obtain ⟨σ',H',I',q⟩:=q
    exact h2 pins s1 σ' H' D I' q
  | ret v=>exact q
  | brk=>exact q
  | cont=>exact q
theorem Zi (h1:PS X st t):PSs X [st] t:=by
  intro pins s σ H D I h
  refine wpAny_execs_cons (thn (h1 pins s σ H D I h) λf s1 q=>?_)
  cases f with
  | next=>exact wpAny_execs_nil q
  | ret v=>exact q
  | brk=>exact q
  | cont=>exact q
theorem Inv.quiet {pins:List (Addr×Obj)} {σ:St} {H:Hp} {s:Shared} (I:Inv X pins σ H s):interactive X.env=false:=by simp [interactive,I.ok.kind]
def tDrop (te:TE):TS:=λD σ H=>te σ H λ_ H1=>D.nx σ H1
theorem Zv (he:PE X e te) (hs:swapsWith e none pos.line X.env=pure false:=by rfl):PS X (.Expr e pos) (tDrop te):=by
  intro pins s σ H D I h
  exact wpAny_Expr_any (thn (he pins s σ H _ I h) λv s1 ⟨x,H1,I1,r1,q1⟩=>⟨σ,H1,I1,q1⟩) I.quiet hs
def tRet (te:TE):TS:=λD σ H=>te σ H D.rt
theorem Zw (he:PE X e te):PS X (.Return (some e) pos) (tRet te):=by
  intro pins s σ H D I h
  exact wpAny_Return_some (thn (he pins s σ H _ I h) λv s1 ⟨x,H1,I1,r1,q1⟩=>⟨x,σ,H1,I1,r1,q1⟩)
def tRetN:TS:=λD _ H=>D.rt .non H
theorem ZjZ:PS X (.Return none pos) tRetN:=λ_ _ σ H _ I h=>wpAny_Return_none ⟨.non,σ,H,I,rfl,h⟩
def tIfS (c:TT) (t u:TS):TS:=λD σ H=>c σ H λb H1=>if b=true then t D σ H1 else u D σ H1
theorem ps_if {c:Expr} {a b:List Stmt} {tc:TT} (hc:PT X c tc) (ha:PSs X a t) (hb:PSs X b u):PS X (.If c a b pos) (tIfS tc t u):=by
  intro pins s σ H D I h
  refine wpAny_If (thn (hc pins s σ H _ I h) λd s1 ⟨H1,I1,q1⟩=>?_)
  cases d with
  | true=>exact ha pins s1 σ H1 D I1 q1
  | false=>exact hb pins s1 σ H1 D I1 q1
end
abbrev TG:=V->St->Hp->(St->Hp->Prop)->Prop
abbrev TGs:=List V->St->Hp->(St->Hp->Prop)->Prop
def PG (X:Cx) (target:Expr) (t:TG):Prop :=
  ∀ (pins:List (Addr×Obj)) (s:Shared) (σ:St) (H:Hp) (v:V) (u:Value) (Q:St->Hp->Prop),Inv X pins σ H s->RelV v u->t v σ H Q ->
    wpAny (model X.prog X.w) X.A (assign target X.env u) (λ_ s'=>∃ σ' H',Inv X pins σ' H' s'/\Q σ' H') X.xe s
def PGs (X:Cx) (ts:List Expr) (t:TGs):Prop :=
  ∀ (pins:List (Addr×Obj)) (s:Shared) (σ:St) (H:Hp) (vs:List V) (us:List Value) (Q:St->Hp->Prop),Inv X pins σ H s->Vals vs us->t vs σ H Q ->
    wpAny (model X.prog X.w) X.A (assignInOrder ((assignEach ts X.env).map (·.2)) us) (λ_ s'=>∃ σ' H',Inv X pins σ' H' s'/\Q σ' H') X.xe s
abbrev TSet:=V->V->V->Hp->(Hp->Prop)->Prop
def PSet (X:Cx) (t:TSet):Prop :=
  ∀ (pins:List (Addr×Obj)) (s:Shared) (σ:St) (H:Hp) (o i v:V) (ov iv u:Value) (Q:Hp->Prop),Inv X pins σ H s->RelV o ov->RelV i iv->RelV v u->t o i v H Q ->
    wpAny (model X.prog X.w) X.A (setItem ov iv u) (λ_ s'=>∃ H',Inv X pins σ H' s'/\Q H') X.xe s
section
variable {X:Cx} {pos:Pos}
def gName (i:Nat):TG:=λv σ H Q=>Q (σ.set i (some v)) H
theorem ZmT {i:Nat} {x:Str} (hN:X.N.Nodup) (hi:X.N[i]?=some x) (hx:Loc X.env.scope x) (hf:X.fn x=true\/X.env.scope.names.lookup x=some .local:=by first | exact .inl rfl | exact .inr rfl | assumption):PG X (.Name x pos) (gName i):=by
  intro pins s σ H v u Q I r h
  exact wpAny_assign_Name (Ziz I hN hi hx r (λs' I'=>⟨_,H,I',h⟩) hf)
def gNil:TGs:=λvs σ H Q=>vs=[]/\Q σ H
def gCons (t:TG) (u:TGs):TGs:=λvs σ H Q=>∃ v r,vs=v :: r/\t v σ H λσ' H'=>u r σ' H' Q
theorem Zay:PGs X [] gNil:=by
  intro pins s σ H vs us Q I r h
  obtain ⟨e,h⟩:=h
  subst e
  cases r
  exact assignInOrder_nil ⟨σ,H,I,h⟩
theorem Zp {e:Expr} {es:List Expr} {t:TG} {u:TGs} (h1:PG X e t) (h2:PGs X es u)
    (hs:(assignEach (e :: es) X.env).map (·.2)=assign e X.env :: (assignEach es X.env).map (·.2):=by rfl):PGs X (e :: es) (gCons t u):=by
  intro pins s σ H vs us Q I r h
  obtain ⟨v,vr,e1,h⟩:=h
  subst e1
  cases r with
  | cons r rr =>
    rw [hs]
    refine assignInOrder_cons (thn (h1 pins s σ H _ _ _ I r h) λ_ s1 ⟨σ1,H1,I1,q1⟩=>?_)
    exact h2 pins s1 σ1 H1 _ _ Q I1 rr q1
def gTup (K:PySem.W.Frag) (n:Nat) (t:TGs):TG:=λv σ H Q=>∃ a xs,v=.ref a/\SqT K H a xs/\xs.length=n/\t xs σ H Q
theorem ZnR {es:List Expr} {k:Nat} {t:TGs} {n:Nat} (hc:X.calm=true) (h:PGs X es t)
    (hn:(assignEach es X.env).length=n:=by rfl) (hst:(assignEach es X.env).findIdx? (·.1)=none:=by rfl):PG X (.Tuple es k pos) (gTup X.K n t):=by
  intro pins s σ H v u Q I r hw
  obtain ⟨a,xs,e1,hq,hl,hw⟩:=hw
  subst e1
  cases r
  obtain ⟨its,rv,ht,hz⟩:=I.tuple hq
  refine assign_Tuple_tuple (I.ok.hd hc) ht (by simp [hn,← hl,rv.length]) hst λh' hx=>?_
  have I1:Inv X pins σ H { s with heap:=h' }:=I.kept (t':=s.toks) λb o e=>hx b o (Nat.ne_of_lt (Heap.lt_size e)) e
  exact h pins _ σ H xs _ Q I1 (by simpa using rv) hw
def gSub (to ti:TE) (t:TSet):TG:=λv σ H Q=>to σ H λo H1=>ti σ H1 λi H2=>t o i v H2 λH3=>Q σ H3
theorem Zfk {o i:Expr} {to ti:TE} {t:TSet} (ho:PE X o to) (hi:PE X i ti) (hs:PSet X t)
    (ha:∀ v,assign (.Subscript o i pos) X.env v=(do
      let ov ← holding [v] (eval o X.env)
      let iv ← holding [v,ov] (eval i X.env)
      standAt pos
      holding [v,ov,iv] (setItem ov iv v)
      release [v,ov,iv] []):=by intro _; rfl):PG X (.Subscript o i pos) (gSub to ti t):=by
  intro pins s σ H v u Q I r h
  rw [ha]
  refine wpAny_bind (wpAny_holding (thn (ho pins s σ H _ I h) λov s1 ⟨x,H1,I1,r1,q1⟩=>?_))
  refine wpAny_bind (wpAny_holding (thn (hi pins s1 σ H1 _ I1 q1) λiv s2 ⟨y,H2,I2,r2,q2⟩=>?_))
  refine wpAny_bind (wpAny_standAt (wpAny_bind (wpAny_holding (thn (hs pins s2 σ H2 x y v ov iv u _ I2 r1 r2 r q2) λ_ s3 ⟨H3,I3,q3⟩=>?_))))
  exact wpAny_release ⟨σ,H3,I3,q3⟩
def tAsg (te:TE) (g:TG):TS:=λD σ H=>te σ H λx H1=>g x σ H1 D.nx
theorem ZbQ {tg e:Expr} {te:TE} {g:TG} (he:PE X e te) (hg:PG X tg g) (hs:swapsWithSole [tg] e pos.line X.env=pure false:=by rfl) (hw:swappedStores [tg] e X.env=pure none:=by rfl)
    (h1:(assignEach [tg] X.env).map (·.2)=[assign tg X.env]:=by rfl):PS X (.Assign [tg] e pos) (tAsg te g):=by
  intro pins s σ H D I h
  refine wpAny_Assign_stores (thn (he pins s σ H _ I h) λv s1 ⟨x,H1,I1,r1,q1⟩=>?_) hs hw
  rw [h1]
  exact thn (hg pins s1 σ H1 x v _ I1 r1 q1) λ_ s2 q=>q
theorem ZnS {i:Nat} {x:Str} {e:Expr} {te:TE} {pos':Pos} (hN:X.N.Nodup) (hi:X.N[i]?=some x) (hx:Loc X.env.scope x) (he:PE X e te) (hs:swapsWith e (some (.Name x pos')) pos.line X.env=pure false:=by rfl) (hf:X.fn x=true\/X.env.scope.names.lookup x=some .local:=by first | exact .inl rfl | exact .inr rfl | assumption) :
    PS X (.Assign [.Name x pos'] e pos) (tAsg te (gName i)):=by
  intro pins s σ H D I h
  refine wpAny_Assign_Name (thn (he pins s σ H _ I h) λv s1 ⟨y,H1,I1,r1,q1⟩=>?_) hs
  exact Ziz I1 hN hi hx r1 (λs2 I2=>⟨_,H1,I2,q1⟩) hf
end
structure It where
  go:Nat->Hp->Prop
  yld:Nat->Hp->V->Hp->Prop
  stop:Nat->Hp->Prop
def FpOk (X:Cx) (pins:List (Addr×Obj)) (H:Hp) (b:Addr):Prop :=
  H b=none/\b≠X.env.locals/\b∉X.fs/\(b∈X.ex\/X.s₀.heap.objs.size<=b)/\(∀ x c,X.env.cells.lookup x=some c->c≠b)/\∀ p∈X.pn++pins,p.1≠b
theorem Inv.fpOk {X:Cx} {pins:List (Addr×Obj)} {σ:St} {H H':Hp} {s:Shared} {b:Addr} (I:Inv X pins σ H s) (hb:s.heap.objs.size<=b) (hn:H' b=none):FpOk X pins H' b:=by
  refine ⟨hn,Nat.ne_of_gt (Nat.lt_of_lt_of_le I.lt hb),I.nofs hb,.inr (Nat.le_trans I.sz hb),λx c e z=>?_,λp hp z=>?_⟩
  . obtain ⟨v,q⟩:=I.cell x c e
    exact absurd (Nat.lt_of_lt_of_le q.lt (by rw [z]; exact hb)) (Nat.lt_irrefl _)
  . exact absurd (Nat.lt_of_lt_of_le (Heap.lt_size (I.pin p hp).1) (by rw [z]; exact hb)) (Nat.lt_irrefl _)
structure Turn (P:Program) (w:World) (K:PySem.W.Frag) (tg:Expr) (J:It) (fp:List Addr) (it:Addr) (tn:Nat->Heap->Prop):Prop where
  mem:it∈fp
  obj:∀ i h,tn i h->∀ b∈fp,∃ o,h.get? b=some o/\∀ v,o.data≠.cell v
  keep:∀ i h h',tn i h->(∀ b∈fp,∀ o,h.get? b=some o->h'.get? b=some o)->tn i h'
  item:∀ (X:Cx),X.prog=P->X.w=w->X.K=K->X.calm=true->∀ (i:Nat) (pins:List (Addr×Obj)) (s:Shared) (σ:St) (H:Hp) (E:Value->Shared->Prop),Inv X pins σ H s->(∀ b∈fp,FpOk X pins H b)->tn i s.heap->J.go i H ->
    wpAny (model P w) X.A (pyNext (.ref it)) (λr s1=>∃ u,r=some u /\
      wpAny (model P w) X.A (letOwnedTupleGo tg (.ref it) u) (λ_ s2=>∃ x H',Inv X pins σ H' s2/\RelV x u/\J.yld i H x H'/\tn (i+1) s2.heap/\∀ b∈fp,H' b=none) E s1) E s
  done:∀ (X:Cx),X.prog=P->X.w=w->X.K=K->X.calm=true->∀ (i:Nat) (pins:List (Addr×Obj)) (s:Shared) (σ:St) (H:Hp) (E:Value->Shared->Prop),Inv X pins σ H s->(∀ b∈fp,FpOk X pins H b)->tn i s.heap->J.stop i H ->
    wpAny (model P w) X.A (pyNext (.ref it)) (λr s1=>r=none/\Inv X pins σ H s1) E s
  self:∀ (A:Around) (i:Nat) (s:Shared) (Q:Value->Shared->Prop) (E:Value->Shared->Prop),tn i s.heap->Q (.ref it) s->wpAny (model P w) A (pyIter (.ref it)) Q E s
abbrev TI:=St->Hp->(It->Hp->Prop)->Prop
def PIE (X:Cx) (pins:List (Addr×Obj)) (σ:St) (tg:Expr) (R:It->Hp->Prop) (itv:Value) (s2:Shared):Prop :=
  ∃ (it:Addr) (fp:List Addr) (tn:Nat->Heap->Prop) (J:It) (H':Hp),itv=.ref it/\Inv X pins σ H' s2/\Turn X.prog X.w X.K tg J fp it tn/\tn 0 s2.heap/\(∀ b∈fp,FpOk X pins H' b)/\R J H'
def PI (X:Cx) (tg iter:Expr) (wi:TI):Prop :=
  ∀ (pins:List (Addr×Obj)) (s:Shared) (σ:St) (H:Hp) (R:It->Hp->Prop),Inv X pins σ H s->wi σ H R ->
    wpAny (model X.prog X.w) X.A (eval iter X.env) (λv s1=>wpAny (model X.prog X.w) X.A (pyIter v) (PIE X pins σ tg R) X.xe s1) X.xe s
theorem go_of {M:Model} {A:Around} {E:Value->Shared->Prop} {s:Shared} {tg:Expr} {it:Addr} {u:Value} {o:Obj} {n:String} {vs:Array Value} {Q:Unit->Shared->Prop} (ho:s.heap.get? it=some o) (hc:o.cls=.type n) (hd:o.data=.fields vs)
    (hn:["enumerate", "zip", "dict_itemiterator", "dict_reverseitemiterator", "odict_iterator", "itertools.zip_longest", "itertools.pairwise"].contains n=false) (hQ:Q () s):wpAny M A (letOwnedTupleGo tg (.ref it) u) Q E s:=by
  unfold letOwnedTupleGo
  cases tg <;> first
    | exact wpAny_pure hQ
    | (cases u <;> first
        | exact wpAny_pure hQ
        | (refine wpAny_bind (wpAny_load ho ?_)
           rw [hc,hd]
           show wpAny M A (if (["enumerate", "zip", "dict_itemiterator", "dict_reverseitemiterator", "odict_iterator", "itertools.zip_longest", "itertools.pairwise"].contains n && vs[0]? == some (rawInt _))=true then _ else _) Q E s
           rw [if_neg (by intro h; rw [hn,Bool.false_and] at h; cases h)]
           exact wpAny_pure hQ))
def Itl (K:PySem.W.Frag) (a:Addr):It :=
  ⟨λi H=>∃ xs x,SqL K H a xs/\xs[i]?=some x,λi H x H'=>H'=H/\∀ xs,SqL K H a xs->xs[i]?=some x,λi H=>∃ xs,SqL K H a xs/\xs.length<=i⟩
def Itt (K:PySem.W.Frag) (a:Addr):It :=
  ⟨λi H=>∃ xs x,SqT K H a xs/\xs[i]?=some x,λi H x H'=>H'=H/\∀ xs,SqT K H a xs->xs[i]?=some x,λi H=>∃ xs,SqT K H a xs/\xs.length<=i⟩
def Itr (lo:Int) (n:Nat):It:=⟨λi _=>i<n,λi H x H'=>H'=H/\x=.int (lo+i),λi _=>n<=i⟩
theorem Zka {P:Program} {w:World} {K:PySem.W.Frag} {tg:Expr} (a it:Addr):Turn P w K tg (Itl K a) [it] it (λi h=>h.IsListIter it a i) where
  mem:=by simp
  obj:=λi h st b hb=>by
    have e:b=it:=by simpa using hb
    subst e
    obtain ⟨o,e,c,d⟩:=st
    exact ⟨o,e,λv z=>by rw [d] at z; cases z⟩
  keep:=λi h h' st k=>st.at λo e=>k it (by simp) o e
  item:=by
    intro X hP hw hK hc i pins s σ H E I hf st hg
    subst hP hw hK
    obtain ⟨xs,x,hq,hx⟩:=hg
    obtain ⟨its,rv,p,hz⟩:=I.list hq
    obtain ⟨u,hu,ru⟩:=rv.get hx
    obtain ⟨f0,f1,f2,f3,f4,f5⟩:=hf it (by simp)
    refine wpAny_pyNext_list_item st p.isList (x:=u) (by simpa using hu) λh' st' sb=>?_
    have I1:Inv X pins σ H { s with heap:=h' }:=I.turned (t':=s.toks) (λb o hb e=>(sb.2 b hb).trans e) f0 f1 f3 f4 f5
    obtain ⟨o,e,c,d⟩:=id st'
    exact ⟨u,rfl,go_of (s:={ s with heap:=h' }) e c d (by decide) ⟨x,H,I1,ru,⟨rfl,λys hy=>by rw [I.list_inj hy hq]; exact hx⟩,st',λb hb=>(hf b hb).1⟩⟩
  done:=by
    intro X hP hw hK hc i pins s σ H E I hf st hg
    subst hP hw hK
    obtain ⟨xs,hq,hx⟩:=hg
    obtain ⟨its,rv,p,hz⟩:=I.list hq
    obtain ⟨f0,f1,f2,f3,f4,f5⟩:=hf it (by simp)
    have hl:=rv.length
    exact wpAny_pyNext_list_end (I.ok.hd hc) st p.isList (by simp; omega) λh' eb=>⟨rfl,I.turned (t':=s.toks) (λb o hb e=>eb b o hb e) f0 f1 f3 f4 f5⟩
  self:=λ_ _ _ _ _ st h=>wpAny_pyIter_listiter st h
theorem Zjs {P:Program} {w:World} {K:PySem.W.Frag} {tg:Expr} (a it:Addr):Turn P w K tg (Itt K a) [it] it (λi h=>h.IsTupleIter it a i) where
  mem:=by simp
  obj:=λi h st b hb=>by
    have e:b=it:=by simpa using hb
    subst e
    obtain ⟨o,e,c,d⟩:=st
    exact ⟨o,e,λv z=>by rw [d] at z; cases z⟩
  keep:=λi h h' st k=>st.at λo e=>k it (by simp) o e
  item:=by
    intro X hP hw hK hc i pins s σ H E I hf st hg
    subst hP hw hK
    obtain ⟨xs,x,hq,hx⟩:=hg
    obtain ⟨its,rv,p,hz⟩:=I.tuple hq
    obtain ⟨u,hu,ru⟩:=rv.get hx
    obtain ⟨f0,f1,f2,f3,f4,f5⟩:=hf it (by simp)
    refine wpAny_pyNext_tuple_item st (show s.heap.IsTuple a its.toArray from p) (x:=u) (by simpa using hu) λh' st' sb=>?_
    have I1:Inv X pins σ H { s with heap:=h' }:=I.turned (t':=s.toks) (λb o hb e=>(sb.2 b hb).trans e) f0 f1 f3 f4 f5
    obtain ⟨o,e,c,d⟩:=id st'
    exact ⟨u,rfl,go_of (s:={ s with heap:=h' }) e c d (by decide) ⟨x,H,I1,ru,⟨rfl,λys hy=>by rw [I.tuple_inj hy hq]; exact hx⟩,st',λb hb=>(hf b hb).1⟩⟩
  done:=by
    intro X hP hw hK hc i pins s σ H E I hf st hg
    subst hP hw hK
    obtain ⟨xs,hq,hx⟩:=hg
    obtain ⟨its,rv,p,hz⟩:=I.tuple hq
    obtain ⟨f0,f1,f2,f3,f4,f5⟩:=hf it (by simp)
    have hl:=rv.length
    exact wpAny_pyNext_tuple_end (I.ok.hd hc) st (show s.heap.IsTuple a its.toArray from p) (by simp; omega) λh' eb=>⟨rfl,I.turned (t':=s.toks) (λb o hb e=>eb b o hb e) f0 f1 f3 f4 f5⟩
  self:=λ_ _ _ _ _ st h=>wpAny_pyIter_tupleiter st h
theorem Zjt {P:Program} {w:World} {K:PySem.W.Frag} {tg:Expr} (it:Addr) (lo:Int) (n:Nat):Turn P w K tg (Itr lo n) [it] it (λi h=>IsRangeIter h it (lo+(i:Nat) * 1) ((n:Int) - (i:Nat)) 1) where
  mem:=by simp
  obj:=λi h st b hb=>by
    have e:b=it:=by simpa using hb
    subst e
    exact ⟨_,st,λv z=>by
      have z':Data.fields _=Data.cell v:=z
      cases z'⟩
  keep:=λi h h' st k=>k it (by simp) _ st
  item:=by
    intro X hP hw hK hc i pins s σ H E I hf st hg
    subst hP hw hK
    obtain ⟨f0,f1,f2,f3,f4,f5⟩:=hf it (by simp)
    have W:=Walks.range (prog:=X.prog) (w:=X.w) (I.ok.hd hc) it lo 1 n
    refine W.item i s _ _ hg st λv h' tk hv st' kk=>?_
    obtain ⟨t,rfl⟩:=hv
    have I1:Inv X pins σ H { s with heap:=h',toks:=tk }:=I.turned (λb o hb e=>kk b o (by simpa using hb) e) f0 f1 f3 f4 f5
    refine ⟨_,rfl,go_of (s:={ s with heap:=h',toks:=tk }) (n := "range_iterator") st' rfl rfl (by decide) ⟨.int (lo+i),H,I1,⟨t,?_⟩,⟨rfl,rfl⟩,st',λb hb=>(hf b hb).1⟩⟩
    rw [Int.mul_one]
  done:=by
    intro X hP hw hK hc i pins s σ H E I hf st hg
    subst hP hw hK
    obtain ⟨f0,f1,f2,f3,f4,f5⟩:=hf it (by simp)
    exact wpAny_pyNext_range_end (I.ok.hd hc) st (by have:n<=i:=hg; omega) λh' eb=>⟨rfl,I.turned (t':=s.toks) (λb o hb e=>eb b o hb e) f0 f1 f3 f4 f5⟩
  self:=λ_ _ _ _ _ st h=>wpAny_pyIter_rangeiter st h
end L2
namespace L2
open PySem PySem.Spec PyProof.Rows
section
variable {X:Cx} {tg:Expr}
def iList (K:PySem.W.Frag) (tl:TE):TI:=λσ H R=>tl σ H λx H1=>∃ a,x=.ref a/\(∃ xs,SqL K H1 a xs)/\R (Itl K a) H1
def iTup (K:PySem.W.Frag) (tl:TE):TI:=λσ H R=>tl σ H λx H1=>∃ a,x=.ref a/\(∃ xs,SqT K H1 a xs)/\R (Itt K a) H1
theorem ZmU {l:Expr} {tl:TE} (hl:PE X l tl):PI X tg l (iList X.K tl):=by
  intro pins s σ H R I h
  refine thn (hl pins s σ H _ I h) λv s1 ⟨x,H1,I1,r1,q1⟩=>?_
  obtain ⟨a,e,⟨xs,hq⟩,q⟩:=q1
  subst e
  cases r1
  obtain ⟨its,rv,p,hz⟩:=I1.list hq
  refine wpAny_pyIter_list p.isList ?_
  refine ⟨s1.heap.objs.size,[s1.heap.objs.size],_,_,H1,rfl,I1.kept (t':=s1.toks) λb o e=>Heap.get?_push_of_some _ e,Zka a _,⟨_,Heap.get?_push_size _ rfl,rfl,rfl⟩,λb hb=>?_,q⟩
  have e:b=s1.heap.objs.size:=by simpa using hb
  subst e
  exact I1.fpOk (Nat.le_refl _) (I1.hok.fresh (Nat.le_refl _))
theorem ZnT {l:Expr} {tl:TE} (hl:PE X l tl):PI X tg l (iTup X.K tl):=by
  intro pins s σ H R I h
  refine thn (hl pins s σ H _ I h) λv s1 ⟨x,H1,I1,r1,q1⟩=>?_
  obtain ⟨a,e,⟨xs,hq⟩,q⟩:=q1
  subst e
  cases r1
  obtain ⟨its,rv,p,hz⟩:=I1.tuple hq
  refine wpAny_pyIter_tuple (show s1.heap.IsTuple a its.toArray from p) ?_
  refine ⟨s1.heap.objs.size,[s1.heap.objs.size],_,_,H1,rfl,I1.kept (t':=s1.toks) λb o e=>Heap.get?_push_of_some _ e,Zjs a _,⟨_,Heap.get?_push_size _ rfl,rfl,rfl⟩,λb hb=>?_,q⟩
  have e:b=s1.heap.objs.size:=by simpa using hb
  subst e
  exact I1.fpOk (Nat.le_refl _) (I1.hok.fresh (Nat.le_refl _))
theorem ZlD {pins:List (Addr×Obj)} {σ:St} {H:Hp} {s:Shared} {R:It->Hp->Prop} {E:Value->Shared->Prop} {lo hi:Int} {t u v:Tok} {tk:Nat} (I:Inv X pins σ H s) (h1 : -(2 ^ 62)<=lo) (h2:lo<2 ^ 62) (h3 : -(2 ^ 62)<=hi) (h4:hi<2 ^ 62)
    (q:R (Itr lo (hi - lo).toNat) H):wpAny (model X.prog X.w) X.A (pyIter (.ref s.heap.objs.size)) (PIE X pins σ tg R) E { s with heap:=s.heap.push { cls:=.type "range",data:=.fields #[.int lo t,.int hi u,.int 1 v] },toks:=tk }:=by
  refine wpAny_pyIter_range (IsRange.new ..) (small_one h1 h2 h3 h4) ?_
  have I1:Inv X pins σ H { s with heap:=s.heap.push { cls:=.type "range",data:=.fields #[.int lo t,.int hi u,.int 1 v] },toks:=tk }:=I.kept λb o e=>Heap.get?_push_of_some _ e
  refine ⟨(s.heap.push { cls:=.type "range",data:=.fields #[.int lo t,.int hi u,.int 1 v] }).objs.size,[(s.heap.push { cls:=.type "range",data:=.fields #[.int lo t,.int hi u,.int 1 v] }).objs.size],_,_,H,rfl,
    I1.kept (t':=tk) λb o e=>Heap.get?_push_of_some _ e,Zjt _ lo (hi - lo).toNat,?_,λb hb=>?_,q⟩
  . have e1:lo+((0:Nat):Int) * 1=lo:=by simp
    have e2:(((hi - lo).toNat:Nat):Int) - ((0:Nat):Int)=Builtin.Range.rangeSize lo hi 1:=by rw [rangeSize_one]; split <;> omega
    show IsRangeIter _ _ (lo+((0:Nat):Int) * 1) ((((hi - lo).toNat:Nat):Int) - ((0:Nat):Int)) 1
    rw [e1,e2]
    exact Heap.get?_push_size _ rfl
  . have e:b=(s.heap.push { cls:=.type "range",data:=.fields #[.int lo t,.int hi u,.int 1 v] }).objs.size:=by simpa using hb
    subst e
    exact I1.fpOk (Nat.le_refl _) (I1.hok.fresh (Nat.le_refl _))
def iRng1 (ta:TA):TI:=λσ H R=>ta σ H λvs H1=>∃ j:Int,vs=[.int j] /\ -(2 ^ 62)<=j/\j<2 ^ 62/\R (Itr 0 j.toNat) H1
theorem Zch {a:Expr} {ta:TA} {p pos:Pos} (hg:Gl X "range") (hm:X.mg "range" = none) (ha:PA X [a] ta) (hs:starEach [a] X.env=[(false,eval a X.env)]:=by rfl):PI X tg (.Call (.Name "range" p) [a] [] pos) (iRng1 ta):=by
  intro pins s σ H R I h
  refine Call_ (Zcg I hg hm boot_range (PyProof.Rows.callWith_type1 (thn (ha pos pins s σ H _ I h) λus s1 ⟨vs,H1,I1,r1,q1⟩=>?_) hs rfl))
  obtain ⟨j,e,q1,q2,q⟩:=q1
  subst e
  cases r1 with
  | cons r rr =>
    cases rr
    obtain ⟨t,rfl⟩:=r
    exact call_range_1 (ZlD I1 (by omega) (by omega) q1 q2 (by simpa using q))
def tFor (wi:TI) (g:TG) (tb:TS):TS:=λD σ H=>wi σ H λJ H1=>∃ W:Nat->Nat->St->Hp->Prop,(∃ m,W 0 m σ H1)/\∀ i m σ H,W i m σ H ->
  (J.stop i H/\D.nx σ H)\/(J.go i H/\∃ N:St->Hp->Prop,(∀ σ' H',N σ' H'->∃ m',m'<m/\W (i+1) m' σ' H')/\∀ x H',J.yld i H x H'->g x σ H' λσ2 H2=>tb { D with nx:=N,ct:=N,bk:=D.nx } σ2 H2)
def Zgy (fp:List Addr) (h:Heap):List (Addr×Obj):=fp.filterMap λb=>(h.get? b).map λo=>(b,o)
theorem ZcE {fp:List Addr} {h:Heap} {b:Addr} {o:Obj} (hb:b∈fp) (e:h.get? b=some o):(b,o)∈Zgy fp h:=List.mem_filterMap.mpr ⟨b,hb,by rw [e]; rfl⟩
theorem Zkb {fp:List Addr} {h:Heap} {p:Addr×Obj} (hp:p∈Zgy fp h):p.1∈fp/\h.get? p.1=some p.2:=by
  obtain ⟨b,hb,e⟩:=List.mem_filterMap.mp hp
  cases q:h.get? b with
  | none=>rw [q] at e; cases e
  | some o =>
    rw [q] at e
    have e':(b,o)=p:=Option.some.inj e
    subst e'
    exact ⟨hb,q⟩
theorem Inv.pinned {pins:List (Addr×Obj)} {σ:St} {H:Hp} {s:Shared} {fp:List Addr} (I:Inv X pins σ H s) (hf:∀ b∈fp,FpOk X pins H b) (ho:∀ b∈fp,∃ o,s.heap.get? b=some o/\∀ v,o.data≠.cell v):Inv X (pins++Zgy fp s.heap) σ H s :=
  I.pins_of λp hp=>(List.mem_append.mp hp).elim (λz=>I.pin p (mem_append_right _ z)) λz=>by
    obtain ⟨hb,e⟩:=Zkb z
    obtain ⟨f0,f1,f2,_⟩:=hf p.1 hb
    obtain ⟨o,e',d⟩:=ho p.1 hb
    rw [e] at e'; cases e'
    exact ⟨e,f0,f1,f2,d⟩
theorem Inv.unpinned {pins pl:List (Addr×Obj)} {σ:St} {H:Hp} {s:Shared} (I:Inv X (pins++pl) σ H s):Inv X pins σ H s:=I.pins_of λp hp=>I.pin p (mem_append_right _ (mem_append_left _ hp))
theorem Zfl {iter:Expr} {body:List Stmt} {wi:TI} {g:TG} {tb:TS} {pos:Pos} (hp:PassesOwn (model X.prog X.w) X.A X.env X.xe) (hc:X.calm=true) (hi:PI X tg iter wi) (hg:PG X tg g) (hb:PSs X body tb)
    (hs:∀ x,foldedSetIterable iter X.env x=pure x:=by intro _; rfl):PS X (.For tg iter body [] pos) (tFor wi g tb):=by
  intro pins s σ H D I h
  refine wpAny_For (thn (hi pins s σ H _ I h) λv s1 h1=>thn h1 λitv s2 h2=>?_) hs
  obtain ⟨it,fp,tn,J,H2,e,I2,T,st2,f2,W,⟨m0,w0⟩,turn⟩:=h2
  subst e
  have stat:∀ {H':Hp},(∀ b∈fp,H' b=none)->∀ b∈fp,FpOk X pins H' b:=λhn b hb=>⟨hn b hb,(f2 b hb).2⟩
  refine codeAny_forLoop_any (λn s'=>∃ i σ' H',Inv X pins σ' H' s'/\tn i s'.heap/\(∀ b∈fp,H' b=none)/\W i n σ' H') ?_ m0 ⟨0,σ,H2,I2,st2,λb hb=>(f2 b hb).1,w0⟩
  rintro n s3 ⟨i,σ3,H3,I3,st3,fr3,w3⟩
  rcases turn i n σ3 H3 w3 with ⟨stop,qn⟩ | ⟨go,N,hN,step⟩
  . refine wpAny_passesOwn hp (thn (T.done X rfl rfl rfl hc i pins s3 σ3 H3 X.xe I3 (stat fr3) st3 stop) λr s4 ⟨hr,I4⟩=>?_)
    subst hr
    exact wpAny_execs_nil ⟨σ3,H3,I4,qn⟩
  . refine wpAny_passesOwn hp (thn (T.item X rfl rfl rfl hc i pins s3 σ3 H3 X.xe I3 (stat fr3) st3 go) λr s4 ⟨u,hr,h4⟩=>?_)
    subst hr
    refine wpAny_passesOwn hp (thn h4 λ_ s5 ⟨x,H5,I5,r5,y5,st5,fr5⟩=>?_)
    have I5':=I5.pinned (stat fr5) (T.obj _ _ st5)
    refine wpAny_passesOwn hp (thn (hg _ s5 σ3 H5 x u _ I5' r5 (step x H5 y5)) λ_ s6 ⟨σ6,H6,I6,q6⟩=>?_)
    refine wpAny_passesOwn hp (thn (hb _ s6 σ6 H6 _ I6 q6) λf s7 q7=>?_)
    have again:∀ {σ7:St} {H7:Hp},Inv X (pins++Zgy fp s5.heap) σ7 H7 s7->N σ7 H7->∃ m,m<n/\∃ i σ' H',Inv X pins σ' H' s7/\tn i s7.heap/\(∀ b∈fp,H' b=none)/\W i m σ' H':=λ{σ7 H7} I7 n7=>by
      obtain ⟨m',hm,w7⟩:=hN σ7 H7 n7
      refine ⟨m',hm,i+1,σ7,H7,I7.unpinned,T.keep _ _ _ st5 λb hb o e=>(I7.pin (b,o) (mem_append_right _ (mem_append_right _ (ZcE hb e)))).1,λb hb=>?_,w7⟩
      obtain ⟨o,e,d⟩:=T.obj _ _ st5 b hb
      exact (I7.pin (b,o) (mem_append_right _ (mem_append_right _ (ZcE hb e)))).2.1
    cases f with
    | next=>obtain ⟨σ7,H7,I7,n7⟩:=q7; exact again I7 n7
    | cont=>obtain ⟨σ7,H7,I7,n7⟩:=q7; exact again I7 n7
    | brk=>obtain ⟨σ7,H7,I7,q7⟩:=q7; exact ⟨σ7,H7,I7.unpinned,q7⟩
    | ret v=>obtain ⟨x7,σ7,H7,I7,r7,q7⟩:=q7; exact ⟨x7,σ7,H7,I7.unpinned,r7,q7⟩
end
theorem Zkc {lo:Int} {n:Nat} {g:TG} {tb:TS} {D:Ends} {σ:St} {H:Hp} (Pv:Nat->St->Hp->Prop) (h0:Pv 0 σ H)
    (hs:∀ i σ H,i<n->Pv i σ H->g (.int (lo+i)) σ H λσ2 H2=>tb { D with nx:=Pv (i+1),ct:=Pv (i+1),bk:=D.nx } σ2 H2) (hd:∀ σ H,Pv n σ H->D.nx σ H) :
    ∃ W:Nat->Nat->St->Hp->Prop,(∃ m,W 0 m σ H)/\∀ i m σ H,W i m σ H ->
      ((Itr lo n).stop i H/\D.nx σ H)\/((Itr lo n).go i H/\∃ N:St->Hp->Prop,(∀ σ' H',N σ' H'->∃ m',m'<m/\W (i+1) m' σ' H')/\∀ x H',(Itr lo n).yld i H x H'->g x σ H' λσ2 H2=>tb { D with nx:=N,ct:=N,bk:=D.nx } σ2 H2):=by
  refine ⟨λi m σ H=>m=n - i/\i<=n/\Pv i σ H,⟨n,by simp,Nat.zero_le _,h0⟩,?_⟩
  rintro i m σ H ⟨rfl,hi,p⟩
  by_cases hlt:i<n
  . refine .inr ⟨hlt,Pv (i+1),λσ' H' p'=>⟨n - (i+1),by omega,rfl,hlt,p'⟩,λx H' y=>?_⟩
    obtain ⟨e,y⟩:=y
    subst e y
    exact hs i σ _ hlt p
  . have e:i=n:=by omega
    subst e
    exact .inl ⟨Nat.le_refl _,hd σ H p⟩
end L2
namespace L2
open PySem PySem.Spec PyProof.Rows
abbrev R2:=V->V->Hp->VK->Prop
def OpR (X:Cx) (f:Value->Value->Sem Value) (r:R2):Prop :=
  ∀ (pins:List (Addr×Obj)) (s:Shared) (σ:St) (H:Hp) (x y:V) (v u:Value) (Q:VK),Inv X pins σ H s->RelV x v->RelV y u->r x y H Q ->
    wpAny (model X.prog X.w) X.A (f v u) (EP X pins σ Q) X.xe s
def UnR (X:Cx) (f:Value->Sem Value) (r:V->Hp->VK->Prop):Prop :=
  ∀ (pins:List (Addr×Obj)) (s:Shared) (σ:St) (H:Hp) (x:V) (v:Value) (Q:VK),Inv X pins σ H s->RelV x v->r x H Q ->
    wpAny (model X.prog X.w) X.A (f v) (EP X pins σ Q) X.xe s
def CallR (X:Cx) (f:Value) (r:List V->Hp->VK->Prop):Prop :=
  ∀ (pins:List (Addr×Obj)) (s:Shared) (σ:St) (H:Hp) (xs:List V) (us:List Value) (Q:VK),Inv X pins σ H s->Vals xs us->r xs H Q ->
    wpAny (model X.prog X.w) X.A (call f us) (EP X pins σ Q) X.xe s
def tOp (r:R2) (ta tb:TE):TE:=λσ H Q=>ta σ H λx H1=>tb σ H1 λy H2=>r x y H2 Q
def tUn (r:V->Hp->VK->Prop) (ta:TE):TE:=λσ H Q=>ta σ H λx H1=>r x H1 Q
def rI (C:Int->Int->Prop) (g:Int->Int->V):R2:=λx y H Q=>∃ i j,x=.int i/\y=.int j/\C i j/\Q (g i j) H
def rI0 (g:Int->Int->V):R2:=λx y H Q=>∃ i j,x=.int i/\y=.int j/\Q (g i j) H
def rU (g:Int->V):V->Hp->VK->Prop:=λx H Q=>∃ i,x=.int i/\Q (g i) H
section
variable {X:Cx} {a b c:Expr} {ta tb tc:TE} {pos:Pos}
theorem binT (ha:PE X a ta) (hb:PE X b tb) {pins:List (Addr×Obj)} {s:Shared} {σ:St} {H:Hp} {R:V->V->Hp->Prop} (I:Inv X pins σ H s)
    (h:ta σ H λx H1=>tb σ H1 λy H2=>R x y H2) {Q:Value->Shared->Prop} {f:Value->Value->Sem Value}
    (hf:∀ v u s2 x y H2,Inv X pins σ H2 s2->RelV x v->RelV y u->R x y H2->wpAny (model X.prog X.w) X.A (f v u) Q X.xe s2) :
    wpAny (model X.prog X.w) X.A (eval a X.env) (λv s₁=>wpAny (model X.prog X.w) X.A (eval b X.env) (λu s₂=>wpAny (model X.prog X.w) X.A (f v u) Q X.xe s₂) X.xe s₁) X.xe s:=by
  refine thn (ha pins s σ H _ I h) λv s1 ⟨x,H1,I1,r1,q1⟩=>?_
  refine thn (hb pins s1 σ H1 _ I1 q1) λu s2 ⟨y,H2,I2,r2,q2⟩=>?_
  exact hf v u s2 x y H2 I2 r1 r2 q2
theorem pe_op {op:Operator} {r:R2} (ho:OpR X (binaryOp op) r) (ha:PE X a ta) (hb:PE X b tb):PE X (.BinOp a op b pos) (tOp r ta tb):=by
  intro pins s σ H Q I h
  exact wpAny_BinOp (binT ha hb I h λv u s2 x y H2 I2 rx ry q=>ho pins s2 σ H2 x y v u Q I2 rx ry q)
theorem pe_un {op:UnaryOp} {r:V->Hp->VK->Prop} (ho:UnR X (unaryOp op) r) (ha:PE X a ta):PE X (.UnaryOp op a pos) (tUn r ta):=by
  intro pins s σ H Q I h
  exact UnaryOp_ (thn (ha pins s σ H _ I h) λv s1 ⟨x,H1,I1,r1,q1⟩=>ho pins s1 σ H1 x v Q I1 r1 q1)
theorem opI {f:Value->Value->Sem Value} {C:Int->Int->Prop} {g:Int->Int->Int}
    (rule:∀ (i j:Int) (t u:Tok) (s:Shared) (Q:Value->Shared->Prop) (E:Value->Shared->Prop),C i j->Q (.int (g i j) s.toks) { s with toks:=s.toks+1 }->wpAny (model X.prog X.w) X.A (f (.int i t) (.int j u)) Q E s) :
    OpR X f (rI C λi j=>.int (g i j)):=by
  intro pins s σ H x y v u Q I rx ry h
  obtain ⟨i,j,rfl,rfl,hc,q⟩:=h
  obtain ⟨t,rfl⟩:=rx
  obtain ⟨t',rfl⟩:=ry
  exact rule i j t t' s _ _ hc ⟨.int (g i j),H,I.tok _,⟨_,rfl⟩,q⟩
theorem opI0 {f:Value->Value->Sem Value} {g:Int->Int->Int}
    (rule:∀ (i j:Int) (t u:Tok) (s:Shared) (Q:Value->Shared->Prop) (E:Value->Shared->Prop),Q (.int (g i j) s.toks) { s with toks:=s.toks+1 }->wpAny (model X.prog X.w) X.A (f (.int i t) (.int j u)) Q E s) :
    OpR X f (rI0 λi j=>.int (g i j)):=by
  intro pins s σ H x y v u Q I rx ry h
  obtain ⟨i,j,rfl,rfl,q⟩:=h
  obtain ⟨t,rfl⟩:=rx
  obtain ⟨t',rfl⟩:=ry
  exact rule i j t t' s _ _ ⟨.int (g i j),H,I.tok _,⟨_,rfl⟩,q⟩
theorem opB0 {f:Value->Value->Sem Value} {g:Int->Int->Bool}
    (rule:∀ (i j:Int) (t u:Tok) (s:Shared) (Q:Value->Shared->Prop) (E:Value->Shared->Prop),Q (.bool (g i j)) s->wpAny (model X.prog X.w) X.A (f (.int i t) (.int j u)) Q E s) :
    OpR X f (rI0 λi j=>.bl (g i j)):=by
  intro pins s σ H x y v u Q I rx ry h
  obtain ⟨i,j,rfl,rfl,q⟩:=h
  obtain ⟨t,rfl⟩:=rx
  obtain ⟨t',rfl⟩:=ry
  exact rule i j t t' s _ _ ⟨.bl (g i j),H,I,rfl,q⟩
def CDiv (i j:Int):Prop:=0<j/\j<1073741824
def CPow (i j:Int):Prop:=0<=j/\j<=1000000/\i.natAbs<2 ^ 64
def CMul (i j:Int):Prop:=(-(2 ^ 64)<i/\i<2 ^ 64)\/(-(2 ^ 64)<j/\j<2 ^ 64)
theorem CMul.ok {i j:Int} (h:CMul i j):IntMulOk i j:=by
  rcases h with ⟨h1,h2⟩ | ⟨h1,h2⟩
  . exact .of_left (intBits_le_64 h1 h2)
  . exact .of_right (intBits_le_64 h1 h2)
theorem Zaw:OpR X (binaryOp .Add) (rI0 λi j=>.int (i+j)):=opI0 λ_ _ _ _ _ _ _ q=>add_int q
theorem ZdH:OpR X (binaryOp .Sub) (rI0 λi j=>.int (i - j)):=opI0 λ_ _ _ _ _ _ _ q=>sub_int q
theorem Zct:OpR X (binaryOp .Mult) (rI CMul λi j=>.int (i * j)):=opI λ_ _ _ _ _ _ _ hc q=>mul_int q hc.ok
theorem Zdt:OpR X (binaryOp .FloorDiv) (rI CDiv λi j=>.int (i / j)):=opI λi j _ _ _ _ _ hc q=>by
  have h1:(0:Int)<j:=hc.1
  have h2:j<1073741824:=hc.2
  exact floordiv_int (by omega) (by rw [Int.fdiv_eq_ediv_of_nonneg i (by omega)]; exact q) (.inl (PyProof.noPylong_small (by omega)))
theorem Zci:OpR X (binaryOp .Mod) (rI (λ_ j=>0<j) λi j=>.int (i % j)):=opI λi j _ _ _ _ _ hc q=>by
  have h1:(0:Int)<j:=hc
  exact mod_int' (by omega) (by rw [Int.fmod_eq_emod_of_nonneg i (by omega)]; exact q)
theorem ZnU:OpR X (binaryOp .Pow) (rI CPow λi j=>.int (i ^ j.toNat)):=opI λ_ _ _ _ _ _ _ hc q=>pow_int_small hc.1 hc.2.1 hc.2.2 q
theorem unI {f:Value->Sem Value} {g:Int->Int}
    (rule:∀ (i:Int) (t:Tok) (s:Shared) (Q:Value->Shared->Prop) (E:Value->Shared->Prop),Q (.int (g i) s.toks) { s with toks:=s.toks+1 }->wpAny (model X.prog X.w) X.A (f (.int i t)) Q E s) :
    UnR X f (rU λi=>.int (g i)):=by
  intro pins s σ H x v Q I rx h
  obtain ⟨i,rfl,q⟩:=h
  obtain ⟨t,rfl⟩:=rx
  exact rule i t s _ _ ⟨.int (g i),H,I.tok _,⟨_,rfl⟩,q⟩
theorem Zgz:UnR X (unaryOp .USub) (rU λi=>.int (-i)):=unI λ_ _ _ _ _ q=>neg_int q
end
def scal:V->V->Bool
  | .non,.non=>true | .non,.int _=>true | .int _,.non=>true | .non,.bl _=>true | .bl _,.non=>true | .non,.str _=>true | .str _,.non=>true
  | .int _,.int _=>true | .bl _,.bl _=>true | .str _,.str _=>true | .byt _,.byt _=>true
  | .int _,.str _=>true | .str _,.int _=>true | .bl _,.str _=>true | .str _,.bl _=>true
  | _,_=>false
def rEq:R2:=λx y H Q=>scal x y=true/\Q (.bl (decide (x=y))) H
def rNe:R2:=λx y H Q=>scal x y=true/\Q (.bl (!decide (x=y))) H
theorem Zkd {i j:Int}:decide (V.int i=V.int j)=(i == j):=by
  rw [Bool.eq_iff_iff]
  simp
theorem ZmB {i j:Bool}:decide (V.bl i=V.bl j)=(i == j):=by
  rw [Bool.eq_iff_iff]
  simp
theorem Zke {i j:Str}:decide (V.str i=V.str j)=(i == j):=by
  rw [Bool.eq_iff_iff]
  simp
theorem Zkf {i j:Array UInt8}:decide (V.byt i=V.byt j)=(i.toList == j.toList):=by
  rw [Bool.eq_iff_iff]
  cases i
  cases j
  simp
section
variable {X:Cx} {a b c:Expr} {ta tb tc:TE} {pos:Pos}
theorem ZL {pins:List (Addr×Obj)} {σ:St} {H:Hp} {s:Shared} {Q:VK} {k k':Bool} (I:Inv X pins σ H s) (q:Q (.bl k) H) (e:k=k'):EP X pins σ Q (.bool k') s:=by
  subst e
  exact ⟨.bl k,H,I,rfl,q⟩
theorem op_eq:OpR X (compareOp .Eq) rEq:=by
  intro pins s σ H x y v u Q I rx ry h
  obtain ⟨hs,q⟩:=h
  cases x with
  | non =>
    cases rx
    cases y with
    | non=>cases ry; exact PySem.EqNone.eq_none_none (ZL I q (by simp))
    | bl j=>cases ry; exact PySem.EqNone.eq_none_bool (ZL I q (by simp))
    | int j=>obtain ⟨t',rfl⟩:=ry; exact PySem.EqNone.eq_none_int (ZL I q (by simp))
    | str j=>obtain ⟨t',rfl⟩:=ry; exact PySem.EqNone.eq_none_str (ZL I q (by simp))
    | _=>exact absurd (show false=true from hs) Bool.false_ne_true
  | bl i =>
    cases rx
    cases y with
    | non=>cases ry; exact PySem.EqNone.eq_bool_none (ZL I q (by simp))
    | bl j=>cases ry; exact eq_bool (ZL I q ZmB)
    | str j=>obtain ⟨t',rfl⟩:=ry; exact PySem.EqMixed.eq_bool_str (ZL I q (by simp))
    | _=>exact absurd (show false=true from hs) Bool.false_ne_true
  | int i =>
    obtain ⟨t,rfl⟩:=rx
    cases y with
    | non=>cases ry; exact PySem.EqNone.eq_int_none (ZL I q (by simp))
    | int j=>obtain ⟨t',rfl⟩:=ry; exact eq_int (ZL I q Zkd)
    | str j=>obtain ⟨t',rfl⟩:=ry; exact PySem.EqMixed.eq_int_str (ZL I q (by simp))
    | _=>exact absurd (show false=true from hs) Bool.false_ne_true
  | str i =>
    obtain ⟨t,rfl⟩:=rx
    cases y with
    | non=>cases ry; exact PySem.EqNone.eq_str_none (ZL I q (by simp))
    | bl j=>cases ry; exact PySem.EqMixed.eq_str_bool (ZL I q (by simp))
    | int j=>obtain ⟨t',rfl⟩:=ry; exact PySem.EqMixed.eq_str_int (ZL I q (by simp))
    | str j=>obtain ⟨t',rfl⟩:=ry; exact eq_str (ZL I q Zke)
    | _=>exact absurd (show false=true from hs) Bool.false_ne_true
  | byt i =>
    obtain ⟨t,rfl⟩:=rx
    cases y with
    | byt j=>obtain ⟨t',rfl⟩:=ry; exact PySem.W.eq_bytes (ZL I q Zkf)
    | _=>exact absurd (show false=true from hs) Bool.false_ne_true
  | _=>cases y <;> exact absurd (show false=true from hs) Bool.false_ne_true
theorem op_ne:OpR X (compareOp .NotEq) rNe:=by
  intro pins s σ H x y v u Q I rx ry h
  obtain ⟨hs,q⟩:=h
  cases x with
  | non =>
    cases rx
    cases y with
    | non=>cases ry; exact PySem.EqNone.ne_none_none (ZL I q (by simp))
    | bl j=>cases ry; exact PySem.EqNone.ne_none_bool (ZL I q (by simp))
    | int j=>obtain ⟨t',rfl⟩:=ry; exact PySem.EqNone.ne_none_int (ZL I q (by simp))
    | str j=>obtain ⟨t',rfl⟩:=ry; exact PySem.EqNone.ne_none_str (ZL I q (by simp))
    | _=>exact absurd (show false=true from hs) Bool.false_ne_true
  | bl i =>
    cases rx
    cases y with
    | non=>cases ry; exact PySem.EqNone.ne_bool_none (ZL I q (by simp))
    | bl j=>cases ry; exact ne_bool (ZL I q (congrArg not ZmB))
    | str j=>obtain ⟨t',rfl⟩:=ry; exact PySem.EqMixed.ne_bool_str (ZL I q (by simp))
    | _=>exact absurd (show false=true from hs) Bool.false_ne_true
  | int i =>
    obtain ⟨t,rfl⟩:=rx
    cases y with
    | non=>cases ry; exact PySem.EqNone.ne_int_none (ZL I q (by simp))
    | int j=>obtain ⟨t',rfl⟩:=ry; exact ne_int (ZL I q (congrArg not Zkd))
    | str j=>obtain ⟨t',rfl⟩:=ry; exact PySem.EqMixed.ne_int_str (ZL I q (by simp))
    | _=>exact absurd (show false=true from hs) Bool.false_ne_true
  | str i =>
    obtain ⟨t,rfl⟩:=rx
    cases y with
    | non=>cases ry; exact PySem.EqNone.ne_str_none (ZL I q (by simp))
    | bl j=>cases ry; exact PySem.EqMixed.ne_str_bool (ZL I q (by simp))
    | int j=>obtain ⟨t',rfl⟩:=ry; exact PySem.EqMixed.ne_str_int (ZL I q (by simp))
    | str j=>obtain ⟨t',rfl⟩:=ry; exact ne_str (ZL I q (congrArg not Zke))
    | _=>exact absurd (show false=true from hs) Bool.false_ne_true
  | byt i =>
    obtain ⟨t,rfl⟩:=rx
    cases y with
    | byt j=>obtain ⟨t',rfl⟩:=ry; exact PySem.W.ne_bytes (ZL I q (congrArg not Zkf))
    | _=>exact absurd (show false=true from hs) Bool.false_ne_true
  | _=>cases y <;> exact absurd (show false=true from hs) Bool.false_ne_true
theorem op_lt:OpR X (compareOp .Lt) (rI0 λi j=>.bl (decide (i<j))):=opB0 λ_ _ _ _ _ _ _ q=>lt_int q
theorem op_le:OpR X (compareOp .LtE) (rI0 λi j=>.bl (decide (i<=j))):=opB0 λ_ _ _ _ _ _ _ q=>le_int q
theorem op_gt:OpR X (compareOp .Gt) (rI0 λi j=>.bl (decide (j<i))):=opB0 λ_ _ _ _ _ _ _ q=>gt_int q
theorem op_ge:OpR X (compareOp .GtE) (rI0 λi j=>.bl (decide (j<=i))):=opB0 λ_ _ _ _ _ _ _ q=>ge_int q
theorem ZM (b:Expr) {op:CmpOp} (h:op≠.In:=by decide) (h2:op≠.NotIn:=by decide):behindInMarks op b=false:=by
  have e1:(op == CmpOp.In)=false:=by cases op <;> first | rfl | exact absurd rfl h
  have e2:(op == CmpOp.NotIn)=false:=by cases op <;> first | rfl | exact absurd rfl h2
  cases b <;> simp [behindInMarks,e1,e2]
theorem ZbR {op:CmpOp} {r:R2} (ho:OpR X (compareOp op) r) (ha:PE X a ta) (hb:PE X b tb) (hm:behindInMarks op b=false):PE X (.Compare a [op] [b] pos) (tOp r ta tb):=by
  intro pins s σ H Q I h
  exact wpAny_Compare1 (binT ha hb I h λv u s2 x y H2 I2 rx ry q=>ho pins s2 σ H2 x y v u Q I2 rx ry q) hm
def tTest (t:TE):TT:=λσ H Q=>t σ H λx H'=>∃ k,x=.bl k/\Q k H'
theorem ZZ {op:CmpOp} {r:R2} (ho:OpR X (compareOp op) r) (ha:PE X a ta) (hb:PE X b tb) (hm:behindInMarks op b=false):PT X (.Compare a [op] [b] pos) (tTest (tOp r ta tb)):=by
  intro pins s σ H Q I h
  refine wpAny_isTrue_Compare1 (thn (ha pins s σ H _ I h) λv s1 ⟨x,H1,I1,r1,q1⟩=>thn (hb pins s1 σ H1 _ I1 q1) λu s2 ⟨y,H2,I2,r2,q2⟩ =>
    thn (ho pins s2 σ H2 x y v u _ I2 r1 r2 q2) λc s3 ⟨z,H3,I3,r3,k,e,q3⟩=>?_) hm
  subst e
  cases r3
  exact wpAny_truthy_bool ⟨H3,I3,q3⟩
def ZnV (r r':R2) (ta tb tc:TE):TE:=λσ H Q=>ta σ H λx H1=>tb σ H1 λy H2=>r x y H2 λz H3=>∃ k,z=.bl k /\
  (if k=true then tc σ H3 λw' H4=>r' y w' H4 Q else Q (.bl false) H3)
theorem ZiE {op op':CmpOp} {r r':R2} (ho:OpR X (compareOp op) r) (ho':OpR X (compareOp op') r') (ha:PE X a ta) (hb:PE X b tb) (hc:PE X c tc)
    (hm:lastMarks [op,op'] [b,c]=false:=by with_unfolding_all rfl):PT X (.Compare a [op,op'] [b,c] pos) (tTest (ZnV r r' ta tb tc)):=by
  intro pins s σ H Q I h
  refine isTrue_chain (thn (ha pins s σ H _ I h) λv s1 ⟨x,H1,I1,r1,q1⟩=>test_link (thn (hb pins s1 σ H1 _ I1 q1) λu s2 ⟨y,H2,I2,r2,q2⟩ =>
    thn (ho pins s2 σ H2 x y v u _ I2 r1 r2 q2) λd s3 ⟨z,H3,I3,r3,k,e,q3⟩=>?_)) hm
  subst e
  cases r3
  refine wpAny_truthy_bool ?_
  cases k with
  | false =>
    obtain ⟨k',e',q'⟩:=q3
    cases e'
    exact ite_ff ⟨H3,I3,q'⟩
  | true =>
    refine ite_tt (test_last (thn (hc pins s3 σ H3 _ I3 q3) λw' s4 ⟨z',H4,I4,r4,q4⟩=>thn (ho' pins s4 σ H4 y z' u w' _ I4 r2 r4 q4) λd' s5 ⟨z2,H5,I5,r5,k2,e2,q5⟩=>?_))
    subst e2
    cases r5
    exact wpAny_truthy_bool ⟨H5,I5,q5⟩
theorem ZiF:(sizeLine:Nat)<2 ^ 63:=by rw [sizeLine_eq]; decide
theorem vals1 {x:V} {us:List Value} (r:Vals [x] us):∃ u,us=[u]/\RelV x u:=by
  cases r with
  | cons r1 r2=>cases r2; exact ⟨_,rfl,r1⟩
theorem vals2 {x y:V} {us:List Value} (r:Vals [x,y] us):∃ u w',us=[u,w']/\RelV x u/\RelV y w':=by
  cases r with
  | cons r1 r2 =>
    cases r2 with
    | cons r3 r4=>cases r4; exact ⟨_,_,rfl,r1,r3⟩
theorem ZiG:CallR X (.builtin "abs") (λxs H Q=>∃ i,xs=[.int i]/\Q (.int (if i<0 then -i else i)) H):=by
  intro pins s σ H xs us Q I r h
  obtain ⟨i,rfl,q⟩:=h
  obtain ⟨u,rfl,t,rfl⟩:=vals1 r
  exact call_abs_int λu tk=>⟨.int (if i<0 then -i else i),H,I.tok _,⟨_,rfl⟩,q⟩
theorem ZgA (hc:X.calm=true):CallR X (.builtin "max") (λxs H Q=>∃ i j,xs=[.int i,.int j]/\Q (.int (if j > i then j else i)) H):=by
  intro pins s σ H xs us Q I r h
  obtain ⟨i,j,rfl,q⟩:=h
  obtain ⟨u,w',rfl,⟨t,rfl⟩,⟨t',rfl⟩⟩:=vals2 r
  refine max_two_ints (I.ok.hd hc) λh' tk k=>⟨_,H,I.kept k,?_,q⟩
  by_cases hj:j > i
  . rw [if_pos hj,if_pos hj]; exact ⟨_,rfl⟩
  . rw [if_neg hj,if_neg hj]; exact ⟨_,rfl⟩
theorem Zkg (hc:X.calm=true):CallR X (.builtin "min") (λxs H Q=>∃ i j,xs=[.int i,.int j]/\Q (.int (if j<i then j else i)) H):=by
  intro pins s σ H xs us Q I r h
  obtain ⟨i,j,rfl,q⟩:=h
  obtain ⟨u,w',rfl,⟨t,rfl⟩,⟨t',rfl⟩⟩:=vals2 r
  refine min_two_ints (I.ok.hd hc) λh' tk k=>⟨_,H,I.kept k,?_,q⟩
  by_cases hj:j<i
  . rw [if_pos hj,if_pos hj]; exact ⟨_,rfl⟩
  . rw [if_neg hj,if_neg hj]; exact ⟨_,rfl⟩
theorem Zcw:CallR X (.type "int") (λxs H Q=>(∃ i,xs=[.int i]/\Q (.int i) H)\/∃ k,xs=[.bl k]/\Q (.int (if k then 1 else 0)) H):=by
  intro pins s σ H xs us Q I r h
  rcases h with ⟨i,rfl,q⟩ | ⟨k,rfl,q⟩
  . obtain ⟨u,rfl,t,rfl⟩:=vals1 r
    exact call_int_int ⟨.int i,H,I,⟨_,rfl⟩,q⟩
  . obtain ⟨u,rfl,r1⟩:=vals1 r
    cases r1
    exact call_int_bool ⟨.int (if k then 1 else 0),H,I.tok _,⟨_,rfl⟩,q⟩
theorem ZhL:CallR X (.builtin "divmod") (λxs H Q=>∃ i j,xs=[.int i,.int j]/\CDiv i j/\∀ p,H p=none->Q (.ref p) (upd H p (.tup [.int (i / j),.int (i % j)]))):=by
  intro pins s σ H xs us Q I r h
  obtain ⟨i,j,rfl,⟨h1,h2⟩,q⟩:=h
  obtain ⟨u,w',rfl,⟨t,rfl⟩,⟨t',rfl⟩⟩:=vals2 r
  refine divmod_int (by omega) ?_ (.inl (PyProof.noPylong_small (by omega)))
  rw [Int.fdiv_eq_ediv_of_nonneg i (by omega),Int.fmod_eq_emod_of_nonneg i (by omega)]
  have hn:H s.heap.objs.size=none:=I.hok.fresh (Nat.le_refl _)
  refine ⟨.ref s.heap.objs.size,_,?_,rfl,q _ hn⟩
  refine I.laid (λb o e=>Heap.get?_push_of_some _ e) (Nat.le_refl _) ⟨by simp only [length_cons,List.length_nil]; rw [sizeLine_eq]; decide,[.int (i / j) s.toks,.int (i % j) (s.toks+1)],.cons ⟨_,rfl⟩ (.cons ⟨_,rfl⟩ .nil),?_⟩
  exact ⟨_,Heap.get?_push_size s.heap rfl,rfl,0,rfl⟩
end
end L2
namespace L2
open PySem PySem.Spec PyProof.Rows
structure ObjM (h:Heap) (x dx C:Addr) (mA:Str->Option Value):Prop where
  obj:h.get? x=some (PySem.W.instObj C dx)
  ns:h.Ns1 dx mA
  ne:dx≠x
theorem Zkh {h:Heap} {dx:Addr} {mA:Str->Option Value} (n:h.Ns1 dx mA):∃ od,h.get? dx=some od/\∀ name,PySem.W.lookIn name od=some (mA name):=by
  obtain ⟨o,es,ep,ho,hd,hk,_,hm⟩:=n
  refine ⟨o,ho,λname=>?_⟩
  have e:=hm name
  unfold nsFind findBy at e
  rw [← Array.find?_toList] at e
  unfold PySem.W.lookIn
  rw [hd]
  dsimp only
  split
  . rename_i y q
    rw [q] at e
    exact congrArg some e
  . rename_i q
    rw [q] at e
    have a:es.toList.any (·.refKey)=false:=by
      rw [List.any_eq_false]
      intro y hy
      obtain ⟨z,t,hkey⟩:=hk y (Array.mem_toList_iff.mp hy)
      simp [DictEntry.refKey,hkey]
    have a':¬ es.toList.any (·.refKey)=true:=by rw [a]; exact Bool.false_ne_true
    rw [if_neg a']
    exact congrArg some e
theorem ObjM.look {h:Heap} {x dx C:Addr} {mA:Str->Option Value} (I:ObjM h x dx C mA):∃ od,PySem.W.InstAt h x (PySem.W.instObj C dx) C (some od)/\∀ name,PySem.W.lookIn name od=some (mA name) :=
  let ⟨od,ho,hl⟩:=Zkh I.ns
  ⟨od,⟨I.obj,rfl,rfl,ho⟩,hl⟩
section
variable {prog:Program} {w:World} {A:Around} {E:Value->Shared->Prop} {s:Shared} {K:PySem.W.Frag} {x dx C f:Addr} {mA:Str->Option Value} {name:Str} {v:Value}
theorem ZmV {expr:Bool} {Q:Value->Shared->Prop} (X:K.In s.heap) (I:ObjM s.heap x dx C mA) (hg:PySem.W.plainGet K C name=true) (hh:PySem.W.hasDictIn K C=true)
    (ha:PySem.W.findIn K (.ref C) name=some none) (hv:mA name=some v) (hv':PySem.W.handedIn v=true) (h:Q v { s with toks:=s.toks+1 }) :
    wpAny (model prog w) A (getAttr (.ref x) name expr) Q E s:=by
  obtain ⟨od,J,hl⟩:=I.look
  exact PySem.W.get_value X J (PySem.W.plainGet_of hg).1 (PySem.W.findObj_own hh ha rfl (by rw [hl,hv])) hv' h
theorem ZlE {pl:Sem Bool} {Q:Value×List Value->Shared->Prop} (X:K.In s.heap) (I:ObjM s.heap x dx C mA) (hg:PySem.W.plainGet K C name=true)
    (hf:PySem.W.findIn K (.ref C) name=some (some (.ref f))) (ht:PySem.W.isFn K (.ref f)=true) (hv:mA name=none) (h:Q (.ref f,[.ref x]) s) :
    wpAny (model prog w) A (getMethod (.ref x) name pl) Q E s:=by
  obtain ⟨od,J,hl⟩:=I.look
  exact PySem.W.method_fn X J (PySem.W.plainGet_of hg).1 (PySem.W.plainGet_of hg).2 hf (beq_iff_eq.mp ht) (by show (PySem.W.lookIn name od).map (·.isSome)=some false; rw [hl,hv]; rfl) h
theorem ZmW {ns:List Str} {Q:Unit->Shared->Prop} (X:K.In s.heap) (I:ObjM s.heap x dx C mA)
    (hs:PySem.W.findIn K (.ref C) "__setattr__" = some (some (.builtin "object.__setattr__"))) (hp:PySem.W.plainOver K C=true) (ht:PySem.W.takerIn K C name=some none) (hh:PySem.W.hasDictIn K C=true)
    (hw:PySem.Within mA ns) (hsz:ns.length<=sizeLine)
    (h:∀ h',ObjM h' x dx C (λy=>if y=name then some v else mA y)->Heap.SameBut dx s.heap h'->Q () { s with heap:=h',toks:=s.toks+2 }) :
    wpAny (model prog w) A (setAttr (.ref x) name v) Q E s:=by
  obtain ⟨od,J,hl⟩:=I.look
  refine PySem.W.set_plain X J hs (PySem.W.osa_open (s:={ s with toks:=s.toks+1 }) (r:=none) X J hp ht λb=>?_)
  obtain ⟨cd,hc,hd'⟩:=PySem.W.any_some hh
  have hx:s.heap.get? x=some ⟨.ref C,some dx,.plain,#[]⟩:=I.obj
  refine wpAny_bind (wpAny_pure (wpAny_bind (wpAny_bind (wpAny_loadPart hx (wpAny_bind (PySem.W.Looks.here (s:={ s with toks:=s.toks+1 }) (PySem.W.looks_clsIn X hc) ?_))))))
  rw [hd']
  refine wpAny_pure (a:=some dx) (wpAny_bind (wpAny_pure (wpAny_bind ?_)))
  refine wpAny_nsSet1 (s:={ s with toks:=s.toks+1 }) I.ns λh' hn2 hs2=>?_
  obtain ⟨oD,esD,epD,hoD,hdD,hcD⟩:=hn2.count (PySem.Within.cons name v hw)
  refine wpAny_bind (wpAny_lookBehind hoD (by rw [hdD]; exact pastItsLine_dict (Nat.le_trans hcD (by rw [length_cons]; omega))) ?_)
  exact wpAny_pure (h _ ⟨(hs2.2 _ (Ne.symm I.ne)).trans I.obj,hn2,I.ne⟩ hs2)
theorem ZlF {R:Result->Shared->Prop} {vs:List Value} {kw:List (Str×Value)} (X:K.In s.heap) (hm:PySem.W.makesIn K C=true)
    (hi:PySem.W.findIn K (.ref C) "__init__" = some (some (.ref f))) (hf:PySem.W.typeIn K (.ref f)=some (.type "function"))
    (h:codeAny (model prog w) (A.under (.builtin "type.__call__" ⟨.ref C :: vs,kw⟩)) (.call (.ref f) ⟨.ref (s.heap.objs.size+1) :: vs,kw⟩) (PySem.W.InitBack (s.heap.objs.size+1) R)
      { s with heap:=(s.heap.push PySem.W.emptyDict).push (PySem.W.instObj C s.heap.objs.size) }) :
    codeAny (model prog w) A (.call (.ref C) ⟨vs,kw⟩) R s:=by
  obtain ⟨hh,g,d,t,os⟩:=s
  exact PySem.W.make_core (PySem.W.makes_of X hm) (PySem.W.looks_findIn X hi) (λself=>PySem.W.bind_fn X self hf) (.inl rfl) h
end
def putF (f:Str) (v:V):List (Str×V)->List (Str×V)
  | []=>[(f,v)]
  | (g,x) :: r=>if g=f then (g,v) :: r else (g,x) :: putF f v r
theorem Zf (f g:Str) (v:V):∀ fs:List (Str×V),(putF f v fs).lookup g=if g=f then some v else fs.lookup g
  | []=>by
    show List.lookup g [(f,v)]=_
    by_cases h:g=f
    . have hb:(g == f)=true:=beq_iff_eq.mpr h
      simp only [List.lookup,hb,if_pos h]
    . have hb:(g == f)=false:=beq_eq_false_iff_ne.mpr h
      simp only [List.lookup,hb,if_neg h]
  | (k,x) :: r=>by
    have ih:=Zf f g v r
    rw [show putF f v ((k,x) :: r)=(if k=f then (k,v) :: r else (k,x) :: putF f v r) from rfl]
    by_cases hk:k=f
    . rw [if_pos hk]
      by_cases h:g=k
      . have hb:(g == k)=true:=beq_iff_eq.mpr h
        simp only [List.lookup,hb,if_pos (h.trans hk)]
      . have hb:(g == k)=false:=beq_eq_false_iff_ne.mpr h
        simp only [List.lookup,hb,if_neg (λe:g=f=>h (e.trans hk.symm))]
    . rw [if_neg hk]
      by_cases h:g=k
      . have hb:(g == k)=true:=beq_iff_eq.mpr h
        simp only [List.lookup,hb,if_neg (λe:g=f=>hk (h.symm.trans e))]
      . have hb:(g == k)=false:=beq_eq_false_iff_ne.mpr h
        simp only [List.lookup,hb]
        exact ih
theorem Zeh (f:Str) (v:V):∀ fs:List (Str×V),f∈(putF f v fs).map (·.1)/\∀ g,g∈fs.map (·.1)->g∈(putF f v fs).map (·.1)
  | []=>⟨by simp [putF],λg h=>by simp at h⟩
  | (k,x) :: r=>by
    obtain ⟨i1,i2⟩:=Zeh f v r
    rw [show putF f v ((k,x) :: r)=(if k=f then (k,v) :: r else (k,x) :: putF f v r) from rfl]
    by_cases hk:k=f
    . rw [if_pos hk]
      subst hk
      exact ⟨by simp,λg h=>by simpa using h⟩
    . rw [if_neg hk]
      refine ⟨?_,λg h=>?_⟩
      . rw [map_cons]
        exact mem_cons_of_mem _ i1
      . rw [map_cons] at h ⊢
        rcases List.mem_cons.mp h with e | e
        . exact List.mem_cons.mpr (.inl e)
        . exact mem_cons_of_mem _ (i2 g e)
theorem Zei (f:Str) (v:V):∀ fs:List (Str×V),(putF f v fs).length<=fs.length+1
  | []=>by simp [putF]
  | (k,x) :: r=>by
    have ih:=Zei f v r
    rw [show putF f v ((k,x) :: r)=(if k=f then (k,v) :: r else (k,x) :: putF f v r) from rfl]
    by_cases hk:k=f
    . rw [if_pos hk,length_cons,length_cons]; omega
    . rw [if_neg hk,length_cons,length_cons]; omega
theorem RelO.some_of {v:V} {o:Option Value} (r:RelO (some v) o):∃ u,o=some u/\RelV v u:=by
  cases o with
  | none=>exact (show False from r).elim
  | some u=>exact ⟨u,rfl,r⟩
theorem RelO.none_of {o:Option Value} (r:RelO none o):o=none:=by
  cases o with
  | none=>rfl
  | some u=>exact (show False from r).elim
theorem Zki {v:V} {u:Value} (r:RelV v u):PySem.W.handedIn u=true:=by
  cases v with
  | non=>cases (show u=Value.none from r); rfl
  | bl b=>cases (show u=Value.bool b from r); rfl
  | int i=>obtain ⟨t,e⟩:=(show ∃ t,u=Value.int i t from r); cases e; rfl
  | str x=>obtain ⟨t,e⟩:=(show ∃ t,u=Value.str x t from r); cases e; rfl
  | byt b=>obtain ⟨t,e⟩:=(show ∃ t,u=Value.bytes b t from r); cases e; rfl
  | flt b=>obtain ⟨t,e⟩:=(show ∃ t,u=Value.float b t from r); cases e; rfl
  | ref a=>cases (show u=Value.ref a from r); rfl
  | ty n=>cases (show u=Value.type n from r); rfl
section
variable {P:Program} {w:World} {H H':Hp} {h h':Heap} {a C dx:Addr} {fs fs':List (Str×V)}
theorem ZfB (hok:HOk P w H h) (e:H a=some (.ins C dx fs)):∃ mA,ObjM h a dx C mA/\(∀ f,RelO (fs.lookup f) (mA f))/\PySem.Within mA (fs.map (·.1))/\fs.length<=1000/\H dx=some (.own a):=by
  obtain ⟨d,z,ne,ob,mA,n,r,q⟩:=(show ObjOk P w H h a (.ins C dx fs) from hok a _ e)
  exact ⟨mA,⟨ob,n,ne⟩,r,q,z,d⟩
end
structure Cls (K:PySem.W.Frag) (C:Addr):Prop where
  pg:PySem.W.plainGet K C Str.empty=true
  hd:PySem.W.hasDictIn K C=true
  po:PySem.W.plainOver K C=true
  sa:PySem.W.findIn K (.ref C) "__setattr__" = some (some (.builtin "object.__setattr__"))
theorem Cls.get {K:PySem.W.Frag} {C:Addr} (c:Cls K C) (f:Str):PySem.W.plainGet K C f=true:=c.pg
def NoAttr (K:PySem.W.Frag) (C:Addr) (f:Str):Prop:=PySem.W.findIn K (.ref C) f=some none
theorem NoAttr.taker {K:PySem.W.Frag} {C:Addr} {f:Str} (n:NoAttr K C f):PySem.W.takerIn K C f=some none:=by
  unfold PySem.W.takerIn
  rw [show PySem.W.findIn K (.ref C) f=some none from n]
  rfl
structure Meth (K:PySem.W.Frag) (C:Addr) (m:Str) (f:Addr):Prop where
  at_:PySem.W.findIn K (.ref C) m=some (some (.ref f))
  fn:PySem.W.isFn K (.ref f)=true
  kp:PySem.W.keepIn K (.ref f)=true
section
variable {X:Cx} {pins:List (Addr×Obj)} {σ:St} {H:Hp} {s:Shared} {a C dx:Addr} {fs:List (Str×V)} {f:Str} {v:V} {A:Around} {E:Value->Shared->Prop}
theorem Zju {b:Bool} {Q:Value->Shared->Prop} (I:Inv X pins σ H s) (e:H a=some (.ins C dx fs)) (c:Cls X.K C) (n:NoAttr X.K C f) (l:fs.lookup f=some v)
    (h:∀ u s',Inv X pins σ H s'->RelV v u->Q u s'):wpAny (model X.prog X.w) A (getAttr (.ref a) f b) Q E s:=by
  obtain ⟨mA,O,r,_,_,_⟩:=ZfB I.hok e
  obtain ⟨u,hu,ru⟩:=RelO.some_of (v:=v) (o:=mA f) (by rw [← l]; exact r f)
  exact ZmV I.kIn O (c.get f) c.hd n hu (Zki ru) (h u _ (I.tok _) ru)
theorem Zfm {m:Str} {g:Addr} {pl:Sem Bool} {Q:Value×List Value->Shared->Prop} (I:Inv X pins σ H s) (e:H a=some (.ins C dx fs)) (c:Cls X.K C) (k:Meth X.K C m g) (l:fs.lookup m=none)
    (h:Q (.ref g,[.ref a]) s):wpAny (model X.prog X.w) A (getMethod (.ref a) m pl) Q E s:=by
  obtain ⟨mA,O,r,_,_,_⟩:=ZfB I.hok e
  have hn:mA m=none:=RelO.none_of (by rw [← l]; exact r m)
  exact ZlE I.kIn O (c.get m) k.at_ k.fn hn h
theorem Zjv {y:V} {u:Value} {Q:Unit->Shared->Prop} (I:Inv X pins σ H s) (e:H a=some (.ins C dx fs)) (c:Cls X.K C) (n:NoAttr X.K C f) (hl:fs.length<1000) (ry:RelV y u)
    (h:∀ s',Inv X pins σ (upd H a (.ins C dx (putF f y fs))) s'->Q () s'):wpAny (model X.prog X.w) A (setAttr (.ref a) f u) Q E s:=by
  obtain ⟨mA,O,r,wi,_,ho⟩:=ZfB I.hok e
  have hz:(fs.map (·.1)).length<=sizeLine:=by rw [length_map,sizeLine_eq]; omega
  refine ZmW I.kIn O c.sa c.po n.taker c.hd wi hz λh' O' sb=>h _ ?_
  have hd:∃ o,h'.get? dx=some o:=let ⟨o,_,_,e',_⟩:=O'.ns; ⟨o,e'⟩
  refine I.write (x:=a) (e:=dx) (by rw [e]; exact True.intro) (.inr ho) (λb q hb z=>(sb.2 b hb).trans z) hd ?_
  refine ⟨by rw [Zb O.ne]; exact ho,?_,O.ne,O'.obj,_,O'.ns,λg=>?_,λg hg=>?_⟩
  . have:=Zei f y fs; omega
  . show RelO ((putF f y fs).lookup g) (if g=f then some u else mA g)
    rw [Zf]
    by_cases q:g=f
    . rw [if_pos q,if_pos q]; exact ry
    . rw [if_neg q,if_neg q]; exact r g
  . by_cases q:g=f
    . rw [q]; exact (Zeh f y fs).1
    . refine (Zeh f y fs).2 g (wi g λz=>hg ?_)
      show (if g=f then some u else mA g)=none
      rw [if_neg q]; exact z
theorem Inv.made (I:Inv X pins σ H s):Inv X pins σ (upd (upd H s.heap.objs.size (.own (s.heap.objs.size+1))) (s.heap.objs.size+1) (.ins C s.heap.objs.size []))
    { s with heap:=(s.heap.push PySem.W.emptyDict).push (PySem.W.instObj C s.heap.objs.size) }:=by
  have e1:(s.heap.push PySem.W.emptyDict).get? s.heap.objs.size=some PySem.W.emptyDict:=Heap.get?_push_size s.heap rfl
  have e2:((s.heap.push PySem.W.emptyDict).push (PySem.W.instObj C s.heap.objs.size)).get? (s.heap.objs.size+1)=some (PySem.W.instObj C s.heap.objs.size):=by
    have:=Heap.get?_push_size (s.heap.push PySem.W.emptyDict) (o:=PySem.W.instObj C s.heap.objs.size) rfl
    rwa [Heap.size_push] at this
  have e3:(s.heap.push PySem.W.emptyDict).Ns s.heap.objs.size (λ_=>none):=⟨PySem.W.emptyDict,#[],_,e1,rfl,(λe he=>absurd he (by simp)),λ_=>rfl⟩
  have I1:=I.laid (a:=s.heap.objs.size) (o:=.own (s.heap.objs.size+1)) (h':=s.heap.push PySem.W.emptyDict) (t':=s.toks) (λb u q=>Heap.get?_push_of_some _ q) (Nat.le_refl _) ⟨_,e1⟩
  refine I1.laid (a:=s.heap.objs.size+1) (o:=.ins C s.heap.objs.size []) (t':=s.toks) (λb u q=>Heap.get?_push_of_some _ q) (Nat.le_of_eq (Heap.size_push _ _)) ?_
  have ne:s.heap.objs.size≠s.heap.objs.size+1:=Nat.ne_of_lt (Nat.lt_succ_self _)
  refine ⟨by rw [Zb ne,Za],Nat.zero_le _,ne,e2,λ_=>none,(Heap.Ns1.of_empty e3).at λo q=>Heap.get?_push_of_some _ q,λ_=>True.intro,λy hy=>absurd rfl hy⟩
theorem ZmX {prog:Program} {w:World} {env:Env} {e:Expr} {f:Str} {pos:Pos} {s:Shared} {Q:Value->Shared->Prop} (hb:attributeBase e f env (eval e env)=eval e env)
    (h:wpAny (model prog w) A (eval e env) (λo s₁=>wpAny (model prog w) A (getAttr o f true) Q E s₁) E s):wpAny (model prog w) A (eval (.Attribute e f pos) env) Q E s :=
  Attribute_any_ h (by rw [arm_eval_Attribute,hb])
end
def tFld (K:PySem.W.Frag) (ta:TE) (f:Str):TE:=λσ H Q=>ta σ H λx H1=>∃ a C dx fs v,x=.ref a/\H1 a=some (.ins C dx fs)/\Cls K C/\NoAttr K C f/\fs.lookup f=some v/\Q v H1
def sFld (K:PySem.W.Frag) (ta tv:TE) (f:Str):TS:=λD σ H=>tv σ H λy H1=>ta σ H1 λx H2=>∃ a C dx fs,x=.ref a/\H2 a=some (.ins C dx fs)/\Cls K C/\NoAttr K C f/\fs.length<1000 /\
  D.nx σ (upd H2 a (.ins C dx (putF f y fs)))
def InOp (X:Cx) (op:Operator) (rd:V->V->Hp->VK->Prop):Prop :=
  ∀ (pins:List (Addr×Obj)) (s:Shared) (σ:St) (H:Hp) (x y:V) (u v:Value) (Q:VK),Inv X pins σ H s->RelV x u->RelV y v->rd x y H Q->wpAny (model X.prog X.w) X.A (inplaceOp op u v) (EP X pins σ Q) X.xe s
section
variable {X:Cx} {o e value:Expr} {f:Str} {pos pos' tpos:Pos} {ta tv:TE}
theorem ZnW (he:PE X e ta) (hb:attributeBase e f X.env (eval e X.env)=eval e X.env):PE X (.Attribute e f pos) (tFld X.K ta f):=by
  intro pins s σ H Q I h
  refine ZmX hb (thn (he pins s σ H _ I h) λu s1 ⟨x,H1,I1,rx,a,C,dx,fs,v,ex,ea,c,n,l,q⟩=>?_)
  subst ex
  obtain rfl:u=Value.ref a:=rx
  exact Zju I1 ea c n l λu' s2 I2 ru=>⟨v,H1,I2,ru,q⟩
theorem Zbn (ha:PE X o ta) (hv:PE X value tv) (hs:swapsWith value (some (.Attribute o f pos')) pos.line X.env=pure false):PS X (.Assign [.Attribute o f pos'] value pos) (sFld X.K ta tv f):=by
  intro pins s σ H D I h
  refine plainObj_wpAny_Assign_Attribute (thn (hv pins s σ H _ I h) λu s1 ⟨y,H1,I1,ry,q⟩=>thn (ha pins s1 σ H1 _ I1 q) λov s2 ⟨x,H2,I2,rx,a,C,dx,fs,ex,ea,c,n,l,q2⟩=>?_) hs
  subst ex
  obtain rfl:ov=Value.ref a:=rx
  exact Zjv I2 ea c n l ry λs3 I3=>⟨σ,_,I3,q2⟩
def rAdd:V->V->Hp->VK->Prop:=λx y H Q=>∃ i j,x=.int i/\y=.int j/\Q (.int (i+j)) H
theorem ZnX:InOp X .Add rAdd:=by
  rintro pins s σ H x y u v Q I rx ry ⟨i,j,rfl,rfl,q⟩
  obtain ⟨t,rfl⟩:=(show ∃ t,u=Value.int i t from rx)
  obtain ⟨t',rfl⟩:=(show ∃ t',v=Value.int j t' from ry)
  exact PyProof.Rows.iadd_int ⟨.int (i+j),H,I.tok _,⟨_,rfl⟩,q⟩
end
section
variable {X:Cx} {pins:List (Addr×Obj)} {σ:St} {H:Hp} {s:Shared} {A:Around} {E:Value->Shared->Prop} {Q:Value->Shared->Prop} {c:Value} {b:Bool}
inductive TyOf (K:PySem.W.Frag) (H:Hp):V->Value->Prop where
  | non:TyOf K H .non (.type "NoneType")
  | bl (x:Bool):TyOf K H (.bl x) (.type "bool")
  | int (i:Int):TyOf K H (.int i) (.type "int")
  | str (x:Str):TyOf K H (.str x) (.type "str")
  | flt (x:UInt64):TyOf K H (.flt x) (.type "float")
  | lst {a:Addr} {xs:List V} (e:H a=some (.lst xs)):TyOf K H (.ref a) (.type "list")
  | frz {a:Addr} {o:Obj} {xs:List V} (e:H a=some (.frz o (.lst xs))):TyOf K H (.ref a) (.type "list")
  | tup {a:Addr} {xs:List V} (e:H a=some (.tup xs)):TyOf K H (.ref a) (.type "tuple")
  | dK {a:Addr} {kvs:List (Key×V)} (e:H a=some (.dK kvs)):TyOf K H (.ref a) (.type "dict")
  | dT {a:Addr} {kvs:List (List Key×V)} (e:H a=some (.dT kvs)):TyOf K H (.ref a) (.type "dict")
  | ins {a C dx:Addr} {fs:List (Str×V)} (e:H a=some (.ins C dx fs)) (cl:Cls K C) (ha:PySem.W.findIn K (.ref C) "__class__" = some (some (.builtin "object.__class__")))
      (hn:PySem.W.specialIn K (.builtin "object.__class__") "__get__" = some (some (.builtin "getset_descriptor.__get__"))) (htk:PySem.W.takesIn K (.builtin "object.__class__")=some true)
      (hm:PySem.W.mroIn K C (.type "object")=some true):TyOf K H (.ref a) (.ref C)
theorem Zkj {x:V} {u t:Value} (I:Inv X pins σ H s) (rx:RelV x u) (ty:TyOf X.K H x t) (e:PySem.W.kitOne X.K t c=some b) (h:∀ tk,Q (.bool b) { s with toks:=tk }) :
    wpAny (model X.prog X.w) A (call (.builtin "isinstance") [u,c]) Q E s:=by
  cases ty with
  | non=>cases (show u=Value.none from rx); exact PySem.W.kia_one PySem.W.kitx_none I.kIn True.intro e (λz=>nomatch z) h
  | bl y=>cases (show u=Value.bool y from rx); exact PySem.W.kia_one PySem.W.kitx_bool I.kIn True.intro e (λz=>nomatch z) h
  | int i=>obtain ⟨t,q⟩:=(show ∃ t,u=Value.int i t from rx); cases q; exact PySem.W.kia_one PySem.W.kitx_int I.kIn True.intro e (λz=>nomatch z) h
  | str y=>obtain ⟨t,q⟩:=(show ∃ t,u=Value.str y t from rx); cases q; exact PySem.W.kia_one PySem.W.kitx_str I.kIn True.intro e (λz=>nomatch z) h
  | flt y=>obtain ⟨t,q⟩:=(show ∃ t,u=Value.float y t from rx); cases q; exact PySem.W.kia_one PySem.W.kitx_float I.kIn True.intro e (λz=>nomatch z) h
  | @lst a xs ea =>
    cases (show u=Value.ref a from rx)
    obtain ⟨_,_,n,_,h1⟩:=(show ObjOk X.prog X.w H s.heap a (.lst xs) from I.hok a _ ea)
    exact PySem.W.kia_one PySem.W.kitx_list I.kIn ⟨_,h1,rfl⟩ e (λz=>nomatch z) h
  | @frz a ob xs ea =>
    cases (show u=Value.ref a from rx)
    obtain ⟨_,_,_,n,_,h1⟩:=(show ObjOk X.prog X.w H s.heap a (.frz ob (.lst xs)) from I.hok a _ ea)
    exact PySem.W.kia_one PySem.W.kitx_list I.kIn ⟨_,h1,rfl⟩ e (λz=>nomatch z) h
  | @tup a xs ea =>
    cases (show u=Value.ref a from rx)
    obtain ⟨_,_,_,p⟩:=(show ObjOk X.prog X.w H s.heap a (.tup xs) from I.hok a _ ea)
    obtain ⟨o,h1,h2,_⟩:=p
    exact PySem.W.kia_one PySem.W.kitx_tuple I.kIn ⟨o,h1,h2⟩ e (λz=>nomatch z) h
  | @dK a kvs ea =>
    cases (show u=Value.ref a from rx)
    obtain ⟨_,_,vs,_,p⟩:=(show ObjOk X.prog X.w H s.heap a (.dK kvs) from I.hok a _ ea)
    obtain ⟨o,es,ep,h1,h2,_⟩:=p
    exact PySem.W.kia_one PySem.W.kitx_dict I.kIn ⟨o,h1,h2.1⟩ e (λz=>nomatch z) h
  | @dT a kvs ea =>
    cases (show u=Value.ref a from rx)
    obtain ⟨_,_,xs,_,o,es,ep,h1,h2,_⟩:=(show ObjOk X.prog X.w H s.heap a (.dT kvs) from I.hok a _ ea)
    exact PySem.W.kia_one PySem.W.kitx_dict I.kIn ⟨o,h1,h2.1⟩ e (λz=>nomatch z) h
  | @ins a C dx fs ea cl ha hn htk hm =>
    cases (show u=Value.ref a from rx)
    obtain ⟨mA,O,_⟩:=ZfB I.hok ea
    obtain ⟨od,J,_⟩:=O.look
    exact PySem.W.kia_one (PySem.W.kitx_own (cl.get _) cl.hd ha hn htk hm) I.kIn J e (λz=>nomatch z) h
end
end L2
namespace L2
open PySem PySem.Spec PyProof.Rows
structure Room (k:Nat) (A:Around):Prop where
  hd:A.handled=none
  dp:A.depth+3 * k+5<recursionLimit
  un:A.units+16 * k+200<cLine
  gd:A.guards=some []
theorem Room.mono {j k:Nat} {A:Around} (r:Room k A) (h:j<=k):Room j A:=⟨r.hd,by have:=r.dp; omega,by have:=r.un; omega,r.gd⟩
theorem Room.deeper {k:Nat} {A:Around} (r:Room (k+1) A) (env:Env):Room k (A.deeper env) :=
  ⟨r.hd,by have:=r.dp; show A.depth+1+3 * k+5<_; omega,by have:=r.un; show A.units+3+16 * k+200<_; omega,r.gd⟩
theorem Zjw {A:Around} {C:Addr} {us:List Value} {kw:List (Str×Value)}:(A.under (.builtin "type.__call__" ⟨.ref C :: us,kw⟩)).depth=A.depth+1:=by
  first | rfl | simp [Around.under,Code.weight,Code.isCreation,Code.isGuard,Code.isCaller,Code.frames,Code.isFrame,guardIds]
theorem Zjx {A:Around} {C:Addr} {us:List Value} {kw:List (Str×Value)}:(A.under (.builtin "type.__call__" ⟨.ref C :: us,kw⟩)).units=A.units+1:=by
  first | rfl | simp [Around.under,Code.cUnits,Code.frames,Code.isFrame]
theorem Room.make {k:Nat} {A:Around} (r:Room (k+1) A) (C:Addr) (us:List Value) (kw:List (Str×Value)):Room k (A.under (.builtin "type.__call__" ⟨.ref C :: us,kw⟩)) :=
  ⟨r.hd,by have:=r.dp; rw [Zjw]; omega,by have:=r.un; rw [Zjx]; omega,r.gd⟩
theorem Room.depth {k:Nat} {A:Around} (r:Room k A):A.depth<recursionLimit:=by have:=r.dp; omega
theorem Room.units {k:Nat} {A:Around} (r:Room k A):A.units+64<cLine:=by have:=r.un; omega
def tNil:TA:=λ_ H Q=>Q [] H
def tCons (ta:TE) (tr:TA):TA:=λσ H Q=>ta σ H λx H1=>tr σ H1 λxs H2=>Q (x :: xs) H2
section
variable {X:Cx} {e:Expr} {es:List Expr} {te:TE} {t:TA} {pos:Pos}
theorem Ze:PA X [] tNil:=λ_ _ _ _ H Q I h=>Calls.spliced_nil ⟨[],H,I,.nil,h⟩
theorem ZmY (ha:PE X e te) (hr:PA X es t) (hs:starEach (e :: es) X.env=(false,eval e X.env) :: starEach es X.env:=by rfl):PA X (e :: es) (tCons te t):=by
  intro pos pins s σ H Q I h
  rw [hs]
  show wpAny _ _ (spliced ((false,eval e X.env) :: backTo pos (starEach es X.env))) _ _ s
  refine Calls.spliced_cons (thn (ha pins s σ H _ I h) λu s1 ⟨x,H1,I1,r1,q1⟩=>?_)
  exact thn (hr pos pins s1 σ H1 _ I1 q1) λus s2 ⟨xs,H2,I2,r2,q2⟩=>⟨x :: xs,H2,I2,.cons r1 r2,q2⟩
def tTup (t:TA):TE:=λσ H Q=>t σ H λxs H1=>xs.length<=sizeLine/\∀ p,H1 p=none->Q (.ref p) (upd H1 p (.tup xs))
def tLst (t:TA):TE:=λσ H Q=>t σ H λxs H1=>xs.length<=sizeLine/\∀ p,H1 p=none->Q (.ref p) (upd H1 p (.lst xs))
theorem Zbg {x1} (h:PA X es t):PE X (.Tuple es x1 pos) (tTup t):=by
  intro pins s σ H Q I hq
  refine wpAny_Tuple_spliced (thn (h pos pins s σ H _ I hq) λus s1 ⟨xs,H1,I1,r,z,q⟩=>⟨by rw [← r.length]; exact z,?_⟩)
  have hf:H1 s1.heap.objs.size=none:=I1.hok.fresh (Nat.le_refl _)
  refine ⟨.ref s1.heap.objs.size,upd H1 s1.heap.objs.size (.tup xs),I1.laid (t':=s1.toks) (λb u e=>Heap.get?_push_of_some _ e) (Nat.le_refl _) ?_,rfl,q _ hf⟩
  exact ⟨z,us,r,⟨_,Heap.get?_push_size _ rfl,rfl,_,rfl⟩⟩
theorem Zcc (h:PA X es t):PE X (.List es pos) (tLst t):=by
  intro pins s σ H Q I hq
  refine wpAny_List_spliced (thn (h pos pins s σ H _ I hq) λus s1 ⟨xs,H1,I1,r,z,q⟩=>⟨by rw [← r.length]; exact z,?_⟩)
  have hf:H1 s1.heap.objs.size=none:=I1.hok.fresh (Nat.le_refl _)
  refine ⟨.ref s1.heap.objs.size,upd H1 s1.heap.objs.size (.lst xs),I1.laid (t':=s1.toks) (λb u e=>Heap.get?_push_of_some _ e) (Nat.le_refl _) ?_,rfl,q _ hf⟩
  exact ⟨z,us,0,r,Heap.get?_push_size _ rfl⟩
end
abbrev Sp:=List V->Hp->VK->XK->Prop
abbrev CXT:=List Env->Hp->Shared->XK->Value->Shared->Prop
structure Env0 (P:Program) (w:World) (K:PySem.W.Frag) (mg:Str->Option Value) (base:Heap) (A:Around) (outer:List Env) (s:Shared) (H:Hp):Prop where
  frames:A.frames=some outer
  mod:Mod K mg base
  bs:∀ b o,base.get? b=some o->s.heap.get? b=some o/\H b=none
  bsz:base.objs.size<=s.heap.objs.size
  funs:s.heap.FunFrames base outer
  frf:∀ b∈frs outer,H b=none
  hok:HOk P w H s.heap
  bare:AllBare s.gens
def CE (outer:List Env) (P:Program) (w:World) (H:Hp) (s:Shared) (Q:VK) (u:Value) (s':Shared):Prop :=
  ∃ v H',s'.os=s.os/\AllBare s'.gens/\Un (frs outer) [] H H' s.heap s'.heap/\HOk P w H' s'.heap/\RelV v u/\Q v H'
def CR (CX:CXT) (outer:List Env) (P:Program) (w:World) (H:Hp) (s:Shared) (Q:VK) (E:XK) (r:Result) (s':Shared):Prop :=
  match r with
  | .ok (.ret u)=>CE outer P w H s Q u s'
  | .ok _=>False
  | .error e=>CX outer H s E e s'
structure FnOk (P:Program) (w:World) (K:PySem.W.Frag) (mg:Str->Option Value) (base:Heap) (CX:CXT) (k:Nat) (f:Addr) (fd:FuncData) (ps:List Str) (sp:Sp):Prop where
  len:∀ vs H Q E,sp vs H Q E->vs.length=ps.length
  run:∀ (A:Around) (outer:List Env) (s:Shared) (H:Hp) (args:Args) (us:List Value) (vs:List V) (Q:VK) (E:XK),Room k A->Env0 P w K mg base A outer s H->BindsTo s fd args (ps.zip us)->Vals vs us->sp vs H Q E ->
    codeAny (model P w) A (.call (.ref f) args) (CR CX outer P w H s Q E) s
theorem Env0.make {P:Program} {w:World} {K:PySem.W.Frag} {mg:Str->Option Value} {base:Heap} {A:Around} {outer:List Env} {s:Shared} {H:Hp} (e:Env0 P w K mg base A outer s H) (C:Addr) (us:List Value) (kw:List (Str×Value)) :
    Env0 P w K mg base (A.under (.builtin "type.__call__" ⟨.ref C :: us,kw⟩)) outer s H:=⟨by first | exact e.frames | (simpa [Around.under,Code.envs,Code.isFrame,pushEnvs] using e.frames),e.mod,e.bs,e.bsz,e.funs,e.frf,e.hok,e.bare⟩
section
variable {X:Cx} {pins:List (Addr×Obj)} {σ:St} {H:Hp} {s s':Shared}
theorem Inv.env0 (I:Inv X pins σ H s):Env0 X.prog X.w X.K X.mg X.base X.A X.stack s H :=
  ⟨I.ok.frames,I.ok.mod,I.bs,Nat.le_trans I.ok.bsz I.sz,I.stack,I.stkFree,I.hok,I.bare⟩
theorem Inv.after {Q:VK} {u:Value} (I:Inv X pins σ H s) (h:CE X.stack X.prog X.w H s Q u s'):EP X pins σ Q u s':=by
  obtain ⟨v,H',os,bare,un,hok,r,q⟩:=h
  obtain ⟨hh,g,d,t,os'⟩:=s'
  obtain rfl:os'=s.os:=os
  exact ⟨v,H',I.call (h':=hh) (g':=g) (d':=d) (t':=t) (ch:=[]) un hok bare (λb z=>absurd z (by simp)),r,q⟩
end
def tCall (sp:Sp) (dvs:List V) (E:XK) (t:TA):TE:=λσ H Q=>t σ H λvs H1=>sp (vs++dvs) H1 Q E
def tMeth (C:Addr) (m:Str) (sp:Sp) (dvs:List V) (E:XK) (ta:TE) (t:TA):TE:=λσ H Q=>ta σ H λx H1=>∃ a dx fs,x=.ref a/\H1 a=some (.ins C dx fs)/\fs.lookup m=none /\
  t σ H1 λvs H2=>sp (x :: (vs++dvs)) H2 Q E
def tMake (C:Addr) (sp:Sp) (dvs:List V) (E:XK) (t:TA):TE:=λσ H Q=>t σ H λvs H1=>∀ x dx,H1 x=none->H1 dx=none->dx≠x ->
  sp (.ref x :: (vs++dvs)) (upd (upd H1 dx (.own x)) x (.ins C dx [])) (λv H2=>v=.non/\Q (.ref x) H2) E
def Binds (K:PySem.W.Frag) (fd:FuncData) (ps:List Str) (ds:List Value):Prop :=
  ∀ (s:Shared) (us:List Value),K.In s.heap->(us++ds).length=ps.length->BindsTo s fd ⟨us,[]⟩ (ps.zip (us++ds))
theorem Binds.all {K:PySem.W.Frag} {fd:FuncData} {ps:List Str} (h:∀ us:List Value,us.length=ps.length->bindArgs fd ⟨us,[]⟩=pure (ps.zip us)):Binds K fd ps []:=λs us _ hl=>by
  rw [append_nil] at hl ⊢
  exact .of_eq (h us hl)
def Zej (CX:CXT) (X:Cx) (E:XK):Prop:=∀ (pins:List (Addr×Obj)) (σ:St) (H:Hp) (s:Shared) (e:Value) (s':Shared),Inv X pins σ H s->CX X.stack H s E e s'->X.xe e s'
section
variable {X:Cx} {CX:CXT} {k:Nat} {f C:Addr} {fd:FuncData} {ps:List Str} {sp:Sp} {dvs:List V} {ds:List Value} {E:XK} {x m:Str} {p pos apos:Pos} {e o:Expr} {es:List Expr} {ta:TE} {t:TA}
theorem ZiH {pins:List (Addr×Obj)} {σ:St} {H:Hp} {s:Shared} {Q:VK} {us:List Value} {vs:List V} (F:FnOk X.prog X.w X.K X.mg X.base CX k f fd ps sp) (hr:Room k X.A) (hb:Binds X.K fd ps ds) (hd:Vals dvs ds) (hx:Zej CX X E)
    (I:Inv X pins σ H s) (r:Vals vs us) (h:sp (vs++dvs) H Q E):wpAny (model X.prog X.w) X.A (call (.ref f) us) (EP X pins σ Q) X.xe s:=by
  have r2:Vals (vs++dvs) (us++ds):=r.append hd
  have hl:(us++ds).length=ps.length:=by rw [← r2.length]; exact F.len _ _ _ _ h
  refine wpAny_call (codeAny_mono (F.run X.A X.stack s H ⟨us,[]⟩ (us++ds) (vs++dvs) Q E hr I.env0 (hb s us I.kIn hl) r2 h) λr s' hq=>?_)
  cases r with
  | error e=>exact hx pins σ H s e s' I hq
  | ok fl =>
    cases fl with
    | ret u=>exact I.after hq
    | next=>exact False.elim hq
    | brk=>exact False.elim hq
    | cont=>exact False.elim hq
theorem ZmZ (F:FnOk X.prog X.w X.K X.mg X.base CX k f fd ps sp) (hr:Room k X.A) (hg:Gl X x) (hm:X.mg x=some (.ref f)) (hk:PySem.W.keepIn X.K (.ref f)=true) (hb:Binds X.K fd ps ds) (hd:Vals dvs ds) (hx:Zej CX X E)
    (ha:PA X (e :: es) t) (hdb:(x == ("__debug__" : Str))=false:=by decide) (he:starEach (e :: es) X.env=(false,eval e X.env) :: starEach es X.env:=by rfl) (hpl:(backTo pos (starEach es X.env)).any (·.1)=false:=by rfl) :
    PE X (.Call (.Name x p) (e :: es) [] pos) (tCall sp dvs E t):=by
  intro pins s σ H Q I h
  refine wpAny_Call_Name_kw (ZhJ I hg hm ?_ hdb)
  refine PySem.W.callWith_K (h₀:=X.base) I.ok.mod.kin hk (thn (ha pos pins s σ H _ I h) λus s1 ⟨vs,H1,I1,r,q⟩=>⟨I1.kIn,?_⟩) he hpl
  exact ZiH F hr hb hd hx I1 r q
theorem Zna {pl:Sem Bool} (he:PE X o ta) (c:Cls X.K C) (hm:Meth X.K C m f) (F:FnOk X.prog X.w X.K X.mg X.base CX k f fd ps sp) (hr:Room k X.A) (hb:Binds X.K fd ps ds) (hd:Vals dvs ds) (hx:Zej CX X E) (ha:PA X (e :: es) t)
    (hst:starEach (e :: es) X.env=(false,eval e X.env) :: starEach es X.env:=by rfl) (hpl:(backTo pos (starEach es X.env)).any (·.1)=false:=by rfl)
    (ht:eval (.Call (.Attribute o m apos) (e :: es) [] pos) X.env=(do
      let ov ← eval o X.env
      standAt apos.atName
      let (f,first) ← holding [ov] (getMethod ov m pl)
      callWith pos f first (backTo pos (starEach (e :: es) X.env)) (backToKw pos (keywordEach [] X.env))):=by rfl) :
    PE X (.Call (.Attribute o m apos) (e :: es) [] pos) (tMeth C m sp dvs E ta t):=by
  intro pins s σ H Q I h
  refine PySem.W.methodCall_KW (pl:=pl) (thn (he pins s σ H _ I h) λu s1 ⟨x,H1,I1,rx,a,dx,fs,ex,ea,l,q⟩=>?_) ht
  subst ex
  obtain rfl:u=Value.ref a:=rx
  refine Zfm I1 ea c hm l ?_
  refine PySem.W.callWith_K (first:=[.ref a]) (h₀:=X.base) I.ok.mod.kin hm.kp (thn (ha pos pins s1 σ H1 _ I1 q) λus s2 ⟨vs,H2,I2,r,q2⟩=>⟨I2.kIn,?_⟩) hst hpl
  exact ZiH (us:=.ref a :: us) (vs:=.ref a :: vs) F hr hb hd hx I2 (.cons rfl r) q2
theorem ZlG {pl:Sem Bool} (he:PE X o ta) (c:Cls X.K C) (hm:Meth X.K C m f) (F:FnOk X.prog X.w X.K X.mg X.base CX k f fd ps sp) (hr:Room k X.A) (hb:Binds X.K fd ps ds) (hd:Vals dvs ds) (hx:Zej CX X E)
    (ht:eval (.Call (.Attribute o m apos) [] [] pos) X.env=(do
      let ov ← eval o X.env
      standAt apos.atName
      let (f,first) ← holding [ov] (getMethod ov m pl)
      callWith pos f first (backTo pos (starEach [] X.env)) (backToKw pos (keywordEach [] X.env))):=by rfl) :
    PE X (.Call (.Attribute o m apos) [] [] pos) (tMeth C m sp dvs E ta tNil):=by
  intro pins s σ H Q I h
  refine PySem.W.methodCall_KW (pl:=pl) (thn (he pins s σ H _ I h) λu s1 ⟨x,H1,I1,rx,a,dx,fs,ex,ea,l,q⟩=>?_) ht
  subst ex
  obtain rfl:u=Value.ref a:=rx
  refine Zfm I1 ea c hm l ?_
  exact PySem.W.callWith_K0 (first:=[.ref a]) I1.kIn hm.kp (ZiH (us:=[.ref a]) (vs:=[.ref a]) F hr hb hd hx I1 (.cons rfl .nil) q)
structure Mk (K:PySem.W.Frag) (C f:Addr):Prop where
  makes:PySem.W.makesIn K C=true
  init:PySem.W.findIn K (.ref C) "__init__" = some (some (.ref f))
  fn:PySem.W.isFn K (.ref f)=true
  kp:PySem.W.keepIn K (.ref C)=true
theorem ZlH {pins:List (Addr×Obj)} {σ:St} {H:Hp} {s:Shared} {Q:VK} {us:List Value} {vs:List V} (M:Mk X.K C f) (F:FnOk X.prog X.w X.K X.mg X.base CX k f fd ps sp) (hr:Room (k+1) X.A) (hb:Binds X.K fd ps ds) (hd:Vals dvs ds)
    (hx:Zej CX X E) (I:Inv X pins σ H s) (r:Vals vs us)
    (h:∀ x dx,H x=none->H dx=none->dx≠x->sp (.ref x :: (vs++dvs)) (upd (upd H dx (.own x)) x (.ins C dx [])) (λv H2=>v=.non/\Q (.ref x) H2) E) :
    wpAny (model X.prog X.w) X.A (call (.ref C) us) (EP X pins σ Q) X.xe s:=by
  have hq:=h (s.heap.objs.size+1) s.heap.objs.size (I.hok.fresh (Nat.le_succ _)) (I.hok.fresh (Nat.le_refl _)) (Nat.ne_of_lt (Nat.lt_succ_self _))
  have I2:=Inv.made (C:=C) I
  have r2:Vals (V.ref (s.heap.objs.size+1) :: (vs++dvs)) (Value.ref (s.heap.objs.size+1) :: (us++ds)):=.cons rfl (r.append hd)
  have hl:(Value.ref (s.heap.objs.size+1) :: us++ds).length=ps.length:=by
    have e:=r2.length
    rw [F.len _ _ _ _ hq] at e
    exact e.symm
  refine wpAny_call (ZlF (f:=f) I.kIn M.makes M.init (beq_iff_eq.mp M.fn) (codeAny_mono (F.run _ X.stack _ _ ⟨Value.ref (s.heap.objs.size+1) :: us,[]⟩ (Value.ref (s.heap.objs.size+1) :: (us++ds)) _ _ E (hr.make C us [])
    (I2.env0.make C us []) (hb _ (Value.ref (s.heap.objs.size+1) :: us) I2.kIn hl) r2 hq) λr s' hq'=>?_))
  cases r with
  | error e=>exact hx pins σ _ _ e s' I2 hq'
  | ok fl =>
    cases fl with
    | ret u =>
      obtain ⟨v,H',I3,rv,ev,q3⟩:=I2.after hq'
      subst ev
      exact ⟨rv,⟨V.ref (s.heap.objs.size+1),H',I3,rfl,q3⟩⟩
    | next=>exact False.elim hq'
    | brk=>exact False.elim hq'
    | cont=>exact False.elim hq'
theorem Znb (M:Mk X.K C f) (F:FnOk X.prog X.w X.K X.mg X.base CX k f fd ps sp) (hr:Room (k+1) X.A) (hg:Gl X x) (hm:X.mg x=some (.ref C)) (hb:Binds X.K fd ps ds) (hd:Vals dvs ds) (hx:Zej CX X E)
    (ha:PA X (e :: es) t) (hdb:(x == ("__debug__" : Str))=false:=by decide) (he:starEach (e :: es) X.env=(false,eval e X.env) :: starEach es X.env:=by rfl) (hpl:(backTo pos (starEach es X.env)).any (·.1)=false:=by rfl) :
    PE X (.Call (.Name x p) (e :: es) [] pos) (tMake C sp dvs E t):=by
  intro pins s σ H Q I h
  refine wpAny_Call_Name_kw (ZhJ I hg hm ?_ hdb)
  refine PySem.W.callWith_K (h₀:=X.base) I.ok.mod.kin M.kp (thn (ha pos pins s σ H _ I h) λus s1 ⟨vs,H1,I1,r,q⟩=>⟨I1.kIn,?_⟩) he hpl
  exact ZlH M F hr hb hd hx I1 r q
end
structure FnScope (N P:List Str) (sc:Scope):Prop where
  kind:sc.kind=.function
  co:sc.isCoroutine=false
  gen:sc.isGenerator=false
  nd:N.Nodup
  pre:N.take P.length=P
  par:∀ x∈P,sc.names.lookup x=some .local\/sc.names.lookup x=some .cell
  nofree:∀ y∈sc.names,y.2≠.free
theorem ZgB {kindOf:Str->Option NameKind} {x:Str}:∀ {binds:List (Str×Value)} {m:Str->Option Value},(∀ v,(x,v)∉binds)->bindL kindOf binds m x=m x
  | [],_,_=>rfl
  | (n,v) :: r,m,h=>by
    unfold bindL
    rw [ZgB λw hw=>h w (mem_cons_of_mem _ hw)]
    split
    . have:x≠n:=by rintro rfl; exact h v mem_cons_self
      simp [this]
    . rfl
theorem ZgC {kindOf:Str->Option NameKind} {x:Str}:∀ {binds:List (Str×Value)} {m:Str->Option Value},(∀ v,(x,v)∉binds)->bindC kindOf binds m x=m x
  | [],_,_=>rfl
  | (n,v) :: r,m,h=>by
    unfold bindC
    rw [ZgC λw hw=>h w (mem_cons_of_mem _ hw)]
    split
    . rfl
    . have:x≠n:=by rintro rfl; exact h v mem_cons_self
      simp [this]
theorem ZgD {kindOf:Str->Option NameKind} {x:Str} {v:Value}:∀ {P:List Str} {vs:List Value} {i:Nat} {m:Str->Option Value},P.Nodup->P[i]?=some x->vs[i]?=some v->kindOf x=some .local ->
    bindL kindOf (P.zip vs) m x=some v
  | [],_,_,_,_,h,_,_=>by simp at h
  | _ :: _,[],_,_,_,_,h,_=>by simp at h
  | p :: P,w :: vs,0,m,nd,h1,h2,hk=>by
    simp at h1 h2; subst h1; subst h2
    show bindL kindOf ((p,w) :: P.zip vs) m p=_
    unfold bindL
    rw [ZgB λv hv=>(List.nodup_cons.mp nd).1 (List.of_mem_zip hv).1,if_pos hk]
    simp
  | p :: P,w :: vs,i+1,m,nd,h1,h2,hk=>by
    show bindL kindOf ((p,w) :: P.zip vs) m x=_
    unfold bindL
    exact ZgD (i:=i) (List.nodup_cons.mp nd).2 (by simpa using h1) (by simpa using h2) hk
theorem ZgE {kindOf:Str->Option NameKind} {x:Str} {v:Value}:∀ {P:List Str} {vs:List Value} {i:Nat} {m:Str->Option Value},P.Nodup->P[i]?=some x->vs[i]?=some v->kindOf x≠some .local ->
    bindC kindOf (P.zip vs) m x=some v
  | [],_,_,_,_,h,_,_=>by simp at h
  | _ :: _,[],_,_,_,_,h,_=>by simp at h
  | p :: P,w :: vs,0,m,nd,h1,h2,hk=>by
    simp at h1 h2; subst h1; subst h2
    show bindC kindOf ((p,w) :: P.zip vs) m p=_
    unfold bindC
    rw [ZgC λv hv=>(List.nodup_cons.mp nd).1 (List.of_mem_zip hv).1,if_neg hk]
    simp
  | p :: P,w :: vs,i+1,m,nd,h1,h2,hk=>by
    show bindC kindOf ((p,w) :: P.zip vs) m x=_
    unfold bindC
    exact ZgE (i:=i) (List.nodup_cons.mp nd).2 (by simpa using h1) (by simpa using h2) hk
def start (N:List Str) (vs:List V):St:=vs.map some++List.replicate (N.length - vs.length) none
def cxOf (CX:CXT) (P:Program) (w:World) (K:PySem.W.Frag) (mg:Str->Option Value) (base:Heap) (N:List Str) (qual:Str) (scope:Scope) (f:Addr) (cd:Value) (A:Around) (outer:List Env) (s:Shared) (H:Hp) (E:XK):Cx where
  prog:=P
  w:=w
  K:=K
  mg:=mg
  base:=base
  A:=A.deeper (envOfC qual scope s.heap.objs.size f cd)
  N:=N
  s₀:=s
  H₀:=H
  env:=envOfC qual scope s.heap.objs.size f cd
  outer:=outer
  stack:=envOfC qual scope s.heap.objs.size f cd :: outer
  ex:=[]
  calm:=true
  fn:=λ_=>true
  pn:=[]
  xe:=λe s'=>wpAny (model P w) (A.deeper (envOfC qual scope s.heap.objs.size f cd)) (leaving (envOfC qual scope s.heap.objs.size f cd) e) (λ_ s''=>CX outer H s E e s'') (λe' s''=>CX outer H s E e' s'') s'
theorem ZiI {sc:Scope} {n:Nat} {x:Str} (h:sc.names.lookup x=some .cell):∃ c,(cellsFrom n sc.names []).lookup x=some c:=by
  have q:=PySem.W.cellsFrom_some sc.names n [] (.inl h)
  exact Option.isSome_iff_exists.mp q
theorem Zkk {CX:CXT} {P:Program} {w:World} {K:PySem.W.Frag} {mg:Str->Option Value} {base:Heap} {N ps:List Str} {qual:Str} {scope:Scope} {f:Addr} {cd:Value} {A:Around} {outer:List Env} {s s1:Shared} {H:Hp} {E:XK} {us:List Value} {vs:List V}
    (S:FnScope N ps scope) (hd:A.handled=none) (e0:Env0 P w K mg base A outer s H) (hl:vs.length=ps.length) (r:Vals vs us)
    (x:InCallC s s.heap.objs.size (bindL (envOfC qual scope s.heap.objs.size f cd).kindOf (ps.zip us) λ_=>none) (cellsFrom (s.heap.objs.size+1) scope.names []) (bindC (envOfC qual scope s.heap.objs.size f cd).kindOf (ps.zip us) λ_=>none) s1) :
    Inv (cxOf CX P w K mg base N qual scope f cd A outer s H E) [] (start N vs) H s1:=by
  have hpl:ps.length<=N.length:=by have:=congrArg List.length S.pre; rw [length_take] at this; omega
  obtain ⟨h1,tk,rfl,hk⟩:=x.done
  have noA:∀ b:Addr,b∉(cxOf CX P w K mg base N qual scope f cd A outer s H E).ex:=λb z=>absurd (show b∈([]:List Addr) from z) (by simp)
  refine ⟨⟨e0.mod,S.kind,rfl,rfl,Nat.le_refl _,λy z c h1 h2=>?_,λy hy=>?_,λy c _ h=>?_,λ_=>hd,Around.frames_deeper e0.frames,.inr ⟨rfl,rfl⟩,λb z=>absurd z (noA b),e0.bs,e0.bsz,λb _ _=>noA b,λb z=>absurd z (noA b),e0.funs,e0.frf⟩,
    rfl,e0.bare,Un.kept hk,⟨_,x.toInCall.ns,λi y v h1 h2 h3=>?_⟩,λy c h=>⟨_,x.cell y c h⟩,e0.hok.fresh (Nat.le_refl _),λy c h=>?_,λp hp=>absurd (show p∈([]:List (Addr×Obj)) from hp) (by simp),e0.hok.kept hk,?_⟩
  . exact name_of_addr x.apart (PySem.mem_of_lookup h1) (PySem.mem_of_lookup h2)
  . have hy:scope.names.lookup y=some .cell\/scope.names.lookup y=some .free:=hy
    rcases hy with hy | hy
    . exact ZiI hy
    . exact absurd rfl (S.nofree _ (PySem.mem_of_lookup hy))
  . exact Nat.le_of_lt (x.above y c (PySem.mem_of_lookup h))
  . have hi:i<vs.length:=by
      unfold start at h2
      by_cases hi:i<vs.length
      . exact hi
      . rw [getElem?_append_right (by simpa using hi)] at h2
        rw [List.getElem?_replicate] at h2
        split at h2 <;> cases h2
    have ha:vs[i]?=some v:=by
      unfold start at h2
      rw [getElem?_append_left (by simpa using hi),getElem?_map] at h2
      cases e:vs[i]? with
      | none=>rw [e] at h2; cases h2
      | some a=>rw [e] at h2; cases h2; rfl
    obtain ⟨u,hu,rv⟩:=r.get ha
    have hp:ps[i]?=some y:=by
      rw [← S.pre,List.getElem?_take_of_lt (by omega)]; exact h1
    have ndP:ps.Nodup:=by rw [← S.pre]; exact S.nd.sublist (List.take_sublist _ _)
    refine ⟨u,rv,?_⟩
    rcases S.par y (mem_of_getElem? hp) with k | k
    . exact .inl ⟨k,ZgD ndP hp hu k⟩
    . obtain ⟨c,e⟩:=ZiI (n:=s.heap.objs.size+1) k
      refine .inr ⟨.inl k,c,e,?_⟩
      have q:=x.cell y c e
      rw [ZgE ndP hp hu (by show scope.names.lookup y≠_; rw [k]; decide)] at q
      exact q
  . exact e0.hok.fresh (Nat.le_of_lt (x.above y c (PySem.mem_of_lookup h)))
  . unfold start
    show _=N.length
    rw [length_append,length_map,List.length_replicate]
    omega
theorem fn_of {CX:CXT} {P:Program} {w:World} {K:PySem.W.Frag} {mg:Str->Option Value} {base:Heap} {k:Nat} {f:Addr} {name qual:Str} {params:Arguments} {body:List Stmt} {scope:Scope} {dV kV doc pm cdv ct oc:Value} {an od:Option Addr}
    {osl:Array (Option Value)} {N ps:List Str} {sp:Sp} (lk:K.lookup f=some ⟨oc,od,.func (PySem.W.fnOf name qual params body scope dV kV doc pm an cdv ct),osl⟩) (hcd:PySem.W.codeIn K cdv qual=true) (S:FnScope N ps scope)
    (len:∀ vs H Q E,sp vs H Q E->vs.length=ps.length)
    (hbody:∀ (A:Around) (outer:List Env) (s:Shared) (H:Hp) (vs:List V) (Q:VK) (E:XK),Room k (A.deeper (envOfC qual scope s.heap.objs.size f cdv))->sp vs H Q E ->
      ∃ t,PSs (cxOf CX P w K mg base N qual scope f cdv A outer s H E) body t/\t { nx:=λ_ H'=>Q .non H',rt:=Q } (start N vs) H) :
    FnOk P w K mg base CX (k+1) f (PySem.W.fnOf name qual params body scope dV kV doc pm an cdv ct) ps sp:=by
  refine ⟨len,λA outer s H args us vs Q E hr e0 hb r hsp=>?_⟩
  have hl:=len _ _ _ _ hsp
  have KX:K.In s.heap:=e0.mod.kin.keeps λb o e=>(e0.bs b o e).1
  have lim:s.heap.NoLimit:=e0.mod.nolimit.keeps λb o e=>(e0.bs b o e).1
  have hkind:∀ y∈ps.zip us,scope.names.lookup y.1=some .local\/(scope.names.lookup y.1=some .cell/\((cellsFrom (s.heap.objs.size+1) scope.names []).lookup y.1).isSome=true):=λ⟨n,v⟩ hy=>by
    rcases S.par n (List.of_mem_zip hy).1 with q | q
    . exact .inl q
    . exact .inr ⟨q,PySem.W.cellsFrom_some _ _ _ (.inl q)⟩
  refine codeAny_call_function hr.depth (KX _ _ lk) rfl S.co S.gen rfl (PySem.W.codeRec_of KX hcd) (hb _ _ _ _ ?_)
  refine wpAny_newFunctionEnv_cells S.kind hkind λenv he s1 x=>?_
  subst he
  refine ⟨lim.keeps x.toInCall.keep,codeAny_func ?_⟩
  obtain ⟨t,ht,hq⟩:=hbody A outer s H vs Q E (hr.deeper _) hsp
  have I:Inv (cxOf CX P w K mg base N qual scope f cdv A outer s H E) [] (start N vs) H s1:=Zkk S hr.hd e0 hl r x
  refine wpAny_mono (ht [] s1 (start N vs) H _ I hq) (λfl s' hs=>?_) λe s' hs=>hs
  have fin:∀ {σ':St} {H':Hp} {v:V} {u:Value},Inv (cxOf CX P w K mg base N qual scope f cdv A outer s H E) [] σ' H' s'->RelV v u->Q v H'->CE outer P w H s Q u s' :=
    λ{σ' H' v u} J rv q=>⟨v,H',J.os,J.bare,J.base,J.hok,rv,q⟩
  cases fl with
  | ret u =>
    obtain ⟨v,σ',H',J,rv,q⟩:=hs
    exact fin J rv q
  | next =>
    obtain ⟨σ',H',J,q⟩:=hs
    exact fin (v:=V.non) (u:=Value.none) J rfl q
  | brk =>
    obtain ⟨_,_,_,q⟩:=hs
    exact False.elim q
  | cont =>
    obtain ⟨_,_,_,q⟩:=hs
    exact False.elim q
end L2
namespace L2
open PySem PySem.Spec PyProof.Rows
section
variable {X:Cx} {x:Str} {p pos:Pos} {e:Expr} {es:List Expr} {t:TA} {id T:String} {r:List V->Hp->VK->Prop}
def tCB (r:List V->Hp->VK->Prop) (t:TA):TE:=λσ H Q=>t σ H λvs H1=>r vs H1 Q
theorem ZlI (hc:CallR X (.builtin id) r) (hg:Gl X x) (hm:X.mg x=none) (hv:bootBuiltins x=some (.builtin id)) (ha:PA X (e :: es) t) (hn:x ≠ "__name__" := by decide) (hdb:(x == ("__debug__" : Str))=false:=by decide)
    (he:starEach (e :: es) X.env=(false,eval e X.env) :: starEach es X.env:=by rfl) (hpl:(backTo pos (starEach es X.env)).any (·.1)=false:=by rfl):PE X (.Call (.Name x p) (e :: es) [] pos) (tCB r t):=by
  intro pins s σ H Q I h
  refine wpAny_Call_Name_kw (Zcg I hg hm hv ?_ hn hdb)
  exact PyProof.Rows.callWith_builtin1 (thn (ha pos pins s σ H _ I h) λus s1 ⟨vs,H1,I1,r1,q1⟩=>hc pins s1 σ H1 vs us Q I1 r1 q1) he hpl
theorem Zkl (hc:CallR X (.type T) r) (hg:Gl X x) (hm:X.mg x=none) (hv:bootBuiltins x=some (.type T)) (ha:PA X (e :: es) t) (hn:x ≠ "__name__" := by decide) (hdb:(x == ("__debug__" : Str))=false:=by decide)
    (he:starEach (e :: es) X.env=(false,eval e X.env) :: starEach es X.env:=by rfl) (hpl:(backTo pos (starEach es X.env)).any (·.1)=false:=by rfl):PE X (.Call (.Name x p) (e :: es) [] pos) (tCB r t):=by
  intro pins s σ H Q I h
  refine wpAny_Call_Name_kw (Zcg I hg hm hv ?_ hn hdb)
  exact PyProof.Rows.callWith_type1 (thn (ha pos pins s σ H _ I h) λus s1 ⟨vs,H1,I1,r1,q1⟩=>hc pins s1 σ H1 vs us Q I1 r1 q1) he hpl
end
end L2
namespace HT
open PySem PyProof.Rows
def lexLt:List Int->List Int->Bool
  | [],[]=>false
  | [],_ :: _=>true
  | _ :: _,[]=>false
  | x :: xs,y :: ys=>if x=y then lexLt xs ys else decide (x<y)
theorem lexLt_cons (x y:Int) (xs ys:List Int):lexLt (x :: xs) (y :: ys)=if x=y then lexLt xs ys else decide (x<y):=rfl
theorem lexLt_nil_nil:lexLt [] []=false:=rfl
theorem lexLt_cons_nil (x:Int) (xs:List Int):lexLt (x :: xs) []=false:=rfl
section
open PySem.SeqAt
open PySem.AutoSeq1 (wpAny_loadPart')
open PySem.MeetsSeq PySem.MeetsSeq2 PySem.MeetsSeq3
end
section
variable {prog:Program} {w:World} {A:Around} {E:Value->Shared->Prop} {s:Shared}
def sIx (n d:Nat):Option Int->Nat
  | none=>d
  | some v=>if v<0 then (v+(n:Int)).toNat else min v.toNat n
theorem sIx_none (n d:Nat):sIx n d none=d:=rfl
theorem sIx_nat (n d k:Nat):sIx n d (some (k:Int))=min k n:=by
  show (if (k:Int)<0 then ((k:Int)+(n:Int)).toNat else min (k:Int).toNat n)=min k n
  rw [if_neg (by omega),Int.toNat_natCast]
theorem ZnY (n d:Nat) (hd:d<=n) (o:Option Int):sIx n d o<=n:=by
  cases o with
  | none=>exact hd
  | some v =>
    show (if v<0 then (v+(n:Int)).toNat else min v.toNat n)<=n
    by_cases hv:v<0
    . rw [if_pos hv]; omega
    . rw [if_neg hv]; exact Nat.min_le_right _ _
theorem Zkm (v:Int) (n d:Nat):(if v<0 then max (v+(n:Int)) 0 else min v (n:Int))=((sIx n d (some v):Nat):Int):=by
  show (if v<0 then max (v+(n:Int)) 0 else min v (n:Int))=(((if v<0 then (v+(n:Int)).toNat else min v.toNat n):Nat):Int)
  by_cases hv:v<0
  . simp only [if_pos hv]; omega
  . simp only [if_neg hv]; omega
theorem Zjy (lo hi:Option Int) (n:Nat):Builtin.Slice.sliceAdjust lo hi 1 (n:Int)=(((sIx n 0 lo:Nat):Int),((sIx n n hi:Nat):Int)):=by
  have h1:¬ ((1:Int)<0):=by omega
  unfold Builtin.Slice.sliceAdjust
  simp only [h1,if_false]
  refine Prod.ext ?_ ?_
  . cases lo with
    | none=>rfl
    | some v=>exact Zkm v n 0
  . cases hi with
    | none=>rfl
    | some v=>exact Zkm v n n
theorem Zjz (i j:Nat):Builtin.Slice.slicePlaces (i:Int) (j:Int) 1=j - i:=by
  unfold Builtin.Slice.slicePlaces
  have h1:(1:Int) > 0:=by omega
  simp only [h1,if_true,Int.ediv_one]
  split <;> omega
theorem Zfn {v:Value} {o:Option Int} {Q:Option Int->Shared->Prop} (p:IsPart v o) (h:Q o s):wpAny (model prog w) A (Builtin.Slice.slicePartIndex v) Q E s:=by
  cases p with
  | none=>exact slicePart_none h
  | int i t=>exact slicePart_int h
theorem Zcu {sl:Addr} {vl vu:Value} {lo hi:Option Int} {n:Nat} {Q:Int×Int×Nat->Shared->Prop} (hs:s.heap.IsSliceOf sl vl vu .none) (pl:IsPart vl lo) (pu:IsPart vu hi)
    (h:Q (((sIx n 0 lo:Nat):Int),1,sIx n n hi - sIx n 0 lo) s):wpAny (model prog w) A (Builtin.Slice.sliceApplied (.ref sl) (pure (n:Int))) Q E s:=by
  obtain ⟨os,hos,hcs,hds⟩:=id hs
  unfold Builtin.Slice.sliceApplied Builtin.Slice.sliceFields
  refine wpAny_bind (wpAny_bind (wpAny_field hos hds (x:=vl) rfl (wpAny_bind (wpAny_field hos hds (x:=vu) rfl (wpAny_bind (wpAny_field hos hds (x:=.none) rfl (wpAny_pure ?_)))))))
  refine wpAny_bind (slicePart_none ?_)
  show wpAny _ _ (if ((1:Int) == 0)=true then _ else _) _ _ s
  rw [if_neg (by decide)]
  refine wpAny_bind (Zfn pl (wpAny_bind (Zfn pu (wpAny_bind (wpAny_pure ?_)))))
  show wpAny _ _ (match Builtin.Slice.sliceAdjust lo hi 1 (n:Int) with | (lo,hi)=>pure (lo,(1:Int),Builtin.Slice.slicePlaces lo hi 1)) _ _ s
  rw [Zjy lo hi n]
  show wpAny _ _ (pure (((sIx n 0 lo:Nat):Int),(1:Int),Builtin.Slice.slicePlaces ((sIx n 0 lo:Nat):Int) ((sIx n n hi:Nat):Int) 1)) _ _ s
  rw [Zjz]
  exact wpAny_pure h
theorem ZlJ (xs:Array Value) (i k:Nat):((List.range k).filterMap λ(m:Nat)=>xs[((i:Int)+(m:Int) * 1).toNat]?).toArray=((xs.toList.drop i).take k).toArray:=by
  have e:(λ(m:Nat)=>xs[((i:Int)+(m:Int) * 1).toNat]?)=λm=>xs[i+m]?:=by
    funext m
    have:((i:Int)+(m:Int) * 1).toNat=i+m:=by omega
    rw [this]
  rw [e]
  have:=pick_run xs i k
  rw [List.filterMap_map] at this
  have e2:((λx=>xs[x]?) ∘ λx=>i+x)=λm=>xs[i+m]?:=rfl
  rw [e2] at this
  rw [this]
theorem getItem_tuple_cut {t sl:Addr} {items:Array Value} {vl vu:Value} {lo hi:Option Int} {Q:Value->Shared->Prop} (ht:IsTup s.heap t items) (hs:s.heap.IsSliceOf sl vl vu .none) (pl:IsPart vl lo) (pu:IsPart vu hi)
    (hw:¬ (sIx items.size 0 lo=0/\sIx items.size items.size hi=items.size))
    (h:Q (.ref s.heap.objs.size) { s with heap:=s.heap.push { cls:=.type "tuple",data:=.seq ((items.toList.drop (sIx items.size 0 lo)).take (sIx items.size items.size hi - sIx items.size 0 lo)).toArray } })
    (hsz:items.size<=sizeLine):wpAny (model prog w) A (getItem (.ref t) (.ref sl)) Q E s:=by
  have htake:sizeOk (.seq ((items.toList.drop (sIx items.size 0 lo)).take (sIx items.size items.size hi - sIx items.size 0 lo)).toArray):=by
    show ((items.toList.drop (sIx items.size 0 lo)).take (sIx items.size items.size hi - sIx items.size 0 lo)).toArray.size<=sizeLine
    rw [List.size_toArray,length_take,length_drop,Array.length_toList]
    omega
  have hj:sIx items.size items.size hi<=items.size:=ZnY _ _ (Nat.le_refl _) hi
  obtain ⟨os,hos,hcs,hds⟩:=id hs
  have hTs:s.TypeIs (.ref sl) "slice" := ⟨os,hos,hcs⟩
  unfold getItem
  try with_reducible refine wpAny_holding ?_
  first | refine wpAny_bind (wpAny_pure ?_) | skip
  refine wpAny_bind (wpAny_sequenceKey ht.typeIs (by decide) ?_)
  refine wpAny_bind (wpAny_callSpecial?_slot (name:=Str.ofString "__getitem__") ht.typeIs PyProof.Rows.slot_tuple_getitem
    (wpAny_call_entry PyProof.Rows.slot_tuple_getitem ht.typeIs entry_tuple_getitem ?_ (args_tuple_getitem _ _)))
  show wpAny _ _ (Builtin.Tuple.tupleItemsOf (.ref t) >>= _) _ _ s
  refine wpAny_bind (tupleItemsOf_ ht ?_)
  refine wpAny_bind (wpAny_typeOf hTs ?_)
  rw [if_pos (by decide)]
  refine wpAny_bind (Zcu hs pl pu ?_)
  have hno:¬ ((((sIx items.size 0 lo:Nat):Int) == 0 && (1:Int) == 1 && (sIx items.size items.size hi - sIx items.size 0 lo) == items.size)=true):=by
    intro q
    rw [Bool.and_eq_true,Bool.and_eq_true] at q
    have q1:((sIx items.size 0 lo:Nat):Int)=0:=eq_of_beq q.1.1
    have q2:sIx items.size items.size hi - sIx items.size 0 lo=items.size:=eq_of_beq q.2
    exact hw ⟨by omega,by omega⟩
  show wpAny _ _ (if (((sIx items.size 0 lo:Nat):Int) == 0 && (1:Int) == 1 && (sIx items.size items.size hi - sIx items.size 0 lo) == items.size)=true then _ else _) _ _ s
  rw [if_neg hno,ZlJ]
  first
    | exact wpAny_bind (m:=Builtin.Tuple.tupleExact _) (wpAny_newObj_type (wpAny_pure ⟨_,rfl,wpAny_pure h⟩) htake)
    | exact wpAny_bind (m:=Builtin.Tuple.tupleExact _) (wpAny_newObj_type (wpAny_bind (wpAny_pure (wpAny_pure ⟨_,rfl,wpAny_pure h⟩))) htake)
    | exact wpAny_bind (wpAny_bind (m:=Builtin.Tuple.tupleExact _) (wpAny_newObj_type (wpAny_pure (wpAny_pure ⟨_,rfl,wpAny_pure h⟩)) htake))
    | exact wpAny_bind (wpAny_bind (m:=Builtin.Tuple.tupleExact _) (wpAny_newObj_type (wpAny_pure ⟨_,rfl,wpAny_pure h⟩) htake))
end
end HT
namespace L2
open PySem PySem.Spec PyProof.Rows
abbrev TO:=St->Hp->(Option Int->Hp->Prop)->Prop
def PO (X:Cx) (e:Option Expr) (t:TO):Prop :=
  ∀ (pins:List (Addr×Obj)) (s:Shared) (σ:St) (H:Hp) (Q:Option Int->Hp->Prop),Inv X pins σ H s->t σ H Q ->
    wpAny (model X.prog X.w) X.A (evalPart e X.env) (λu s'=>∃ o H',Inv X pins σ H' s'/\IsPart u o/\Q o H') X.xe s
def Znc:TO:=λ_ H Q=>Q none H
def tPart (t:TE):TO:=λσ H Q=>t σ H λx H1=>∃ i,x=.int i/\Q (some i) H1
theorem ZcF {ns:List Int}:∀ {us:List Value},Vals (ns.map V.int) us->IntsAre us ns:=by
  induction ns with
  | nil=>intro us r; rw [map_nil] at r; cases r; exact .nil
  | cons n ns ih =>
    intro us r
    rw [map_cons] at r
    cases r with
    | cons r1 r2 =>
      obtain ⟨t,e⟩:=r1
      subst e
      exact .cons n t (ih r2)
section
variable {X:Cx} {e:Expr} {te:TE} {lo hi:Option Expr} {tl th:TO} {pos p2:Pos}
theorem Zkn:PO X none Znc:=by
  intro pins s σ H Q I h
  rw [evalPart_none]
  exact wpAny_pure ⟨none,H,I,.none,h⟩
theorem ZfC (h:PE X e te):PO X (some e) (tPart te):=by
  intro pins s σ H Q I hw
  rw [evalPart_some]
  refine thn (h pins s σ H _ I hw) λu s1 ⟨x,H1,I1,r1,q1⟩=>?_
  obtain ⟨i,rfl,q⟩:=q1
  obtain ⟨t,rfl⟩:=r1
  exact ⟨some i,H1,I1,.int i t,q⟩
def SlR (X:Cx) (r:V->Option Int->Option Int->Hp->VK->Prop):Prop :=
  ∀ (pins:List (Addr×Obj)) (s:Shared) (σ:St) (H:Hp) (x:V) (v vl vu:Value) (lo hi:Option Int) (sl:Addr) (Q:VK),Inv X pins σ H s->RelV x v->s.heap.IsSliceOf sl vl vu .none->IsPart vl lo->IsPart vu hi->r x lo hi H Q ->
    ∃ T id,typeLookup (.type T) "__getitem__" = pure (some (.builtin id))/\s.TypeIs v T/\wpAny (model X.prog X.w) X.A (getItem v (.ref sl)) (EP X pins σ Q) X.xe s
def tSl (r:V->Option Int->Option Int->Hp->VK->Prop) (te:TE) (tl th:TO):TE:=λσ H Q=>te σ H λx H1=>tl σ H1 λl H2=>th σ H2 λu H3=>r x l u H3 Q
theorem ZfD {r:V->Option Int->Option Int->Hp->VK->Prop} (hr:SlR X r) (he:PE X e te) (hl:PO X lo tl) (hu:PO X hi th):PE X (.Subscript e (.Slice lo hi none p2) pos) (tSl r te tl th):=by
  intro pins s σ H Q I h
  refine Subscript_ (thn (he pins s σ H _ I h) λv s1 ⟨x,H1,I1,r1,q1⟩=>?_)
  refine wpAny_Slice (thn (hl pins s1 σ H1 _ I1 q1) λvl s2 ⟨l,H2,I2,pl,q2⟩=>thn (hu pins s2 σ H2 _ I2 q2) λvu s3 ⟨u,H3,I3,pu,q3⟩=>?_)
  rw [evalPart_none]
  refine wpAny_pure ?_
  have I4:Inv X pins σ H3 { s3 with heap:=s3.heap.push { cls:=.type "slice",data:=.fields #[vl,vu,.none] } }:=I3.kept (t':=s3.toks) λb ob q=>Heap.get?_push_of_some _ q
  obtain ⟨T,id,hT,ht,hg⟩:=hr pins { s3 with heap:=s3.heap.push { cls:=.type "slice",data:=.fields #[vl,vu,.none] } } σ H3 x v vl vu l u s3.heap.objs.size Q I4 r1 (Heap.IsSliceOf.new ..) pl pu q3
  show wpAny (model X.prog X.w) X.A (subscriptTail e (.Slice lo hi none p2) v (.ref s3.heap.objs.size)) (EP X pins σ Q) X.xe { s3 with heap:=s3.heap.push { cls:=.type "slice",data:=.fields #[vl,vu,.none] } }
  exact tail_any (ops:=[.ref s3.heap.objs.size,v]) ht hT hg (by with_unfolding_all rfl)
def cutV (xs:List V) (lo hi:Option Int):List V:=(xs.drop (HT.sIx xs.length 0 lo)).take (HT.sIx xs.length xs.length hi - HT.sIx xs.length 0 lo)
theorem Zek (xs:List V) (lo hi:Option Int):(cutV xs lo hi).length<=xs.length:=by
  unfold cutV
  rw [length_take,length_drop]
  omega
def rSlT (K:PySem.W.Frag):V->Option Int->Option Int->Hp->VK->Prop:=λx lo hi H Q=>∃ a xs,x=.ref a/\SqT K H a xs /\
  ¬ (HT.sIx xs.length 0 lo=0/\HT.sIx xs.length xs.length hi=xs.length)/\∀ p,H p=none->Q (.ref p) (upd H p (.tup (cutV xs lo hi)))
theorem ZnZ:SlR X (rSlT X.K):=by
  intro pins s σ H x v vl vu lo hi sl Q I rx hs pl pu h
  obtain ⟨a,xs,rfl,hx,hw,q⟩:=h
  cases rx
  obtain ⟨its,r,ht,hz⟩:=I.tuple hx
  have hlen:its.toArray.size=xs.length:=by rw [List.size_toArray]; exact r.length.symm
  refine ⟨"tuple",_,PyProof.Rows.slot_tuple_getitem.lookup,ht.typeIs,?_⟩
  refine HT.getItem_tuple_cut ht hs pl pu (by rw [hlen]; exact hw) ?_ (by rw [hlen]; exact hz)
  rw [hlen]
  refine ⟨.ref s.heap.objs.size,_,I.laid (t':=s.toks) (o:=.tup (cutV xs lo hi)) (λb ob q=>Heap.get?_push_of_some _ q) (Nat.le_refl _) ?_,rfl,q _ (I.hok.fresh (Nat.le_refl _))⟩
  exact ⟨Nat.le_trans (Zek xs lo hi) hz,_,(r.drop (HT.sIx xs.length 0 lo)).take (HT.sIx xs.length xs.length hi - HT.sIx xs.length 0 lo),IsTup.new _ _⟩
end
end L2
namespace L2
open PySem PySem.Spec PyProof.Rows
def ixN (n:Nat) (i:Int):Option Nat:=if 0<=i then (if i<n then some i.toNat else none) else if -(n:Int)<=i then some (i+n).toNat else none
def atI {α:Type} (xs:List α) (i:Int):Option α:=(ixN xs.length i).bind λj=>xs[j]?
theorem Zko {n:Nat} {i:Int} {j:Nat} (h:ixN n i=some j):seqIndex? i n=some j/\j<n /\ -(n:Int)<=i/\i<n:=by
  unfold ixN at h
  by_cases h0:0<=i
  . rw [if_pos h0] at h
    by_cases h1:i<n
    . rw [if_pos h1] at h
      have e:i.toNat=j:=Option.some.inj h
      exact ⟨by rw [seqIndex_of h0 h1,e],by omega,by omega,h1⟩
    . rw [if_neg h1] at h; cases h
  . rw [if_neg h0] at h
    by_cases h1 : -(n:Int)<=i
    . rw [if_pos h1] at h
      have e:(i+n).toNat=j:=Option.some.inj h
      exact ⟨by rw [seqIndex_neg (by omega) h1,e],by omega,h1,by omega⟩
    . rw [if_neg h1] at h; cases h
theorem Zkp {α:Type} {xs:List α} {i:Int} {v:α} (h:atI xs i=some v):∃ j,seqIndex? i xs.length=some j/\xs[j]?=some v/\j<xs.length /\ -(xs.length:Int)<=i/\i<xs.length:=by
  unfold atI at h
  cases e:ixN xs.length i with
  | none=>rw [e] at h; cases h
  | some j =>
    rw [e] at h
    obtain ⟨h1,h2,h3,h4⟩:=Zko e
    exact ⟨j,h1,h,h2,h3,h4⟩
theorem ZbS {α:Type} {xs:List α} {j:Nat} {v:α} (h:xs[j]?=some v):atI xs (j:Int)=some v:=by
  have hj:j<xs.length:=(List.getElem?_eq_some_iff.mp h).1
  have e:ixN xs.length (j:Int)=some j:=by
    unfold ixN
    rw [if_pos (by omega),if_pos (by omega)]; simp
  unfold atI; rw [e]; exact h
def Znd (b:Expr):Prop:=∀ o i,subscripted b false o i=operate [o,i] (getItem o i)
def IxR (X:Cx) (r:R2):Prop :=
  ∀ (value slice:Expr) (pins:List (Addr×Obj)) (s:Shared) (σ:St) (H:Hp) (x y:V) (v u:Value) (Q:VK),Inv X pins σ H s->RelV x v->RelV y u->r x y H Q ->
    subscripted slice false v u=operate [v,u] (getItem v u)->wpAny (model X.prog X.w) X.A (subscriptTail value slice v u) (EP X pins σ Q) X.xe s
def MtR (X:Cx) (id:String) (r:V->List V->Hp->VK->Prop):Prop :=
  ∀ (pins:List (Addr×Obj)) (s:Shared) (σ:St) (H:Hp) (x:V) (xs:List V) (v:Value) (us:List Value) (Q:VK),Inv X pins σ H s->RelV x v->Vals xs us->r x xs H Q ->
    wpAny (model X.prog X.w) X.A (call (.builtin id) (v :: us)) (EP X pins σ Q) X.xe s
section
variable {X:Cx} {a b:Expr} {ta tb:TE} {pos:Pos}
theorem pe_ix {r:R2} (hr:IxR X r) (ha:PE X a ta) (hb:PE X b tb) (hs:Znd b):PE X (.Subscript a b pos) (tOp r ta tb):=by
  intro pins s σ H Q I h
  exact Subscript_ (binT ha hb I h λv u s2 x y H2 I2 rx ry q=>hr a b pins s2 σ H2 x y v u Q I2 rx ry q (hs _ _))
def rIxL (K:PySem.W.Frag):R2:=λx y H Q=>∃ p xs i v,x=.ref p/\y=.int i/\SqL K H p xs/\atI xs i=some v/\Q v H
def rIxT (K:PySem.W.Frag):R2:=λx y H Q=>∃ p xs i v,x=.ref p/\y=.int i/\SqT K H p xs/\atI xs i=some v/\Q v H
theorem Zne:IxR X (rIxL X.K):=by
  intro value slice pins s σ H x y v u Q I rx ry h hs
  obtain ⟨p,xs,i,z,rfl,rfl,hq,he,q⟩:=h
  cases rx
  obtain ⟨t,rfl⟩:=ry
  obtain ⟨its,r,pl,hz⟩:=I.list hq
  obtain ⟨j,h1,h2,h3,h4,h5⟩:=Zkp he
  obtain ⟨w,ew,rw'⟩:=r.get h2
  have hl:=r.length
  have hn:=ZiF
  have fin:EP X pins σ Q w s:=⟨z,H,I,rw',q⟩
  by_cases h0:0<=i
  . have hj:i.toNat=j:=by
      rw [seqIndex_of h0 h5] at h1
      exact Option.some.inj h1
    exact item_listR pl.isList h0 (by omega) (by rw [hj]; simpa using ew) fin hs
  . have hj:(i+(its.toArray.size:Int)).toNat=j:=by
      rw [seqIndex_neg (by omega) h4] at h1
      rw [List.size_toArray,← hl]
      exact Option.some.inj h1
    exact subscriptTail_builtinR (x:=w) pl.isList.typeIs slot_list_getitem.lookup
      (wpAny_getItem_list_neg (Q:=λr s'=>r=w/\EP X pins σ Q r s') pl.isList (by omega) (by rw [List.size_toArray] <;> omega) (by omega) (by rw [hj]; simpa using ew) ⟨rfl,fin⟩) hs
theorem Zoa:IxR X (rIxT X.K):=by
  intro value slice pins s σ H x y v u Q I rx ry h hs
  obtain ⟨p,xs,i,z,rfl,rfl,hq,he,q⟩:=h
  cases rx
  obtain ⟨t,rfl⟩:=ry
  obtain ⟨its,r,pl,hz⟩:=I.tuple hq
  obtain ⟨j,h1,h2,h3,h4,h5⟩:=Zkp he
  obtain ⟨w,ew,rw'⟩:=r.get h2
  have hl:=r.length
  have hn:=ZiF
  have fin:EP X pins σ Q w s:=⟨z,H,I,rw',q⟩
  exact subscriptTail_builtinR (x:=w) pl.typeIs slot_tuple_getitem.lookup
    (getItem_tuple (j:=j) (Q:=λr s'=>r=w/\EP X pins σ Q r s') pl (by omega) (by omega) (by rw [List.size_toArray,← hl]; exact h1) (by simpa using ew) ⟨rfl,fin⟩) hs
theorem ZjA (its:List Value) (n j:Nat) (u:Value):Obj.mapSeq (·.setIfInBounds j u) { cls:=.type "list",data:=.seq its.toArray n }={ cls:=.type "list",data:=.seq (its.set j u).toArray n }:=by
  simp [Obj.mapSeq]
theorem Inv.lst {pins:List (Addr×Obj)} {σ:St} {H:Hp} {s:Shared} {p:Addr} {xs:List V} (I:Inv X pins σ H s) (h:H p=some (.lst xs)) :
    ∃ (its:List Value) (n:Nat),Vals xs its/\s.heap.get? p=some { cls:=.type "list",data:=.seq its.toArray n }/\xs.length<=sizeLine:=by
  obtain ⟨z,its,n,r,e⟩:=I.hok p _ h
  exact ⟨its,n,r,e,z⟩
theorem Inv.lstUpd {pins:List (Addr×Obj)} {σ:St} {H:Hp} {s:Shared} {p:Addr} {xs ys:List V} {its its':List Value} {n n':Nat} {f:Obj->Obj} (I:Inv X pins σ H s) (h:H p=some (.lst xs))
    (ho:s.heap.get? p=some { cls:=.type "list",data:=.seq its.toArray n }) (hf:f { cls:=.type "list",data:=.seq its.toArray n }={ cls:=.type "list",data:=.seq its'.toArray n' }) (r:Vals ys its') (hz:ys.length<=sizeLine) (t:Nat) :
    Inv X pins σ (upd H p (.lst ys)) { s with heap:=s.heap.update p f,toks:=t }:=by
  have e:(s.heap.update p f).get? p=some { cls:=.type "list",data:=.seq its'.toArray n' }:=by
    rw [Heap.get?_update_self f ho (by rw [hf] <;> rfl),hf]
  refine I.write (x:=p) (e:=p) (by rw [h]; trivial) (.inl rfl) (λb u hb q=>(Heap.get?_update_other _ _ (Ne.symm hb)).trans q) ⟨_,e⟩ ?_
  exact ⟨hz,its',n',r,e⟩
def rSetL:V->V->V->Hp->(Hp->Prop)->Prop:=λo i v H Q=>∃ p xs k j,o=.ref p/\i=.int k/\H p=some (.lst xs)/\ixN xs.length k=some j/\Q (upd H p (.lst (xs.set j v)))
theorem ZcG:PSet X rSetL:=by
  intro pins s σ H o i v ov iv u Q I ro ri rv h
  obtain ⟨p,xs,k,j,rfl,rfl,hp,hj,q⟩:=h
  cases ro
  obtain ⟨t,rfl⟩:=ri
  obtain ⟨its,n,r,ho,hz⟩:=I.lst hp
  obtain ⟨h1,h2,h3,h4⟩:=Zko hj
  have hl:=r.length
  have hn:=ZiF
  have I':Inv X pins σ (upd H p (.lst (xs.set j v))) { s with heap:=s.heap.update p (Obj.mapSeq (·.setIfInBounds j u)) } :=
    I.lstUpd hp ho (ZjA its n j u) (r.set rv j) (by rw [length_set]; exact hz) s.toks
  by_cases h0:0<=k
  . have hk:k.toNat=j:=by
      rw [seqIndex_of h0 h4] at h1
      exact Option.some.inj h1
    exact PySem.W.ki_setAt ho h0 (by omega) (by rw [List.size_toArray,← hl]; exact h4) (by rw [hk]; exact ⟨_,I',q⟩)
  . have hk:(k+(its.toArray.size:Int)).toNat=j:=by
      rw [seqIndex_neg (by omega) h3] at h1
      rw [List.size_toArray,← hl]
      exact Option.some.inj h1
    exact PySem.W.ki_setBack ho (by omega) (by rw [List.size_toArray,← hl]; exact h3) (by omega) (by rw [hk]; exact ⟨_,I',q⟩)
theorem ZgF (lo hi:Option Int) (n:Nat):(sliceBounds lo hi none n).1=((HT.sIx n 0 lo:Nat):Int)/\(sliceBounds lo hi none n).2.1=((HT.sIx n n hi:Nat):Int)/\(sliceBounds lo hi none n).2.2=1:=by
  refine ⟨?_,?_,rfl⟩
  . cases lo with
    | none=>simp [sliceBounds,HT.sIx]
    | some i =>
      simp only [sliceBounds,HT.sIx,Option.getD_none,show (1:Int) > 0 by decide,if_true]
      by_cases h:i<0
      . simp only [h,if_true] <;> omega
      . simp only [h,if_false] <;> omega
  . cases hi with
    | none=>simp [sliceBounds,HT.sIx]
    | some i =>
      simp only [sliceBounds,HT.sIx,Option.getD_none,show (1:Int) > 0 by decide,if_true]
      by_cases h:i<0
      . simp only [h,if_true] <;> omega
      . simp only [h,if_false] <;> omega
theorem ZfE (its:List Value) (lo hi:Option Int):slicePick its.toArray lo hi none=((its.drop (HT.sIx its.length 0 lo)).take (HT.sIx its.length its.length hi - HT.sIx its.length 0 lo)).toArray:=by
  obtain ⟨h1,h2,h3⟩:=ZgF lo hi its.toArray.size
  unfold slicePick
  rw [h1,h2,h3]
  simp only [sliceRange_one,pick_run,List.size_toArray] <;> rfl
def rSlL (K:PySem.W.Frag):V->Option Int->Option Int->Hp->VK->Prop:=λx lo hi H Q=>∃ a xs,x=.ref a/\SqL K H a xs/\∀ p,H p=none->Q (.ref p) (upd H p (.lst (cutV xs lo hi)))
theorem Znf:SlR X (rSlL X.K):=by
  intro pins s σ H x v vl vu lo hi sl Q I rx hs pl pu h
  obtain ⟨a,xs,rfl,hx,q⟩:=h
  cases rx
  obtain ⟨its,r,ht,hz⟩:=I.list hx
  have hlen:=r.length
  refine ⟨"list",_,slot_list_getitem.lookup,ht.isList.typeIs,?_⟩
  refine wpAny_getItem_list_slice ht.isList hs pl pu .none (by simp) ?_ (by rw [List.size_toArray] <;> omega)
  rw [ZfE,← hlen]
  refine ⟨.ref s.heap.objs.size,_,I.laid (t':=s.toks) (o:=.lst (cutV xs lo hi)) (λb ob q=>Heap.get?_push_of_some _ q) (Nat.le_refl _) ?_,rfl,q _ (I.hok.fresh (Nat.le_refl _))⟩
  exact ⟨Nat.le_trans (Zek xs lo hi) hz,_,0,(r.drop (HT.sIx xs.length 0 lo)).take (HT.sIx xs.length xs.length hi - HT.sIx xs.length 0 lo),Heap.get?_push_size _ rfl⟩
def flatV:V->Bool
  | .non=>true
  | .bl _=>true
  | .int _=>true
  | .str _=>true
  | _=>false
def eqV:V->V->Bool
  | .non,.non=>true
  | .bl a,.bl b=>a == b
  | .bl a,.int b=>(if a then 1 else 0) == b
  | .int a,.bl b=>a == (if b then 1 else 0)
  | .int a,.int b=>a == b
  | .str a,.str b=>a == b
  | _,_=>false
theorem Zob {A:Around} {s:Shared} {y x:V} {u v:Value} (ry:RelV y u) (rx:RelV x v) (fy:flatV y=true) (fx:flatV x=true):SeqAt.EqAt A s u v (eqV y x):=by
  cases y with
  | non =>
    cases ry
    cases x with
    | non=>cases rx; exact SeqAt.EqAt.same _
    | bl b=>cases rx; exact SeqAt.EqAt.none_bool b
    | int b=>obtain ⟨t,rfl⟩:=rx; exact SeqAt.EqAt.none_int b t
    | str b=>obtain ⟨t,rfl⟩:=rx; exact SeqAt.EqAt.none_str b t
    | _=>exact absurd (show false=true from fx) Bool.false_ne_true
  | bl a =>
    cases ry
    cases x with
    | non=>cases rx; exact SeqAt.EqAt.bool_none a
    | bl b=>cases rx; exact SeqAt.EqAt.bool_bool a b
    | int b=>obtain ⟨t,rfl⟩:=rx; exact SeqAt.EqAt.bool_int a b t
    | str b=>obtain ⟨t,rfl⟩:=rx; exact SeqAt.EqAt.bool_str a b t
    | _=>exact absurd (show false=true from fx) Bool.false_ne_true
  | int a =>
    obtain ⟨t',rfl⟩:=ry
    cases x with
    | non=>cases rx; exact SeqAt.EqAt.int_none a t'
    | bl b=>cases rx; exact SeqAt.EqAt.int_bool a t' b
    | int b=>obtain ⟨t,rfl⟩:=rx; exact SeqAt.EqAt.int_int a t' b t
    | str b=>obtain ⟨t,rfl⟩:=rx; exact SeqAt.EqAt.int_str a t' b t
    | _=>exact absurd (show false=true from fx) Bool.false_ne_true
  | str a =>
    obtain ⟨t',rfl⟩:=ry
    cases x with
    | non=>cases rx; exact SeqAt.EqAt.str_none a t'
    | bl b=>cases rx; exact SeqAt.EqAt.str_bool a t' b
    | int b=>obtain ⟨t,rfl⟩:=rx; exact SeqAt.EqAt.str_int a t' b t
    | str b=>obtain ⟨t,rfl⟩:=rx; exact SeqAt.EqAt.str_str a t' b t
    | _=>exact absurd (show false=true from fx) Bool.false_ne_true
  | _=>exact absurd (show false=true from fy) Bool.false_ne_true
def eqU (x:V) (u:Value):Bool:=match u with
  | .none=>eqV .non x
  | .bool b=>eqV (.bl b) x
  | .int i _=>eqV (.int i) x
  | .str z _=>eqV (.str z) x
  | _=>false
theorem ZmC {x y:V} {u:Value} (r:RelV y u) (f:flatV y=true):eqU x u=eqV y x:=by
  cases y with
  | non=>cases r; rfl
  | bl b=>cases r; rfl
  | int i=>obtain ⟨t,rfl⟩:=r; rfl
  | str z=>obtain ⟨t,rfl⟩:=r; rfl
  | _=>exact absurd (show false=true from f) Bool.false_ne_true
theorem ZhM {x:V}:∀ {xs:List V} {us:List Value},Vals xs us->xs.all flatV=true->us.any (eqU x)=xs.any λy=>eqV y x
  | _,_,.nil,_=>rfl
  | y :: xs,u :: us,.cons r t,f=>by
    rw [all_cons,Bool.and_eq_true] at f
    rw [any_cons,any_cons,ZmC r f.1,ZhM t f.2]
theorem ZfF {A:Around} {s:Shared} {x:V} {v:Value} (rx:RelV x v) (fx:flatV x=true):∀ {xs:List V} {us:List Value},Vals xs us->xs.all flatV=true->∀ u∈us,SeqAt.EqAt A s u v (eqU x u)
  | _,_,.nil,_=>λu hu=>by cases hu
  | y :: xs,u :: us,.cons r t,f=>λu' hu=>by
    rw [all_cons,Bool.and_eq_true] at f
    rcases List.mem_cons.mp hu with rfl | hu
    . rw [ZmC r f.1]; exact Zob r rx f.1 fx
    . exact ZfF rx fx t f.2 u' hu
def inV (x:V) (xs:List V):Bool:=xs.any λy=>eqV y x
def rIn (K:PySem.W.Frag) (neg:Bool):R2:=λx y H Q=>∃ p xs,y=.ref p/\(SqL K H p xs\/SqT K H p xs)/\flatV x=true/\xs.all flatV=true/\Q (.bl (if neg then !inV x xs else inV x xs)) H
theorem ZgG:OpR X (compareOp .NotIn) (rIn X.K true):=by
  intro pins s σ H x y v u Q I rx ry h
  obtain ⟨p,xs,rfl,hq,fx,fs,q⟩:=h
  cases ry
  rcases hq with hq | hq
  . obtain ⟨its,r,pl,hz⟩:=I.list hq
    refine SeqAt.notIn_listAt (eqU x) pl.isList (λw hw=>ZfF rx fx r fs w (by simpa using hw)) ⟨.bl _,H,I,rfl,?_⟩
    rw [show its.toArray.any (eqU x)=its.any (eqU x) by simp,ZhM r fs]
    exact q
  . obtain ⟨its,r,pl,hz⟩:=I.tuple hq
    refine SeqAt.notIn_tupleAt (eqU x) pl (λw hw=>ZfF rx fx r fs w (by simpa using hw)) ⟨.bl _,H,I,rfl,?_⟩
    rw [show its.toArray.any (eqU x)=its.any (eqU x) by simp,ZhM r fs]
    exact q
theorem ZgH:CallR X (.builtin "len") (λxs H Q=>∃ p ys,xs=[.ref p]/\(SqL X.K H p ys\/SqT X.K H p ys)/\Q (.int ys.length) H):=by
  intro pins s σ H xs us Q I r h
  obtain ⟨p,ys,rfl,hq,q⟩:=h
  obtain ⟨u,rfl,rx⟩:=vals1 r
  cases rx
  have hn:=ZiF
  rcases hq with hq | hq
  . obtain ⟨its,r',pl,hz⟩:=I.list hq
    have hlen:=r'.length
    exact Calls.call_len_list pl.isList (by simp only [List.size_toArray] <;> omega) ⟨.int ys.length,H,I.tok _,⟨s.toks+1,by rw [List.size_toArray,hlen]⟩,q⟩
  . obtain ⟨its,r',pl,hz⟩:=I.tuple hq
    have hlen:=r'.length
    exact len_tuple pl (by simp only [List.size_toArray] <;> omega) ⟨.int ys.length,H,I.tok _,⟨s.toks+1,by rw [List.size_toArray,hlen]⟩,q⟩
theorem ZgI:CallR X (.type "list") (λxs H Q=>∃ p ys,xs=[.ref p]/\(SqL X.K H p ys\/SqT X.K H p ys)/\∀ l,H l=none->Q (.ref l) (upd H l (.lst ys))):=by
  intro pins s σ H xs us Q I r h
  obtain ⟨p,ys,rfl,hq,q⟩:=h
  obtain ⟨u,rfl,rx⟩:=vals1 r
  cases rx
  have fin:∀ (its:List Value),Vals ys its->ys.length<=sizeLine->∀ (h':Heap) (c':Nat),(∀ b o',s.heap.get? b=some o'->h'.get? b=some o') ->
      h'.get? s.heap.objs.size=some { cls:=.type "list",dict:=none,data:=.seq its.toArray c',slots:=#[] }->EP X pins σ Q (.ref s.heap.objs.size) { s with heap:=h' }:=λits r' hz h' c' kp e =>
    ⟨.ref s.heap.objs.size,_,I.laid (t':=s.toks) kp (Nat.le_refl _) (show ObjOk X.prog X.w _ h' _ (.lst ys) from ⟨hz,its,c',r',e⟩),rfl,q _ (I.hok.fresh (Nat.le_refl _))⟩
  rcases hq with hq | hq
  . obtain ⟨its,r',pl,hz⟩:=I.list hq
    have hlen:=r'.length
    obtain ⟨o,ho,hc,n,hd⟩:=pl.isList
    exact call_list_seq p (.inl rfl) ho hc hd (λh' c' kp e=>fin its r' hz h' c' kp e) (by simp only [List.size_toArray] <;> omega)
  . obtain ⟨its,r',pl,hz⟩:=I.tuple hq
    have hlen:=r'.length
    obtain ⟨o,ho,hc,n,hd⟩:=pl
    exact call_list_seq p (.inr rfl) ho hc hd (λh' c' kp e=>fin its r' hz h' c' kp e) (by simp only [List.size_toArray] <;> omega)
theorem ZfG:CallR X (.type "tuple") (λxs H Q=>∃ p ys,xs=[.ref p]/\((SqL X.K H p ys/\∀ l,H l=none->Q (.ref l) (upd H l (.tup ys)))\/(SqT X.K H p ys/\Q (.ref p) H))):=by
  intro pins s σ H xs us Q I r h
  obtain ⟨p,ys,rfl,h⟩:=h
  obtain ⟨u,rfl,rx⟩:=vals1 r
  cases rx
  rcases h with ⟨hq,q⟩ | ⟨hq,q⟩
  . obtain ⟨its,r',pl,hz⟩:=I.list hq
    have hlen:=r'.length
    refine call_tuple_list pl.isList (λh' kp=>?_) (by simp only [List.size_toArray] <;> omega)
    have I1:Inv X pins σ H { s with heap:=h' }:=I.kept (t':=s.toks) kp
    have I2:Inv X pins σ (upd H h'.objs.size (.tup ys)) { s with heap:=h'.push { cls:=.type "tuple",data:=.seq its.toArray } } :=
      I1.laid (t':=s.toks) (λb o e=>Heap.get?_push_of_some _ e) (Nat.le_refl _) (show ObjOk X.prog X.w _ _ _ (.tup ys) from ⟨hz,its,r',IsTup.new _ _⟩)
    exact ⟨.ref h'.objs.size,_,I2,rfl,q _ (I1.hok.fresh (Nat.le_refl _))⟩
  . obtain ⟨its,r',pl,hz⟩:=I.tuple hq
    exact call_tuple_same pl ⟨.ref p,H,I,rfl,q⟩
def tyV (K:PySem.W.Frag) (T:String) (x:V) (H:Hp):Prop:=match x with
  | .str _=>T = "str"
  | .int _=>T = "int"
  | .ref p=>(T = "list" /\ ∃ xs,SqL K H p xs)\/(T = "tuple" /\ ∃ o,K.lookup p=some o/\o.cls=.type "tuple" /\ o.dict=none) \/
      (T = "dict" /\ ((∃ kvs,H p=some (.dK kvs))\/∃ kvs,H p=some (.dT kvs)))\/(T = "set" /\ ∃ S n,H p=some (.set S n))
  | _=>False
theorem Zoc {pins:List (Addr×Obj)} {σ:St} {H:Hp} {s:Shared} {T:String} {x:V} {v:Value} (I:Inv X pins σ H s) (r:RelV x v) (ty:tyV X.K T x H) :
    s.TypeIs v T/\∀ a,v=.ref a->∃ ob,s.heap.get? a=some ob/\ob.dict=none:=by
  cases x with
  | str z =>
    obtain ⟨t,rfl⟩:=r
    cases (show T = "str" from ty)
    exact ⟨typeIs_str s z t,λ_ e=>nomatch e⟩
  | int i =>
    obtain ⟨t,rfl⟩:=r
    cases (show T = "int" from ty)
    exact ⟨typeIs_int s i t,λ_ e=>nomatch e⟩
  | ref p =>
    cases r
    rcases ty with ⟨rfl,xs,hq⟩ | ⟨rfl,o,hk,hc,hd⟩ | ⟨rfl,hk⟩ | ⟨rfl,S,n,hk⟩
    . obtain ⟨its,_,pl,_⟩:=I.list hq
      refine ⟨pl.isList.typeIs,λa e=>?_⟩
      cases e
      obtain ⟨o,n,e,c,hd,_⟩:=pl
      exact ⟨o,e,hd⟩
    . refine ⟨⟨o,I.kIn p o hk,hc⟩,λa e=>?_⟩
      cases e
      exact ⟨o,I.kIn _ o hk,hd⟩
    . have z:∃ o,s.heap.get? p=some o/\o.ExactDict:=by
        rcases hk with ⟨kvs,hk⟩ | ⟨kvs,hk⟩
        . obtain ⟨_,_,_,_,o,_,_,e,ex,_⟩:=I.hok p _ hk
          exact ⟨o,e,ex⟩
        . obtain ⟨_,_,_,_,o,_,_,e,ex,_⟩:=I.hok p _ hk
          exact ⟨o,e,ex⟩
      obtain ⟨o,e,ex⟩:=z
      refine ⟨⟨o,e,ex.1⟩,λa e2=>?_⟩
      cases e2
      exact ⟨o,e,ex.2.1⟩
    . obtain ⟨o,_,_,_,e,ex,_⟩:=I.hok p _ hk
      refine ⟨⟨o,e,ex.1⟩,λa e2=>?_⟩
      cases e2
      exact ⟨o,e,ex.2.1⟩
  | _=>exact False.elim ty
def tBM (K:PySem.W.Frag) (T:String) (r:V->List V->Hp->VK->Prop) (to:TE) (t:TA):TE:=λσ H Q=>to σ H λx H1=>tyV K T x H1/\t σ H1 λxs H2=>r x xs H2 Q
variable {o e:Expr} {es:List Expr} {to:TE} {t:TA} {name:Str} {apos cpos:Pos} {T id:String} {r:V->List V->Hp->VK->Prop}
theorem pe_bm (pa:PlainAttrs T) (slot:Slot T name id) (hty:typeOf (.builtin id)=pure (.type "method_descriptor")) (hm:MtR X id r) (ho:PE X o to) (ha:PA X (e :: es) t)
    (hbase:attributeBase o name X.env (eval o X.env)=eval o X.env:=by rfl)
    (hfew:((backTo cpos (starEach (e :: es) X.env)).all (λx=>!x.1) && (backToKw cpos (keywordEach [] X.env)).all (λx=>x.1.isSome)
      && decide ((e :: es).length+([]:List Keyword).length+(if ([]:List Keyword).isEmpty then 0 else 1)<30))=true:=by rfl)
    (hline:(apos.endLine == cpos.line)=true:=by rfl) (hs:starEach (e :: es) X.env=(false,eval e X.env) :: starEach es X.env:=by rfl) (hplain:(backTo cpos (starEach es X.env)).any (·.1)=false:=by rfl) :
    PE X (.Call (.Attribute o name apos) (e :: es) [] cpos) (tBM X.K T r to t):=by
  intro pins s σ H Q I h
  refine wpAny_Call_method_late hbase hfew hline rfl (thn (ho pins s σ H _ I h) λv s1 ⟨x,H1,I1,r1,ty,q1⟩=>?_)
  obtain ⟨h1,h2⟩:=Zoc I1 r1 ty
  refine ⟨T,id,pa,slot,hty,h1,h2,?_⟩
  have hA:=ha cpos pins s1 σ H1 _ I1 q1
  rw [hs] at hA ⊢
  refine Calls.callWith_builtin (by show (false || (backTo cpos (starEach es X.env)).any (·.1))=false; rw [hplain] <;> rfl) (Calls.evalArgs_plain ?_)
  exact thn hA λus s2 ⟨vs,H2,I2,r2,q2⟩=>hm pins s2 σ H2 x vs v us Q I2 r1 r2 q2
/- xs.append(e),list.index on a module's tuple .. are MtR facts of 06m -/
end
end L2
namespace L2
open PySem PySem.Spec PyProof.Rows
def MtM (X:Cx) (id:String) (r:V->List V->Hp->VK->Prop):Prop :=
  ∀ (pins:List (Addr×Obj)) (s:Shared) (σ:St) (H:Hp) (x:V) (xs:List V) (v:Value) (us:List Value) (Q:VK),Inv X pins σ H s->RelV x v->Vals xs us->r x xs H Q ->
    wpAny (model X.prog X.w) X.A (call (.builtin id) (v :: us)) (EP X pins σ Q) X.xe s
theorem Vals.one:∀ {x:V} {us:List Value},Vals [x] us->∃ u,us=[u]/\RelV x u
  | _,_,.cons r .nil=>⟨_,rfl,r⟩
theorem Vals.rep {xs:List V} {us:List Value} (h:Vals xs us):∀ k:Nat,Vals (List.replicate k xs).flatten (List.replicate k us).flatten
  | 0=>.nil
  | k+1=>by
    rw [replicate_succ,replicate_succ,List.flatten_cons,List.flatten_cons]
    exact Vals.append h (Vals.rep h k)
theorem ZgJ (its:List Value):∀ (k:Nat) (acc:List Value),
    List.foldl (λx1 x2=>x1++x2) acc.toArray (List.replicate k its.toArray)=(acc++(List.replicate k its).flatten).toArray
  | 0,acc=>by simp
  | k+1,acc=>by
    have e:acc.toArray++its.toArray=(acc++its).toArray:=by simp
    have e2:(acc++its)++(List.replicate k its).flatten=acc++(List.replicate (k+1) its).flatten:=by
      rw [replicate_succ,List.flatten_cons,append_assoc]
    rw [← e2,← ZgJ its k (acc++its),← e,replicate_succ,List.foldl_cons]
section
variable {X:Cx} {pins:List (Addr×Obj)} {σ:St} {H:Hp} {s:Shared} {l b:Addr} {xs ys zs:List V}
theorem Inv.lset {its its':List Value} {n:Nat} {f:Array Value->Array Value} {t':Nat} (I:Inv X pins σ H s) (hH:H l=some (.lst xs))
    (e:s.heap.get? l=some { cls:=.type "list",data:=.seq its.toArray n }) (hf:f its.toArray=its'.toArray) (hv:Vals ys its') (hz:ys.length<=sizeLine) :
    Inv X pins σ (upd H l (.lst ys)) { s with heap:=s.heap.update l (Obj.mapSeq f),toks:=t' }:=by
  have q:=PySem.IsL.update e f
  rw [hf] at q
  refine I.write (x:=l) (e:=l) (by rw [hH]; exact trivial) (.inl rfl) (λb' u hb hu=>(Heap.get?_update_other s.heap (Obj.mapSeq f) (Ne.symm hb)).trans hu) ⟨_,q⟩ ?_
  exact ⟨hz,its',_,hv,q⟩
theorem Inv.lnew {its:List Value} {t':Nat} (I:Inv X pins σ H s) (hv:Vals ys its) (hz:ys.length<=sizeLine) :
    Inv X pins σ (upd H s.heap.objs.size (.lst ys)) { s with heap:=s.heap.push { cls:=.type "list",data:=.seq its.toArray },toks:=t' } :=
  I.laid (λ_ _ q=>Heap.get?_push_of_some _ q) (Nat.le_refl _) ⟨hz,its,0,hv,Heap.get?_push_size _ rfl⟩
theorem Inv.fresh (I:Inv X pins σ H s):H s.heap.objs.size=none:=I.hok.fresh (Nat.le_refl _)
theorem Inv.lstM (I:Inv X pins σ H s) (hH:H l=some (.lst xs)):xs.length<=sizeLine/\∃ (its:List Value) (n:Nat),Vals xs its/\xs.length=its.length/\s.heap.get? l=some { cls:=.type "list",data:=.seq its.toArray n }:=by
  obtain ⟨z,its,n,r,e⟩:=I.hok l _ hH
  exact ⟨z,its,n,r,r.length,e⟩
theorem ZlK {n:Nat} (h:n<=sizeLine):Builtin.List.listTooLong n=false:=by
  unfold Builtin.List.listTooLong
  exact decide_eq_false (by omega)
end
section
variable {X:Cx}
def Zng:V->List V->Hp->VK->Prop:=λx vs H Q=>∃ l xs y,x=.ref l/\vs=[y]/\H l=some (.lst xs)/\xs.length<sizeLine/\Q .non (upd H l (.lst (xs++[y])))
theorem ZbT:MtM X "list.append" Zng:=by
  intro pins s σ H x vs v us Q I rx rv h
  obtain ⟨l,xs,y,rfl,rfl,hH,hz,q⟩:=h
  cases rx
  obtain ⟨u,rfl,ru⟩:=rv.one
  obtain ⟨z,its,n,r,hl,e⟩:=I.lstM hH
  refine call_meets F.slot_list_append ⟨_,e,rfl⟩ F.entry_list_append (F.args_list_append_2 _ _) (PySem.list_append l its.toArray n u (by rw [List.size_toArray]; omega)) ⟨e,?_⟩
  refine ⟨.non,_,I.lset (its':=its++[u]) hH e (by simp) (r.append (.cons ru .nil)) ?_,rfl,q⟩
  rw [length_append,length_singleton]
  omega
def rCat:R2:=λx y H Q=>∃ l b xs zs,x=.ref l/\y=.ref b/\H l=some (.lst xs)/\H b=some (.lst zs)/\xs.length+zs.length<=sizeLine/\∀ p,H p=none->Q (.ref p) (upd H p (.lst (xs++zs)))
theorem Zod:OpR X (binaryOp .Add) rCat:=by
  intro pins s σ H x y v u Q I rx ry h
  obtain ⟨l,b,xs,zs,rfl,rfl,hH,hB,hz,q⟩:=h
  cases rx
  cases ry
  obtain ⟨z,its,n,r,hl,e⟩:=I.lstM hH
  obtain ⟨z2,its2,n2,r2,hl2,e2⟩:=I.lstM hB
  refine PySem.P.add_list e e2 ?_ (by rw [List.size_toArray,List.size_toArray]; omega)
  have ea:its.toArray++its2.toArray=(its++its2).toArray:=by simp
  rw [ea]
  exact ⟨.ref _,_,I.lnew (t':=s.toks) (r.append r2) (by rw [length_append]; omega),rfl,q _ I.fresh⟩
def rRep:R2:=λx y H Q=>∃ l k xs,x=.ref l/\y=.int k/\H l=some (.lst xs) /\ -(2 ^ 63)<=k/\k<2 ^ 63/\xs.length * k.toNat<=sizeLine /\
  ∀ p,H p=none->Q (.ref p) (upd H p (.lst (List.replicate k.toNat xs).flatten))
theorem Znh {α:Type} (xs:List α) (k:Nat):(List.replicate k xs).flatten.length=k * xs.length:=by
  induction k with
  | zero=>simp
  | succ k ih=>rw [replicate_succ,List.flatten_cons,length_append,ih,Nat.succ_mul,Nat.add_comm]
theorem Zoe:OpR X (binaryOp .Mult) rRep:=by
  intro pins s σ H x y v u Q I rx ry h
  obtain ⟨l,k,xs,rfl,rfl,hH,h1,h2,hz,q⟩:=h
  cases rx
  obtain ⟨t,rfl⟩:=ry
  obtain ⟨z,its,n,r,hl,e⟩:=I.lstM hH
  have hlen:its.toArray.size * k.toNat<=sizeLine:=by rw [List.size_toArray,← hl]; exact hz
  have hcap:¬ its.toArray.size * k.toNat > (2 ^ 63 - 1) / 8:=by
    have:(sizeLine:Nat)<=(2 ^ 63 - 1) / 8:=by decide
    omega
  have hfit:¬ (!Builtin.List.listFitsIndex k)=true:=by
    rw [fitsIndex_both h1 h2]
    exact Bool.false_ne_true
  have hlong:¬ Builtin.List.listTooLong (its.toArray.size * k.toNat)=true:=by
    rw [ZlK hlen]
    exact Bool.false_ne_true
  have hnew:List.foldl (λx1 x2=>x1++x2) #[] (List.replicate (if its.toArray.isEmpty=true then 0 else k.toNat) its.toArray)=(List.replicate k.toNat its).flatten.toArray:=by
    have f0:∀ m:Nat,List.foldl (λx1 x2=>x1++x2) #[] (List.replicate m its.toArray)=(List.replicate m its).flatten.toArray:=λm=>by
      have:=ZgJ its m []
      rw [List.nil_append] at this
      exact this
    rw [f0]
    cases its with
    | nil=>simp
    | cons a r'=>rw [if_neg (by simp)]
  refine wpAny_binaryOp_repeat_ref (T := "list") (U := "int") (by decide) ⟨_,e,rfl⟩ (λs'=>typeIs_int s' k t) noFill_list_mul F.fills_int_mul F.slot_int_rmul repeat_list F.slot_int_index.lookup
    (call_meets F.slot_int_rmul (typeIs_int s k t) F.entry_int_rmul (F.args_int_rmul_2 _ _) (int___rmul___int_list k t l its.toArray n)
      ⟨e,rfl,⟨_,e,rfl⟩,call_meets F.slot_list_mul ⟨_,e,rfl⟩ F.entry_list_mul (F.args_list_mul_2 _ _) (AutoListH.list___mul___list_int_3 l its.toArray n k t hfit hcap hlong) ⟨e,?_⟩⟩)
  rw [hnew]
  exact ⟨.ref _,_,I.lnew (t':=s.toks) (r.rep k.toNat) (by rw [Znh,Nat.mul_comm]; exact hz),rfl,q _ I.fresh⟩
end
end L2
namespace Att
open PySem PySem.W PySem.Calls PyProof.Rows
theorem Zel {P:Params} {h:Heap}:∀ (ns:List Int) (vs:List Value),WellAll P h vs (ns.map WData.int)->IntsAre vs ns:=by
  intro ns
  induction ns with
  | nil =>
    intro vs w
    rw [map_nil] at w
    cases w
    exact .nil
  | cons n ns ih =>
    intro vs w
    rw [map_cons] at w
    cases w with
    | cons a b =>
      cases a
      exact .cons _ _ (ih _ b)
theorem Zkq {l:OpenLaw} {n:Nat} (hn:l.most=some n) {P:Params} {h:Heap} {args:List WData} {vals:List Value}
    (hpre:l.row.toRowW.claim.pre args=true) (hwl:WellAll P h vals args) :
    ∃ a vs ns,vals=[Value.ref a]/\args=[WData.list (ns.map WData.int)]/\h.get? a=some { cls:=.type "list",data:=.seq vs.toArray }/\IntsAre vs ns/\ns.length<=n:=by
  have hsh:WShape.hasAll [] args [.list .int]=true:=(pre_splitW hpre).1
  have hc:l.pre.holds [] { args:=args }=true:=(pre_splitW hpre).2
  obtain ⟨d,r,rfl,h1,h2⟩:=hasAllW_cons hsh
  obtain rfl:=hasAllW_nil h2
  obtain ⟨xs,rfl,h3⟩:=hasW_list h1
  obtain ⟨ns,rfl⟩:=items_int h3
  have hlen:ns.length<=n:=by
    unfold OpenLaw.pre at hc
    have h4:(WTm.not (.lt (.lit (.int (n:Int))) (.len (.arg 0)))).holds [] { args:=[.list (ns.map .int)] }=true:=by
      have h4:=(holds_andW hc).1
      rw [hn] at h4
      exact h4
    have h5:=condW_of h4 (w_not (w_lt w_lit (w_len_list (w_arg rfl))))
    rw [length_map] at h5
    refine Nat.le_of_not_lt λq=>?_
    have q':(n:Int)<((ns.length:Nat):Int):=by omega
    first
      | (rw [decide_eq_true q'] at h5; exact absurd h5 (by decide))
      | (simp at h5; omega)
  cases hwl with
  | cons w1 w2 =>
    cases w2
    cases w1 with
    | list ho hall=>exact ⟨_,_,ns,rfl,rfl,ho,Zel ns _ hall,hlen⟩
theorem Zkr (l:OpenLaw) (args:List WData):l.row.toRowW.claim.post args (.bool true) args=true :=
  postW_of (r:=l.row.toRowW) (X:=(true == true))
    (show WShape.has [] (.bool true) .bool=true by first | rfl | decide | simp [WShape.has,WShape.arms,WShape.armsAll])
    (show (WTm.eq .res (.lit (.bool true))).value [] { args:=args,res:=some (.bool true),after:=args }=some (.bool (true == true)) from w_eq_bool (w_res rfl) w_lit) rfl
theorem attach_call {l:OpenLaw} {n:Nat} {q:Program} {loose:List Str} {XP:(Str->Option Value)->Heap->Prop} {YP:World->Heap->Prop} {d:DefRec}
    (hn:l.most=some n) (hdf:d.params.defaults=[])
    (call:∀ (w:World) (s₀ s₁:Shared) (mg mb:Str->Option Value) (fa:Addr) (o:Obj) (pm cd doc:Value) (a:Addr) (vs:List Value) (ns:List Int),
      Ground q loose [] XP w s₀ mg mb s₁.heap->YP w s₁.heap ->
      s₁.heap.get? fa=some o->o.data=.func (docDef d.name d.params d.body d.scope pm cd doc)->s₁.heap.CodeRec cd d.name->mg d.name=some (.ref fa) ->
      s₁.heap.get? a=some { cls:=.type "list",data:=.seq vs.toArray }->IntsAre vs ns->ns.length<=n->s₁.gens=#[] ->
      codeAny (model l.prog w) callerA (.call (.ref fa) ⟨[.ref a],[]⟩) (λr s'=>r=.ok (.ret (.bool true))/\OldK s₁.heap s'.heap/\s'.os=s₁.os/\AllBare s'.gens) s₁) :
    WalkO q loose XP YP l.row.toRowW d [] (λf vs=>PySem.call f vs):=by
  intro w s₀ s₁ mg mb G Y fa o pm cd doc dV kV ho hd hcd hD hmg hg args vals as hpre hlay hrd hwl hlo
  obtain rfl:dV=.none:=Dflts.none hD hdf
  obtain rfl:kV=.none:=Dflts.noKw hD
  obtain ⟨a,vs,ns,rfl,rfl,hobj,hints,hlen⟩:=Zkq hn hpre hwl
  refine enter_call (codeAny_mono (call w s₀ s₁ mg mb fa o pm cd doc a vs ns G Y ho (fd_plain hd) hcd hmg hobj hints hlen hg) λr s' hq=>?_)
  obtain ⟨rfl,h2,h3,h4⟩:=hq
  exact ⟨.inl ⟨.bool true,.bool true,[],rfl,λ_=>rfl,.bool true,Zkr l _,λ_=>⟨List.Pairwise.nil,λ_ hm=>(nomatch hm)⟩⟩,h2,h3,h4⟩
end Att
namespace L2
open PySem PySem.Spec PyProof.Rows
theorem ZcX:∀ {vs:List Value} {ns:List Int},IntsAre vs ns->Vals (ns.map V.int) vs
  | _,_,.nil=>.nil
  | _,_,.cons n t h=>.cons ⟨t,rfl⟩ (ZcX h)
end L2
namespace L2
open PySem PySem.Spec PyProof.Rows
end L2
namespace L2
open PySem PySem.Spec PyProof.Rows
def Zr (s:Stmt) (j:Nat):Stmt:=match s with
  | .ClassDef _ _ _ body _ _ _ _ _ _ _=>body.getD j (.Pass ⟨0,0,0,0⟩)
  | _=>.Pass ⟨0,0,0,0⟩
def Zn (s:Stmt):Arguments:=match s with
  | .FunctionDef _ a _ _ _ _ _ _ _ _=>a
  | _=>{ posonlyargs:=[],args:=[],vararg:=none,kwonlyargs:=[],kw_defaults:=[],kwarg:=none,defaults:=[] }
def Zm (s:Stmt):List Stmt:=match s with
  | .FunctionDef _ _ b _ _ _ _ _ _ _=>b
  | _=>[]
def Zc (s:Stmt):Scope:=match s with
  | .FunctionDef _ _ _ _ _ _ sc _ _ _=>sc
  | _=>{ kind:=.function,names:=[],isGenerator:=false,isCoroutine:=false }
abbrev CX0:CXT:=λ_ _ _ _ _ _=>False
abbrev E0:XK:=λ_ _ _=>False
theorem pass0 {X:Cx}:Zej CX0 X E0:=λ_ _ _ _ _ _ _ h=>h.elim
structure Fun (K:PySem.W.Frag) (x qual:Str) (st:Stmt) (f:Addr) (fd:FuncData):Prop where
  ex:∃ (oc:Value) (od:Option Addr) (kV doc pm:Value) (an:Option Addr) (cdv ct:Value) (osl:Array (Option Value)),
    fd=PySem.W.fnOf x qual (Zn st) (Zm st) (Zc st) .none kV doc pm an cdv ct/\K.lookup f=some ⟨oc,od,.func fd,osl⟩/\PySem.W.codeIn K cdv qual=true
  kp:PySem.W.keepIn K (.ref f)=true
section
variable {P:Program} {w:World} {K:PySem.W.Frag} {mg:Str->Option Value} {base:Heap}
theorem Fun.ok {x qual:Str} {st:Stmt} {f:Addr} {fd:FuncData} {N ps:List Str} {k:Nat} {sp:Sp} (F:Fun K x qual st f fd) (S:FnScope N ps (Zc st)) (len:∀ vs H Q E,sp vs H Q E->vs.length=ps.length)
    (hbody:∀ (cdv:Value) (A:Around) (outer:List Env) (s:Shared) (H:Hp) (vs:List V) (Q:VK) (E:XK),Room k (A.deeper (envOfC qual (Zc st) s.heap.objs.size f cdv))->sp vs H Q E ->
      ∃ t,PSs (cxOf CX0 P w K mg base N qual (Zc st) f cdv A outer s H E).nox (Zm st) t/\t { nx:=λ_ H'=>Q .non H',rt:=Q } (start N vs) H):FnOk P w K mg base CX0 (k+1) f fd ps sp:=by
  obtain ⟨oc,od,kV,doc,pm,an,cdv,ct,osl,rfl,lk,hcd⟩:=F.ex
  refine fn_of lk hcd S len λA outer s H vs Q E hr hsp=>?_
  obtain ⟨t,h,q⟩:=hbody cdv A outer s H vs Q E hr hsp
  exact ⟨t,h.nox,q⟩
theorem Fun.binds {x qual:Str} {st:Stmt} {f:Addr} {fd:FuncData} {ps:List Str} (F:Fun K x qual st f fd)
    (h:∀ (kV doc pm:Value) (an:Option Addr) (cdv ct:Value) (us:List Value),us.length=ps.length->bindArgs (PySem.W.fnOf x qual (Zn st) (Zm st) (Zc st) .none kV doc pm an cdv ct) ⟨us,[]⟩=pure (ps.zip us)):Binds K fd ps []:=by
  obtain ⟨oc,od,kV,doc,pm,an,cdv,ct,osl,rfl,lk,hcd⟩:=F.ex
  exact .all (h kV doc pm an cdv ct)
theorem Zq {x qual:Str} {st:Stmt} {f:Addr} {oc:Value} {od an:Option Addr} {osl:Array (Option Value)} {kV doc pm cdv ct:Value} (l:K.lookup f=some ⟨oc,od,.func (PySem.W.fnOf x qual (Zn st) (Zm st) (Zc st) .none kV doc pm an cdv ct),osl⟩)
    (c:PySem.W.codeIn K cdv qual=true) (k:PySem.W.keepIn K (.ref f)=true):Fun K x qual st f (PySem.W.fnOf x qual (Zn st) (Zm st) (Zc st) .none kV doc pm an cdv ct):=⟨⟨oc,od,kV,doc,pm,an,cdv,ct,osl,rfl,l,c⟩,k⟩
end
theorem hu_of {A:Around} {k:Nat} (hr:Room k A):A.units+1<cLine:=Nat.lt_of_le_of_lt (Nat.add_le_add_left (by decide:1<=64) _) hr.units
theorem Zx {n:Nat} (h:n<=1000):n<sizeLine:=Nat.lt_of_le_of_lt h (by decide)
section
variable {X:Cx}
theorem pv (i:Nat) {x:Str} {pos:Pos} (hN:X.N[i]?=some x:=by rfl) (hv:Vis X.env.scope x:=by first | exact Or.inl rfl | exact Or.inr (Or.inl rfl) | exact Or.inr (Or.inr rfl)) (hd:(x == ("__debug__" : Str))=false:=by decide)
    (hcd:(x == ("__classdict__" : Str))=false:=by decide):PE X (.Name x pos) (tVar i):=ZnP hN hv hd hcd
end
def Same (H H':Hp):Prop:=∀ b o,H b=some o->H' b=some o
theorem Same.refl (H:Hp):Same H H:=λ_ _ h=>h
theorem Same.trans {H H1 H2:Hp} (a:Same H H1) (b:Same H1 H2):Same H H2:=λc o h=>b c o (a c o h)
theorem Same.free {H H':Hp} (e:Same H H') {l:Addr} (h:H' l=Option.none):H l=Option.none:=by
  cases q:H l with
  | none=>rfl
  | some o =>
    rw [e l o q] at h
    cases h
theorem Same.seq {K:PySem.W.Frag} {H H':Hp} {a:Addr} {xs:List V} (e:Same H H') (h:SqL K H a xs):SqL K H' a xs:=by
  rcases h with (h | ⟨o,h⟩) | h
  . exact .inl (.inl (e _ _ h))
  . exact .inl (.inr ⟨o,e _ _ h⟩)
  . exact .inr h
end L2
set_option maxHeartbeats 4000000
namespace L2
open PySem PySem.Spec PyProof.Rows
def cxIn (X:Cx) (N:List Str) (scope:Scope) (cl:List (Str×Addr)) (C:Addr) (s0:Shared) (H0:Hp) (fp:List Addr) (pins:List (Addr×Obj)):Cx :=
  { X with N:=N,s₀:=s0,H₀:=H0,env:=compEnvC scope cl C X.env,outer:=X.stack,stack:=X.stack,ex:=fp,fn:=λx=>scope.names.lookup x == some .cell,pn:=X.pn++pins,xe:=λ_ _=>False }
theorem ZbU {env:Env}:∀ (names:List (Str×NameKind)) (acc:List (Str×Addr)),(∀ p∈names,p.2=.free->∃ c,env.cells.lookup p.1=some c)->(∀ x c,acc.lookup x=some c->env.cells.lookup x=some c) ->
    ∃ cl,(forIn names acc λ(x:Str×NameKind) cs=>(match x with | (name,kind)=>if (kind == NameKind.free)=true then do let a ← cellOf env name; pure (ForInStep.yield ((name,a) :: cs)) else pure (ForInStep.yield cs):Sem (ForInStep (List (Str×Addr)))))=(pure cl:Sem (List (Str×Addr))) /\
      (∀ x c,cl.lookup x=some c->env.cells.lookup x=some c)/\(∀ x c,acc.lookup x=some c->cl.lookup x=some c)/\∀ p∈names,p.2=.free->∃ c,cl.lookup p.1=some c
  | [],acc,_,h=>⟨acc,rfl,h,λ_ _ e=>e,λ_ z=>nomatch z⟩
  | (n,k) :: r,acc,h,ha=>by
    by_cases hk:k=.free
    . subst hk
      obtain ⟨c,hc⟩:=h (n,.free) mem_cons_self rfl
      have ha':∀ x d,((n,c) :: acc).lookup x=some d->env.cells.lookup x=some d:=λx d e=>by
        rw [List.lookup_cons] at e
        cases q:x == n with
        | true =>
          rw [q] at e
          have hxn:x=n:=by simpa using q
          subst hxn
          cases e
          exact hc
        | false =>
          rw [q] at e
          exact ha x d e
      obtain ⟨cl,e1,e2,e3,e4⟩:=ZbU r ((n,c) :: acc) (λp hp=>h p (mem_cons_of_mem _ hp)) ha'
      have top:∃ d,cl.lookup n=some d:=⟨c,e3 n c (by rw [List.lookup_cons]; simp)⟩
      refine ⟨cl,?_,e2,λx d e=>?_,λp hp hf=>?_⟩
      . rw [List.forIn_cons]
        simp only [cellOf,hc,beq_self_eq_true,if_true]
        exact e1
      . cases q:x == n with
        | true =>
          have hxn:x=n:=by simpa using q
          subst hxn
          have z:=ha x d e
          rw [hc] at z; cases z
          exact e3 x c (by rw [List.lookup_cons]; simp)
        | false=>exact e3 x d (by rw [List.lookup_cons,q]; exact e)
      . rcases List.mem_cons.mp hp with rfl | hp
        . exact top
        . exact e4 p hp hf
    . obtain ⟨cl,e1,e2,e3,e4⟩:=ZbU r acc (λp hp=>h p (mem_cons_of_mem _ hp)) ha
      have hb:(k == NameKind.free)=false:=by simpa using hk
      refine ⟨cl,?_,e2,e3,λp hp hf=>?_⟩
      . rw [List.forIn_cons]
        simp only [hb,Bool.false_eq_true,if_false]
        exact e1
      . rcases List.mem_cons.mp hp with rfl | hp
        . exact absurd hf hk
        . exact e4 p hp hf
theorem Zem {α:Type} (f:Str->α->α) (x:Str):∀ l:List (Str×α),(l.map λp=>(p.1,f p.1 p.2)).lookup x=(l.lookup x).map (f x)
  | []=>rfl
  | (n,k) :: r=>by
    have ih:=Zem f x r
    rw [map_cons,List.lookup_cons,List.lookup_cons]
    cases q:x == n with
    | true =>
      have e:x=n:=by simpa using q
      subst e
      rfl
    | false=>exact ih
def Zen (env:Env) (n:Str) (k:NameKind):NameKind:=if (k == NameKind.free && env.scope.kind == .function && env.kindOf n == some .cell)=true then .cell else k
theorem ZdI (scope:Scope) (env:Env) (x:Str):(relabel scope env).names.lookup x=(scope.names.lookup x).map (Zen env x):=by
  rw [← Zem (Zen env) x scope.names]
  show (scope.names.map _).lookup x=_
  congr 1
  refine List.map_congr_left λp _=>?_
  show (if _ then _ else _)=_
  unfold Zen
  split <;> rfl
theorem ZdJ (env:Env) (n:Str) (k:NameKind):Zen env n k=k\/(k=.free/\Zen env n k=.cell):=by
  unfold Zen
  by_cases h:(k == NameKind.free && env.scope.kind == .function && env.kindOf n == some .cell)=true
  . refine .inr ⟨?_,if_pos h⟩
    rw [Bool.and_eq_true,Bool.and_eq_true] at h
    exact beq_iff_eq.mp h.1.1
  . exact .inl (if_neg h)
theorem ZcP {scope:Scope} {env:Env} {x:Str} {k:NameKind} (h:scope.names.lookup x=some k) :
    (relabel scope env).names.lookup x=some k\/(k=.free/\(relabel scope env).names.lookup x=some .cell):=by
  rw [ZdI,h]
  rcases ZdJ env x k with q | ⟨q,q'⟩
  . exact .inl (congrArg some q)
  . exact .inr ⟨q,congrArg some q'⟩
theorem ZgK {scope:Scope} {env:Env} {x:Str} {k:NameKind} (h:(relabel scope env).names.lookup x=some k):∃ k',scope.names.lookup x=some k'/\(k'=k\/k'=.free):=by
  rw [ZdI] at h
  cases q:scope.names.lookup x with
  | none=>rw [q] at h; cases h
  | some k' =>
    rw [q] at h
    have h':Zen env x k'=k:=Option.some.inj h
    rcases ZdJ env x k' with z | ⟨z,_⟩
    . exact ⟨k',rfl,.inl (z.symm.trans h')⟩
    . exact ⟨k',rfl,.inr z⟩
theorem ZaG {α:Type} {x:Str}:∀ {l:List (Str×α)} {k:α},l.lookup x=some k->(x,k)∈l
  | [],_,h=>by simp at h
  | (n,k) :: r,k',h=>by
    rw [List.lookup_cons] at h
    cases hx:x == n with
    | true =>
      rw [hx] at h; cases h
      have:x=n:=by simpa using hx
      subst this
      exact mem_cons_self
    | false =>
      rw [hx] at h
      exact mem_cons_of_mem _ (ZaG h)
theorem Zks {prog:Program} {w:World} {A:Around} {s:Shared} {elt target iter:PySem.Expr} {ifs:List PySem.Expr} {scope:Scope} {pos:Pos} {it acc:Value} {env:Env} {R:Result->Shared->Prop} (I:Nat->Shared->Prop)
    (turn:∀ n s,I n s->wpAny (model prog w) A (pyNext it) (λr s1=>match r with
      | none=>R (.ok .next) s1
      | some v=>wpAny (model prog w) A (letOwnedTupleGo target it v) (λ_ s0=>wpAny (model prog w) A (assign target env v) (λ_ s2 =>
          wpAny (model prog w) A (forIn ifs true λc r=>if r=true then do let ok ← isTrue c env (eval c env); pure (ForInStep.yield ok) else pure (ForInStep.yield r)) (λok s3 =>
            if ok=true then wpAny (model prog w) A (eval elt env) (λx s4 =>
              wpAny (model prog w) A (call (.builtin "list.append") [acc,x]) (λ_ s5=>∃ m,m<n/\I m s5) (λ_ _=>False) s4) (λ_ _=>False) s3
            else ∃ m,m<n/\I m s3) (λ_ _=>False) s2) (λ_ _=>False) s0) (λ_ _=>False) s1) (λ_ _=>False) s)
    (n:Nat) (h:I n s):codeAny (model prog w) A (.compLoop (.ListComp elt [⟨target,iter,ifs,0⟩] scope pos) 0 it acc env) R s:=by
  have body:∀ n s,I n s->wpAny (model prog w) A (compTurn (.ListComp elt [⟨target,iter,ifs,0⟩] scope pos) 0 it acc env)
      (λfin s'=>match fin with | .done f=>R (.ok f) s' | .again c=>c=.compLoop (.ListComp elt [⟨target,iter,ifs,0⟩] scope pos) 0 it acc env/\∃ m,m<n/\I m s') (λ_ _=>False) s:=λn s hI=>by
    rw [compTurn_list]
    refine wpAny_bind (wpAny_standAt (wpAny_bind (thn (turn n s hI) λr s1 h1=>?_)))
    cases r with
    | none=>exact wpAny_pure h1
    | some v =>
      refine wpAny_bind (thn h1 λ_ s0 h0=>wpAny_bind (thn h0 λ_ s2 h2=>wpAny_bind (thn h2 λok s3 h3=>?_)))
      cases ok with
      | true=>exact wpAny_bind (wpAny_bind (thn h3 λx s4 h4=>wpAny_bind (thn h4 λ_ s5 h5=>wpAny_pure (wpAny_pure ⟨rfl,h5⟩))))
      | false=>exact wpAny_pure ⟨rfl,h3⟩
  exact codeAny_loop rfl I (λn s hI=>wpAny_noted (wpAny_mono (body n s hI) (λ_ _ q=>q) λ_ _ q=>q.elim)) n h
def tComp (own:Nat) (js:List Nat) (wi:TI) (g:TG) (tc:TT) (te:TE):TE:=λσ H Q=>wi σ H λJ H1=>∀ l,H1 l=none ->
  ∃ W:Nat->Nat->List V->St->Hp->Prop,(∃ m,W 0 m [] (List.replicate own none++js.map λj=>(σ[j]?).join) (upd H1 l (.lst [])))/\∀ i m ys σ' H',W i m ys σ' H' ->
    (J.stop i H'/\Q (.ref l) H')\/(J.go i H'/\∀ x H2,J.yld i H' x H2->g x σ' H2 λσ2 H3=>tc σ2 H3 λb H4 =>
      if b=true then te σ2 H4 λy H5=>H5 l=some (.lst ys)/\ys.length<sizeLine/\∃ m',m'<m/\W (i+1) m' (ys++[y]) σ2 (upd H5 l (.lst (ys++[y])))
      else ∃ m',m'<m/\W (i+1) m' ys σ2 H4)
def tTrue:TT:=λ_ H Q=>Q true H
structure CompOk (X:Cx) (scope:Scope) (N:List Str) (own:Nat) (js:List Nat):Prop where
  kind:scope.kind=.function
  cell:∀ y∈scope.names,y.2=.cell->scope.names.lookup y.1=some .cell
  names:∀ y∈scope.names,y.2=.local->scope.names.lookup y.1=some .local
  free:∀ y∈scope.names,y.2=.free->X.env.kindOf y.1=some .cell\/X.env.kindOf y.1=some .free
  len:N.length=own+js.length
  js:∀ k j,js[k]?=some j->N[own+k]?=X.N[j]?
  jf:∀ k x,N[own+k]?=some x->scope.names.lookup x=some .free
theorem Un.but {fs ex:List Addr} {H H':Hp} {h h1 h2:Heap} {C:Addr} (u:Un fs ex H H' h h1) (hc:h.objs.size<=C) (sb:∀ b o,b≠C->h1.get? b=some o->h2.get? b=some o):Un fs ex H H' h h2:=by
  have ne:∀ b o,h.get? b=some o->b≠C:=λb o e=>Nat.ne_of_lt (Nat.lt_of_lt_of_le (Heap.lt_size e) hc)
  refine ⟨λb o q n hb hx=>sb b o (ne b o q) (u.keep b o q n hb hx),λb o q n hb hx=>?_,u.free,λb o q hx=>?_,u.tups,u.frzs,u.tbls⟩
  . obtain ⟨sl,e⟩:=u.slot b o q n hb hx
    exact ⟨sl,sb b _ (ne b o q) e⟩
  . obtain ⟨o',e⟩:=u.there b o q hx
    exact ⟨o',sb b o' (ne b o q) e⟩
theorem Zeo:∀ (names:List (Str×NameKind)) (n:Nat) (acc:List (Str×Addr)),cellsFrom n names acc=cellsFrom n names []++acc
  | [],_,_=>rfl
  | (x,k) :: r,n,acc=>by
    unfold cellsFrom
    by_cases hk:(k == NameKind.cell)=true
    . rw [if_pos hk,if_pos hk,Zeo r (n+1) ((x,n) :: acc),Zeo r (n+1) [(x,n)],append_assoc]
      rfl
    . rw [if_neg hk,if_neg hk]
      exact Zeo r n acc
theorem ZhN:∀ (names:List (Str×NameKind)) (n:Nat) (x:Str) (c:Addr),(x,c)∈cellsFrom n names []->(x,NameKind.cell)∈names
  | [],_,_,_,h=>nomatch h
  | (y,k) :: r,n,x,c,h=>by
    unfold cellsFrom at h
    by_cases hk:(k == NameKind.cell)=true
    . rw [if_pos hk,Zeo] at h
      rcases List.mem_append.mp h with q | q
      . exact mem_cons_of_mem _ (ZhN r _ x c q)
      . have e:(x,c)=(y,n):=by simpa using q
        cases e
        have hk':k=.cell:=by simpa using hk
        subst hk'
        exact mem_cons_self
    . rw [if_neg hk] at h
      exact mem_cons_of_mem _ (ZhN r _ x c h)
theorem ZcY {α:Type}:∀ {l:List (Str×α)} {x:Str} {c:α},(x,c)∈l->∃ d,l.lookup x=some d
  | (y,v) :: r,x,c,h=>by
    rw [List.lookup_cons]
    cases q:x == y with
    | true=>exact ⟨v,rfl⟩
    | false =>
      rcases List.mem_cons.mp h with e | e
      . cases e; simp at q
      . exact ZcY e
theorem Zkt:∀ (names:List (Str×NameKind)) (n:Nat) (x:Str),(x,NameKind.cell)∈names->∃ c,(x,c)∈cellsFrom n names []
  | [],_,_,h=>nomatch h
  | (y,k) :: r,n,x,h=>by
    unfold cellsFrom
    rcases List.mem_cons.mp h with e | e
    . cases e
      rw [if_pos (show (NameKind.cell == NameKind.cell)=true from rfl),Zeo]
      exact ⟨n,mem_append_right _ (by simp)⟩
    . by_cases hk:(k == NameKind.cell)=true
      . rw [if_pos hk,Zeo]
        obtain ⟨c,q⟩:=Zkt r (n+1) x e
        exact ⟨c,mem_append_left _ q⟩
      . rw [if_neg hk]
        exact Zkt r n x e
theorem Zfo {α:Type}:∀ (l m:List (Str×α)) (x:Str),(l++m).lookup x=match l.lookup x with | some c=>some c | none=>m.lookup x
  | [],m,x=>rfl
  | (y,v) :: r,m,x=>by
    rw [List.cons_append,List.lookup_cons,List.lookup_cons]
    cases x == y with
    | true=>rfl
    | false=>exact Zfo r m x
theorem ZgL {M:Model} {A:Around} {E:Value->Shared->Prop} {s:Shared} {scope:Scope} {globals:Addr} {cl:List (Str×Addr)} {qual:Str} {env:Env} {Q:Env->Shared->Prop}
    (h:Q (newEnv scope s.heap.objs.size globals (cellsFrom (s.heap.objs.size+1) scope.names cl) qual none .none (some env) builtinsNs) { s with heap:=pushCells (s.heap.push { cls:=.type "dict",data:=.dict #[] }) scope.names }) :
    wpAny M A (newFunctionEnv scope globals cl [] qual none .none (some env)) Q E s:=by
  simp only [newFunctionEnv,Option.isSome_some,if_true]
  refine wpAny_bind (wpAny_alloc (wpAny_bind (wpAny_layCells _ (λname kind cells=>by cases hkc:kind == NameKind.cell <;> simp [hkc]) _ _ _ _ ?_)))
  rw [show ({ s with heap:=s.heap.push { cls:=.type "dict",data:=.dict #[] } }:Shared).heap.objs.size=s.heap.objs.size+1 from Heap.size_push ..]
  rw [List.forIn_nil]
  exact wpAny_bind (wpAny_pure (wpAny_pure h))
structure CellsIn (X:Cx) (scope:Scope) (cl':List (Str×Addr)) (n:Nat) (h':Heap):Prop where
  k1:∀ x c,cl'.lookup x=some c->X.env.cells.lookup x=some c\/(n<c/\h'.IsCell c none/\(x,NameKind.cell)∈scope.names)
  k2:∀ x,scope.names.lookup x=some .free->∃ c,cl'.lookup x=some c/\X.env.cells.lookup x=some c
  k3:∀ p∈scope.names,p.2=.cell\/p.2=.free->∃ c,cl'.lookup p.1=some c
  k4:∀ x y c,cl'.lookup x=some c->cl'.lookup y=some c->x=y
  k5:∀ x c,scope.names.lookup x=some .cell->cl'.lookup x=some c->n<c
section
variable {X:Cx} {scope:Scope} {N:List Str} {own:Nat} {js:List Nat}
theorem ZjB {cl:List (Str×Addr)} {n:Nat} {h0:Heap} (c:CompOk X scope N own js) (cl1:∀ x c,cl.lookup x=some c->X.env.cells.lookup x=some c) (cl2:∀ p∈scope.names,p.2=.free->∃ c,cl.lookup p.1=some c)
    (inj:∀ x y c,X.env.cells.lookup x=some c->X.env.cells.lookup y=some c->x=y) (lt:∀ x c,X.env.cells.lookup x=some c->c<n) (hn:h0.objs.size=n+1):CellsIn X scope (cellsFrom (n+1) scope.names cl) n (pushCells h0 scope.names):=by
  have ok:=cellsFrom_ok scope.names h0 (n+1) [] ⟨λ_ _ hm=>(nomatch hm),List.Pairwise.nil⟩ (by rw [hn]; exact Nat.le_refl _)
  rw [hn] at ok
  have two:∀ x,(cellsFrom (n+1) scope.names cl).lookup x=match (cellsFrom (n+1) scope.names []).lookup x with | some c=>some c | none=>cl.lookup x:=λx=>by
    rw [Zeo,Zfo]
    cases (cellsFrom (n+1) scope.names []).lookup x <;> rfl
  have own':∀ x d,(cellsFrom (n+1) scope.names []).lookup x=some d->(pushCells h0 scope.names).IsCell d none/\n<d/\(x,NameKind.cell)∈scope.names:=λx d e =>
    ⟨(ok.empty x d (mem_of_lookup e)).1,(ok.empty x d (mem_of_lookup e)).2,ZhN _ _ x d (mem_of_lookup e)⟩
  have part:∀ x d,(cellsFrom (n+1) scope.names cl).lookup x=some d->(cellsFrom (n+1) scope.names []).lookup x=some d\/((cellsFrom (n+1) scope.names []).lookup x=none/\cl.lookup x=some d):=λx d e=>by
    rw [two] at e
    cases q:(cellsFrom (n+1) scope.names []).lookup x with
    | some d'=>rw [q] at e; exact .inl e
    | none=>rw [q] at e; exact .inr ⟨rfl,e⟩
  have has:∀ x,(x,NameKind.cell)∈scope.names->∃ d,(cellsFrom (n+1) scope.names []).lookup x=some d:=λx m=>by
    obtain ⟨d,q⟩:=Zkt scope.names (n+1) x m
    exact ZcY q
  refine ⟨λx d e=>?_,λx e=>?_,λp hp hk=>?_,λx y d e1 e2=>?_,λx d e1 e2=>?_⟩
  . rcases part x d e with q | ⟨_,q⟩
    . exact .inr ⟨(own' x d q).2.1,(own' x d q).1,(own' x d q).2.2⟩
    . exact .inl (cl1 x d q)
  . obtain ⟨d,q⟩:=cl2 _ (ZaG e) rfl
    have no:(cellsFrom (n+1) scope.names []).lookup x=none:=by
      cases z:(cellsFrom (n+1) scope.names []).lookup x with
      | none=>rfl
      | some d' =>
        have y:=c.cell _ (own' x d' z).2.2 rfl
        rw [show scope.names.lookup x=_ from e] at y
        cases y
    exact ⟨d,by rw [two,no]; exact q,cl1 x d q⟩
  . rw [two]
    cases z:(cellsFrom (n+1) scope.names []).lookup p.1 with
    | some d'=>exact ⟨d',rfl⟩
    | none =>
      rcases hk with hk | hk
      . obtain ⟨d,q⟩:=has p.1 (by rw [← hk]; exact hp)
        rw [z] at q; cases q
      . exact cl2 p hp hk
  . rcases part x d e1 with q1 | ⟨_,q1⟩
    . rcases part y d e2 with q2 | ⟨_,q2⟩
      . exact name_of_addr ok.apart (mem_of_lookup q1) (mem_of_lookup q2)
      . exact absurd (Nat.lt_trans (own' x d q1).2.1 (lt y d (cl1 y d q2))) (Nat.lt_irrefl _)
    . rcases part y d e2 with q2 | ⟨_,q2⟩
      . exact absurd (Nat.lt_trans (own' y d q2).2.1 (lt x d (cl1 x d q1))) (Nat.lt_irrefl _)
      . exact inj x y d (cl1 x d q1) (cl1 y d q2)
  . obtain ⟨d',q⟩:=has x (ZaG e1)
    rw [two,q] at e2
    cases e2
    exact (own' x d q).2.1
theorem ZjC {pins:List (Addr×Obj)} {σ:St} {H:Hp} {s:Shared} {cl:List (Str×Addr)} {fp:List Addr} {h':Heap} {t':Nat} (c:CompOk X scope N own js) (I:Inv X pins σ H s) (hf:∀ b∈fp,FpOk X pins H b)
    (fo:∀ b∈fp,b<s.heap.objs.size)
    (ci:CellsIn X scope cl s.heap.objs.size h')
    (hn:h'.Ns s.heap.objs.size (λ_=>none)) (hk:∀ b o,s.heap.get? b=some o->h'.get? b=some o) :
    Inv (cxIn X N scope cl s.heap.objs.size s H fp pins) [] (List.replicate own none++js.map λj=>(σ[j]?).join) H { s with heap:=h',toks:=t' }:=by
  have cne:∀ x c,cl.lookup x=some c->c≠s.heap.objs.size:=λx c e=>by
    rcases ci.k1 x c e with q | ⟨q,_⟩
    . obtain ⟨v,q⟩:=I.cell x c q
      exact Nat.ne_of_lt q.lt
    . exact Nat.ne_of_gt q
  have ok:(cxIn X N scope cl s.heap.objs.size s H fp pins).Ok:=by
    refine ⟨I.ok.mod,c.kind,I.ok.glob,I.ok.blt,Nat.le_refl _,ci.k4,λx hx=>?_,λx d z e=>Nat.le_of_lt (ci.k5 x d (beq_iff_eq.mp (show (scope.names.lookup x == some .cell)=true from z)) e),I.ok.hd,I.ok.frames,.inl rfl,λb hb=>⟨Nat.ne_of_lt (fo b hb),λx d e=>(ci.k1 x d e).elim (λq=>(hf b hb).2.2.2.2.1 x d q) λq=>Nat.ne_of_gt (Nat.lt_trans (fo b hb) q.1)⟩,I.bs,
      Nat.le_trans I.ok.bsz I.sz,λb o e hb=>?_,λb hb z=>?_,I.stack,I.stkFree⟩
    . have back:∀ k,(relabel scope X.env).names.lookup x=some k->k=.cell\/k=.free->∃ k',(x,k')∈scope.names/\(k'=NameKind.cell\/k'=NameKind.free):=λk e hk=>by
        obtain ⟨k',e',z⟩:=ZgK e
        refine ⟨k',ZaG e',?_⟩
        rcases z with z | z
        . subst z; exact hk
        . exact .inr z
      obtain ⟨k',m,hk'⟩:∃ k',(x,k')∈scope.names/\(k'=NameKind.cell\/k'=NameKind.free):=by
        rcases hx with hx | hx
        . exact back _ hx (.inl rfl)
        . exact back _ hx (.inr rfl)
      exact ci.k3 _ m hk'
    . rcases (hf b hb).2.2.2.1 with z | z
      . exact I.ok.noex b o e z
      . exact absurd (Nat.lt_of_lt_of_le (Nat.lt_of_lt_of_le (Heap.lt_size e) I.ok.bsz) z) (Nat.lt_irrefl _)
    . rcases List.mem_cons.mp (I.stkSub b z) with q | q
      . exact (hf b hb).2.1 q
      . exact (hf b hb).2.2.1 q
  refine ⟨ok,rfl,I.bare,Un.kept hk,⟨_,hn,λi x v e1 e2 e3=>?_⟩,λx d e=>?_,I.hok.fresh (Nat.le_refl _),λx d e=>(ci.k1 x d e).elim (λq=>I.freeC x d q) λq=>I.hok.fresh (Nat.le_of_lt q.1),λp hp=>?_,I.hok.kept hk,?_⟩
  . -- a name with a value is one that the block closes over
    have hi:own<=i:=by
      by_cases hi:i<own
      . rw [getElem?_append_left (by simpa using hi),List.getElem?_replicate] at e2
        split at e2 <;> cases e2
      . omega
    obtain ⟨k,rfl⟩:∃ k,i=own+k:=⟨i - own,by omega⟩
    rw [getElem?_append_right (by simp),List.length_replicate,Nat.add_sub_cancel_left,getElem?_map] at e2
    cases q:js[k]? with
    | none=>rw [q] at e2; cases e2
    | some j =>
      rw [q] at e2
      have e2':(σ[j]?).join=some v:=by simpa using e2
      have e4:σ[j]?=some (some v):=by
        cases z:σ[j]? with
        | none=>rw [z] at e2'; cases e2'
        | some o=>rw [z] at e2'; rw [show o=some v from e2']
      have e1':N[own+k]?=some x:=e1
      have hXN:X.N[j]?=some x:=(c.js k j q).symm.trans e1'
      have hfr:=c.jf k x e1'
      have hmem:=ZaG hfr
      have hk2:=c.free _ hmem rfl
      have vis:Vis X.env.scope x:=by
        rcases hk2 with z | z
        . exact .inr (.inl z)
        . exact .inr (.inr z)
      obtain ⟨m,_,hl⟩:=I.loc
      obtain ⟨u,r,l⟩:=hl j x v hXN e4 vis
      refine ⟨u,r,?_⟩
      rcases l with ⟨z,_⟩ | ⟨_,d,e,⟨od,ho,hd⟩⟩
      . rcases hk2 with y | y
        . rw [show X.env.kindOf x=_ from z] at y; cases y
        . rw [show X.env.kindOf x=_ from z] at y; cases y
      . obtain ⟨d',e',z'⟩:=ci.k2 x hfr
        have:d'=d:=by have z:=z'; rw [e] at z; exact (Option.some.inj z).symm
        subst this
        refine .inr ⟨?_,d',e',⟨od,hk _ _ ho,hd⟩⟩
        rcases ZcP (scope:=scope) (env:=X.env) hfr with z | ⟨_,z⟩
        . exact .inr z
        . exact .inl z
  . rcases ci.k1 x d e with q | ⟨_,q,_⟩
    . obtain ⟨v,⟨o,ho,hd⟩⟩:=I.cell x d q
      exact ⟨v,o,hk _ _ ho,hd⟩
    . exact ⟨none,q⟩
  . have hp':p∈X.pn++pins:=by
      have z:p∈(X.pn++pins)++[]:=hp
      rwa [append_nil] at z
    obtain ⟨a1,a2,a3,a4,a5⟩:=I.pin p hp'
    refine ⟨hk _ _ a1,a2,Nat.ne_of_lt (Heap.lt_size a1),λz=>?_,a5⟩
    rcases List.mem_cons.mp (I.stkSub p.1 z) with q | q
    . exact a3 q
    . exact a4 q
  . show _=N.length
    rw [c.len]; simp
theorem Zfp {pins:List (Addr×Obj)} {σ:St} {H:Hp} {s:Shared} {elt target iter:PySem.Expr} {ifs:List PySem.Expr} {pos:Pos} {it:Addr} {fp:List Addr} {tn:Nat->Heap->Prop} {J:It} {cl:List (Str×Addr)} {g:TG} {tc:TT} {te:TE} {E:Value->Shared->Prop} {Q:VK}
    {RR:Value->Addr->Result->Shared->Prop}
    (c:CompOk X scope N own js) (hc:X.calm=true) (I:Inv X pins σ H s) (T:Turn X.prog X.w X.K target J fp it tn) (st:tn 0 s.heap) (hf:∀ b∈fp,FpOk X pins H b)
    (cl1:∀ x c,cl.lookup x=some c->X.env.cells.lookup x=some c) (cl2:∀ p∈scope.names,p.2=.free->∃ c,cl.lookup p.1=some c)
    (hg:∀ cl C s0 H0 fp pins,PG (cxIn X N scope cl C s0 H0 fp pins) target g)
    (ht:∀ cl C s0 H0 fp pins pins' s σ H Q,Inv (cxIn X N scope cl C s0 H0 fp pins) pins' σ H s->tc σ H Q->wpAny (model X.prog X.w) X.A (forIn ifs true λc r=>if r=true then do let ok ← isTrue c (compEnvC scope cl C X.env) (eval c (compEnvC scope cl C X.env)); pure (ForInStep.yield ok) else pure (ForInStep.yield r))
      (TP (cxIn X N scope cl C s0 H0 fp pins) pins' σ Q) (λ_ _=>False) s)
    (he:∀ cl C s0 H0 fp pins,PE (cxIn X N scope cl C s0 H0 fp pins) elt te)
    (h:∀ l,H l=none->∃ W:Nat->Nat->List V->St->Hp->Prop,(∃ m,W 0 m [] (List.replicate own none++js.map λj=>(σ[j]?).join) (upd H l (.lst [])))/\∀ i m ys σ' H',W i m ys σ' H' ->
      (J.stop i H'/\Q (.ref l) H')\/(J.go i H'/\∀ x H2,J.yld i H' x H2->g x σ' H2 λσ2 H3=>tc σ2 H3 λb H4 =>
        if b=true then te σ2 H4 λy H5=>H5 l=some (.lst ys)/\ys.length<sizeLine/\∃ m',m'<m/\W (i+1) m' (ys++[y]) σ2 (upd H5 l (.lst (ys++[y])))
        else ∃ m',m'<m/\W (i+1) m' ys σ2 H4))
    (hRR:∀ l C H' s' m',s.heap.objs.size<=C->s'.heap.Ns C m'->H' C=none->C≠X.env.locals->C∉X.fs->(∀ h2,Heap.SameBut C s'.heap h2->Inv X pins σ H' { s' with heap:=h2 })->Q (.ref l) H'->RR (.ref l) C (.ok .next) s') :
    wpAny (model X.prog X.w) X.A (newList []) (λacc s3=>wpAny (model X.prog X.w) X.A (newFunctionEnv scope X.env.globals cl [] X.env.qual none .none (some X.env)) (λcenv s4 =>
      codeAny (model X.prog X.w) X.A (.compStart (.ListComp elt [⟨target,iter,ifs,0⟩] scope pos) 0 (.ref it) acc { cenv with scope:=relabel scope X.env }) (RR acc cenv.locals) s4) E s3) E s:=by
  have I2:Inv X pins σ (upd H s.heap.objs.size (.lst [])) { s with heap:=s.heap.push { cls:=.type "list",dict:=none,data:=.seq ([]:List Value).toArray },toks:=s.toks }:=I.lnew (ys:=[]) .nil (Nat.zero_le _)
  obtain ⟨W,⟨m0,w0⟩,turn⟩:=h s.heap.objs.size I.fresh
  refine wpAny_newObj_type (ZgL ?_)
  dsimp only
  generalize hS:({ s with heap:=s.heap.push { cls:=.type "list",dict:=none,data:=.seq ([]:List Value).toArray },toks:=s.toks }:Shared)=s2 at I2
  have e2:s2.heap=s.heap.push { cls:=.type "list",dict:=none,data:=.seq ([]:List Value).toArray }:=by rw [← hS]
  have sz2:s2.heap.objs.size=s.heap.objs.size+1:=by rw [e2,Heap.size_push]
  rw [← e2]
  have ci:=ZjB (h0:=s2.heap.push { cls:=.type "dict",data:=.dict #[] }) (n:=s2.heap.objs.size) c cl1 cl2 I2.ok.inj (λx d e=>by obtain ⟨v,q⟩:=I2.cell x d e; exact q.lt) (Heap.size_push ..)
  have hns1':(pushCells (s2.heap.push { cls:=.type "dict",data:=.dict #[] }) scope.names).Ns s2.heap.objs.size (λ_=>none):=(Heap.Ns.new s2.heap (.type "dict")).keeps (pushCells_keeps _ _)
  have old:∀ b o,s2.heap.get? b=some o->(pushCells (s2.heap.push { cls:=.type "dict",data:=.dict #[] }) scope.names).get? b=some o:=λb o e=>pushCells_keeps _ _ b o (Heap.get?_push_of_some _ e)
  generalize pushCells (s2.heap.push { cls:=.type "dict",data:=.dict #[] }) scope.names=h1 at ci hns1' old ⊢
  generalize hcl:cellsFrom (s2.heap.objs.size+1) scope.names cl=cl' at ci ⊢
  have lt1:∀ b,b∈fp->b<s.heap.objs.size:=λb hb=>by
    obtain ⟨o,e,_⟩:=T.obj 0 _ st b hb
    exact Heap.lt_size e
  have hf2:∀ b∈fp,FpOk X pins (upd H s.heap.objs.size (.lst [])) b:=λb hb=>⟨by rw [Zb (Nat.ne_of_lt (lt1 b hb))]; exact (hf b hb).1,(hf b hb).2⟩
  have lt2:∀ b∈fp,b<s2.heap.objs.size:=λb hb=>by rw [sz2]; exact Nat.lt_succ_of_lt (lt1 b hb)
  have st2:tn 0 s2.heap:=T.keep 0 _ _ st λb _ o e=>by rw [e2]; exact Heap.get?_push_of_some _ e
  have I4:=ZjC (t':=s.toks) c I2 hf2 lt2 ci hns1' old
  have st4:tn 0 h1:=T.keep 0 _ _ st2 λb _ o e=>old b o e
  have es:({ s2 with heap:=h1,toks:=s.toks }:Shared)={ s with heap:=h1,toks:=s.toks }:=by rw [← hS]
  rw [es] at I4
  generalize hs4:({ s with heap:=h1,toks:=s.toks }:Shared)=s4 at I4
  have st4':tn 0 s4.heap:=by rw [← hs4]; exact st4
  have loop:codeAny (model X.prog X.w) X.A (.compLoop (.ListComp elt [⟨target,iter,ifs,0⟩] scope pos) 0 (.ref it) (.ref s.heap.objs.size) (compEnvC scope cl' s2.heap.objs.size X.env)) (RR (.ref s.heap.objs.size) s2.heap.objs.size) s4:=by
    refine Zks (λn s'=>∃ i ys σ' H',Inv (cxIn X N scope cl' s2.heap.objs.size s2 (upd H s.heap.objs.size (.lst [])) fp pins) [] σ' H' s'/\tn i s'.heap/\(∀ b∈fp,H' b=none)/\W i n ys σ' H') ?_ m0
      ⟨0,[],_,_,I4,st4',λb hb=>(hf2 b hb).1,w0⟩
    rintro n s5 ⟨i,ys,σ5,H5,I5,st5,fr5,w5⟩
    have stat:∀ {H':Hp} {s':Shared} {σ':St},Inv (cxIn X N scope cl' s2.heap.objs.size s2 (upd H s.heap.objs.size (.lst [])) fp pins) [] σ' H' s'->(∀ b∈fp,H' b=none)->∀ b∈fp,FpOk (cxIn X N scope cl' s2.heap.objs.size s2 (upd H s.heap.objs.size (.lst [])) fp pins) [] H' b:=λJ' hn b hb =>
      ⟨hn b hb,(J'.ok.exf b hb).1,J'.ok.exfs b hb,.inl hb,(J'.ok.exf b hb).2,λp hp z=>by
        have hp':p∈X.pn++pins:=by
          have q:p∈(X.pn++pins)++[]:=hp
          rwa [append_nil] at q
        exact (hf b hb).2.2.2.2.2 p hp' z⟩
    rcases turn i n ys σ5 H5 w5 with ⟨stop,q⟩ | ⟨go,step⟩
    . refine wpAny_mono (T.done (cxIn X N scope cl' s2.heap.objs.size s2 (upd H s.heap.objs.size (.lst [])) fp pins) rfl rfl rfl hc i [] s5 σ5 H5 (λ_ _=>False) I5 (stat I5 fr5) st5 stop) (λr s6 ⟨hr,I6⟩=>?_) λ_ _ z=>z
      subst hr
      obtain ⟨m',hn',_⟩:=I6.loc
      have hC:s.heap.objs.size<=s2.heap.objs.size:=by rw [sz2]; exact Nat.le_succ _
      refine hRR _ _ H5 s6 m' hC hn' I6.free ?_ ?_ (λh2 sb=>?_) q
      . exact Nat.ne_of_gt I2.lt
      . exact I2.nofs (Nat.le_refl _)
      . have u:Un (frs X.stack) fp (upd H s.heap.objs.size (.lst [])) H5 s2.heap h2:=I6.base.but (Nat.le_refl _) sb.extBut
        have z6:H5 s2.heap.objs.size=none:=I6.free
        have hok:HOk X.prog X.w H5 h2:=λb ob e=>(I6.hok b ob e).stay (λd w' hd z=>sb.extBut d w' (by
          rintro rfl
          rcases hd with rfl | hd
          . rw [z6] at e; cases e
          . rw [z6] at hd; cases hd) z) (λ_ z=>z) λ_ _ z=>z
        have J:=I2.call' (s':={ s6 with heap:=h2 }) (ch:=fp) (by show s6.os=s2.os; exact I6.os) u hok I6.bare λb hb=>⟨(hf b hb).2.2.2.1,(hf b hb).2.1,(hf b hb).2.2.2.2.1,(hf b hb).2.2.2.2.2⟩
        exact J
    . refine wpAny_mono (T.item (cxIn X N scope cl' s2.heap.objs.size s2 (upd H s.heap.objs.size (.lst [])) fp pins) rfl rfl rfl hc i [] s5 σ5 H5 (λ_ _=>False) I5 (stat I5 fr5) st5 go) (λr s6 ⟨u,hr,h6⟩=>?_) λ_ _ z=>z
      subst hr
      refine wpAny_mono h6 (λ_ s7 ⟨x,H7,I7,r7,y7,st7,fr7⟩=>?_) λ_ _ z=>z
      have I7':=I7.pinned (stat I7 fr7) (T.obj _ _ st7)
      refine wpAny_mono (hg _ _ _ _ _ _ _ s7 σ5 H7 x u _ I7' r7 (step x H7 y7)) (λ_ s8 ⟨σ8,H8,I8,q8⟩=>?_) λ_ _ z=>z
      refine wpAny_mono (ht _ _ _ _ _ _ _ s8 σ8 H8 _ I8 q8) (λb s9 ⟨H9,I9,q9⟩=>?_) λ_ _ z=>z
      have fin:∀ {s':Shared} {H':Hp} {m':Nat} {ys':List V},Inv (cxIn X N scope cl' s2.heap.objs.size s2 (upd H s.heap.objs.size (.lst [])) fp pins) ([]++Zgy fp s7.heap) σ8 H' s'->m'<n->W (i+1) m' ys' σ8 H' ->
          ∃ m,m<n/\∃ i ys σ' H',Inv (cxIn X N scope cl' s2.heap.objs.size s2 (upd H s.heap.objs.size (.lst [])) fp pins) [] σ' H' s'/\tn i s'.heap/\(∀ b∈fp,H' b=none)/\W i m ys σ' H':=λ{s' H' m' ys'} J' hm w'=>by
        refine ⟨m',hm,i+1,ys',σ8,H',J'.unpinned,T.keep _ _ _ st7 λb hb o e=>(J'.pin (b,o) (mem_append_right _ (mem_append_right _ (ZcE hb e)))).1,λb hb=>?_,w'⟩
        obtain ⟨o,e,d⟩:=T.obj _ _ st7 b hb
        exact (J'.pin (b,o) (mem_append_right _ (mem_append_right _ (ZcE hb e)))).2.1
      cases b with
      | false =>
        rw [if_neg Bool.false_ne_true] at q9 ⊢
        obtain ⟨m',hm,w'⟩:=q9
        exact fin I9 hm w'
      | true =>
        rw [if_pos rfl] at q9 ⊢
        refine wpAny_mono (he _ _ _ _ _ _ _ s9 σ8 H9 _ I9 q9) (λy s10 ⟨z,H10,I10,r10,el,ez,m',hm,w'⟩=>?_) λ_ _ z=>z
        refine wpAny_mono (ZbT (X:=cxIn X N scope cl' s2.heap.objs.size s2 (upd H s.heap.objs.size (.lst [])) fp pins) _ s10 σ8 H10 (.ref s.heap.objs.size) [z] _ [y] (λ_ H'=>H'=upd H10 s.heap.objs.size (.lst (ys++[z]))) I10 rfl (.cons r10 .nil) ⟨_,_,_,rfl,rfl,el,ez,rfl⟩) (λ_ s11 ⟨_,H11,I11,_,e11⟩=>?_) λ_ _ z=>z
        subst e11
        exact fin I11 hm w'
  have fin:codeAny (model X.prog X.w) X.A (.compStart (.ListComp elt [⟨target,iter,ifs,0⟩] scope pos) 0 (.ref it) (.ref s.heap.objs.size) (compEnvC scope cl' s2.heap.objs.size X.env)) (RR (.ref s.heap.objs.size) s2.heap.objs.size) s4 :=
    codeAny_compStart_list loop (T.self X.A 0 s4 _ _ st4' loop)
  exact fin
theorem ZiJ {elt target iter:PySem.Expr} {ifs:List PySem.Expr} {pos:Pos} {wi:TI} {g:TG} {tc:TT} {te:TE} (c:CompOk X scope N own js) (hc:X.calm=true) (hi:PI X target iter wi)
    (hg:∀ cl C s0 H0 fp pins,PG (cxIn X N scope cl C s0 H0 fp pins) target g)
    (ht:∀ cl C s0 H0 fp pins pins' s σ H Q,Inv (cxIn X N scope cl C s0 H0 fp pins) pins' σ H s->tc σ H Q->wpAny (model X.prog X.w) X.A (forIn ifs true λc r=>if r=true then do let ok ← isTrue c (compEnvC scope cl C X.env) (eval c (compEnvC scope cl C X.env)); pure (ForInStep.yield ok) else pure (ForInStep.yield r))
      (TP (cxIn X N scope cl C s0 H0 fp pins) pins' σ Q) (λ_ _=>False) s)
    (he:∀ cl C s0 H0 fp pins,PE (cxIn X N scope cl C s0 H0 fp pins) elt te)
    (hs:∀ x,foldedSetIterable iter X.env x=pure x:=by intro _; rfl):PE X (.ListComp elt [⟨target,iter,ifs,0⟩] scope pos) (tComp own js wi g tc te):=by
  intro pins s σ H Q I h
  obtain ⟨cl,e1,cl1,_,cl2⟩:=ZbU (env:=X.env) scope.names [] (λp hp hf=>I.ok.has _ (c.free p hp hf)) (λx d e=>by simp at e)
  have hclos:closureFor scope X.env=pure cl:=by
    unfold closureFor
    refine (congrArg (λz=>z >>= λcs=>pure cs) e1).trans ?_
    rfl
  rw [eval_ListComp]
  refine wpAny_comprehension_free (use:=none) rfl hs hclos c.kind c.names (wpAny_mono (hi pins s σ H _ I h) (λx s1 h1=>wpAny_mono h1 (λitv s2 h2=>?_) λ_ _ e=>e) λ_ _ e=>e)
  obtain ⟨it,fp,tn,J,H2,e,I2,T,st2,f2,q⟩:=h2
  subst e
  refine Zfp (Q:=Q) (RR:=λacc C=>compPost (model X.prog X.w) X.A X.xe none (EP X pins σ Q) acc C) c hc I2 T st2 f2 cl1 cl2 hg ht he q ?_
  intro l C H' s' m' hC hn hf hL hfs hI hq
  exact ⟨m',hn,λh2 sb=>⟨.ref l,H',hI h2 sb,rfl,hq⟩⟩
theorem ZlL {elt target iter:PySem.Expr} {ifs:List PySem.Expr} {pos pos' spos:Pos} {y:Str} {k:Nat} {wi:TI} {g:TG} {tc:TT} {te:TE} (c:CompOk X scope N own js) (hc:X.calm=true) (hN:X.N.Nodup) (hk:X.N[k]?=some y) (hy:X.env.scope.names.lookup y=some .local) (hi:PI X target iter wi)
    (hg:∀ cl C s0 H0 fp pins,PG (cxIn X N scope cl C s0 H0 fp pins) target g)
    (ht:∀ cl C s0 H0 fp pins pins' s σ H Q,Inv (cxIn X N scope cl C s0 H0 fp pins) pins' σ H s->tc σ H Q->wpAny (model X.prog X.w) X.A (forIn ifs true λc r=>if r=true then do let ok ← isTrue c (compEnvC scope cl C X.env) (eval c (compEnvC scope cl C X.env)); pure (ForInStep.yield ok) else pure (ForInStep.yield r))
      (TP (cxIn X N scope cl C s0 H0 fp pins) pins' σ Q) (λ_ _=>False) s)
    (he:∀ cl C s0 H0 fp pins,PE (cxIn X N scope cl C s0 H0 fp pins) elt te)
    (hs:∀ x,foldedSetIterable iter X.env x=pure x:=by intro _; rfl)
    (hsw:swapsWith (.ListComp elt [⟨target,iter,ifs,0⟩] scope pos) (some (.Name y pos')) spos.line X.env=pure true:=by rfl):PS X (.Assign [.Name y pos'] (.ListComp elt [⟨target,iter,ifs,0⟩] scope pos) spos) (tAsg (tComp own js wi g tc te) (gName k)):=by
  intro pins s σ H D I h
  obtain ⟨cl,e1,cl1,_,cl2⟩:=ZbU (env:=X.env) scope.names [] (λp hp hf=>I.ok.has _ (c.free p hp hf)) (λx d e=>by simp at e)
  have hclos:closureFor scope X.env=pure cl:=by
    unfold closureFor
    refine (congrArg (λz=>z >>= λcs=>pure cs) e1).trans ?_
    rfl
  rw [exec_Assign_Name_used _ _ _ _ hsw]
  refine wpAny_bind (wpAny_standAt (wpAny_bind ?_))
  show wpAny _ X.A (do let _ ← comprehension (.ListComp elt [⟨target,iter,ifs,0⟩] scope pos) scope X.env _ (newList []) false (eval iter X.env) (some (assign (.Name y pos') X.env))) _ _ s
  refine wpAny_bind (wpAny_mono (wpAny_comprehension_free (use:=some (assign (.Name y pos') X.env)) (Q:=λ_ s'=>SP X pins D .next s') rfl hs hclos c.kind c.names
    (wpAny_mono (hi pins s σ H _ I h) (λxv s1 h1=>wpAny_mono h1 (λit s2 h2=>?_) λ_ _ e=>e) λ_ _ e=>e)) (λ_ s' hq=>wpAny_pure (wpAny_pure hq)) λ_ _ e=>e)
  obtain ⟨it,fp,tn,J,H2,e,I2,T,st2,f2,q⟩:=h2
  subst e
  refine Zfp (Q:=λx H1=>gName k x σ H1 D.nx) (RR:=λacc C=>compPost (model X.prog X.w) X.A X.xe (some (assign (.Name y pos') X.env)) (λ_ s'=>SP X pins D .next s') acc C) c hc I2 T st2 f2 cl1 cl2 hg ht he q ?_
  intro l C H' s' m' hC hn hf hL hfs hI hq
  have J0:=hI s'.heap (Heap.SameBut.refl ..)
  show wpAny _ X.A (assign (.Name y pos') X.env (.ref l)) _ _ _
  have J1:Inv X pins σ H' s':=J0
  refine wpAny_assign_Name (Zgw (v:=.ref l) J1 hN hk (.inl hy) rfl (λs'' I'' hsb=>?_) (.inr hy))
  obtain ⟨a,sb,ha⟩:=hsb
  have hne:C≠a:=by
    rcases ha with rfl | ha
    . exact hL
    . rintro rfl
      obtain ⟨v,⟨o,ho,hd⟩⟩:=J1.cell y C ha
      obtain ⟨o',es,ep,ho',hd',_⟩:=hn
      rw [ho] at ho'; cases ho'
      rw [hd] at hd'; cases hd'
  refine ⟨m',hn.sameBut sb hne,λh2 sb2=>?_⟩
  have hok:HOk X.prog X.w H' h2:=λb ob e=>(I''.hok b ob e).stay (λd w' hd z=>sb2.extBut d w' (by
    rintro rfl
    rcases hd with rfl | hd
    . rw [hf] at e; cases e
    . rw [hf] at hd; cases hd) z) (λ_ z=>z) λ_ _ z=>z
  have cne:∀ x d,X.env.cells.lookup x=some d->d≠C:=λx d e z=>by
    subst z
    obtain ⟨v,⟨o,ho,hd⟩⟩:=J1.cell x d e
    obtain ⟨o',es,ep,ho',hd',_⟩:=hn
    rw [ho] at ho'; cases ho'
    rw [hd] at hd'; cases hd'
  have hpn:∀ p∈X.pn++pins,p.1≠C:=λp hp z=>by
    have a1:=(I2.pin p hp).1
    exact absurd (Nat.lt_of_lt_of_le (Heap.lt_size a1) (by rw [z]; exact hC)) (Nat.lt_irrefl _)
  have fin:Inv X pins (σ.set k (some (.ref l))) H' { s'' with heap:=h2 }:=I''.turned (t':=s''.toks) (it:=C) (λb o hb e=>sb2.extBut b o hb e) hf hL (.inr (Nat.le_trans I2.sz hC)) cne hpn
  exact ⟨_,H',fin,hq⟩
theorem ZbI {elt target iter:PySem.Expr} {pos:Pos} {wi:TI} {g:TG} {te:TE} (c:CompOk X scope N own js) (hc:X.calm=true) (hi:PI X target iter wi)
    (hg:∀ cl C s0 H0 fp pins,PG (cxIn X N scope cl C s0 H0 fp pins) target g) (he:∀ cl C s0 H0 fp pins,PE (cxIn X N scope cl C s0 H0 fp pins) elt te)
    (hs:∀ x,foldedSetIterable iter X.env x=pure x:=by intro _; rfl):PE X (.ListComp elt [⟨target,iter,[],0⟩] scope pos) (tComp own js wi g tTrue te) :=
  ZiJ c hc hi hg (λcl C s0 H0 fp pins pins' s σ H Q I h=>wpAny_tests_nil ⟨H,I,h⟩) he hs
theorem ZlM {elt target iter tst:PySem.Expr} {pos:Pos} {wi:TI} {g:TG} {tc:TT} {te:TE} (c:CompOk X scope N own js) (hc:X.calm=true) (hi:PI X target iter wi)
    (hg:∀ cl C s0 H0 fp pins,PG (cxIn X N scope cl C s0 H0 fp pins) target g) (ht:∀ cl C s0 H0 fp pins,PT (cxIn X N scope cl C s0 H0 fp pins) tst tc) (he:∀ cl C s0 H0 fp pins,PE (cxIn X N scope cl C s0 H0 fp pins) elt te)
    (hs:∀ x,foldedSetIterable iter X.env x=pure x:=by intro _; rfl):PE X (.ListComp elt [⟨target,iter,[tst],0⟩] scope pos) (tComp own js wi g tc te) :=
  ZiJ c hc hi hg (λcl C s0 H0 fp pins pins' s σ H Q I h=>wpAny_tests_one (ht cl C s0 H0 fp pins pins' s σ H Q I h)) he hs
theorem ZiK {elt target iter:PySem.Expr} {pos pos' spos:Pos} {y:Str} (k:Nat) {wi:TI} {g:TG} {te:TE} (c:CompOk X scope N own js) (hc:X.calm=true) (hN:X.N.Nodup) (hk:X.N[k]?=some y) (hy:X.env.scope.names.lookup y=some .local) (hi:PI X target iter wi)
    (hg:∀ cl C s0 H0 fp pins,PG (cxIn X N scope cl C s0 H0 fp pins) target g) (he:∀ cl C s0 H0 fp pins,PE (cxIn X N scope cl C s0 H0 fp pins) elt te)
    (hs:∀ x,foldedSetIterable iter X.env x=pure x:=by intro _; rfl)
    (hsw:swapsWith (.ListComp elt [⟨target,iter,[],0⟩] scope pos) (some (.Name y pos')) spos.line X.env=pure true:=by rfl):PS X (.Assign [.Name y pos'] (.ListComp elt [⟨target,iter,[],0⟩] scope pos) spos) (tAsg (tComp own js wi g tTrue te) (gName k)) :=
  ZlL c hc hN hk hy hi hg (λcl C s0 H0 fp pins pins' s σ H Q I h=>wpAny_tests_nil ⟨H,I,h⟩) he hs hsw
end
end L2
namespace L2
open PySem PySem.Spec PyProof.Rows
section
variable {X:Cx} {pins:List (Addr×Obj)} {σ:St} {H:Hp} {s:Shared}
theorem HOk.offCh {P:Program} {w:World} {h h':Heap} {ch:List Addr} (hok:HOk P w H h) (hn:∀ b∈ch,H b=none) (k:∀ b o,b∉ch->h.get? b=some o->h'.get? b=some o):HOk P w H h':=λb ob e =>
  (hok b ob e).stay (λd u hd z=>k d u (λm=>by
    rcases hd with rfl | hd
    . rw [hn _ m] at e; cases e
    . rw [hn _ m] at hd; cases hd) z) (λ_ z=>z) λ_ _ z=>z
theorem Inv.turnedCh {ch:List Addr} {h':Heap} {t':Nat} (I:Inv X pins σ H s) (hch:∀ b∈ch,FpOk X pins H b) (k:∀ b o,b∉ch->s.heap.get? b=some o->h'.get? b=some o) :
    Inv X pins σ H { s with heap:=h',toks:=t' }:=by
  have u:Un (frs X.stack) ch H H s.heap h':=⟨λb o q _ _ hx=>k b o hx q,λb o q _ _ hx=>⟨o.slots,k b o hx q⟩,λ_ _ _ n _=>n,λb o q hx=>⟨o,k b o hx q⟩,λ_ _ q=>q,λ_ _ _ q=>q,λ_ _ _ q=>q⟩
  exact I.call (g':=s.gens) (d':=s.drawn) (t':=t') u (I.hok.offCh (λb hb=>(hch b hb).1) k) I.bare λb hb=>⟨(hch b hb).2.2.2.1,(hch b hb).2.1,(hch b hb).2.2.2.2.1,(hch b hb).2.2.2.2.2⟩
theorem Inv.laidCh {ch:List Addr} {h':Heap} {t':Nat} {o:HO} (I:Inv X pins σ H s) (hch:∀ b∈ch,FpOk X pins H b) (k:∀ b o,b∉ch->s.heap.get? b=some o->h'.get? b=some o)
    (new:ObjOk X.prog X.w (upd H s.heap.objs.size o) h' s.heap.objs.size o):Inv X pins σ (upd H s.heap.objs.size o) { s with heap:=h',toks:=t' }:=by
  have fr:H s.heap.objs.size=none:=I.hok.fresh (Nat.le_refl _)
  have ne:∀ b ob,s.heap.get? b=some ob->b≠s.heap.objs.size:=λb ob e=>Nat.ne_of_lt (Heap.lt_size e)
  have nt:∀ b ob,H b=some ob->b≠s.heap.objs.size:=λb ob e=>Zd e fr
  have u:Un (frs X.stack) ch H (upd H s.heap.objs.size o) s.heap h':=⟨λb o q _ _ hx=>k b o hx q,λb o q _ _ hx=>⟨o.slots,k b o hx q⟩,λb ob q n _=>by rw [Zb (ne b ob q)]; exact n,λb o q hx=>⟨o,k b o hx q⟩,
    λb xs q=>by rw [Zb (nt b _ q)]; exact q,λb ob xs q=>by rw [Zb (nt b _ q)]; exact q,λb _ _ q=>by rw [Zb (nt b _ q)]; exact q⟩
  have hok:HOk X.prog X.w (upd H s.heap.objs.size o) h':=λb ob e=>by
    by_cases hb:b=s.heap.objs.size
    . subst hb
      rw [Za] at e; cases e
      exact new
    . rw [Zb hb] at e
      refine (I.hok b ob e).stay (λd u hd z=>k d u (λm=>?_) z) (λd z=>by rw [Zb (nt d _ z)]; exact z) (λd xs z=>by rw [Zb (nt d _ z)]; exact z) λd oz z=>by rw [Zb (nt d _ z)]; exact z
      have hn:=(hch d m).1
      rcases hd with rfl | hd
      . rw [hn] at e; cases e
      . rw [hn] at hd; cases hd
  exact I.call (g':=s.gens) (d':=s.drawn) (t':=t') u hok I.bare λb hb=>⟨(hch b hb).2.2.2.1,(hch b hb).2.1,(hch b hb).2.2.2.2.1,(hch b hb).2.2.2.2.2⟩
end
theorem nne {a b:Nat} (h:a<b\/b<a):@Ne Addr a b:=λe=>by
  have e':a=b:=e
  omega
theorem Zep (n l1 l2:Nat) (h1:l1<n) (h2:l2<n):ZipApart (n+4) (n+2) (n+3) n (n+1) l1 l2 :=
  ⟨nne (by omega),nne (by omega),nne (by omega),nne (by omega),nne (by omega),nne (by omega),nne (by omega),nne (by omega),nne (by omega),nne (by omega),nne (by omega),nne (by omega),nne (by omega),nne (by omega),nne (by omega),nne (by omega),nne (by omega),nne (by omega)⟩
def Itz (K:PySem.W.Frag) (a b:Addr):It :=
  ⟨λi H=>∃ xs ys x y,SqL K H a xs/\SqL K H b ys/\xs[i]?=some x/\ys[i]?=some y,
   λi H v H'=>∃ t x y,H t=none/\v=.ref t/\H'=upd H t (.tup [x,y])/\(∀ xs,SqL K H a xs->xs[i]?=some x)/\∀ ys,SqL K H b ys->ys[i]?=some y,
   λi H=>∃ xs ys,SqL K H a xs/\SqL K H b ys/\(xs.length<=i\/ys.length<=i)⟩
theorem ZdY {h:Heap} {it l:Addr} {i:Nat} (x:h.IsListIter it l i):∃ o,h.get? it=some o/\∀ v,o.data≠.cell v:=by
  obtain ⟨o,e,c,d⟩:=x
  exact ⟨o,e,λv z=>by rw [d] at z; cases z⟩
theorem ZiL {P:Program} {w:World} {K:PySem.W.Frag} {elts:List PySem.Expr} {x1} {pos:Pos} (z TI TO i1 i2 a b:Addr) (D:ZipApart z TI TO i1 i2 a b) :
    Turn P w K (.Tuple elts x1 pos) (Itz K a b) [z,TI,TO,i1,i2] z (λi h=>IsZip h z TI TO .none/\IsPair h TI (.ref i1) (.ref i2)/\(∃ u v,IsPair h TO u v)/\h.IsListIter i1 a i/\h.IsListIter i2 b i) where
  mem:=by simp
  obj:=λi h st c hc=>by
    obtain ⟨hz,hTI,⟨u,v,hTO⟩,h1,h2⟩:=st
    simp only [mem_cons,not_mem_nil,or_false] at hc
    rcases hc with rfl | rfl | rfl | rfl | rfl
    . exact ⟨_,hz,λv e=>by cases e⟩
    . exact ⟨_,hTI,λv e=>by cases e⟩
    . exact ⟨_,hTO,λv e=>by cases e⟩
    . exact ZdY h1
    . exact ZdY h2
  keep:=λi h h' st k=>by
    obtain ⟨hz,hTI,⟨u,v,hTO⟩,h1,h2⟩:=st
    exact ⟨k z (by simp) _ hz,k TI (by simp) _ hTI,⟨u,v,k TO (by simp) _ hTO⟩,h1.at λo e=>k i1 (by simp) o e,h2.at λo e=>k i2 (by simp) o e⟩
  item:=by
    intro X hP hw hK hc i pins s σ H E I hf st hg
    subst hP hw hK
    obtain ⟨xs,ys,x,y,hqa,hqb,hx,hy⟩:=hg
    obtain ⟨hz,hTI,⟨u0,v0,hTO⟩,h1,h2⟩:=st
    obtain ⟨itsa,ra,pa,za⟩:=I.list hqa
    obtain ⟨itsb,rb,pb,zb⟩:=I.list hqb
    obtain ⟨ux,hux,rux⟩:=ra.get hx
    obtain ⟨uy,huy,ruy⟩:=rb.get hy
    refine wpAny_pyNext_zip_item D hz hTI hTO h1 h2 pa.isList pb.isList (x:=ux) (y:=uy) (by simpa using hux) (by simpa using huy) λh' a1 a2 a3 a4 a5 a6 a7=>?_
    refine ⟨.ref s.heap.objs.size,rfl,?_⟩
    refine wpAny_letOwnedTupleGo_zip a1 λh2' hz' hs'=>?_
    have hzlt:z<s.heap.objs.size:=Heap.lt_size hz
    have kk:∀ c o,c∉[z,TI,TO,i1,i2]->s.heap.get? c=some o->h2'.get? c=some o:=λc o hc e=>by
      simp only [mem_cons,not_mem_nil,or_false,not_or] at hc
      exact hs'.extBut c o hc.1 (a7 c o hc.1 hc.2.2.1 hc.2.2.2.1 hc.2.2.2.2 e)
    have tp:h2'.get? s.heap.objs.size=some { cls:=.type "tuple",data:=.seq #[ux,uy] }:=hs'.extBut _ _ (Nat.ne_of_gt hzlt) a5
    have I1:Inv X pins σ (upd H s.heap.objs.size (.tup [x,y])) { s with heap:=h2',toks:=s.toks } :=
      I.laidCh hf kk ⟨by show 2<=sizeLine; decide,[ux,uy],.cons rux (.cons ruy .nil),⟨_,tp,rfl,_,rfl⟩⟩
    have TIk:h2'.get? TI=s.heap.get? TI:=by
      rw [hTI]
      exact hs'.extBut _ _ D.TIz (a7 _ _ D.TIz D.TITO D.TIi1 D.TIi2 hTI)
    refine ⟨.ref s.heap.objs.size,_,I1,rfl,⟨s.heap.objs.size,x,y,I.hok.fresh (Nat.le_refl _),rfl,rfl,λxs' h=>by rw [I.list_inj h hqa]; exact hx,λys' h=>by rw [I.list_inj h hqb]; exact hy⟩,⟨hz',?_,⟨ux,uy,hs'.extBut _ _ D.TOz a2⟩,a3.at λo e=>hs'.extBut _ o D.i1z e,a4.at λo e=>hs'.extBut _ o D.i2z e⟩,λc hc=>?_⟩
    . show h2'.get? TI=_
      rw [TIk]; exact hTI
    . have hc':=hc
      have hlt:c<s.heap.objs.size:=by
        simp only [mem_cons,not_mem_nil,or_false] at hc'
        rcases hc' with rfl | rfl | rfl | rfl | rfl
        . exact hzlt
        . exact Heap.lt_size hTI
        . exact Heap.lt_size hTO
        . obtain ⟨o,e,_⟩:=ZdY h1; exact Heap.lt_size e
        . obtain ⟨o,e,_⟩:=ZdY h2; exact Heap.lt_size e
      rw [Zb (Nat.ne_of_lt hlt)]
      exact (hf c hc).1
  done:=by
    intro X hP hw hK hc i pins s σ H E I hf st hg
    subst hP hw hK
    obtain ⟨xs,ys,hqa,hqb,hend⟩:=hg
    obtain ⟨hz,hTI,⟨u0,v0,hTO⟩,h1,h2⟩:=st
    obtain ⟨itsa,ra,pa,za⟩:=I.list hqa
    obtain ⟨itsb,rb,pb,zb⟩:=I.list hqb
    have la:=ra.length
    have lb:=rb.length
    refine wpAny_pyNext_zip_end (I.ok.hd hc) D hz hTI hTO h1 h2 pa.isList pb.isList ?_ λh' hk=>⟨rfl,?_⟩
    . rcases hend with q | q
      . exact .inl (by simp; omega)
      . exact .inr (by simp; omega)
    . refine I.turnedCh (t':=s.toks) hf λc o hc e=>?_
      simp only [mem_cons,not_mem_nil,or_false,not_or] at hc
      exact hk c o hc.1 hc.2.2.1 hc.2.2.2.1 hc.2.2.2.2 e
  self:=λ_ _ _ _ _ st h=>wpAny_pyIter_zip st.1 h
def iZip (K:PySem.W.Frag) (ta:TA):TI:=λσ H R=>ta σ H λvs H1=>∃ a b,vs=[.ref a,.ref b]/\(∃ xs,SqL K H1 a xs)/\(∃ ys,SqL K H1 b ys)/\R (Itz K a b) H1
section
variable {X:Cx}
theorem ZiM:bootBuiltins "zip" = some (.type "zip"):=by first | rfl | decide +kernel | kernel_rfl
theorem ZeT:bootBuiltins "enumerate" = some (.type "enumerate"):=by first | rfl | decide +kernel | kernel_rfl
theorem Zof {elts:List PySem.Expr} {x1} {tpos:Pos} {a b:PySem.Expr} {ta:TA} {p pos:Pos} (hg:Gl X "zip") (hm:X.mg "zip" = none) (ha:PA X [a,b] ta) (hs:starEach [a,b] X.env=[(false,eval a X.env),(false,eval b X.env)]:=by rfl) (hs2:starEach [b] X.env=[(false,eval b X.env)]:=by rfl) :
    PI X (.Tuple elts x1 tpos) (.Call (.Name "zip" p) [a,b] [] pos) (iZip X.K ta):=by
  intro pins s σ H R I h
  refine Call_ (Zcg I hg hm ZiM (PyProof.Rows.callWith_type1 (thn (ha pos pins s σ H _ I h) λus s1 ⟨vs,H1,I1,r1,q1⟩=>?_) (by rw [hs,hs2]) (by rw [hs2]; rfl)))
  obtain ⟨l1,l2,e,⟨xs,hqa⟩,⟨ys,hqb⟩,q⟩:=q1
  subst e
  obtain ⟨v1,v2,rfl,r,r'⟩:=vals2 r1
  cases r
  cases r'
  obtain ⟨itsa,ra,pa,za⟩:=I1.list hqa
  obtain ⟨itsb,rb,pb,zb⟩:=I1.list hqb
  have lt1:l1<s1.heap.objs.size:=by obtain ⟨o,e,_⟩:=pa.isList; exact Heap.lt_size e
  have lt2:l2<s1.heap.objs.size:=by obtain ⟨o,e,_⟩:=pb.isList; exact Heap.lt_size e
  refine call_zip_2 pa.isList pb.isList λh' g5 g3 g4 g1 g2 hsz kp=>wpAny_pyIter_zip g5 ?_
  refine ⟨_,[_,_,_,_,_],_,_,H1,rfl,I1.kept (t':=s1.toks) kp,ZiL _ _ _ _ _ l1 l2 (Zep s1.heap.objs.size l1 l2 lt1 lt2),⟨g5,g3,⟨_,_,g4⟩,g1,g2⟩,λc hc=>?_,q⟩
  have hc':s1.heap.objs.size<=c:=by
    simp only [mem_cons,not_mem_nil,or_false] at hc
    rcases hc with rfl | rfl | rfl | rfl | rfl <;> first | exact Nat.le_refl _ | exact Nat.le_add_right _ _
  exact I1.fpOk hc' (I1.hok.fresh hc')
def Ite (K:PySem.W.Frag) (a:Addr):It :=
  ⟨λi H=>∃ xs x,SqL K H a xs/\xs[i]?=some x,
   λi H v H'=>∃ t x,H t=none/\v=.ref t/\H'=upd H t (.tup [.int i,x])/\∀ xs,SqL K H a xs->xs[i]?=some x,
   λi H=>∃ xs,SqL K H a xs/\xs.length=i⟩
theorem Zku {P:Program} {w:World} {K:PySem.W.Frag} {elts:List PySem.Expr} {x1} {pos:Pos} (e it a:Addr) (hei:e≠it) (hae:a≠e) (hai:a≠it) :
    Turn P w K (.Tuple elts x1 pos) (Ite K a) [e,it] e (λi h=>(∃ old,IsEnum h e it i old)/\h.IsListIter it a i) where
  mem:=by simp
  obj:=λi h st c hc=>by
    obtain ⟨⟨old,he⟩,h1⟩:=st
    simp only [mem_cons,not_mem_nil,or_false] at hc
    rcases hc with rfl | rfl
    . exact ⟨_,he,λv z=>by cases z⟩
    . obtain ⟨o,q,c,d⟩:=h1; exact ⟨o,q,λv z=>by rw [d] at z; cases z⟩
  keep:=λi h h' st k=>by
    obtain ⟨⟨old,he⟩,h1⟩:=st
    exact ⟨⟨old,k e (by simp) _ he⟩,h1.at λo q=>k it (by simp) o q⟩
  item:=by
    intro X hP hw hK hc i pins s σ H E I hf st hg
    subst hP hw hK
    obtain ⟨xs,x,hq,hx⟩:=hg
    obtain ⟨⟨old,he⟩,h1⟩:=st
    obtain ⟨its,rv,p,hz⟩:=I.list hq
    obtain ⟨u,hu,ru⟩:=rv.get hx
    have hlt:i<its.toArray.size:=by
      have:=(List.getElem?_eq_some_iff.mp hu).1
      simpa using this
    refine wpAny_pyNext_enum_itemD (Draws.list (A:=X.A.in1) (show X.A.in1.handled=none from I.ok.hd hc) it a hai its.toArray) he ⟨h1,p.isList⟩ hlt hei (by simp [hei,Ne.symm hae]) λv h' tk hP ho hs' hT hsz hk=>?_
    have hP':v=u:=by
      have z:its[i]?=some v:=by simpa using hP
      rw [hu] at z; exact (Option.some.inj z).symm
    subst hP'
    refine ⟨.ref s.heap.objs.size,rfl,?_⟩
    refine wpAny_letOwnedTupleGo_enum ho λh2 he2 sb2=>?_
    have helt:e<s.heap.objs.size:=Heap.lt_size he
    have kk:∀ c o,c∉[e,it]->s.heap.get? c=some o->h2.get? c=some o:=λc o hc q=>by
      simp only [mem_cons,not_mem_nil,or_false,not_or] at hc
      exact (sb2.2 c hc.1).trans (hk c o hc.1 hc.2 q)
    have tp:h2.get? s.heap.objs.size=some { cls:=.type "tuple",data:=.seq #[.int i tk,v] }:=(sb2.2 _ (Nat.ne_of_gt helt)).trans hT
    have I1:Inv X pins σ (upd H s.heap.objs.size (.tup [.int i,x])) { s with heap:=h2,toks:=tk+1 } :=
      I.laidCh hf kk ⟨by show 2<=sizeLine; decide,[.int i tk,v],.cons ⟨tk,rfl⟩ (.cons ru .nil),⟨_,tp,rfl,_,rfl⟩⟩
    refine ⟨.ref s.heap.objs.size,_,I1,rfl,⟨s.heap.objs.size,x,I.hok.fresh (Nat.le_refl _),rfl,rfl,λys hy=>by rw [I.list_inj hy hq]; exact hx⟩,⟨⟨v,by simpa using he2⟩,hs'.1.at λo q=>(sb2.2 _ (Ne.symm hei)).trans q⟩,λc hc=>?_⟩
    have hlt':c<s.heap.objs.size:=by
      simp only [mem_cons,not_mem_nil,or_false] at hc
      rcases hc with rfl | rfl
      . exact helt
      . obtain ⟨o,q,_⟩:=h1; exact Heap.lt_size q
    rw [Zb (Nat.ne_of_lt hlt')]
    exact (hf c hc).1
  done:=by
    intro X hP hw hK hc i pins s σ H E I hf st hg
    subst hP hw hK
    obtain ⟨xs,hq,hx⟩:=hg
    obtain ⟨⟨old,he⟩,h1⟩:=st
    obtain ⟨its,rv,p,hz⟩:=I.list hq
    have hl:=rv.length
    have ei:i=its.toArray.size:=by simp; omega
    subst ei
    refine wpAny_pyNext_enum_endD (Draws.list (A:=X.A.in1) (show X.A.in1.handled=none from I.ok.hd hc) it a hai its.toArray) he ⟨h1,p.isList⟩ λh' hx'=>⟨rfl,?_⟩
    refine I.turnedCh (t':=s.toks) hf λc o hc q=>?_
    simp only [mem_cons,not_mem_nil,or_false,not_or] at hc
    exact hx' c o hc.2 q
  self:=λ_ _ _ _ _ st h=>by
    obtain ⟨⟨old,he⟩,_⟩:=st
    exact wpAny_pyIter_enum he h
def iEnum (K:PySem.W.Frag) (ta:TA):TI:=λσ H R=>ta σ H λvs H1=>∃ a,vs=[.ref a]/\(∃ xs,SqL K H1 a xs)/\R (Ite K a) H1
theorem Zkv {elts:List PySem.Expr} {x1} {tpos:Pos} {a:PySem.Expr} {ta:TA} {p pos:Pos} (hg:Gl X "enumerate") (hm:X.mg "enumerate" = none) (ha:PA X [a] ta) (hs:starEach [a] X.env=[(false,eval a X.env)]:=by rfl) :
    PI X (.Tuple elts x1 tpos) (.Call (.Name "enumerate" p) [a] [] pos) (iEnum X.K ta):=by
  intro pins s σ H R I h
  refine Call_ (Zcg I hg hm ZeT (PyProof.Rows.callWith_type1 (thn (ha pos pins s σ H _ I h) λus s1 ⟨vs,H1,I1,r1,q1⟩=>?_) hs rfl))
  obtain ⟨l,e,⟨xs,hq⟩,q⟩:=q1
  subst e
  cases r1 with
  | cons r rr =>
    cases rr
    cases r
    obtain ⟨its,rv,pl,hz⟩:=I1.list hq
    have lt1:l<s1.heap.objs.size:=by obtain ⟨o,e,_⟩:=pl.isList; exact Heap.lt_size e
    refine call_enumerate_list pl.isList λh' he hi hsz hk=>?_
    refine wpAny_pyIter_enum he ?_
    refine ⟨s1.heap.objs.size+1,[s1.heap.objs.size+1,s1.heap.objs.size],_,_,H1,rfl,I1.kept (t':=s1.toks) hk,Zku (s1.heap.objs.size+1) s1.heap.objs.size l (Nat.succ_ne_self _) (nne (.inl (Nat.lt_succ_of_lt lt1))) (Nat.ne_of_lt lt1),⟨⟨_,he⟩,hi⟩,λc hc=>?_,q⟩
    have hc':s1.heap.objs.size<=c:=by
      simp only [mem_cons,not_mem_nil,or_false] at hc
      rcases hc with rfl | rfl <;> omega
    exact I1.fpOk hc' (I1.hok.fresh hc')
end
end L2
namespace L2
open PySem PySem.Spec PyProof.Rows
def tyN (H:Hp):V->Option String
  | .non=>some "NoneType"
  | .bl _=>some "bool"
  | .int _=>some "int"
  | .str _=>some "str"
  | .ref a=>match H a with
    | some (.lst _)=>some "list"
    | some (.frz _ (.lst _))=>some "list"
    | some (.tup _)=>some "tuple"
    | some (.dK _)=>some "dict"
    | some (.dT _)=>some "dict"
    | _=>none
  | _=>none
theorem ZmD {K:PySem.W.Frag} {H:Hp} {x:V} {t:String} (h:tyN H x=some t):TyOf K H x (.type t):=by
  cases x with
  | non=>cases h; exact .non
  | bl b=>cases h; exact .bl b
  | int i=>cases h; exact .int i
  | str z=>cases h; exact .str z
  | ref a =>
    simp only [tyN] at h
    split at h
    . rename_i e; cases h; exact .lst e
    . rename_i e; cases h; exact .frz e
    . rename_i e; cases h; exact .tup e
    . rename_i e; cases h; exact .dK e
    . rename_i e; cases h; exact .dT e
    . cases h
  | _=>cases h
def subT (t c:String):Bool:=t == c || (t == "bool" && c == "int")
def ZiN:List String:=["NoneType", "bool", "int", "str", "list", "tuple", "dict"]
def Zeq:List String:=["bool", "int", "str", "list", "tuple", "dict"]
theorem Zer (K:PySem.W.Frag):∀ t∈ZiN,∀ c∈Zeq,PySem.W.kitOne K (.type t) (.type c)=some (subT t c):=by
  intro t ht c hc
  simp only [ZiN,mem_cons,not_mem_nil,or_false] at ht
  simp only [Zeq,mem_cons,not_mem_nil,or_false] at hc
  rcases ht with rfl | rfl | rfl | rfl | rfl | rfl | rfl <;> rcases hc with rfl | rfl | rfl | rfl | rfl | rfl <;> rfl
theorem ZgM {H:Hp} {x:V} {t:String} (h:tyN H x=some t):t∈ZiN:=by
  cases x with
  | non=>cases h; decide
  | bl b=>cases h; decide
  | int i=>cases h; decide
  | str z=>cases h; decide
  | ref a =>
    simp only [tyN] at h
    split at h <;> first | (cases h; decide) | cases h
  | _=>cases h
section
variable {X:Cx}
def rIsi:List V->Hp->VK->Prop:=λxs H Q=>∃ x t c,xs=[x,.ty c]/\tyN H x=some t/\c∈Zeq/\Q (.bl (subT t c)) H
theorem Zcd:CallR X (.builtin "isinstance") rIsi:=by
  intro pins s σ H xs us Q I r h
  obtain ⟨x,t,c,rfl,ht,hc,q⟩:=h
  obtain ⟨u,w',rfl,rx,rc⟩:=vals2 r
  cases rc
  exact Zkj I rx (ZmD ht) (Zer X.K t (ZgM ht) c hc) λtk=>⟨.bl _,H,I.tok tk,rfl,q⟩
def rIsi2:List V->Hp->VK->Prop:=λxs H Q=>∃ x t c d p,xs=[x,.ref p]/\H p=some (.tup [.ty c,.ty d])/\tyN H x=some t/\c∈Zeq/\d∈Zeq/\Q (.bl (subT t c || subT t d)) H
theorem ZlN (K:PySem.W.Frag) {t c d:String} (ht:t∈ZiN) (hc:c∈Zeq) (hd:d∈Zeq):PySem.W.kitAny K (.type t) [.type c,.type d]=some (subT t c || subT t d):=by
  unfold PySem.W.kitAny
  rw [Zer K t ht c hc]
  cases subT t c with
  | true=>rfl
  | false =>
    show PySem.W.kitAny K (.type t) [.type d]=some (subT t d)
    unfold PySem.W.kitAny
    rw [Zer K t ht d hd]
    cases subT t d <;> rfl
theorem ZgN:CallR X (.builtin "isinstance") rIsi2:=by
  intro pins s σ H xs us Q I r h
  obtain ⟨x,t,c,d,p,rfl,hp,ht,hc,hd,q⟩:=h
  obtain ⟨u,w',rfl,rx,rc⟩:=vals2 r
  cases rc
  obtain ⟨_,its,rv,⟨o,ho,hcl,n,hdt⟩⟩:=(show ObjOk X.prog X.w H s.heap p (.tup [.ty c,.ty d]) from I.hok p _ hp)
  obtain ⟨u1,u2,rfl,r1,r2⟩:=vals2 rv
  cases r1
  cases r2
  have e:=ZlN X.K (ZgM ht) hc hd
  have fin:∀ tk,EP X pins σ Q (.bool (subT t c || subT t d)) { s with toks:=tk }:=λtk=>⟨.bl _,H,I.tok tk,rfl,q⟩
  have htp:s.heap.get? p=some ⟨.type "tuple",o.dict,.seq [Value.type c,Value.type d].toArray n,o.slots⟩:=by
    rw [ho]
    obtain ⟨oc,od,odt,osl⟩:=o
    cases hcl; cases hdt
    rfl
  have ty:=ZmD (K:=X.K) ht
  generalize hT:Value.type t=T at ty e
  cases ty with
  | non=>cases (show u=Value.none from rx); exact PySem.W.kia_tup PySem.W.kitx_none I.kIn True.intro htp e (λz=>nomatch z) fin
  | bl y=>cases (show u=Value.bool y from rx); exact PySem.W.kia_tup PySem.W.kitx_bool I.kIn True.intro htp e (λz=>nomatch z) fin
  | int i=>obtain ⟨t,q⟩:=(show ∃ t,u=Value.int i t from rx); cases q; exact PySem.W.kia_tup PySem.W.kitx_int I.kIn True.intro htp e (λz=>nomatch z) fin
  | str y=>obtain ⟨t,q⟩:=(show ∃ t,u=Value.str y t from rx); cases q; exact PySem.W.kia_tup PySem.W.kitx_str I.kIn True.intro htp e (λz=>nomatch z) fin
  | flt y=>obtain ⟨t,q⟩:=(show ∃ t,u=Value.float y t from rx); cases q; exact PySem.W.kia_tup PySem.W.kitx_float I.kIn True.intro htp e (λz=>nomatch z) fin
  | @lst a xs ea =>
    cases (show u=Value.ref a from rx)
    obtain ⟨_,_,n,_,h1⟩:=(show ObjOk X.prog X.w H s.heap a (.lst xs) from I.hok a _ ea)
    exact PySem.W.kia_tup PySem.W.kitx_list I.kIn ⟨_,h1,rfl⟩ htp e (λz=>nomatch z) fin
  | @frz a ob xs ea =>
    cases (show u=Value.ref a from rx)
    obtain ⟨_,_,_,n,_,h1⟩:=(show ObjOk X.prog X.w H s.heap a (.frz ob (.lst xs)) from I.hok a _ ea)
    exact PySem.W.kia_tup PySem.W.kitx_list I.kIn ⟨_,h1,rfl⟩ htp e (λz=>nomatch z) fin
  | @tup a xs ea =>
    cases (show u=Value.ref a from rx)
    obtain ⟨_,_,_,p⟩:=(show ObjOk X.prog X.w H s.heap a (.tup xs) from I.hok a _ ea)
    obtain ⟨o,h1,h2,_⟩:=p
    exact PySem.W.kia_tup PySem.W.kitx_tuple I.kIn ⟨o,h1,h2⟩ htp e (λz=>nomatch z) fin
  | @dK a kvs ea =>
    cases (show u=Value.ref a from rx)
    obtain ⟨_,_,vs,_,p⟩:=(show ObjOk X.prog X.w H s.heap a (.dK kvs) from I.hok a _ ea)
    obtain ⟨o,es,ep,h1,h2,_⟩:=p
    exact PySem.W.kia_tup PySem.W.kitx_dict I.kIn ⟨o,h1,h2.1⟩ htp e (λz=>nomatch z) fin
  | @dT a kvs ea =>
    cases (show u=Value.ref a from rx)
    obtain ⟨_,_,xs,_,o,es,ep,h1,h2,_⟩:=(show ObjOk X.prog X.w H s.heap a (.dT kvs) from I.hok a _ ea)
    exact PySem.W.kia_tup PySem.W.kitx_dict I.kIn ⟨o,h1,h2.1⟩ htp e (λz=>nomatch z) fin
  | ins e'=>cases hT
theorem Zby:bootBuiltins "isinstance" = some (.builtin "isinstance"):=by first | rfl | decide +kernel | kernel_rfl
theorem ZfH:bootBuiltins "all" = some (.builtin "all"):=by first | rfl | decide +kernel | kernel_rfl
theorem ZiO:bootBuiltins "max" = some (.builtin "max"):=by first | rfl | decide +kernel | kernel_rfl
theorem ZlO:bootBuiltins "min" = some (.builtin "min"):=by first | rfl | decide +kernel | kernel_rfl
theorem ZiP:bootBuiltins "abs" = some (.builtin "abs"):=by first | rfl | decide +kernel | kernel_rfl
theorem ZhO:bootBuiltins "divmod" = some (.builtin "divmod"):=by first | rfl | decide +kernel | kernel_rfl
theorem Zcj:bootBuiltins "int" = some (.type "int"):=by first | rfl | decide +kernel | kernel_rfl
theorem Zfq:bootBuiltins "bool" = some (.type "bool"):=by first | rfl | decide +kernel | kernel_rfl
theorem Zes:bootBuiltins "str" = some (.type "str"):=by first | rfl | decide +kernel | kernel_rfl
theorem ZaH:bootBuiltins "list" = some (.type "list"):=by first | rfl | decide +kernel | kernel_rfl
theorem ZcQ:bootBuiltins "tuple" = some (.type "tuple"):=by first | rfl | decide +kernel | kernel_rfl
theorem ZgO:∀ {bs:List Bool} {its:List Value},Vals (bs.map V.bl) its->its=bs.map Value.bool
  | [],_,.nil=>rfl
  | b :: bs,_,.cons r t=>by rw [ZgO t]; cases r; rfl
theorem ZjD {bs:List Bool} (f:Nat->Bool) (hf:∀ i b,bs[i]?=some b->f i=b):(List.range bs.length).map f=bs:=by
  apply List.ext_getElem?
  intro i
  rw [getElem?_map]
  by_cases h:i<bs.length
  . rw [List.getElem?_range h,getElem?_eq_getElem h]
    simp only [Option.map_some]
    rw [hf i _ (getElem?_eq_getElem h)]
  . rw [getElem?_eq_none (by simpa using h),getElem?_eq_none (by omega)]; rfl
theorem Zet (hc:X.calm=true):CallR X (.builtin "all") (λxs H Q=>∃ (p:Addr) (bs:List Bool),xs=[.ref p]/\SqL X.K H p (bs.map V.bl)/\Q (.bl (bs.all id)) H):=by
  intro pins s σ H xs us Q I r h
  obtain ⟨p,bs,rfl,hq,q⟩:=h
  obtain ⟨u,rfl,rx⟩:=vals1 r
  cases rx
  obtain ⟨its,rv,pl,hz⟩:=I.list hq
  have e:=ZgO rv
  subst e
  refine call_all_walk (wpAny_pyIter_list pl.isList ?_)
  refine ⟨s.heap.objs.size,_,[s.heap.objs.size],_,_,_,λi=>bs.getD i true,rfl,Walks.list (A:=X.A.in1) (show X.A.in1.handled=none from I.ok.hd hc) s.heap.objs.size p ?_ (bs.map Value.bool).toArray,⟨⟨_,Heap.get?_push_size _ rfl,rfl,rfl⟩,pl.isList.at λo e=>Heap.get?_push_of_some _ e⟩,?_,?_⟩
  . obtain ⟨o,e,_⟩:=pl.isList; exact Nat.ne_of_lt (Heap.lt_size e)
  . intro i v s' Q' E' hP hQ
    have hP':(bs.map Value.bool)[i]?=some v:=by simpa using hP
    rw [getElem?_map] at hP'
    cases z:bs[i]? with
    | none=>rw [z] at hP'; cases hP'
    | some b =>
      rw [z] at hP'
      cases hP'
      have:bs.getD i true=b:=by rw [getD_eq_getElem?_getD,z]; rfl
      have hQ':Q' (bs.getD i true) s':=hQ
      rw [this] at hQ'
      exact wpAny_truthy_bool hQ'
  . intro h' tk hk
    refine ⟨.bl (bs.all id),H,I.kept (t':=tk) (λb o e=>hk b o (by simpa using Nat.ne_of_lt (Heap.lt_size e)) (Heap.get?_push_of_some _ e)),?_,q⟩
    have z:(List.range bs.length).map (λi=>bs.getD i true)=bs:=ZjD _ λi b e=>by rw [getD_eq_getElem?_getD,e]; rfl
    have z2:(List.range bs.length).all (λi=>bs.getD i true)=bs.all id:=by
      conv=>rhs; rw [← z]
      rw [List.all_map]; rfl
    show Value.bool _=Value.bool _
    have z3:(bs.map Value.bool).toArray.size=bs.length:=by simp
    rw [z3,z2]
theorem Zog (lo:Int) (n:Nat):∀ {acc:Array Value},ItemsOf (λi v=>∃ t,v=.int (lo+i * 1) t) acc n->Vals ((List.range n).map λi=>V.int (lo+(i:Nat))) acc.toList:=by
  intro acc h
  obtain ⟨hs,hi⟩:=h
  have gen:∀ (l:List Value) (k:Nat) (xs:List V),xs.length=l.length->(∀ (j:Nat) (v:Value) (x:V),l[j]?=some v->xs[j]?=some x->RelV x v)->Vals xs l:=by
    intro l
    induction l with
    | nil=>intro k xs hl _; cases xs with | nil=>exact .nil | cons _ _=>simp at hl
    | cons u l ih =>
      intro k xs hl hr
      cases xs with
      | nil=>simp at hl
      | cons x xs=>exact .cons (hr 0 u x rfl rfl) (ih k xs (by simpa using hl) λj v y e1 e2=>hr (j+1) v y (by simpa using e1) (by simpa using e2))
  refine gen _ 0 _ (by simp [hs]) λj v x e1 e2=>?_
  have e1':acc[j]?=some v:=by simpa using e1
  obtain ⟨t,rfl⟩:=hi j v e1'
  have hj:j<n:=by rw [← hs]; exact (Array.getElem?_eq_some_iff.mp e1').1
  rw [getElem?_map,List.getElem?_range hj] at e2
  cases e2
  exact ⟨t,by simp⟩
def ZjE (ta:TA):TE:=λσ H Q=>ta σ H λvs H1=>∃ i j:Int,vs=[.int i,.int j]/\(-(2 ^ 62)<=i/\i<2 ^ 62 /\ -(2 ^ 62)<=j/\j<2 ^ 62)/\(j - i).toNat<=sizeLine /\
  ∀ p,H1 p=none->Q (.ref p) (upd H1 p (.lst ((List.range (j - i).toNat).map λk=>V.int (i+(k:Nat)))))
theorem ZgP {a b:PySem.Expr} {ta:TA} {p q pos pos2:Pos} (hc:X.calm=true) (hg1:Gl X "list") (hm1:X.mg "list" = none) (hg:Gl X "range") (hm:X.mg "range" = none) (ha:PA X [a,b] ta)
    (hs:starEach [a,b] X.env=[(false,eval a X.env),(false,eval b X.env)]:=by rfl) (hs2:starEach [b] X.env=[(false,eval b X.env)]:=by rfl)
    (hs3:starEach [PySem.Expr.Call (.Name "range" p) [a,b] [] pos] X.env=[(false,eval (PySem.Expr.Call (.Name "range" p) [a,b] [] pos) X.env)]:=by rfl) :
    PE X (.Call (.Name "list" q) [.Call (.Name "range" p) [a,b] [] pos] [] pos2) (ZjE ta):=by
  intro pins s σ H Q I h
  refine Call_ (Zcg I hg1 hm1 ZaH (PyProof.Rows.callWith_type1 (Q:=EP X pins σ Q) ?_ hs3 rfl))
  rw [hs3]
  refine Calls.spliced_cons (Call_ (Zcg I hg hm boot_range (PyProof.Rows.callWith_type1 (thn (ha pos pins s σ H _ I h) λus s1 ⟨vs,H1,I1,r1,q1⟩=>?_) (by rw [hs,hs2]) (by rw [hs2]; rfl))))
  obtain ⟨i,j,e,⟨q1,q2,q3,q4⟩,hz,q⟩:=q1
  subst e
  cases r1 with
  | cons r rr =>
    cases rr with
    | cons r' rr =>
      cases rr
      obtain ⟨t,rfl⟩:=r
      obtain ⟨t',rfl⟩:=r'
      refine call_range_2 (Calls.spliced_nil ?_)
      have I2:Inv X pins σ H1 { s1 with heap:=s1.heap.push { cls:=.type "range",data:=.fields #[.int i t,.int j t',.int 1 s1.toks] },toks:=s1.toks+1 }:=I1.kept λb o e=>Heap.get?_push_of_some _ e
      have hsz:sizeLine=16777216:=sizeLine_eq
      refine call_list_range (n:=(j - i).toNat) (I.ok.hd hc) (IsRange.new ..) (small_one q1 q2 q3 q4) (by rw [rangeSize_one]; split <;> omega) (by omega) λh' tk acc' c' hk hS hit=>?_
      refine ⟨.ref _,_,I2.laid (o:=.lst ((List.range (j - i).toNat).map λk=>V.int (i+(k:Nat)))) hk (Nat.le_refl _) ⟨by simpa using hz,acc'.toList,c',Zog i _ hit,by simpa using hS⟩,rfl,q _ (I2.hok.fresh (Nat.le_refl _))⟩
end
end L2
namespace L2
open PySem PySem.Spec PyProof.Rows
structure Def (P:Program) (w:World) (K:PySem.W.Frag) (mg:Str->Option Value) (base:Heap) (x:Str) (k:Nat) (ps:List Str) (sp:Sp):Prop where
  ex:∃ (f:Addr) (fd:FuncData),FnOk P w K mg base CX0 k f fd ps sp/\mg x=some (.ref f)/\PySem.W.keepIn K (.ref f)=true/\Binds K fd ps []
section
variable {X:Cx} {x:Str} {p pos:Pos} {e:PySem.Expr} {es:List PySem.Expr} {t:TA} {k:Nat} {ps:List Str} {sp:Sp}
theorem Zoh (D:Def X.prog X.w X.K X.mg X.base x k ps sp) (hr:Room k X.A) (hg:Gl X x) (ha:PA X (e :: es) t)
    (he:starEach (e :: es) X.env=(false,eval e X.env) :: starEach es X.env:=by rfl) (hpl:(backTo pos (starEach es X.env)).any (·.1)=false:=by rfl) (hd:(x == ("__debug__" : Str))=false:=by decide) :
    PE X (.Call (.Name x p) (e :: es) [] pos) (tCall sp [] E0 t):=by
  obtain ⟨f,fd,F,hm,hk,hb⟩:=D.ex
  exact ZmZ F hr hg hm hk hb .nil pass0 ha (hdb:=hd) (he:=he) (hpl:=hpl)
end
theorem Zaz {X:Cx} {K:PySem.W.Frag} {es:List PySem.Expr} {k:Nat} {t:TGs} {n:Nat} {pos:Pos} (hK:X.K=K) (hc:X.calm=true) (h:PGs X es t)
    (hn:(assignEach es X.env).length=n:=by rfl) (hst:(assignEach es X.env).findIdx? (·.1)=none:=by rfl):PG X (.Tuple es k pos) (gTup K n t):=by
  subst hK
  exact ZnR hc h hn hst
def compB (osc:Scope) (oN:List Str) (scope:Scope) (N:List Str) (own:Nat) (js:List Nat):Bool :=
  scope.kind == .function && scope.names.all (λy=>y.2 != .cell || scope.names.lookup y.1 == some .cell) && scope.names.all (λy=>y.2 != .local || scope.names.lookup y.1 == some .local) &&
  scope.names.all (λy=>y.2 != .free || (osc.names.lookup y.1 == some .cell || osc.names.lookup y.1 == some .free)) && N.length == own+js.length &&
  (js.map λj=>oN[j]?) == (N.drop own).map some && (N.drop own).all λx=>scope.names.lookup x == some .free
theorem Zal {X:Cx} {osc:Scope} {oN:List Str} {scope:Scope} {N:List Str} {own:Nat} {js:List Nat} (h:compB osc oN scope N own js=true) (hs:X.env.scope=osc) (hN:X.N=oN):CompOk X scope N own js:=by
  unfold compB at h
  simp only [Bool.and_eq_true,all_eq_true,Bool.or_eq_true,beq_iff_eq,bne_iff_ne,ne_eq] at h
  obtain ⟨⟨⟨⟨⟨⟨h1,h2⟩,h3⟩,h4⟩,h5⟩,h6⟩,h7⟩:=h
  refine ⟨h1,λy hy hl=>?_,λy hy hl=>?_,λy hy hf=>?_,h5,λk j e=>?_,λk x e=>?_⟩
  . rcases h2 y hy with q | q
    . exact absurd hl q
    . exact q
  . rcases h3 y hy with q | q
    . exact absurd hl q
    . exact q
  . rcases h4 y hy with q | q
    . exact absurd hf q
    . show X.env.scope.names.lookup y.1=_\/X.env.scope.names.lookup y.1=_
      rw [hs]; exact q
  . rw [hN]
    have z:=congrArg (λl=>l[k]?) h6
    simp only [getElem?_map,e,Option.map_some,List.getElem?_drop] at z
    cases q:N[own+k]? with
    | none=>rw [q] at z; cases z
    | some y=>rw [q] at z; exact (Option.some.inj z).symm
  . refine h7 x ?_
    exact mem_of_getElem? (i:=k) (by rw [List.getElem?_drop]; exact e)
def SB (b:Addr) (H H':Hp):Prop:=∀ a o,a≠b->H a=some o->H' a=some o
theorem SB.trans {b:Addr} {H H1 H2:Hp} (x:SB b H H1) (y:SB b H1 H2):SB b H H2:=λa o n h=>y a o n (x a o n h)
theorem Same.sb {H H':Hp} (x:Same H H') (b:Addr):SB b H H':=λa o _ h=>x a o h
theorem Zeu (b:Addr) (H:Hp) (o:HO):SB b H (upd H b o):=λa u n h=>by rw [Zb n]; exact h
theorem Zg {H:Hp} {p:Addr} (h:H p=none) (o:HO):Same H (upd H p o):=λb u q=>by rw [Zb (Zd q h)]; exact q
def CNx (n:Nat) (l:Addr) (Pv:Nat->List V->St->Hp->Prop) (i:Nat) (ys:List V) (σ:St) (y:V) (H:Hp):Prop :=
  H l=some (.lst ys)/\ys.length<sizeLine/\∃ m',m'<n - i/\(m'=n - (i+1)/\i+1<=n/\(ys++[y]).length<=i+1/\Pv (i+1) (ys++[y]) σ (upd H l (.lst (ys++[y]))))
def CNo (n:Nat) (Pv:Nat->List V->St->Hp->Prop) (i:Nat) (ys:List V) (σ:St) (H:Hp):Prop:=∃ m',m'<n - i/\(m'=n - (i+1)/\i+1<=n/\ys.length<=i+1/\Pv (i+1) ys σ H)
theorem CNx.of {n:Nat} {l:Addr} {Pv:Nat->List V->St->Hp->Prop} {i:Nat} {ys:List V} {σ:St} {y:V} {H:Hp} (hn:n<=sizeLine) (hi:i<n) (hy:ys.length<=i) (h1:H l=some (.lst ys)) (h2:Pv (i+1) (ys++[y]) σ (upd H l (.lst (ys++[y])))):CNx n l Pv i ys σ y H :=
  ⟨h1,by omega,n - (i+1),by omega,rfl,hi,by rw [length_append,length_singleton]; omega,h2⟩
theorem CNo.of {n:Nat} {Pv:Nat->List V->St->Hp->Prop} {i:Nat} {ys:List V} {σ:St} {H:Hp} (hi:i<n) (hy:ys.length<=i) (h2:Pv (i+1) ys σ H):CNo n Pv i ys σ H :=
  ⟨n - (i+1),by omega,rfl,hi,by omega,h2⟩
theorem Zck {lo:Int} {n:Nat} {l:Addr} {g:TG} {tc:TT} {te:TE} {σ0:St} {H0:Hp} {Qf:Hp->Prop} (Pv:Nat->List V->St->Hp->Prop) (h0:Pv 0 [] σ0 H0)
    (hs:∀ i ys σ' H',i<n->ys.length<=i->Pv i ys σ' H'->g (.int (lo+i)) σ' H' λσ2 H3=>tc σ2 H3 λb H4=>if b=true then te σ2 H4 λy H5=>CNx n l Pv i ys σ2 y H5 else CNo n Pv i ys σ2 H4)
    (hd:∀ ys σ' H',ys.length<=n->Pv n ys σ' H'->Qf H') :
    ∃ W:Nat->Nat->List V->St->Hp->Prop,(∃ m,W 0 m [] σ0 H0)/\∀ i m ys σ' H',W i m ys σ' H' ->
    ((Itr lo n).stop i H'/\Qf H')\/((Itr lo n).go i H'/\∀ x H2,(Itr lo n).yld i H' x H2->g x σ' H2 λσ2 H3=>tc σ2 H3 λb H4 =>
      if b=true then te σ2 H4 λy H5=>H5 l=some (.lst ys)/\ys.length<sizeLine/\∃ m',m'<m/\W (i+1) m' (ys++[y]) σ2 (upd H5 l (.lst (ys++[y])))
      else ∃ m',m'<m/\W (i+1) m' ys σ2 H4):=by
  refine ⟨λi m ys σ' H'=>m=n - i/\i<=n/\ys.length<=i/\Pv i ys σ' H',⟨n,rfl,Nat.zero_le _,Nat.le_refl _,h0⟩,?_⟩
  rintro i m ys σ' H' ⟨rfl,hi,hy,p⟩
  by_cases hlt:i<n
  . refine .inr ⟨hlt,λx H2 q=>?_⟩
    obtain ⟨rfl,rfl⟩:=q
    exact hs i ys σ' _ hlt hy p
  . have e:i=n:=by omega
    subst e
    exact .inl ⟨Nat.le_refl _,hd ys σ' H' hy p⟩
theorem Zcx {K:PySem.W.Frag} {a:Addr} {xs:List V} {l:Addr} {g:TG} {tc:TT} {te:TE} {σ0:St} {H0:Hp} {Qf:Hp->Prop} (Pv:Nat->List V->St->Hp->Prop) (h0:Pv 0 [] σ0 H0)
    (hl:∀ i ys σ' H',i<=xs.length->Pv i ys σ' H'->SqL K H' a xs)
    (hs:∀ i x ys σ' H',i<xs.length->xs[i]?=some x->ys.length<=i->Pv i ys σ' H'->g x σ' H' λσ2 H3=>tc σ2 H3 λb H4=>if b=true then te σ2 H4 λy H5=>CNx xs.length l Pv i ys σ2 y H5 else CNo xs.length Pv i ys σ2 H4)
    (hd:∀ ys σ' H',ys.length<=xs.length->Pv xs.length ys σ' H'->Qf H') :
    ∃ W:Nat->Nat->List V->St->Hp->Prop,(∃ m,W 0 m [] σ0 H0)/\∀ i m ys σ' H',W i m ys σ' H' ->
    ((Itl K a).stop i H'/\Qf H')\/((Itl K a).go i H'/\∀ x H2,(Itl K a).yld i H' x H2->g x σ' H2 λσ2 H3=>tc σ2 H3 λb H4 =>
      if b=true then te σ2 H4 λy H5=>H5 l=some (.lst ys)/\ys.length<sizeLine/\∃ m',m'<m/\W (i+1) m' (ys++[y]) σ2 (upd H5 l (.lst (ys++[y])))
      else ∃ m',m'<m/\W (i+1) m' ys σ2 H4):=by
  refine ⟨λi m ys σ' H'=>m=xs.length - i/\i<=xs.length/\ys.length<=i/\Pv i ys σ' H',⟨xs.length,rfl,Nat.zero_le _,Nat.le_refl _,h0⟩,?_⟩
  rintro i m ys σ' H' ⟨rfl,hi,hy,p⟩
  have q:=hl i ys σ' H' hi p
  by_cases hlt:i<xs.length
  . refine .inr ⟨⟨xs,xs[i],q,by simp [hlt]⟩,λx H2 z=>?_⟩
    obtain ⟨rfl,z⟩:=z
    exact hs i x ys σ' _ hlt (z xs q) hy p
  . have e:i=xs.length:=by omega
    subst e
    exact .inl ⟨⟨xs,q,Nat.le_refl _⟩,hd ys σ' H' hy p⟩
theorem ZlP {K:PySem.W.Frag} {a b:Addr} {xs zs:List V} {l:Addr} {g:TG} {tc:TT} {te:TE} {σ0:St} {H0:Hp} {Qf:Hp->Prop} (hlen:xs.length=zs.length) (Pv:Nat->List V->St->Hp->Prop) (h0:Pv 0 [] σ0 H0)
    (hl:∀ i ys σ' H',i<=xs.length->Pv i ys σ' H'->SqL K H' a xs/\SqL K H' b zs)
    (hs:∀ i x z t ys σ' H',i<xs.length->xs[i]?=some x->zs[i]?=some z->ys.length<=i->Pv i ys σ' H'->H' t=none->g (.ref t) σ' (upd H' t (.tup [x,z])) λσ2 H3=>tc σ2 H3 λb H4=>if b=true then te σ2 H4 λy H5=>CNx xs.length l Pv i ys σ2 y H5 else CNo xs.length Pv i ys σ2 H4)
    (hd:∀ ys σ' H',ys.length<=xs.length->Pv xs.length ys σ' H'->Qf H') :
    ∃ W:Nat->Nat->List V->St->Hp->Prop,(∃ m,W 0 m [] σ0 H0)/\∀ i m ys σ' H',W i m ys σ' H' ->
    ((Itz K a b).stop i H'/\Qf H')\/((Itz K a b).go i H'/\∀ x H2,(Itz K a b).yld i H' x H2->g x σ' H2 λσ2 H3=>tc σ2 H3 λb H4 =>
      if b=true then te σ2 H4 λy H5=>H5 l=some (.lst ys)/\ys.length<sizeLine/\∃ m',m'<m/\W (i+1) m' (ys++[y]) σ2 (upd H5 l (.lst (ys++[y])))
      else ∃ m',m'<m/\W (i+1) m' ys σ2 H4):=by
  refine ⟨λi m ys σ' H'=>m=xs.length - i/\i<=xs.length/\ys.length<=i/\Pv i ys σ' H',⟨xs.length,rfl,Nat.zero_le _,Nat.le_refl _,h0⟩,?_⟩
  rintro i m ys σ' H' ⟨rfl,hi,hy,p⟩
  have q:=hl i ys σ' H' hi p
  by_cases hlt:i<xs.length
  . have hz:i<zs.length:=by omega
    refine .inr ⟨⟨xs,zs,xs[i],zs[i],q.1,q.2,by simp [hlt],by simp [hz]⟩,λx H2 z=>?_⟩
    obtain ⟨t,u,v,ht,rfl,rfl,z1,z2⟩:=z
    exact hs i u v t ys σ' _ hlt (z1 xs q.1) (z2 zs q.2) hy p ht
  . have e:i=xs.length:=by omega
    subst e
    exact .inl ⟨⟨xs,zs,q.1,q.2,.inl (Nat.le_refl _)⟩,hd ys σ' H' hy p⟩
theorem ZiQ {K:PySem.W.Frag} {a:Addr} {xs:List V} {g:TG} {tb:TS} {D:Ends} {σ:St} {H:Hp} (Pv:Nat->St->Hp->Prop) (h0:Pv 0 σ H) (hl:∀ i σ H,i<=xs.length->Pv i σ H->SqL K H a xs)
    (hs:∀ i x t σ H,xs[i]?=some x->Pv i σ H->H t=none->g (.ref t) σ (upd H t (.tup [.int i,x])) λσ2 H2=>tb { D with nx:=Pv (i+1),ct:=Pv (i+1),bk:=D.nx } σ2 H2) (hd:∀ σ H,Pv xs.length σ H->D.nx σ H) :
    ∃ W:Nat->Nat->St->Hp->Prop,(∃ m,W 0 m σ H)/\∀ i m σ H,W i m σ H ->
      ((Ite K a).stop i H/\D.nx σ H)\/((Ite K a).go i H/\∃ N:St->Hp->Prop,(∀ σ' H',N σ' H'->∃ m',m'<m/\W (i+1) m' σ' H')/\∀ x H',(Ite K a).yld i H x H'->g x σ H' λσ2 H2=>tb { D with nx:=N,ct:=N,bk:=D.nx } σ2 H2):=by
  refine ⟨λi m σ H=>m=xs.length - i/\i<=xs.length/\Pv i σ H,⟨xs.length,by simp,Nat.zero_le _,h0⟩,?_⟩
  rintro i m σ H ⟨rfl,hi,p⟩
  have q:=hl i σ H hi p
  by_cases hlt:i<xs.length
  . refine .inr ⟨⟨xs,xs[i],q,by simp [hlt]⟩,Pv (i+1),λσ' H' p'=>⟨xs.length - (i+1),by omega,rfl,hlt,p'⟩,λx H' y=>?_⟩
    obtain ⟨t,u,ht,rfl,rfl,y⟩:=y
    exact hs i u t σ _ (y xs q) p ht
  . have e:i=xs.length:=by omega
    subst e
    exact .inl ⟨⟨xs,q,rfl⟩,hd σ H p⟩
theorem atI0 {α:Type} {x:α} {xs:List α}:atI (x :: xs) 0=some x:=ZbS (j:=0) rfl
theorem atI1 {α:Type} {x y:α} {xs:List α}:atI (x :: y :: xs) 1=some y:=ZbS (j:=1) rfl
theorem atI2 {α:Type} {x y z:α} {xs:List α}:atI (x :: y :: z :: xs) 2=some z:=ZbS (j:=2) rfl
theorem Zbo {p A B:Prop} [Decidable p] (h1:p->A) (h2:¬ p->B):if decide p=true then A else B:=by
  by_cases h:p
  . rw [if_pos (decide_eq_true h)]; exact h1 h
  . rw [if_neg (by rw [decide_eq_false h]; exact Bool.false_ne_true)]; exact h2 h
end L2
namespace HT
open PySem PySem.Spec PyProof.Rows
section
variable {prog:Program} {w:World} {A:Around} {E:Value->Shared->Prop} {s:Shared}
theorem getItem_tuple_whole {t sl:Addr} {items:Array Value} {vl vu:Value} {lo hi:Option Int} {Q:Value->Shared->Prop} (ht:IsTup s.heap t items) (hs:s.heap.IsSliceOf sl vl vu .none) (pl:IsPart vl lo) (pu:IsPart vu hi)
    (h0:sIx items.size 0 lo=0) (h1:sIx items.size items.size hi=items.size) (h:Q (.ref t) s):wpAny (model prog w) A (getItem (.ref t) (.ref sl)) Q E s:=by
  obtain ⟨os,hos,hcs,hds⟩:=id hs
  have hTs:s.TypeIs (.ref sl) "slice" := ⟨os,hos,hcs⟩
  unfold getItem
  try with_reducible refine wpAny_holding ?_
  first | refine wpAny_bind (wpAny_pure ?_) | skip
  refine wpAny_bind (wpAny_sequenceKey ht.typeIs (by decide) ?_)
  refine wpAny_bind (wpAny_callSpecial?_slot (name:=Str.ofString "__getitem__") ht.typeIs PyProof.Rows.slot_tuple_getitem
    (wpAny_call_entry PyProof.Rows.slot_tuple_getitem ht.typeIs entry_tuple_getitem ?_ (args_tuple_getitem _ _)))
  show wpAny _ _ (Builtin.Tuple.tupleItemsOf (.ref t) >>= _) _ _ s
  refine wpAny_bind (tupleItemsOf_ ht ?_)
  refine wpAny_bind (wpAny_typeOf hTs ?_)
  rw [if_pos (by decide)]
  refine wpAny_bind (Zcu hs pl pu ?_)
  show wpAny _ _ (if (((sIx items.size 0 lo:Nat):Int) == 0 && (1:Int) == 1 && (sIx items.size items.size hi - sIx items.size 0 lo) == items.size)=true then _ else _) _ _ s
  rw [h0,h1,if_pos (by simp)]
  refine wpAny_bind (m:=Builtin.Tuple.tupleIsExact _) ?_
  unfold Builtin.Tuple.tupleIsExact
  refine wpAny_bind (wpAny_typeOf ht.typeIs (wpAny_pure ?_))
  simp only [beq_self_eq_true,if_true]
  first
    | exact wpAny_bind (wpAny_rule (wpAny_pure ⟨_,rfl,wpAny_pure h⟩))
    | exact wpAny_bind (wpAny_rule (wpAny_bind (wpAny_pure (wpAny_pure ⟨_,rfl,wpAny_pure h⟩))))
end
end HT
namespace L2
open PySem PySem.Spec PyProof.Rows
section
variable {X:Cx}
def rSlG:V->Option Int->Option Int->Hp->VK->Prop:=λx lo hi H Q=>∃ a xs,x=.ref a/\H a=some (.tup xs)/\∀ p H',Same H H'->H' p=some (.tup (cutV xs lo hi))->Q (.ref p) H'
theorem Zni:SlR X rSlG:=by
  intro pins s σ H x v vl vu lo hi sl Q I rx hs pl pu h
  obtain ⟨a,xs,rfl,hx,q⟩:=h
  by_cases hw:HT.sIx xs.length 0 lo=0/\HT.sIx xs.length xs.length hi=xs.length
  . cases rx
    obtain ⟨its,r,ht,hz⟩:=I.tuple (SqT.of hx)
    have hlen:its.toArray.size=xs.length:=by rw [List.size_toArray]; exact r.length.symm
    refine ⟨"tuple",_,PyProof.Rows.slot_tuple_getitem.lookup,ht.typeIs,?_⟩
    refine HT.getItem_tuple_whole ht hs pl pu (by rw [hlen]; exact hw.1) (by rw [hlen]; exact hw.2) ⟨.ref a,H,I,rfl,q a H (Same.refl H) ?_⟩
    unfold cutV
    rw [hw.1,hw.2,List.drop_zero,Nat.sub_zero,take_length]
    exact hx
  . exact ZnZ pins s σ H _ v vl vu lo hi sl Q I rx hs pl pu ⟨a,xs,rfl,SqT.of hx,hw,λp hp=>q p _ (Zg hp _) Za⟩
end
def NS:PySem.Expr->Prop
  | .Starred _ _=>False
  | _=>True
theorem ZbG {e:PySem.Expr} {es:List PySem.Expr} {env:Env} (h:NS e):starEach (e :: es) env=(false,eval e env) :: starEach es env:=by
  cases e <;> first | rfl | exact h.elim
def NSs:List PySem.Expr->Prop
  | []=>True
  | e :: es=>NS e/\NSs es
theorem ZcR {pos:Pos} {env:Env}:∀ {es:List PySem.Expr},NSs es->(backTo pos (starEach es env)).any (·.1)=false
  | [],_=>rfl
  | e :: es,h=>by
    rw [ZbG h.1]
    have ih:=ZcR (pos:=pos) (env:=env) h.2
    simp only [backTo] at ih ⊢
    simpa using ih
section
variable {X:Cx} {x:Str} {p pos:Pos} {e:PySem.Expr} {es:List PySem.Expr} {te:TE} {t:TA} {k:Nat} {ps:List Str} {sp:Sp} {id T:String} {r:List V->Hp->VK->Prop}
theorem pc (ha:PE X e te) (hr:PA X es t) (hn:NS e:=by exact True.intro):PA X (e :: es) (tCons te t):=ZmY ha hr (ZbG hn)
theorem Zt (D:Def X.prog X.w X.K X.mg X.base x k ps sp) (hr:Room k X.A) (hg:Gl X x) (ha:PA X (e :: es) t) (hn:NSs (e :: es):=by repeat' (first | exact True.intro | refine ⟨?_,?_⟩)) (hd:(x == ("__debug__" : Str))=false:=by decide) :
    PE X (.Call (.Name x p) (e :: es) [] pos) (tCall sp [] E0 t):=Zoh D hr hg ha (ZbG hn.1) (ZcR hn.2) hd
theorem Zs (hc:CallR X (.builtin id) r) (hg:Gl X x) (hm:X.mg x=none) (hv:bootBuiltins x=some (.builtin id)) (ha:PA X (e :: es) t) (hnn:NSs (e :: es):=by repeat' (first | exact True.intro | refine ⟨?_,?_⟩)) (hn:x ≠ "__name__" := by decide) (hdb:(x == ("__debug__" : Str))=false:=by decide) :
    PE X (.Call (.Name x p) (e :: es) [] pos) (tCB r t):=ZlI hc hg hm hv ha hn hdb (ZbG hnn.1) (ZcR hnn.2)
theorem Zap (hc:CallR X (.type T) r) (hg:Gl X x) (hm:X.mg x=none) (hv:bootBuiltins x=some (.type T)) (ha:PA X (e :: es) t) (hnn:NSs (e :: es):=by repeat' (first | exact True.intro | refine ⟨?_,?_⟩)) (hn:x ≠ "__name__" := by decide) (hdb:(x == ("__debug__" : Str))=false:=by decide) :
    PE X (.Call (.Name x p) (e :: es) [] pos) (tCB r t):=Zkl hc hg hm hv ha hn hdb (ZbG hnn.1) (ZcR hnn.2)
end
end L2
namespace L2
open PySem PySem.Spec PyProof.Rows
theorem ZlQ {K:PySem.W.Frag} {a:Addr} {xs:List V} {l:Addr} {g:TG} {tc:TT} {te:TE} {σ0:St} {H0:Hp} {Qf:Hp->Prop} (Pv:Nat->List V->St->Hp->Prop) (h0:Pv 0 [] σ0 H0)
    (hl:∀ i ys σ' H',i<=xs.length->Pv i ys σ' H'->SqT K H' a xs)
    (hs:∀ i x ys σ' H',i<xs.length->xs[i]?=some x->ys.length<=i->Pv i ys σ' H'->g x σ' H' λσ2 H3=>tc σ2 H3 λb H4=>if b=true then te σ2 H4 λy H5=>CNx xs.length l Pv i ys σ2 y H5 else CNo xs.length Pv i ys σ2 H4)
    (hd:∀ ys σ' H',ys.length<=xs.length->Pv xs.length ys σ' H'->Qf H') :
    ∃ W:Nat->Nat->List V->St->Hp->Prop,(∃ m,W 0 m [] σ0 H0)/\∀ i m ys σ' H',W i m ys σ' H' ->
    ((Itt K a).stop i H'/\Qf H')\/((Itt K a).go i H'/\∀ x H2,(Itt K a).yld i H' x H2->g x σ' H2 λσ2 H3=>tc σ2 H3 λb H4 =>
      if b=true then te σ2 H4 λy H5=>H5 l=some (.lst ys)/\ys.length<sizeLine/\∃ m',m'<m/\W (i+1) m' (ys++[y]) σ2 (upd H5 l (.lst (ys++[y])))
      else ∃ m',m'<m/\W (i+1) m' ys σ2 H4):=by
  refine ⟨λi m ys σ' H'=>m=xs.length - i/\i<=xs.length/\ys.length<=i/\Pv i ys σ' H',⟨xs.length,rfl,Nat.zero_le _,Nat.le_refl _,h0⟩,?_⟩
  rintro i m ys σ' H' ⟨rfl,hi,hy,p⟩
  have q:=hl i ys σ' H' hi p
  by_cases hlt:i<xs.length
  . refine .inr ⟨⟨xs,xs[i],q,by simp [hlt]⟩,λx H2 z=>?_⟩
    obtain ⟨rfl,z⟩:=z
    exact hs i x ys σ' _ hlt (z xs q) hy p
  . have e:i=xs.length:=by omega
    subst e
    exact .inl ⟨⟨xs,q,Nat.le_refl _⟩,hd ys σ' H' hy p⟩
end L2
namespace L2
open PySem PySem.Spec PyProof.Rows
section
variable {X:Cx} {K:PySem.W.Frag}
theorem Zu (hK:X.K=K):IxR X (rIxL K):=hK ▸ Zne
theorem Zev (hK:X.K=K):IxR X (rIxT K):=hK ▸ Zoa
theorem ZiR (hK:X.K=K):SlR X (rSlL K):=hK ▸ Znf
theorem ZcZ (hK:X.K=K):OpR X (compareOp .NotIn) (rIn K true):=hK ▸ ZgG
theorem ZS (hK:X.K=K):CallR X (.builtin "len") (λxs H Q=>∃ p ys,xs=[.ref p]/\(SqL K H p ys\/SqT K H p ys)/\Q (.int ys.length) H):=hK ▸ ZgH
theorem ZbJ (hK:X.K=K):CallR X (.type "list") (λxs H Q=>∃ p ys,xs=[.ref p]/\(SqL K H p ys\/SqT K H p ys)/\∀ l,H l=none->Q (.ref l) (upd H l (.lst ys))):=hK ▸ ZgI
theorem ZeU (hK:X.K=K):CallR X (.type "tuple") (λxs H Q=>∃ p ys,xs=[.ref p]/\((SqL K H p ys/\∀ l,H l=none->Q (.ref l) (upd H l (.tup ys)))\/(SqT K H p ys/\Q (.ref p) H))):=hK ▸ ZfG
theorem ZjF {ns ms:List Int} (h:ns.length=ms.length):(List.range ns.length).all (λj=>ns.getD j 0 == ms.getD j 0)=decide (ns=ms):=by
  rw [Bool.eq_iff_iff,all_eq_true,decide_eq_true_eq]
  constructor
  . intro z
    refine List.ext_getElem h λj h1 h2=>?_
    have:=z j (List.mem_range.mpr h1)
    rw [getD_eq_getElem?_getD,getD_eq_getElem?_getD,getElem?_eq_getElem h1,getElem?_eq_getElem h2] at this
    simpa using this
  . rintro rfl j _
    simp
def rEqL (K:PySem.W.Frag) (neg:Bool):R2:=λx y H Q=>∃ (a b:Addr) (ns ms:List Int),x=.ref a/\y=.ref b/\SqL K H a (ns.map V.int)/\SqL K H b (ms.map V.int)/\Q (.bl (if neg then !decide (ns=ms) else decide (ns=ms))) H
theorem Zkw {A:Around} {s:Shared} {ns:List Int} {us:List Value} (r:Vals (ns.map V.int) us) {ms:List Int} {ws:List Value} (r2:Vals (ms.map V.int) ws) (j:Nat) (h1:j<us.toArray.size) (h2:j<ws.toArray.size):SeqAt.EqAt A s us.toArray[j] ws.toArray[j] (ns.getD j 0 == ms.getD j 0):=by
  have l1:ns.length=us.length:=by have:=r.length; rwa [length_map] at this
  have l2:ms.length=ws.length:=by have:=r2.length; rwa [length_map] at this
  have k1:j<ns.length:=by rw [l1]; simpa using h1
  have k2:j<ms.length:=by rw [l2]; simpa using h2
  obtain ⟨u,hu,ru⟩:=r.get (i:=j) (x:=.int ns[j]) (by rw [getElem?_map,getElem?_eq_getElem k1]; rfl)
  obtain ⟨v,hv,rv⟩:=r2.get (i:=j) (x:=.int ms[j]) (by rw [getElem?_map,getElem?_eq_getElem k2]; rfl)
  obtain ⟨t,rfl⟩:=ru
  obtain ⟨t',rfl⟩:=rv
  have e1:us.toArray[j]=.int ns[j] t:=by
    have:us[j]?=some us[j]:=getElem?_eq_getElem (by simpa using h1)
    rw [hu] at this
    simpa using (Option.some.inj this).symm
  have e2:ws.toArray[j]=.int ms[j] t':=by
    have:ws[j]?=some ws[j]:=getElem?_eq_getElem (by simpa using h2)
    rw [hv] at this
    simpa using (Option.some.inj this).symm
  rw [e1,e2,getD_eq_getElem?_getD,getD_eq_getElem?_getD,getElem?_eq_getElem k1,getElem?_eq_getElem k2]
  exact SeqAt.EqAt.int_int _ _ _ _
theorem Zoi (hu:X.A.units<cLine) (hK:X.K=K):OpR X (compareOp .NotEq) (rEqL K true):=by
  subst hK
  intro pins s σ H x y v u Q I rx ry h
  obtain ⟨a,b,ns,ms,rfl,rfl,ha,hb,q⟩:=h
  cases rx
  cases ry
  obtain ⟨its,r1,p1,_⟩:=I.list ha
  obtain ⟨its2,r2,p2,_⟩:=I.list hb
  have l1:ns.length=its.length:=by have:=r1.length; rwa [length_map] at this
  have l2:ms.length=its2.length:=by have:=r2.length; rwa [length_map] at this
  by_cases hl:ns.length=ms.length
  . refine SeqAt.RcNeAt.lists (e:=λj=>ns.getD j 0 == ms.getD j 0) p1.isList p2.isList (by simp; omega) hu (λj h1 h2=>Zkw r1 r2 j h1 h2) X.prog X.w X.xe _ ⟨.bl _,H,I,rfl,?_⟩
    rw [List.size_toArray,← l1,ZjF hl]
    exact q
  . refine SeqAt.RcNeAt.lists_lengths p1.isList p2.isList (by simp; omega) hu X.prog X.w X.xe _ ⟨.bl true,H,I,rfl,?_⟩
    have e:decide (ns=ms)=false:=decide_eq_false λz=>hl (by rw [z])
    rw [e] at q
    exact q
end
end L2
namespace L2
open PySem PySem.Spec PyProof.Rows
end L2
namespace HT
open PySem PyProof.Rows
section
open PySem.SeqAt
open PySem.AutoSeq1 (wpAny_loadPart')
open PySem.MeetsSeq PySem.MeetsSeq2 PySem.MeetsSeq3
end
end HT
namespace L2
open PySem PySem.Spec PyProof.Rows
theorem ZmE {h:Heap} {a:Addr} {us:Array Value} (x:IsTup h a us):a<h.objs.size:=by
  obtain ⟨o,ho,_⟩:=x
  exact Heap.lt_size ho
end L2
namespace L2
open PySem PySem.Spec PyProof.Rows
section
variable {X:Cx}
def Znj:V->List V->Hp->VK->Prop:=λx vs H Q=>∃ (l:Addr) (ns:List Int) (k:Int),x=.ref l/\vs=[.int k]/\H l=some (.lst (ns.map V.int))/\k∈ns/\Q .non (upd H l (.lst ((ns.erase k).map V.int)))
theorem ZiS (k:Int):∀ (ns:List Int),k∈ns->∃ j,ns[j]?=some k/\(∀ m z,m<j->ns[m]?=some z->z≠k)/\ns.erase k=ns.eraseIdx j
  | [],h=>nomatch h
  | x :: ns,h=>by
    by_cases hx:x=k
    . subst hx
      exact ⟨0,rfl,λm z hm=>absurd hm (Nat.not_lt_zero _),by rw [List.erase_cons_head,List.eraseIdx_cons_zero]⟩
    . have hm:k∈ns:=by
        rcases List.mem_cons.mp h with e | e
        . exact absurd e.symm hx
        . exact e
      obtain ⟨j,h1,h2,h3⟩:=ZiS k ns hm
      refine ⟨j+1,by simpa using h1,λm z hm hz=>?_,?_⟩
      . cases m with
        | zero =>
          have e:x=z:=by simpa using hz
          rw [← e]; exact hx
        | succ m=>exact h2 m z (by omega) (by simpa using hz)
      . rw [List.erase_cons_tail (by simpa using hx),h3,List.eraseIdx_cons_succ]
theorem ZjG {xs:List V} {us:List Value}:∀ (j:Nat),Vals xs us->Vals (xs.eraseIdx j) (us.eraseIdx j):=by
  intro j r
  induction r generalizing j with
  | nil=>exact .nil
  | cons h t ih =>
    cases j with
    | zero=>exact t
    | succ j=>exact .cons h (ih j)
theorem ZgQ:MtM X "list.remove" Znj:=by
  intro pins s σ H x vs v us Q I rx rv h
  obtain ⟨l,ns,k,rfl,rfl,hH,hk,q⟩:=h
  cases rx
  obtain ⟨u,rfl,ru⟩:=rv.one
  obtain ⟨tk,rfl⟩:=ru
  obtain ⟨z,its,n,r,hl,e⟩:=I.lstM hH
  rw [length_map] at hl z
  obtain ⟨j,h1,h2,h3⟩:=ZiS k ns hk
  have get:∀ (m:Nat) (hm:m<its.toArray.size),∃ (i:Int) (t:Tok),ns[m]?=some i/\its.toArray[m]=.int i t:=λm hm=>by
    have hm':m<ns.length:=by rw [hl]; simpa using hm
    obtain ⟨w,hw,rw'⟩:=r.get (i:=m) (x:=.int ns[m]) (by rw [getElem?_map,getElem?_eq_getElem hm']; rfl)
    obtain ⟨t,rfl⟩:=rw'
    refine ⟨ns[m],t,getElem?_eq_getElem hm',?_⟩
    have:its[m]?=some its[m]:=getElem?_eq_getElem (by simpa using hm)
    rw [hw] at this
    simpa using (Option.some.inj this).symm
  have hj:j<its.toArray.size:=by
    have:=(List.getElem?_eq_some_iff.mp h1).1
    rw [hl] at this; simpa using this
  refine call_meets F.slot_list_remove ⟨_,e,rfl⟩ F.entry_list_remove (F.args_list_remove_2 _ _) (MeetsSeq.list_remove l its.toArray n (.int k tk) (λy=>match y with | .int i _=>i == k | _=>false) (λy hy=>?_) j hj ?_ (λm hm hmj=>?_) (by rw [List.size_toArray,← hl]; exact z)) ⟨e,?_⟩
  . obtain ⟨m,hm,rfl⟩:=Array.getElem_of_mem hy
    obtain ⟨i,t,_,e2⟩:=get m hm
    rw [e2]
    exact MeetsSeq.EqGives.int i k t tk
  . obtain ⟨i,t,e1,e2⟩:=get j hj
    rw [h1] at e1; cases e1
    rw [e2]
    simp
  . obtain ⟨i,t,e1,e2⟩:=get m hm
    rw [e2]
    simpa using h2 m i hmj e1
  . refine ⟨.non,_,I.lset (its':=its.eraseIdx j) (ys:=(ns.erase k).map V.int) hH e ?_ ?_ ?_,rfl,q⟩
    . rw [List.eraseIdxIfInBounds_toArray]
    . rw [h3]
      have em:∀ (xs:List Int) (i:Nat),(xs.eraseIdx i).map V.int=(xs.map V.int).eraseIdx i:=λxs=>by
        induction xs with
        | nil=>intro i; rfl
        | cons y xs ih=>intro i; cases i with
          | zero=>rfl
          | succ i=>rw [List.eraseIdx_cons_succ,map_cons,map_cons,List.eraseIdx_cons_succ,ih]
      rw [em]
      exact ZjG j r
    . rw [length_map]
      exact Nat.le_trans length_erase_le z
end
end L2
namespace L2
open PySem PySem.Spec PyProof.Rows
section
variable {κ:Type} [DecidableEq κ]
def valV (kvs:List (κ×V)) (k:κ):Option V:=(kvs.find? λkv=>decide (kv.1=k)).map (·.2)
def putK (kvs:List (κ×V)) (k:κ) (v:V):List (κ×V) :=
  if (kvs.any λkv=>decide (kv.1=k))=true then kvs.map (λkv=>if kv.1=k then (kv.1,v) else kv) else kvs++[(k,v)]
def dropK (kvs:List (κ×V)) (k:κ):List (κ×V):=kvs.filter λkv=>decide (kv.1≠k)
theorem ZaI {p:κ×V} {r:List (κ×V)} {k:κ} (e:p.1=k):valV (p :: r) k=some p.2:=by simp [valV,find?_cons,e]
theorem Zax {p:κ×V} {r:List (κ×V)} {k:κ} (e:¬ p.1=k):valV (p :: r) k=valV r k:=by simp [valV,find?_cons,e]
theorem Zda (k:κ):∀ kvs:List (κ×V),(kvs.any λkv=>decide (kv.1=k))=(valV kvs k).isSome
  | []=>rfl
  | p :: r=>by
    rw [any_cons]
    by_cases e:p.1=k
    . simp only [ZaI e,decide_eq_true e,Bool.true_or,Option.isSome_some]
    . rw [Zax e,decide_eq_false e,Bool.false_or]; exact Zda k r
theorem ZiT (k j:κ) (y:V):∀ kvs:List (κ×V),valV (kvs.map λkv=>if kv.1=k then (kv.1,y) else kv) j=(valV kvs j).map λx=>if j=k then y else x
  | []=>rfl
  | p :: r=>by
    have ih:=ZiT k j y r
    rw [map_cons]
    by_cases h:p.1=k
    . rw [if_pos h]
      by_cases e:p.1=j
      . rw [ZaI (p:=(p.1,y)) e,ZaI e,Option.map_some,if_pos (e.symm.trans h)]
      . rw [Zax (p:=(p.1,y)) e,Zax e,ih]
    . rw [if_neg h]
      by_cases e:p.1=j
      . rw [ZaI (p:=p) e,ZaI e,Option.map_some,if_neg (λz=>h (e.trans z))]
      . rw [Zax (p:=p) e,Zax e,ih]
theorem ZgR (k j:κ) (y:V):∀ kvs:List (κ×V),valV kvs k=none->valV (kvs++[(k,y)]) j=if j=k then some y else valV kvs j
  | [],_=>by
    by_cases e:k=j
    . rw [if_pos e.symm]; exact ZaI (p:=(k,y)) e
    . rw [if_neg (λz=>e z.symm)]; exact Zax (p:=(k,y)) e
  | p :: r,hn=>by
    rw [List.cons_append]
    have hk:¬ p.1=k:=λz=>by rw [ZaI z] at hn; cases hn
    rw [Zax hk] at hn
    have ih:=ZgR k j y r hn
    by_cases e:p.1=j
    . rw [ZaI e,ZaI e,if_neg (λz=>hk (e.trans z))]
    . rw [Zax e,Zax e,ih]
theorem ZdZ (kvs:List (κ×V)) (k j:κ) (y:V):valV (putK kvs k y) j=if j=k then some y else valV kvs j:=by
  unfold putK
  by_cases a:(kvs.any λkv=>decide (kv.1=k))=true
  . rw [if_pos a,ZiT]
    rw [Zda] at a
    by_cases e:j=k
    . obtain ⟨x,hx⟩:=Option.isSome_iff_exists.mp a
      rw [if_pos e,e,hx,Option.map_some,if_pos rfl]
    . rw [if_neg e]
      cases valV kvs j with
      | none=>rfl
      | some x=>rw [Option.map_some,if_neg e]
  . rw [if_neg a]
    refine ZgR k j y kvs ?_
    rw [Zda] at a
    cases q:valV kvs k with
    | none=>rfl
    | some x=>rw [q] at a; exact (a rfl).elim
theorem Zcp (kvs:List (κ×V)) (k:κ) (v:V):(putK kvs k v).length<=kvs.length+1:=by
  unfold putK
  split
  . rw [length_map]; omega
  . rw [length_append,length_cons,List.length_nil]; omega
theorem RelO.isSome_eq {o:Option V} {u:Option Value} (r:RelO o u):o.isSome=u.isSome:=by
  cases o with
  | none=>cases u with
    | none=>rfl
    | some _=>exact (show False from r).elim
  | some _=>cases u with
    | none=>exact (show False from r).elim
    | some _=>rfl
theorem RelO.getD {o:Option V} {u:Option Value} {d:V} {d':Value} (r:RelO o u) (rd:RelV d d'):RelV (o.getD d) (u.getD d'):=by
  cases o with
  | none=>cases u with
    | none=>exact rd
    | some _=>exact (show False from r).elim
  | some _=>cases u with
    | none=>exact (show False from r).elim
    | some _=>exact r
theorem KV.val {kvs:List (κ×V)} {vs:List (κ×Value)} (r:KV kvs vs) (k:κ):RelO (valV kvs k) (valueAt vs k):=by
  unfold KV at r
  induction r with
  | nil=>exact True.intro
  | @cons p q ps qs h t ih =>
    obtain ⟨h1,h2⟩:=h
    by_cases e:p.1=k
    . have e':q.1=k:=h1.symm.trans e
      have b:valueAt (q :: qs) k=some q.2:=by simp [valueAt,find?_cons,e']
      rw [ZaI e,b]; exact h2
    . have e':¬ q.1=k:=λz=>e (h1.trans z)
      have b:valueAt (q :: qs) k=valueAt qs k:=by simp [valueAt,find?_cons,e']
      rw [Zax e,b]; exact ih
theorem KV.any {kvs:List (κ×V)} {vs:List (κ×Value)} (r:KV kvs vs) (k:κ):(kvs.any λkv=>decide (kv.1=k))=vs.any λkv=>decide (kv.1=k):=by
  unfold KV at r
  induction r with
  | nil=>rfl
  | cons h t ih=>rw [any_cons,any_cons,ih,h.1]
theorem KV.repl {kvs:List (κ×V)} {vs:List (κ×Value)} (r:KV kvs vs) (k:κ) {y:V} {u:Value} (ry:RelV y u) :
    KV (kvs.map λkv=>if kv.1=k then (kv.1,y) else kv) (vs.map λkv=>if kv.1=k then (kv.1,u) else kv):=by
  unfold KV at r ⊢
  induction r with
  | nil=>exact .nil
  | @cons p q ps qs h t ih =>
    rw [map_cons,map_cons]
    refine .cons ?_ ih
    obtain ⟨h1,h2⟩:=h
    by_cases e:p.1=k
    . rw [if_pos e,if_pos (h1.symm.trans e)]; exact ⟨h1,ry⟩
    . rw [if_neg e,if_neg (λz=>e (h1.trans z))]; exact ⟨h1,h2⟩
theorem KV.put {kvs:List (κ×V)} {vs:List (κ×Value)} (r:KV kvs vs) (k:κ) {y:V} {u:Value} (ry:RelV y u):KV (putK kvs k y) (stored vs k u):=by
  unfold putK stored
  rw [r.any k]
  by_cases e:(vs.any λkv=>decide (kv.1=k))=true
  . rw [if_pos e,if_pos e]; exact r.repl k ry
  . rw [if_neg e,if_neg e]; exact Paired.snoc r ⟨rfl,ry⟩
theorem KV.drop {kvs:List (κ×V)} {vs:List (κ×Value)} (r:KV kvs vs) (k:κ):KV (dropK kvs k) (without vs k):=by
  unfold KV at r ⊢
  unfold dropK without
  induction r with
  | nil=>exact .nil
  | @cons p q ps qs h t ih =>
    obtain ⟨h1,h2⟩:=h
    rw [filter_cons,filter_cons]
    by_cases e:p.1=k
    . have a:¬ decide (p.1≠k)=true:=by simp [e]
      have b:¬ decide (q.1≠k)=true:=by simp [h1.symm.trans e]
      rw [if_neg a,if_neg b]; exact ih
    . have e':¬ q.1=k:=λz=>e (h1.trans z)
      have a:decide (p.1≠k)=true:=by simp [e]
      have b:decide (q.1≠k)=true:=by simp [e']
      rw [if_pos a,if_pos b]; exact .cons ⟨h1,h2⟩ ih
theorem KV.length {kvs:List (κ×V)} {vs:List (κ×Value)} (r:KV kvs vs):kvs.length=vs.length:=Paired.length r
theorem ZlR (kvs:List (κ×V)) (k:κ):(dropK kvs k).length<=kvs.length:=length_filter_le _ _
end
theorem kV_is {P:Program} {w:World} {k:Key} {u:Value} (r:RelV (kV k) u):(ZY P w).is k u=true:=by
  cases k with
  | inl i=>obtain ⟨t,e⟩:=(show ∃ t,u=Value.int i t from r); subst e; exact ZhH P w i t
  | inr x=>obtain ⟨t,e⟩:=(show ∃ t,u=Value.str x t from r); subst e; exact ZhI P w x t
theorem ZgS {P:Program} {w:World}:∀ {ks:List Key} {us:List Value},Vals (ks.map kV) us->ItemsAre (ZY P w) ks us
  | [],_,r=>by rw [map_nil] at r; cases r; exact .nil
  | k :: ks,_,r=>by
    rw [map_cons] at r
    cases r with
    | cons h t=>exact .cons (kV_is h) (ZgS t)
abbrev KT (H:Hp):List (List Key×V)->List (List Key×Addr×Value)->Prop:=Paired λp q=>p.1=q.1/\H q.2.1=some (.tup (p.1.map kV))/\RelV p.2 q.2.2
theorem KT.val {H:Hp} {kvs:List (List Key×V)} {xs:List (List Key×Addr×Value)} (r:KT H kvs xs) (k:List Key):RelO (valV kvs k) ((atKey xs k).map (·.2)):=by
  induction r with
  | nil=>exact True.intro
  | @cons p q ps qs h t ih =>
    obtain ⟨h1,_,h2⟩:=h
    by_cases e:p.1=k
    . have e':q.1=k:=h1.symm.trans e
      have b:atKey (q :: qs) k=some q.2:=by simp [atKey,find?_cons,e']
      rw [ZaI e,b]; exact h2
    . have e':¬ q.1=k:=λz=>e (h1.trans z)
      have b:atKey (q :: qs) k=atKey qs k:=by simp [atKey,find?_cons,e']
      rw [Zax e,b]; exact ih
theorem KT.repl {H:Hp} {kvs:List (List Key×V)} {xs:List (List Key×Addr×Value)} (r:KT H kvs xs) (k:List Key) {y:V} {u:Value} (ry:RelV y u) :
    KT H (kvs.map λkv=>if kv.1=k then (kv.1,y) else kv) (xs.map (putAt k u)):=by
  induction r with
  | nil=>exact .nil
  | @cons p q ps qs h t ih =>
    rw [map_cons,map_cons]
    refine .cons ?_ ih
    obtain ⟨h1,h2,h3⟩:=h
    unfold putAt
    by_cases e:p.1=k
    . rw [if_pos e,if_pos (h1.symm.trans e)]; exact ⟨h1,h2,ry⟩
    . rw [if_neg e,if_neg (λz=>e (h1.trans z))]; exact ⟨h1,h2,h3⟩
theorem KT.put {H:Hp} {kvs:List (List Key×V)} {xs:List (List Key×Addr×Value)} (r:KT H kvs xs) (k:List Key) {b:Addr} {y:V} {u:Value} (hb:H b=some (.tup (k.map kV))) (ry:RelV y u) :
    KT H (putK kvs k y) (storedH xs k b u):=by
  have e:(kvs.any λkv=>decide (kv.1=k))=(atKey xs k).isSome:=by
    rw [Zda,(r.val k).isSome_eq,Option.isSome_map]
  unfold putK storedH
  rw [e]
  by_cases q:(atKey xs k).isSome=true
  . rw [if_pos q,if_pos q]; exact r.repl k ry
  . rw [if_neg q,if_neg q]; exact Paired.snoc r ⟨rfl,hb,ry⟩
theorem KT.keeps {H H':Hp} {kvs:List (List Key×V)} {xs:List (List Key×Addr×Value)} (r:KT H kvs xs) (ht:∀ b ys,H b=some (.tup ys)->H' b=some (.tup ys)):KT H' kvs xs :=
  Paired.mapP r λ_ _ z=>⟨z.1,ht _ _ z.2.1,z.2.2⟩
section
variable {P:Program} {w:World} {H:Hp} {h:Heap} {a:Addr}
theorem rd_of {u:HO} (ok:HOk P w H h) (e:Rd H a u):ObjOk P w H h a u:=e.ok ok
theorem dk_rd {kvs:List (Key×V)} (ok:HOk P w H h) (e:Rd H a (.dK kvs)):kvs.length<=sizeLine/\(a == sysModules)=false/\∃ vs,KV kvs vs/\h.DictOf (ZY P w) a vs :=
  show ObjOk P w H h a (.dK kvs) from rd_of ok e
theorem dk_of {kvs:List (Key×V)} (ok:HOk P w H h) (e:H a=some (.dK kvs)):kvs.length<=sizeLine/\(a == sysModules)=false/\∃ vs,KV kvs vs/\h.DictOf (ZY P w) a vs:=dk_rd ok (.inl e)
theorem ZgT {ks:List Key} (ok:HOk P w H h) (e:H a=some (.tup (ks.map kV))):(tupleKind (ZY P w)).is h ks a:=by
  obtain ⟨_,its,r,o,h1,h2,n,h3⟩:=(show ObjOk P w H h a (.tup (ks.map kV)) from ok a _ e)
  exact ⟨o,its.toArray,n,h1,h2,h3,by simpa using ZgS r⟩
theorem dt_rd {kvs:List (List Key×V)} (ok:HOk P w H h) (e:Rd H a (.dT kvs)):kvs.length<=sizeLine/\(a == sysModules)=false /\
    ∃ xs,KT H kvs xs/\h.DictOfH (tupleKind (ZY P w)) a xs:=by
  obtain ⟨z,y,xs,r,o,es,ep,h1,h2,h3,h4,h5⟩:=(show ObjOk P w H h a (.dT kvs) from rd_of ok e)
  refine ⟨z,y,xs,r,o,es,ep,h1,h2,h3,h4,λx hx=>?_,h5⟩
  have all:∀ {l:List (List Key×V)} {m:List (List Key×Addr×Value)},KT H l m->∀ x∈m,(tupleKind (ZY P w)).is h x.1 x.2.1:=by
    intro l m q
    induction q with
    | nil=>intro x hx; exact nomatch hx
    | @cons p q ps qs hq t ih =>
      intro x hx
      rcases List.mem_cons.mp hx with e | hx
      . subst e
        exact ZgT ok (by rw [← hq.1]; exact hq.2.1)
      . exact ih x hx
  exact all r x hx
theorem dt_of {kvs:List (List Key×V)} (ok:HOk P w H h) (e:H a=some (.dT kvs)):kvs.length<=sizeLine/\(a == sysModules)=false /\
    ∃ xs,KT H kvs xs/\h.DictOfH (tupleKind (ZY P w)) a xs:=dt_rd ok (.inl e)
end
def DGet (H:Hp) (a:Addr) (y:V) (r:Option V):Prop :=
  (∃ kvs k,Rd H a (.dK kvs)/\y=kV k/\r=valV kvs k)\/∃ kvs k b,Rd H a (.dT kvs)/\y=.ref b/\H b=some (.tup (k.map kV))/\r=valV kvs k
def DPut (H:Hp) (a:Addr) (y v:V) (H':Hp):Prop :=
  (∃ kvs k,H a=some (.dK kvs)/\y=kV k/\kvs.length<sizeLine/\H'=upd H a (.dK (putK kvs k v))) \/
  ∃ kvs k b,H a=some (.dT kvs)/\y=.ref b/\H b=some (.tup (k.map kV))/\kvs.length<sizeLine/\H'=upd H a (.dT (putK kvs k v))
theorem DGet.k {H:Hp} {a:Addr} {kvs:List (Key×V)} {k:Key} (e:H a=some (.dK kvs)):DGet H a (kV k) (valV kvs k):=.inl ⟨kvs,k,.inl e,rfl,rfl⟩
theorem DPut.k {H:Hp} {a:Addr} {kvs:List (Key×V)} {k:Key} {v:V} (e:H a=some (.dK kvs)) (hl:kvs.length<sizeLine):DPut H a (kV k) v (upd H a (.dK (putK kvs k v))):=.inl ⟨kvs,k,e,rfl,hl,rfl⟩
section
variable {X:Cx} {pins:List (Addr×Obj)} {σ:St} {H:Hp} {s:Shared} {a:Addr} {y v:V} {u r:Value} {o:Option V} {A:Around} {E:Value->Shared->Prop}
theorem Inv.big (I:Inv X pins σ H s):sysModules<s.heap.objs.size:=by
  have h:mainGlobals<s.heap.objs.size:=(I.mod.glob.keeps I.bk).lt
  exact Nat.lt_trans (by decide) h
theorem ZgU {Q:Value->Shared->Prop} (hu:A.units+1<cLine) (I:Inv X pins σ H s) (g:DGet H a y (some v)) (ry:RelV y u) (h:∀ w' s',Inv X pins σ H s'->RelV v w'->Q w' s') :
    wpAny (model X.prog X.w) A (getItem (.ref a) u) Q E s:=by
  rcases g with ⟨kvs,k,e,ey,l⟩ | ⟨kvs,k,b,e,ey,eb,l⟩
  . subst ey
    obtain ⟨z,hd,vs,rel,dd⟩:=dk_rd I.hok e
    obtain ⟨w',hw,rw'⟩:=RelO.some_of (v:=v) (o:=valueAt vs k) (by rw [l]; exact rel.val k)
    exact wpAny_getItem_of (kV_is ry) dd.mapOf hw (h w' _ (I.tok _) rw')
  . subst ey
    cases (show u=Value.ref b from ry)
    obtain ⟨z,hd,xs,rel,dd⟩:=dt_rd I.hok e
    obtain ⟨w',hw,rw'⟩:=RelO.some_of (v:=v) (o:=(atKey xs k).map (·.2)) (by rw [l]; exact rel.val k)
    obtain ⟨p,hp,hp2⟩:=Option.map_eq_some_iff.mp hw
    refine wpAny_getItem_heap (tupleKind_room_in1 hu) (ZgT I.hok eb) dd hp ?_
    rw [hp2]
    exact h w' _ (I.tok _) rw'
theorem d_in {Q:Value->Shared->Prop} (hu:A.units+1<cLine) (I:Inv X pins σ H s) (g:DGet H a y o) (ry:RelV y u) (h:∀ s',Inv X pins σ H s'->Q (.bool o.isSome) s') :
    wpAny (model X.prog X.w) A (compareOp .In u (.ref a)) Q E s:=by
  rcases g with ⟨kvs,k,e,ey,l⟩ | ⟨kvs,k,b,e,ey,eb,l⟩
  . subst ey
    obtain ⟨z,hd,vs,rel,dd⟩:=dk_rd I.hok e
    refine wpAny_in_of (kV_is ry) hd dd.mapOf ?_
    rw [← (rel.val k).isSome_eq,← l]
    exact h _ (I.tok _)
  . subst ey
    cases (show u=Value.ref b from ry)
    obtain ⟨z,hd,xs,rel,dd⟩:=dt_rd I.hok e
    refine wpAny_in_heap (tupleKind_room_in1 hu) (ZgT I.hok eb) hd dd ?_
    have q:=(rel.val k).isSome_eq
    rw [Option.isSome_map] at q
    rw [← q,← l]
    exact h _ (I.tok _)
theorem ZhP {h':Heap} {t':Nat} {ob:HO} (I:Inv X pins σ H s) (mu:Mut (H a)) (hs:Heap.SameBut a s.heap h') (he:∃ q,h'.get? a=some q) (new:ObjOk X.prog X.w (upd H a ob) h' a ob) :
    Inv X pins σ (upd H a ob) { s with heap:=h',toks:=t' } :=
  I.write (x:=a) (e:=a) mu (.inl rfl) (λb q hb z=>(hs.2 b hb).trans z) he new
theorem ZmF {P:Program} {w:World} {H':Hp} {h':Heap} {kvs:List (Key×V)} {vs:List (Key×Value)} (z:kvs.length<=sizeLine) (hd:(a == sysModules)=false) (rel:KV kvs vs) (dd:h'.DictOf (ZY P w) a vs) :
    ObjOk P w H' h' a (.dK kvs):=⟨z,hd,vs,rel,dd⟩
theorem ZgV {H':Hp} {Q:Unit->Shared->Prop} (hu:A.units+1<cLine) (I:Inv X pins σ H s) (g:DPut H a y v H') (ry:RelV y u) (rv:RelV v r) (h:∀ s',Inv X pins σ H' s'->Q () s') :
    wpAny (model X.prog X.w) A (setItem (.ref a) u r) Q E s:=by
  rcases g with ⟨kvs,k,e,ey,l,eH⟩ | ⟨kvs,k,b,e,ey,eb,l,eH⟩
  . subst ey eH
    obtain ⟨z,hd,vs,rel,dd⟩:=dk_of I.hok e
    have hz:vs.length<=sizeLine:=by rw [← rel.length]; exact z
    have hl:(putK kvs k v).length<=sizeLine:=by have:=Zcp kvs k v; omega
    refine wpAny_setItem_pairs (hsz:=hz) (kV_is ry) dd λh' dd' hs=>h _ ?_
    have he:∃ q,h'.get? a=some q:=let ⟨q,_,_,hq,_⟩:=dd'; ⟨q,hq⟩
    exact ZhP I (by rw [e]; exact True.intro) hs he (ZmF hl hd (rel.put k rv) dd')
  . subst ey eH
    cases (show u=Value.ref b from ry)
    obtain ⟨z,hd,xs,rel,dd⟩:=dt_of I.hok e
    have hz:xs.length<=sizeLine:=by rw [← Paired.length rel]; exact z
    have hl:(putK kvs k v).length<=sizeLine:=by have:=Zcp kvs k v; omega
    refine wpAny_setItem_heap (hsz:=hz) (tupleKind_room_in1 hu) (ZgT I.hok eb) dd λh' dd' hs=>h _ ?_
    obtain ⟨q,es,ep,hq,h2,h3,h4,_,h5⟩:=dd'
    refine ZhP I (by rw [e]; exact True.intro) hs ⟨q,hq⟩ ⟨hl,hd,_,(rel.put k eb rv).keeps λc ys ec=>?_,q,es,ep,hq,h2,h3,h4,h5⟩
    rw [Zb (ne_of ec e (λz=>nomatch z))]
    exact ec
end
section
variable {X:Cx} {pins:List (Addr×Obj)} {σ:St} {H:Hp} {s:Shared} {a:Addr} {kvs:List (Key×V)} {k:Key} {u:Value} {A:Around} {E:Value->Shared->Prop}
theorem d_pop {v:V} {more:List Value} {Q:Value->Shared->Prop} (I:Inv X pins σ H s) (e:H a=some (.dK kvs)) (ry:RelV (kV k) u) (l:valV kvs k=some v) (hm:more=[]\/∃ x,more=[x])
    (h:∀ w' s',Inv X pins σ (upd H a (.dK (dropK kvs k))) s'->RelV v w'->Q w' s'):wpAny (model X.prog X.w) A (call (.builtin "dict.pop") (.ref a :: u :: more)) Q E s:=by
  obtain ⟨z,hd,vs,rel,dd⟩:=dk_of I.hok e
  obtain ⟨w',hw,rw'⟩:=RelO.some_of (v:=v) (o:=valueAt vs k) (by rw [← l]; exact rel.val k)
  have hp:(keyPart u).isSome=true:=by
    cases k with
    | inl i=>obtain ⟨t,q⟩:=(show ∃ t,u=Value.int i t from ry); subst q; rfl
    | inr x=>obtain ⟨t,q⟩:=(show ∃ t,u=Value.str x t from ry); subst q; rfl
  have ha:argsOk "dict.pop" ⟨.ref a :: u :: more,[]⟩:=by
    rcases hm with q | ⟨x,q⟩
    . subst q; exact PySem.F.args_dict_pop_2 _ _
    . subst q; exact PySem.F.args_dict_pop_3 _ _ _
  refine call_meetsIn PySem.F.slot_dict_pop dd.typeIs PySem.F.entry_dict_pop ha (meets_dict_pop_there (ZY X.prog X.w) a (kV_is ry) more hm hp)
    ⟨vs,w',dd,by rw [← rel.length]; exact z,hw,λh' dd' hs=>h w' _ ?_ rw'⟩
  have he:∃ q,h'.get? a=some q:=let ⟨q,_,_,hq,_⟩:=dd'; ⟨q,hq⟩
  exact ZhP I (by rw [e]; exact True.intro) hs he (ZmF (Nat.le_trans (ZlR kvs k) z) hd (rel.drop k) dd')
theorem Zoj {r:Value} {Q:Value->Shared->Prop} (I:Inv X pins σ H s) (e:H a=some (.dK kvs)) (ry:RelV (kV k) u) (l:valV kvs k=none) (h:∀ s',Inv X pins σ H s'->Q r s') :
    wpAny (model X.prog X.w) A (call (.builtin "dict.pop") [.ref a,u,r]) Q E s:=by
  obtain ⟨z,hd,vs,rel,dd⟩:=dk_of I.hok e
  have hn:valueAt vs k=none:=RelO.none_of (by rw [← l]; exact rel.val k)
  have hp:(keyPart u).isSome=true:=by
    cases k with
    | inl i=>obtain ⟨t,q⟩:=(show ∃ t,u=Value.int i t from ry); subst q; rfl
    | inr x=>obtain ⟨t,q⟩:=(show ∃ t,u=Value.str x t from ry); subst q; rfl
  exact call_meetsIn PySem.F.slot_dict_pop dd.typeIs PySem.F.entry_dict_pop (PySem.F.args_dict_pop_3 _ _ _) (meets_dict_pop_default (ZY X.prog X.w) a (kV_is ry) hd hp r) ⟨vs,dd,hn,h _ (I.tok _)⟩
end
def NoSl (i:Expr):Prop:=∀ ov iv,subscripted i false ov iv=operate [ov,iv] (getItem ov iv)
theorem Znk {prog:Program} {w:World} {A:Around} {E:Value->Shared->Prop} {s:Shared} {env:Env} {value slice:Expr} {pos:Pos} {T id:String} {Q:Value->Shared->Prop}
    (hl:typeLookup (.type T) "__getitem__" = pure (some (.builtin id))) (hs:NoSl slice)
    (h:wpAny (model prog w) A (eval value env) (λo s₁=>wpAny (model prog w) A (eval slice env) (λi s₂=>s₂.TypeIs o T/\wpAny (model prog w) A (getItem o i) Q E s₂) E s₁) E s) :
    wpAny (model prog w) A (eval (.Subscript value slice pos) env) Q E s:=by
  refine Subscript_ (wpAny_mono h (λo s₁ h₁=>wpAny_mono h₁ (λi s₂ h₂=>?_) λ_ _ x=>x) λ_ _ x=>x)
  obtain ⟨hT,h₂⟩:=h₂
  unfold subscriptTail
  refine wpAny_bind ?_
  rw [getitemInPython_of_ne hT.not_modules]
  refine wpAny_bind (wpAny_specialOf hT hl ?_)
  have fin:wpAny (model prog w) A (subscripted slice false o i) (λr s₃=>wpAny (model prog w) A (letTemporaryGo value o r >>= λ_=>pure r) Q E s₃) E s₂:=by
    rw [hs o i]
    exact wpAny_operating (wpAny_mono h₂ (λr s₃ h₃=>wpAny_bind (wpAny_letTemporaryGo (wpAny_pure h₃))) λ_ _ x=>x)
  first
    | exact wpAny_pure (wpAny_bind fin)
    | exact wpAny_bind (wpAny_pure (wpAny_bind fin))
    | exact wpAny_bind fin
theorem ZhQ {X:Cx} {pins:List (Addr×Obj)} {σ:St} {H:Hp} {s:Shared} {a:Addr} {y:V} {o:Option V} (I:Inv X pins σ H s) (g:DGet H a y o):s.TypeIs (.ref a) "dict" := by
  rcases g with ⟨kvs,k,e,_,_⟩ | ⟨kvs,k,b,e,_,_,_⟩
  . obtain ⟨_,_,vs,_,dd⟩:=dk_rd I.hok e
    exact dd.typeIs
  . obtain ⟨_,_,xs,_,dd⟩:=dt_rd I.hok e
    exact dd.typeIs
def tDGet (td ty:TE):TE:=λσ H Q=>td σ H λx H1=>ty σ H1 λy H2=>∃ a v,x=.ref a/\DGet H2 a y (some v)/\Q v H2
def tDIn (ty td:TE):TE:=λσ H Q=>ty σ H λy H1=>td σ H1 λx H2=>∃ a o,x=.ref a/\DGet H2 a y o/\Q (.bl o.isSome) H2
def sDPut (td ty tv:TE):TS:=λD σ H=>tv σ H λv H1=>td σ H1 λx H2=>ty σ H2 λy H3=>∃ a H4,x=.ref a/\DPut H3 a y v H4/\D.nx σ H4
def sDAug (td ty tv:TE) (rd:V->V->Hp->VK->Prop):TS:=λD σ H=>td σ H λx H1=>ty σ H1 λy H2=>∃ a v,x=.ref a/\DGet H2 a y (some v) /\
  tv σ H2 λy2 H3=>rd v y2 H3 λz H4=>∃ H5,DPut H4 a y z H5/\D.nx σ H5
section
variable {X:Cx} {o i e value:Expr} {pos pos' tpos:Pos} {td ty tv:TE}
theorem Zkx (hu:X.A.units+1<cLine) (ho:PE X o td) (hi:PE X i ty) (hs:NoSl i):PE X (.Subscript o i pos) (tDGet td ty):=by
  intro pins s σ H Q I h
  refine Znk PySem.F.slot_dict_getitem.lookup hs (thn (ho pins s σ H _ I h) λu s1 ⟨x,H1,I1,rx,q1⟩=>thn (hi pins s1 σ H1 _ I1 q1) λiv s2 ⟨y,H2,I2,ry,a,v,ex,g,q2⟩=>?_)
  subst ex
  obtain rfl:u=Value.ref a:=rx
  exact ⟨ZhQ I2 g,ZgU hu I2 g ry λw' s3 I3 rw'=>⟨v,H2,I3,rw',q2⟩⟩
theorem Zok (hu:X.A.units+1<cLine) (hi:PE X i ty) (ho:PE X o td):PC X .In i o (tDIn ty td):=by
  intro pins s σ H Q I h
  refine thn (hi pins s σ H _ I h) λiv s1 ⟨y,H1,I1,ry,q1⟩=>thn (ho pins s1 σ H1 _ I1 q1) λu s2 ⟨x,H2,I2,rx,a,ov,ex,g,q2⟩=>?_
  subst ex
  obtain rfl:u=Value.ref a:=rx
  exact d_in hu I2 g ry λs3 I3=>⟨.bl ov.isSome,H2,I3,rfl,q2⟩
theorem Zky (hu:X.A.units+1<cLine) (ho:PE X o td) (hi:PE X i ty) (hv:PE X value tv) (hs:swapsWith value (some (.Subscript o i pos')) pos.line X.env=pure false) :
    PS X (.Assign [.Subscript o i pos'] value pos) (sDPut td ty tv):=by
  intro pins s σ H D I h
  refine wpAny_Assign_Subscript (thn (hv pins s σ H _ I h) λr s1 ⟨v,H1,I1,rv,q1⟩=>thn (ho pins s1 σ H1 _ I1 q1) λu s2 ⟨x,H2,I2,rx,q2⟩=>thn (hi pins s2 σ H2 _ I2 q2) λiv s3 ⟨y,H3,I3,ry,a,H4,ex,g,q3⟩=>?_) hs
  subst ex
  obtain rfl:u=Value.ref a:=rx
  exact ZgV hu I3 g ry rv λs4 I4=>⟨σ,H4,I4,q3⟩
theorem Znl {op:Operator} {rd:V->V->Hp->VK->Prop} (hu:X.A.units+1<cLine) (ho:PE X o td) (hi:PE X i ty) (hv:PE X value tv) (hop:InOp X op rd)
    (ha:∀ ov iv new,augStore i ov iv new=(do holding [new,ov,iv] (setItem ov iv new); release [new,ov,iv] []; pure .next)):PS X (.AugAssign (.Subscript o i tpos) op value pos) (sDAug td ty tv rd):=by
  intro pins s σ H D I h
  refine wpAny_AugAssign_SubscriptAny (thn (ho pins s σ H _ I h) λu s1 ⟨x,H1,I1,rx,q1⟩=>thn (hi pins s1 σ H1 _ I1 q1) λiv s2 ⟨y,H2,I2,ry,a,v,ex,g,q2⟩=>?_) ha
  subst ex
  obtain rfl:u=Value.ref a:=rx
  refine ZgU hu I2 g ry λw' s3 I3 rw'=>thn (hv pins s3 σ H2 _ I3 q2) λw2 s4 ⟨y2,H3,I4,ry2,q3⟩=>thn (hop pins s4 σ H3 v y2 w' w2 _ I4 rw' ry2 q3) λw3 s5 ⟨z,H4,I5,rz,H5,g5,q4⟩=>?_
  exact ZgV hu I5 g5 ry rz λs6 I6=>⟨σ,H5,I6,q4⟩
end
theorem ZlS {P:Program} {w:World} {H:Hp} (h:Heap) (hb:sysModules<h.objs.size):ObjOk P w H (h.push { cls:=.type "dict",data:=.dict #[] }) h.objs.size (.dK []) :=
  ⟨Nat.zero_le _,beq_eq_false_iff_ne.mpr (Ne.symm (Nat.ne_of_lt hb)),[],.nil,Heap.DictOf.new h⟩
def Zol:TE:=λ_ H Q=>∀ p,H p=none->Q (.ref p) (upd H p (.dK []))
section
variable {X:Cx} {pos:Pos}
theorem Zea:PE X (.Dict [] [] pos) Zol:=λpins s σ H Q I h =>
  wpAny_Dict_empty ⟨.ref s.heap.objs.size,_,I.laid (a:=s.heap.objs.size) (o:=.dK []) (t':=s.toks) (λ_ _ q=>Heap.get?_push_of_some _ q) (Nat.le_refl _) (ZlS s.heap I.big),rfl,h _ (I.hok.fresh (Nat.le_refl _))⟩
end
structure M1 (X:Cx) (o:Expr) (m:Str) (apos:Pos) (e:Expr) (cpos:Pos):Prop where
  base:attributeBase o m X.env (eval o X.env)=eval o X.env
  few:((backTo cpos (starEach [e] X.env)).all (λx=>!x.1) && (backToKw cpos (keywordEach [] X.env)).all (λx=>x.1.isSome)
    && decide (([e]:List Expr).length+([]:List Keyword).length+(if ([]:List Keyword).isEmpty then 0 else 1)<30))=true
  line:(apos.endLine == cpos.line)=true
  trees:backTo cpos (starEach [e] X.env)=[(false,eval e X.env)]
structure M2 (X:Cx) (o:Expr) (m:Str) (apos:Pos) (e f:Expr) (cpos:Pos):Prop where
  base:attributeBase o m X.env (eval o X.env)=eval o X.env
  few:((backTo cpos (starEach [e,f] X.env)).all (λx=>!x.1) && (backToKw cpos (keywordEach [] X.env)).all (λx=>x.1.isSome)
    && decide (([e,f]:List Expr).length+([]:List Keyword).length+(if ([]:List Keyword).isEmpty then 0 else 1)<30))=true
  line:(apos.endLine == cpos.line)=true
  trees:backTo cpos (starEach [e,f] X.env)=[(false,eval e X.env),(false,eval f X.env)]
def IsD (H:Hp) (a:Addr):Prop:=(∃ kvs,Rd H a (.dK kvs))\/∃ kvs,Rd H a (.dT kvs)
theorem Zkz {X:Cx} {pins:List (Addr×Obj)} {σ:St} {H:Hp} {s:Shared} {a:Addr} (I:Inv X pins σ H s) (d:IsD H a) :
    s.TypeIs (.ref a) "dict" /\ (∀ b,Value.ref a=.ref b->∃ ob,s.heap.get? b=some ob/\ob.dict=none)/\(a == sysModules)=false:=by
  rcases d with ⟨kvs,e⟩ | ⟨kvs,e⟩
  . obtain ⟨_,hd,vs,_,dd⟩:=dk_rd I.hok e
    refine ⟨dd.typeIs,λb q=>?_,hd⟩
    cases q
    obtain ⟨ob,_,_,h1,h2,_⟩:=dd
    exact ⟨ob,h1,h2.2.1⟩
  . obtain ⟨_,hd,xs,_,dd⟩:=dt_rd I.hok e
    refine ⟨dd.typeIs,λb q=>?_,hd⟩
    cases q
    obtain ⟨ob,_,_,h1,h2,_⟩:=dd
    exact ⟨ob,h1,h2.2.1⟩
section
variable {X:Cx} {pins:List (Addr×Obj)} {σ:St} {H:Hp} {s:Shared} {a:Addr} {y d:V} {u r:Value} {o:Option V} {A:Around} {E:Value->Shared->Prop}
theorem Zom {Q:Value->Shared->Prop} (hu:A.units+1<cLine) (I:Inv X pins σ H s) (g:DGet H a y o) (ry:RelV y u) (rd:RelV d r) (h:∀ w' s',Inv X pins σ H s'->RelV (o.getD d) w'->Q w' s') :
    wpAny (model X.prog X.w) A (call (.builtin "dict.get") [.ref a,u,r]) Q E s:=by
  rcases g with ⟨kvs,k,e,ey,l⟩ | ⟨kvs,k,b,e,ey,eb,l⟩
  . subst ey
    obtain ⟨z,hd,vs,rel,dd⟩:=dk_rd I.hok e
    refine call_meetsIn PySem.F.slot_dict_get dd.typeIs PySem.F.entry_dict_get (PySem.F.args_dict_get_3 _ _ _) (meets_dict_get_default (ZY X.prog X.w) a (kV_is ry) hd r) ⟨_,dd.mapOf,h _ _ (I.tok _) ?_⟩
    rw [l]
    exact (rel.val k).getD rd
  . subst ey
    cases (show u=Value.ref b from ry)
    obtain ⟨z,hd,xs,rel,dd⟩:=dt_rd I.hok e
    refine call_meetsIn PySem.F.slot_dict_get dd.typeIs PySem.F.entry_dict_get (PySem.F.args_dict_get_3 _ _ _) (meetsH_dict_get_default (tupleKind (ZY X.prog X.w)) a b hd r) ⟨tupleKind_room_in1 hu,k,xs,ZgT I.hok eb,dd,h _ _ (I.tok _) ?_⟩
    rw [l]
    exact (rel.val k).getD rd
end
def Zon (td ty tx:TE):TE:=λσ H Q=>td σ H λx H1=>∃ a,x=.ref a/\IsD H1 a/\ty σ H1 λy H2=>tx σ H2 λz H3=>∃ o,DGet H3 a y o/\Q (o.getD z) H3
def Zoo (td ty:TE):TE:=λσ H Q=>td σ H λx H1=>∃ a,x=.ref a/\IsD H1 a/\ty σ H1 λy H2=>∃ kvs k v,H2 a=some (.dK kvs)/\y=kV k/\valV kvs k=some v/\Q v (upd H2 a (.dK (dropK kvs k)))
def Zop (td ty tx:TE):TE:=λσ H Q=>td σ H λx H1=>∃ a,x=.ref a/\IsD H1 a/\ty σ H1 λy H2=>tx σ H2 λz H3=>∃ kvs k,H3 a=some (.dK kvs)/\y=kV k /\
  (∀ v,valV kvs k=some v->Q v (upd H3 a (.dK (dropK kvs k))))/\(valV kvs k=none->Q z H3)
section
variable {X:Cx} {o e f:Expr} {apos cpos:Pos} {td ty tx:TE}
theorem ZlT (hu:X.A.units+1<cLine) (ho:PE X o td) (he:PE X e ty) (hf:PE X f tx) (m:M2 X o "get" apos e f cpos):PE X (.Call (.Attribute o "get" apos) [e,f] [] cpos) (Zon td ty tx):=by
  intro pins s σ H Q I h
  refine wpAny_Call_method m.base m.few m.line PySem.F.plainAttrs_dict PySem.F.slot_dict_get PySem.F.type_dict_get (thn (ho pins s σ H _ I h) λu s1 ⟨x,H1,I1,rx,a,ex,d,q1⟩=>?_)
  subst ex
  obtain rfl:u=Value.ref a:=rx
  obtain ⟨t1,t2,_⟩:=Zkz I1 d
  refine ⟨t1,t2,?_⟩
  rw [m.trees]
  refine Calls.callWith_builtin rfl (Calls.evalArgs_plain (Calls.spliced_cons (thn (he pins s1 σ H1 _ I1 q1) λiv s2 ⟨y,H2,I2,ry,q2⟩ =>
    Calls.spliced_cons (thn (hf pins s2 σ H2 _ I2 q2) λfv s3 ⟨z,H3,I3,rz,ov,g,q3⟩=>Calls.spliced_nil ?_))))
  exact Zom hu I3 g ry rz λw' s4 I4 rw'=>⟨_,H3,I4,rw',q3⟩
theorem ZiU (ho:PE X o td) (he:PE X e ty) (m:M1 X o "pop" apos e cpos):PE X (.Call (.Attribute o "pop" apos) [e] [] cpos) (Zoo td ty):=by
  intro pins s σ H Q I h
  refine wpAny_Call_method m.base m.few m.line PySem.F.plainAttrs_dict PySem.F.slot_dict_pop PySem.F.type_dict_pop (thn (ho pins s σ H _ I h) λu s1 ⟨x,H1,I1,rx,a,ex,d,q1⟩=>?_)
  subst ex
  obtain rfl:u=Value.ref a:=rx
  obtain ⟨t1,t2,_⟩:=Zkz I1 d
  refine ⟨t1,t2,?_⟩
  rw [m.trees]
  refine Calls.callWith_builtin rfl (Calls.evalArgs_plain (Calls.spliced_cons (thn (he pins s1 σ H1 _ I1 q1) λiv s2 ⟨y,H2,I2,ry,kvs,k,v,ea,ey,l,q2⟩=>Calls.spliced_nil ?_)))
  subst ey
  exact d_pop I2 ea ry l (.inl rfl) λw' s3 I3 rw'=>⟨v,_,I3,rw',q2⟩
theorem ZlU (ho:PE X o td) (he:PE X e ty) (hf:PE X f tx) (m:M2 X o "pop" apos e f cpos):PE X (.Call (.Attribute o "pop" apos) [e,f] [] cpos) (Zop td ty tx):=by
  intro pins s σ H Q I h
  refine wpAny_Call_method m.base m.few m.line PySem.F.plainAttrs_dict PySem.F.slot_dict_pop PySem.F.type_dict_pop (thn (ho pins s σ H _ I h) λu s1 ⟨x,H1,I1,rx,a,ex,d,q1⟩=>?_)
  subst ex
  obtain rfl:u=Value.ref a:=rx
  obtain ⟨t1,t2,_⟩:=Zkz I1 d
  refine ⟨t1,t2,?_⟩
  rw [m.trees]
  refine Calls.callWith_builtin rfl (Calls.evalArgs_plain (Calls.spliced_cons (thn (he pins s1 σ H1 _ I1 q1) λiv s2 ⟨y,H2,I2,ry,q2⟩ =>
    Calls.spliced_cons (thn (hf pins s2 σ H2 _ I2 q2) λfv s3 ⟨z,H3,I3,rz,kvs,k,ea,ey,q3,q4⟩=>Calls.spliced_nil ?_))))
  subst ey
  cases l:valV kvs k with
  | some v=>exact d_pop I3 ea ry l (.inr ⟨fv,rfl⟩) λw' s4 I4 rw'=>⟨v,_,I4,rw',q3 v l⟩
  | none=>exact Zoj I3 ea ry l λs4 I4=>⟨z,H3,I4,rz,q4 l⟩
end
end L2
namespace L2
open PySem PySem.Spec PyProof.Rows
section
variable {κ:Type} [DecidableEq κ]
theorem Zcy:∀ {l:List κ} {k:κ},l.Nodup->¬ k∈l->(l++[k]).Nodup
  | [],k,_,_=>by simp
  | a :: r,k,h,hk=>by
    obtain ⟨h1,h2⟩:=List.nodup_cons.mp h
    show (a :: (r++[k])).Nodup
    refine List.nodup_cons.mpr ⟨λm=>?_,Zcy h2 λm=>hk (List.mem_cons.mpr (Or.inr m))⟩
    rcases List.mem_append.mp m with q | q
    . exact h1 q
    . exact hk (List.mem_cons.mpr (Or.inl (List.mem_singleton.mp q).symm))
theorem ZkA {p:κ×V} {r:List (κ×V)} {k:κ} (e:p.1=k):dropK (p :: r) k=dropK r k:=by
  unfold dropK
  rw [filter_cons,if_neg (by simp [e])]
theorem ZkB {p:κ×V} {r:List (κ×V)} {k:κ} (e:¬ p.1=k):dropK (p :: r) k=p :: dropK r k:=by
  unfold dropK
  rw [filter_cons,if_pos (by simp [e])]
end
end L2
namespace L2
open PySem PySem.Spec PyProof.Rows
theorem ZlV {P:Program} {w:World} {k:Key} {u:Value} (h:(ZY P w).is k u=true):RelV (kV k) u:=by
  rw [Zjr] at h
  rcases ZX h with ⟨i,t,rfl,rfl⟩ | ⟨x,t,rfl,rfl⟩
  . exact ⟨t,rfl⟩
  . exact ⟨t,rfl⟩
end L2
namespace L2
open PySem PySem.Spec PyProof.Rows
structure Src (P0:Program) (w0:World) (it l:Addr) (its:Array Value) (pos:Nat->Heap->Prop) (sq:Heap->Prop):Prop where
  item:∀ {A0:Around} {E0:Value->Shared->Prop} {t:Shared} {i:Nat} {x:Value} {Q0:Value->Shared->Prop},pos i t.heap->sq t.heap->its[i]?=some x->(∀ g,pos (i+1) g->Heap.SameBut it t.heap g->Q0 x { t with heap:=g })->wpAny (model P0 w0) A0 (Builtin.SmallTypes.nextOf (.ref it)) Q0 E0 t
  stop:∀ {A0:Around} {E0:Value->Shared->Prop} {t:Shared} {i:Nat} {Q0:Value->Shared->Prop},A0.handled=none->pos i t.heap->sq t.heap->its[i]?=none->(∀ g e,Heap.ExtBut it t.heap g->(∃ o,g.get? e=some o/\o.cls=.type "StopIteration")->E0 (.ref e) { t with heap:=g })->wpAny (model P0 w0) A0 (Builtin.SmallTypes.nextOf (.ref it)) Q0 E0 t
  pmove:∀ {i:Nat} {g g':Heap},pos i g->(∀ o,g.get? it=some o->g'.get? it=some o)->pos i g'
  smove:∀ {g g':Heap},sq g->(∀ o,g.get? l=some o->g'.get? l=some o)->sq g'
  obj:∀ {i:Nat} {g:Heap},pos i g->∃ o,g.get? it=some o/\∀ v,o.data≠.cell v
section
variable {P0:Program} {w0:World} {A0:Around} {E0:Value->Shared->Prop} {t:Shared}
theorem ZgW {it a:Addr} {i:Nat} {its:Array Value} {x:Value} {Q0:Value->Shared->Prop} (st:t.heap.IsTupleIter it a i) (tp:t.heap.IsTuple a its) (hx:its[i]?=some x)
    (k:∀ g,g.IsTupleIter it a (i+1)->Heap.SameBut it t.heap g->Q0 x { t with heap:=g }):wpAny (model P0 w0) A0 (Builtin.SmallTypes.nextOf (.ref it)) Q0 E0 t:=by
  obtain ⟨oi,gi,ci,di⟩:=id st
  obtain ⟨oa,ga,_,n,da⟩:=tp
  unfold Builtin.SmallTypes.nextOf
  refine wpAny_bind (wpAny_callSpecial?_slot (name:=Str.ofString "__next__") st.typeIs F.slot_tuple_iterator_next (wpAny_call_entry F.slot_tuple_iterator_next st.typeIs F.entry_tuple_iterator_next ?_ (F.args_tuple_iterator_next_1 _)))
  show wpAny _ _ (field (.ref it) 0 >>= _) _ _ t
  refine wpAny_bind (wpAny_field gi di (x:=.ref a) rfl ?_)
  show wpAny _ _ (if (Value.ref a == Value.none)=true then _ else _) _ _ t
  rw [if_neg (show ¬ ((Value.ref a == Value.none)=true) from Bool.false_ne_true)]
  show wpAny _ _ (field (.ref it) 1 >>= _) _ _ t
  refine wpAny_bind (wpAny_field gi di (x:=.int i 0) rfl ?_)
  show wpAny _ _ (seqItems? (.ref a) >>= _) _ _ t
  refine wpAny_bind (wpAny_seqItems ga da ?_)
  simp only [hx,Int.toNat_natCast]
  refine wpAny_bind (wpAny_setField gi di (by simp) (wpAny_pure ⟨x,rfl,wpAny_pure (k _ ⟨_,Heap.get?_update_self _ gi (Obj.isFreed_of_fields (Obj.data_mapFields di _)),(Obj.cls_mapFields ..).trans ci,?_⟩ (Heap.SameBut.update ..))⟩))
  rw [Obj.data_mapFields di]
  simp [rawInt]
theorem ZgX {it a:Addr} {i:Nat} {its:Array Value} {Q0:Value->Shared->Prop} (hA:A0.handled=none) (st:t.heap.IsTupleIter it a i) (tp:t.heap.IsTuple a its) (hx:its[i]?=none)
    (k:∀ g e,Heap.ExtBut it t.heap g->(∃ o,g.get? e=some o/\o.cls=.type "StopIteration")->E0 (.ref e) { t with heap:=g }):wpAny (model P0 w0) A0 (Builtin.SmallTypes.nextOf (.ref it)) Q0 E0 t:=by
  obtain ⟨oi,gi,ci,di⟩:=id st
  obtain ⟨oa,ga,_,n,da⟩:=tp
  unfold Builtin.SmallTypes.nextOf
  refine wpAny_bind (wpAny_callSpecial?_slot (name:=Str.ofString "__next__") st.typeIs F.slot_tuple_iterator_next (wpAny_call_entry F.slot_tuple_iterator_next st.typeIs F.entry_tuple_iterator_next ?_ (F.args_tuple_iterator_next_1 _)))
  show wpAny _ _ (field (.ref it) 0 >>= _) _ _ t
  refine wpAny_bind (wpAny_field gi di (x:=.ref a) rfl ?_)
  show wpAny _ _ (if (Value.ref a == Value.none)=true then _ else _) _ _ t
  rw [if_neg (show ¬ ((Value.ref a == Value.none)=true) from Bool.false_ne_true)]
  show wpAny _ _ (field (.ref it) 1 >>= _) _ _ t
  refine wpAny_bind (wpAny_field gi di (x:=.int i 0) rfl ?_)
  show wpAny _ _ (seqItems? (.ref a) >>= _) _ _ t
  refine wpAny_bind (wpAny_seqItems ga da ?_)
  simp only [hx,Int.toNat_natCast]
  refine wpAny_bind (wpAny_rule (wpAny_bind (wpAny_setField gi di (by simp) ?_)))
  show wpAny _ _ (newExc (.type "StopIteration") [] >>= _) _ _ _
  refine wpAny_bind ?_
  simp only [newTuple,newExc]
  refine wpAny_bind (wpAny_newObj_type (wpAny_bind (m:=firstArgMember _ _) (wpAny_of_eq (a:=Value.none) (by first | rfl | (simp only [firstArgMember]; rfl)) (wpAny_newObj_type ?_ (by size_fits)))) (by size_fits))
  simp only [raiseNew]
  refine wpAny_bind (wpAny_handled ?_)
  first | rw [show A0.in1.handled=none from hA] | rw [hA]
  exact wpAny_bind (wpAny_pure (wpAny_throw (k _ _ (((Heap.SameBut.update ..).extBut.push _).push _) ⟨_,Heap.get?_push_size _ rfl,rfl⟩)))
end
theorem ZbV {h:Heap} {it l:Addr} {i:Nat} (x:h.IsTupleIter it l i):∃ o,h.get? it=some o/\∀ v,o.data≠.cell v:=by
  obtain ⟨o,e,c,d⟩:=x
  exact ⟨o,e,λv z=>by rw [d] at z; cases z⟩
theorem ZfI {P0:Program} {w0:World} (it l:Addr) (its:Array Value):Src P0 w0 it l its (λi h=>h.IsTupleIter it l i) (λh=>h.IsTuple l its) where
  item:=λa b c d=>ZgW a b c d
  stop:=λa b c d e=>ZgX a b c d e
  pmove:=λa b=>a.at b
  smove:=λa b=>by obtain ⟨o,e,r⟩:=a; exact ⟨o,b o e,r⟩
  obj:=λa=>ZbV a
section
variable {P0:Program} {w0:World} {A0:Around} {E0:Value->Shared->Prop} {t:Shared} {z TI TO ia ib la lb:Addr} {p1 p2:Nat->Heap->Prop} {q1 q2:Heap->Prop} {xs ys:Array Value}
theorem ZkC {k:Nat} {x y u v:Value} {Q0:Value->Shared->Prop} (S1:Src P0 w0 ia la xs p1 q1) (S2:Src P0 w0 ib lb ys p2 q2) (D:ZipApart z TI TO ia ib la lb)
    (zz:IsZip t.heap z TI TO .none) (zI:IsPair t.heap TI (.ref ia) (.ref ib)) (zO:IsPair t.heap TO u v) (a1:p1 k t.heap) (a2:p2 k t.heap) (b1:q1 t.heap) (b2:q2 t.heap) (hx:xs[k]?=some x) (hy:ys[k]?=some y)
    (fin:∀ g,IsZip g z TI TO (rawInt t.heap.objs.size)->IsPair g TO x y->p1 (k+1) g->p2 (k+1) g->IsPair g t.heap.objs.size x y->g.objs.size=t.heap.objs.size+1 ->
      (∀ c o,c≠z->c≠TO->c≠ia->c≠ib->t.heap.get? c=some o->g.get? c=some o)->Q0 (.ref t.heap.objs.size) { t with heap:=g }) :
    wpAny (model P0 w0) A0 (Builtin.«zip.__next__» ⟨[.ref z],[]⟩) (λf s'=>∃ v,f=.done (.ret v)/\Q0 v s') E0 t:=by
  show wpAny _ _ (field (.ref z) 2 >>= _) _ _ _
  refine wpAny_bind (wpAny_field zz rfl (x:=.bool false) rfl ?_)
  show wpAny _ _ (field (.ref z) 3 >>= _) _ _ _
  refine wpAny_bind (wpAny_field zz rfl (x:=.ref TI) rfl (wpAny_bind (wpAny_seqItems zI rfl ?_)))
  show wpAny _ _ (Builtin.SmallTypes.ownedTupleIsFree (.ref z) >>= _) _ _ _
  refine wpAny_bind ?_
  unfold Builtin.SmallTypes.ownedTupleIsFree
  refine wpAny_bind (wpAny_field zz rfl (x:=.none) rfl (wpAny_pure ?_))
  simp only [if_true]
  refine wpAny_bind (wpAny_rule (wpAny_bind (wpAny_field zz rfl (x:=.ref TO) rfl (wpAny_bind (wpAny_setField_rec zz (by simp) λg1 z1 c1=>?_)))))
  replace z1:IsZip g1 z TI TO .ellipsis:=z1
  refine wpAny_bind ?_
  simp only [List.forIn_cons,List.forIn_nil,List.zipIdx_cons,List.zipIdx_nil]
  refine wpAny_bind (wpAny_bind (wpAny_onRaise ?_))
  show wpAny _ _ (Builtin.SmallTypes.nextOf (.ref ia) >>= _) _ _ _
  refine wpAny_bind (S1.item (S1.pmove a1 λo e=>c1.extBut _ o D.i1z e) (S1.smove b1 λo e=>c1.extBut _ o D.l1z e) hx λg2 a12 c2=>wpAny_pure ?_)
  have o2:IsPair g2 TO u v:=c2.extBut _ _ D.TOi1 (c1.extBut _ _ D.TOz zO)
  refine wpAny_bind (wpAny_seqItems o2 rfl (wpAny_bind (wpAny_updateSeq_pair o2 λg3 o3 c3=>?_)))
  replace o3:IsPair g3 TO x v:=o3
  refine wpAny_bind (wpAny_letGo (wpAny_pure ?_))
  refine wpAny_bind (wpAny_bind (wpAny_onRaise ?_))
  show wpAny _ _ (Builtin.SmallTypes.nextOf (.ref ib) >>= _) _ _ _
  have m3:∀ c o,c≠z->c≠ia->c≠TO->t.heap.get? c=some o->g3.get? c=some o:=λc o n1 n2 n3 e=>c3.extBut _ _ n3 (c2.extBut _ _ n2 (c1.extBut _ _ n1 e))
  refine wpAny_bind (S2.item (S2.pmove a2 λo e=>m3 _ o D.i2z D.i12.symm D.TOi2.symm e) (S2.smove b2 λo e=>m3 _ o D.l2z D.l2i1 D.l2TO e) hy λg4 a24 c4=>wpAny_pure ?_)
  have o4:IsPair g4 TO x v:=c4.extBut _ _ D.TOi2 o3
  refine wpAny_bind (wpAny_seqItems o4 rfl (wpAny_bind (wpAny_updateSeq_pair o4 λg5 o5 c5=>?_)))
  replace o5:IsPair g5 TO x y:=o5
  refine wpAny_bind (wpAny_letGo (wpAny_pure (wpAny_pure ?_)))
  refine wpAny_bind (wpAny_seqItems o5 rfl (wpAny_bind (wpAny_newTuple ?_)))
  have sz:g5.objs.size=t.heap.objs.size:=by rw [c5.1,c4.1,c3.1,c2.1,c1.1]
  have m5:∀ c o,c≠z->c≠TO->c≠ia->c≠ib->t.heap.get? c=some o->g5.get? c=some o:=λc o n1 n2 n3 n4 e=>c5.extBut _ _ n2 (c4.extBut _ _ n4 (m3 c o n1 n3 n2 e))
  have z5:IsZip g5 z TI TO .ellipsis:=c5.extBut _ _ D.TOz.symm (c4.extBut _ _ D.i2z.symm (c3.extBut _ _ D.TOz.symm (c2.extBut _ _ D.i1z.symm z1)))
  have a15:p1 (k+1) g5:=S1.pmove a12 λo e=>c5.extBut _ o D.TOi1.symm (c4.extBut _ o D.i12 (c3.extBut _ o D.TOi1.symm e))
  have a25:p2 (k+1) g5:=S2.pmove a24 λo e=>c5.extBut _ o D.TOi2.symm e
  have zlt:z<g5.objs.size:=Heap.lt_size z5
  show wpAny _ _ (Builtin.SmallTypes.ownedTupleHandOut (.ref z) (.ref g5.objs.size) >>= _) _ _ _
  refine wpAny_bind ?_
  unfold Builtin.SmallTypes.ownedTupleHandOut
  have z6:IsZip (g5.push { cls:=.type "tuple",data:=.seq #[x,y] }) z TI TO .ellipsis:=Heap.get?_push_of_some _ z5
  refine wpAny_bind (wpAny_setField_rec z6 (by simp) λg7 z7 c7=>?_)
  replace z7:IsZip g7 z TI TO (rawInt g5.objs.size):=z7
  refine wpAny_setField_rec z7 (by simp) λg8 z8 c8=>?_
  replace z8:IsZip g8 z TI TO (rawInt g5.objs.size):=z8
  have m8:∀ c o,c≠z->g5.get? c=some o->g8.get? c=some o:=λc o n1 e=>c8.extBut _ _ n1 (c7.extBut _ _ n1 (Heap.get?_push_of_some _ e))
  have t8:IsPair g8 g5.objs.size x y:=c8.extBut _ _ (Nat.ne_of_gt zlt) (c7.extBut _ _ (Nat.ne_of_gt zlt) (Heap.get?_push_size _ rfl))
  have s8:g8.objs.size=g5.objs.size+1:=by rw [c8.1,c7.1,Heap.size_push]
  rw [sz] at z8 t8 s8
  refine wpAny_pure ⟨_,rfl,?_⟩
  show Q0 (.ref g5.objs.size) _
  rw [sz]
  exact fin g8 z8 (m8 _ _ D.TOz o5) (S1.pmove a15 λo e=>m8 _ o D.i1z e) (S2.pmove a25 λo e=>m8 _ o D.i2z e) t8 s8 λc o n1 n2 n3 n4 e=>m8 c o n1 (m5 c o n1 n2 n3 n4 e)
theorem ZkD {k:Nat} {u v:Value} {Q0:Fin->Shared->Prop} (hA:A0.handled=none) (S1:Src P0 w0 ia la xs p1 q1) (S2:Src P0 w0 ib lb ys p2 q2) (D:ZipApart z TI TO ia ib la lb)
    (zz:IsZip t.heap z TI TO .none) (zI:IsPair t.heap TI (.ref ia) (.ref ib)) (zO:IsPair t.heap TO u v) (a1:p1 k t.heap) (b1:q1 t.heap) (hx:xs[k]?=none)
    (fin:∀ g e,(∀ c o,c≠z->c≠TO->c≠ia->c≠ib->t.heap.get? c=some o->g.get? c=some o)->(∃ o,g.get? e=some o/\o.cls=.type "StopIteration")->E0 (.ref e) { t with heap:=g }) :
    wpAny (model P0 w0) A0 (Builtin.«zip.__next__» ⟨[.ref z],[]⟩) Q0 E0 t:=by
  show wpAny _ _ (field (.ref z) 2 >>= _) _ _ _
  refine wpAny_bind (wpAny_field zz rfl (x:=.bool false) rfl ?_)
  show wpAny _ _ (field (.ref z) 3 >>= _) _ _ _
  refine wpAny_bind (wpAny_field zz rfl (x:=.ref TI) rfl (wpAny_bind (wpAny_seqItems zI rfl ?_)))
  show wpAny _ _ (Builtin.SmallTypes.ownedTupleIsFree (.ref z) >>= _) _ _ _
  refine wpAny_bind ?_
  unfold Builtin.SmallTypes.ownedTupleIsFree
  refine wpAny_bind (wpAny_field zz rfl (x:=.none) rfl (wpAny_pure ?_))
  simp only [if_true]
  refine wpAny_bind (wpAny_rule (wpAny_bind (wpAny_field zz rfl (x:=.ref TO) rfl (wpAny_bind (wpAny_setField_rec zz (by simp) λg1 z1 c1=>?_)))))
  replace z1:IsZip g1 z TI TO .ellipsis:=z1
  refine wpAny_bind ?_
  simp only [List.forIn_cons,List.forIn_nil,List.zipIdx_cons,List.zipIdx_nil]
  refine wpAny_bind (wpAny_bind (wpAny_onRaise ?_))
  show wpAny _ _ (Builtin.SmallTypes.nextOf (.ref ia) >>= _) _ _ _
  refine wpAny_bind (S1.stop hA (S1.pmove a1 λo e=>c1.extBut _ o D.i1z e) (S1.smove b1 λo e=>c1.extBut _ o D.l1z e) hx λg2 e c2 he=>?_)
  obtain ⟨oe,g2e,ce⟩:=he
  have z2:IsZip g2 z TI TO .ellipsis:=c2 _ _ D.i1z.symm z1
  have ne:e≠z:=λq=>by rw [q,z2] at g2e; cases g2e; simp at ce
  exact wpAny_setField_rec z2 (by simp) λg3 _ c3=>fin g3 e (λc o n1 _ n3 _ q=>c3.extBut _ _ n1 (c2 _ _ n3 (c1.extBut _ _ n1 q))) ⟨oe,c3.extBut _ _ ne g2e,ce⟩
theorem ZgY {k:Nat} {x y u v:Value} {Q0:Option Value->Shared->Prop} (S1:Src P0 w0 ia la xs p1 q1) (S2:Src P0 w0 ib lb ys p2 q2) (D:ZipApart z TI TO ia ib la lb)
    (zz:IsZip t.heap z TI TO .none) (zI:IsPair t.heap TI (.ref ia) (.ref ib)) (zO:IsPair t.heap TO u v) (a1:p1 k t.heap) (a2:p2 k t.heap) (b1:q1 t.heap) (b2:q2 t.heap) (hx:xs[k]?=some x) (hy:ys[k]?=some y)
    (fin:∀ g,IsZip g z TI TO (rawInt t.heap.objs.size)->IsPair g TO x y->p1 (k+1) g->p2 (k+1) g->IsPair g t.heap.objs.size x y->g.objs.size=t.heap.objs.size+1 ->
      (∀ c o,c≠z->c≠TO->c≠ia->c≠ib->t.heap.get? c=some o->g.get? c=some o)->Q0 (some (.ref t.heap.objs.size)) { t with heap:=g }):wpAny (model P0 w0) A0 (pyNext (.ref z)) Q0 E0 t:=by
  have ty:t.TypeIs (.ref z) "zip" := ⟨_,zz,rfl⟩
  unfold pyNext
  exact wpAny_bind (wpAny_attempt (wpAny_callSpecial?_slot (name:=Str.ofString "__next__") ty F.slot_zip_next (wpAny_call_entry F.slot_zip_next ty F.entry_zip_next (ZkC S1 S2 D zz zI zO a1 a2 b1 b2 hx hy λg r1 r2 r3 r4 r5 r6 r7=>wpAny_pure (fin g r1 r2 r3 r4 r5 r6 r7)) (F.args_zip_next_1 _))))
theorem ZgZ {k:Nat} {u v:Value} {Q0:Option Value->Shared->Prop} (hA:A0.handled=none) (S1:Src P0 w0 ia la xs p1 q1) (S2:Src P0 w0 ib lb ys p2 q2) (D:ZipApart z TI TO ia ib la lb)
    (zz:IsZip t.heap z TI TO .none) (zI:IsPair t.heap TI (.ref ia) (.ref ib)) (zO:IsPair t.heap TO u v) (a1:p1 k t.heap) (b1:q1 t.heap) (hx:xs[k]?=none)
    (fin:∀ g,(∀ c o,c≠z->c≠TO->c≠ia->c≠ib->t.heap.get? c=some o->g.get? c=some o)->Q0 none { t with heap:=g }):wpAny (model P0 w0) A0 (pyNext (.ref z)) Q0 E0 t:=by
  have ty:t.TypeIs (.ref z) "zip" := ⟨_,zz,rfl⟩
  unfold pyNext
  refine wpAny_bind (wpAny_attempt (wpAny_callSpecial?_slot (name:=Str.ofString "__next__") ty F.slot_zip_next (wpAny_call_entry F.slot_zip_next ty F.entry_zip_next (ZkD hA S1 S2 D zz zI zO a1 b1 hx λg e kp he=>?_) (F.args_zip_next_1 _))))
  obtain ⟨oe,ge,ce⟩:=he
  exact wpAny_bind (wpAny_isInstance (T := "StopIteration") (b:=true) ⟨oe,ge,ce⟩ isSubtype_stop (wpAny_pure (fin _ kp)))
end
abbrev zt1 (h:Heap) (a:Addr):Heap:=h.push { cls:=.type "tuple_iterator",data:=.fields #[.ref a,.int 0 0] }
abbrev zt2 (h:Heap) (a b:Addr):Heap:=(zt1 h a).push { cls:=.type "tuple_iterator",data:=.fields #[.ref b,.int 0 0] }
abbrev zt3 (h:Heap) (a b:Addr):Heap:=(zt2 h a b).push { cls:=.type "tuple",data:=.seq #[.ref h.objs.size,.ref (zt1 h a).objs.size] }
abbrev zt4 (h:Heap) (a b:Addr):Heap:=(zt3 h a b).push { cls:=.type "tuple",data:=.seq #[.none,.none] }
abbrev zt5 (h:Heap) (a b:Addr):Heap:=(zt4 h a b).push { cls:=.type "zip",data:=.fields #[.none,.bool false,.bool false,.ref (zt2 h a b).objs.size,.ref (zt3 h a b).objs.size] }
theorem ZjH (a b:Addr) (xs ys:Array Value) :
    Meets (Builtin.«zip.__new__» ⟨[.type "zip",.ref a,.ref b],[]⟩) (λ_ R s=>s.heap.IsTuple a xs/\s.heap.IsTuple b ys/\R (.ok (.ret (.ref (zt4 s.heap a b).objs.size))) { s with heap:=zt5 s.heap a b }) :=
  .of_wp λP0 w0 A0 R t h=>by
    obtain ⟨hp,gn,dr,tk,os⟩:=t
    obtain ⟨ta,tb,h⟩:=h
    have sub:=sub_zip
    have qa:Heap.IsTuple (Shared.heap ⟨hp,gn,dr,tk,os⟩) a xs:=ta
    have qb:Heap.IsTuple (Shared.heap ⟨hp.push { cls:=.type "tuple_iterator",data:=.fields #[.ref a,.int 0 0] },gn,dr,tk,os⟩) b ys:=Heap.IsTuple.push tb _
    wp_walk using wpAny_pyIter_tuple qa,wpAny_pyIter_tuple qb
    exact ⟨_,rfl,h⟩
theorem ZkE {P0:Program} {w0:World} {A0:Around} {E0:Value->Shared->Prop} {t:Shared} {a b:Addr} {xs ys:Array Value} {Q0:Value->Shared->Prop} (ta:t.heap.IsTuple a xs) (tb:t.heap.IsTuple b ys)
    (h:∀ g,IsZip g (t.heap.objs.size+4) (t.heap.objs.size+2) (t.heap.objs.size+3) .none->IsPair g (t.heap.objs.size+2) (.ref t.heap.objs.size) (.ref (t.heap.objs.size+1))->IsPair g (t.heap.objs.size+3) .none .none ->
      g.IsTupleIter t.heap.objs.size a 0->g.IsTupleIter (t.heap.objs.size+1) b 0->(∀ c o,t.heap.get? c=some o->g.get? c=some o)->Q0 (.ref (t.heap.objs.size+4)) { t with heap:=g }) :
    wpAny (model P0 w0) A0 (call (.type "zip") [.ref a,.ref b]) Q0 E0 t:=by
  refine callType_new F.called_zip (by decide) (F.typeCall_zip_2 _ _) (F.newCall_zip_2 _ _) (λobj=>F.args_object_init_3 obj _ _) F.entry_zip_new (ZjH a b xs ys) ⟨ta,tb,?_⟩
  have n1:(zt1 t.heap a).objs.size=t.heap.objs.size+1:=Heap.size_push ..
  have n2:(zt2 t.heap a b).objs.size=t.heap.objs.size+2:=by rw [Heap.size_push,n1]
  have n3:(zt3 t.heap a b).objs.size=t.heap.objs.size+3:=by rw [Heap.size_push,n2]
  have n4:(zt4 t.heap a b).objs.size=t.heap.objs.size+4:=by rw [Heap.size_push,n3]
  have r5:(zt5 t.heap a b).get? (zt4 t.heap a b).objs.size=some _:=Heap.get?_push_size _ rfl
  have r4:(zt5 t.heap a b).get? (zt3 t.heap a b).objs.size=some _:=Heap.get?_push_of_some _ (Heap.get?_push_size _ rfl)
  have r3:(zt5 t.heap a b).get? (zt2 t.heap a b).objs.size=some _:=Heap.get?_push_of_some _ (Heap.get?_push_of_some _ (Heap.get?_push_size _ rfl))
  have r2:(zt5 t.heap a b).get? (zt1 t.heap a).objs.size=some _:=Heap.get?_push_of_some _ (Heap.get?_push_of_some _ (Heap.get?_push_of_some _ (Heap.get?_push_size _ rfl)))
  have r1:(zt5 t.heap a b).get? t.heap.objs.size=some _:=Heap.get?_push_of_some _ (Heap.get?_push_of_some _ (Heap.get?_push_of_some _ (Heap.get?_push_of_some _ (Heap.get?_push_size _ rfl))))
  show _/\_
  rw [n2,n3,n4] at r5
  rw [n1,n2] at r3
  rw [n3] at r4
  rw [n1] at r2
  rw [n4]
  refine ⟨⟨_,r5,rfl⟩,h _ r5 r3 r4 ⟨_,r1,rfl,rfl⟩ ⟨_,r2,rfl,rfl⟩ λc o q=>?_⟩
  iterate 5 refine Heap.get?_push_of_some _ ?_
  exact q
def Itzt (K:PySem.W.Frag) (a b:Addr):It :=
  ⟨λi H=>∃ xs ys x y,SqT K H a xs/\SqT K H b ys/\xs[i]?=some x/\ys[i]?=some y,
   λi H v H'=>∃ t x y,H t=none/\v=.ref t/\H'=upd H t (.tup [x,y])/\(∀ xs,SqT K H a xs->xs[i]?=some x)/\∀ ys,SqT K H b ys->ys[i]?=some y,
   λi H=>∃ xs,SqT K H a xs/\(∃ ys,SqT K H b ys)/\xs.length<=i⟩
theorem ZkF {P:Program} {w:World} {K:PySem.W.Frag} {elts:List PySem.Expr} {x1} {pos:Pos} (z TI TO i1 i2 a b:Addr) (D:ZipApart z TI TO i1 i2 a b) :
    Turn P w K (.Tuple elts x1 pos) (Itzt K a b) [z,TI,TO,i1,i2] z (λi h=>IsZip h z TI TO .none/\IsPair h TI (.ref i1) (.ref i2)/\(∃ u v,IsPair h TO u v)/\h.IsTupleIter i1 a i/\h.IsTupleIter i2 b i) where
  mem:=by simp
  obj:=λi h st c hc=>by
    obtain ⟨hz,hTI,⟨u,v,hTO⟩,h1,h2⟩:=st
    simp only [mem_cons,not_mem_nil,or_false] at hc
    rcases hc with rfl | rfl | rfl | rfl | rfl
    . exact ⟨_,hz,λv e=>by cases e⟩
    . exact ⟨_,hTI,λv e=>by cases e⟩
    . exact ⟨_,hTO,λv e=>by cases e⟩
    . exact ZbV h1
    . exact ZbV h2
  keep:=λi h h' st k=>by
    obtain ⟨hz,hTI,⟨u,v,hTO⟩,h1,h2⟩:=st
    exact ⟨k z (by simp) _ hz,k TI (by simp) _ hTI,⟨u,v,k TO (by simp) _ hTO⟩,h1.at λo e=>k i1 (by simp) o e,h2.at λo e=>k i2 (by simp) o e⟩
  item:=by
    intro X hP hw hK hc i pins s σ H E I hf st hg
    subst hP hw hK
    obtain ⟨xs,ys,x,y,hqa,hqb,hx,hy⟩:=hg
    obtain ⟨hz,hTI,⟨u0,v0,hTO⟩,h1,h2⟩:=st
    obtain ⟨itsa,ra,pa,za⟩:=I.tuple hqa
    obtain ⟨itsb,rb,pb,zb⟩:=I.tuple hqb
    obtain ⟨ux,hux,rux⟩:=ra.get hx
    obtain ⟨uy,huy,ruy⟩:=rb.get hy
    refine ZgY (ZfI i1 a itsa.toArray) (ZfI i2 b itsb.toArray) D hz hTI hTO h1 h2 (show s.heap.IsTuple a itsa.toArray from pa) (show s.heap.IsTuple b itsb.toArray from pb) (x:=ux) (y:=uy) (by simpa using hux) (by simpa using huy) λh' a1 a2 a3 a4 a5 a6 a7=>?_
    refine ⟨.ref s.heap.objs.size,rfl,?_⟩
    refine wpAny_letOwnedTupleGo_zip a1 λh2' hz' hs'=>?_
    have hzlt:z<s.heap.objs.size:=Heap.lt_size hz
    have kk:∀ c o,c∉[z,TI,TO,i1,i2]->s.heap.get? c=some o->h2'.get? c=some o:=λc o hc e=>by
      simp only [mem_cons,not_mem_nil,or_false,not_or] at hc
      exact hs'.extBut c o hc.1 (a7 c o hc.1 hc.2.2.1 hc.2.2.2.1 hc.2.2.2.2 e)
    have tp:h2'.get? s.heap.objs.size=some { cls:=.type "tuple",data:=.seq #[ux,uy] }:=hs'.extBut _ _ (Nat.ne_of_gt hzlt) a5
    have I1:Inv X pins σ (upd H s.heap.objs.size (.tup [x,y])) { s with heap:=h2',toks:=s.toks } :=
      I.laidCh hf kk ⟨by show 2<=sizeLine; decide,[ux,uy],.cons rux (.cons ruy .nil),⟨_,tp,rfl,_,rfl⟩⟩
    have TIk:h2'.get? TI=s.heap.get? TI:=by
      rw [hTI]
      exact hs'.extBut _ _ D.TIz (a7 _ _ D.TIz D.TITO D.TIi1 D.TIi2 hTI)
    refine ⟨.ref s.heap.objs.size,_,I1,rfl,⟨s.heap.objs.size,x,y,I.hok.fresh (Nat.le_refl _),rfl,rfl,λxs' h=>by rw [I.tuple_inj h hqa]; exact hx,λys' h=>by rw [I.tuple_inj h hqb]; exact hy⟩,⟨hz',?_,⟨ux,uy,hs'.extBut _ _ D.TOz a2⟩,a3.at λo e=>hs'.extBut _ o D.i1z e,a4.at λo e=>hs'.extBut _ o D.i2z e⟩,λc hc=>?_⟩
    . show h2'.get? TI=_
      rw [TIk]; exact hTI
    . have hc':=hc
      have hlt:c<s.heap.objs.size:=by
        simp only [mem_cons,not_mem_nil,or_false] at hc'
        rcases hc' with rfl | rfl | rfl | rfl | rfl
        . exact hzlt
        . exact Heap.lt_size hTI
        . exact Heap.lt_size hTO
        . obtain ⟨o,e,_⟩:=ZbV h1; exact Heap.lt_size e
        . obtain ⟨o,e,_⟩:=ZbV h2; exact Heap.lt_size e
      rw [Zb (Nat.ne_of_lt hlt)]
      exact (hf c hc).1
  done:=by
    intro X hP hw hK hc i pins s σ H E I hf st hg
    subst hP hw hK
    obtain ⟨xs,hqa,⟨ys,hqb⟩,hend⟩:=hg
    obtain ⟨hz,hTI,⟨u0,v0,hTO⟩,h1,h2⟩:=st
    obtain ⟨itsa,ra,pa,za⟩:=I.tuple hqa
    obtain ⟨itsb,rb,pb,zb⟩:=I.tuple hqb
    have la:=ra.length
    refine ZgZ (I.ok.hd hc) (ZfI i1 a itsa.toArray) (ZfI i2 b itsb.toArray) D hz hTI hTO h1 (show s.heap.IsTuple a itsa.toArray from pa) (by simp; omega) λh' hk=>⟨rfl,?_⟩
    refine I.turnedCh (t':=s.toks) hf λc o hc e=>?_
    simp only [mem_cons,not_mem_nil,or_false,not_or] at hc
    exact hk c o hc.1 hc.2.2.1 hc.2.2.2.1 hc.2.2.2.2 e
  self:=λ_ _ _ _ _ st h=>wpAny_pyIter_zip st.1 h
def iZipS (K:PySem.W.Frag) (ta:TA):TI:=λσ H R=>ta σ H λvs H1=>∃ a b,vs=[.ref a,.ref b]/\((∃ xs ys,SqL K H1 a xs/\SqL K H1 b ys/\R (Itz K a b) H1)\/∃ xs ys,SqT K H1 a xs/\SqT K H1 b ys/\R (Itzt K a b) H1)
section
variable {X:Cx}
theorem Znm {elts:List PySem.Expr} {x1} {tpos:Pos} {a b:PySem.Expr} {ta:TA} {p pos:Pos} (hg:Gl X "zip") (hm:X.mg "zip" = none) (ha:PA X [a,b] ta) (hs:starEach [a,b] X.env=[(false,eval a X.env),(false,eval b X.env)]:=by rfl) (hs2:starEach [b] X.env=[(false,eval b X.env)]:=by rfl) :
    PI X (.Tuple elts x1 tpos) (.Call (.Name "zip" p) [a,b] [] pos) (iZipS X.K ta):=by
  intro pins s σ H R I h
  refine Call_ (Zcg I hg hm ZiM (PyProof.Rows.callWith_type1 (thn (ha pos pins s σ H _ I h) λus s1 ⟨vs,H1,I1,r1,q1⟩=>?_) (by rw [hs,hs2]) (by rw [hs2]; rfl)))
  obtain ⟨l1,l2,e,q⟩:=q1
  subst e
  obtain ⟨v1,v2,rfl,r,r'⟩:=vals2 r1
  cases r
  cases r'
  have big:∀ c,c∈[s1.heap.objs.size+4,s1.heap.objs.size+2,s1.heap.objs.size+3,s1.heap.objs.size,s1.heap.objs.size+1]->s1.heap.objs.size<=c:=λc hc=>by
    simp only [mem_cons,not_mem_nil,or_false] at hc
    rcases hc with rfl | rfl | rfl | rfl | rfl <;> first | exact Nat.le_refl _ | exact Nat.le_add_right _ _
  rcases q with ⟨xs,ys,hqa,hqb,q⟩ | ⟨xs,ys,hqa,hqb,q⟩
  . obtain ⟨itsa,ra,pa,za⟩:=I1.list hqa
    obtain ⟨itsb,rb,pb,zb⟩:=I1.list hqb
    have lt1:l1<s1.heap.objs.size:=by obtain ⟨o,e,_⟩:=pa.isList; exact Heap.lt_size e
    have lt2:l2<s1.heap.objs.size:=by obtain ⟨o,e,_⟩:=pb.isList; exact Heap.lt_size e
    refine call_zip_2 pa.isList pb.isList λh' g5 g3 g4 g1 g2 hsz kp=>wpAny_pyIter_zip g5 ?_
    exact ⟨_,[_,_,_,_,_],_,_,H1,rfl,I1.kept (t':=s1.toks) kp,ZiL _ _ _ _ _ l1 l2 (Zep s1.heap.objs.size l1 l2 lt1 lt2),⟨g5,g3,⟨_,_,g4⟩,g1,g2⟩,λc hc=>I1.fpOk (big c hc) (I1.hok.fresh (big c hc)),q⟩
  . obtain ⟨itsa,ra,pa,za⟩:=I1.tuple hqa
    obtain ⟨itsb,rb,pb,zb⟩:=I1.tuple hqb
    have lt1:l1<s1.heap.objs.size:=ZmE pa
    have lt2:l2<s1.heap.objs.size:=ZmE pb
    refine ZkE (show s1.heap.IsTuple l1 itsa.toArray from pa) (show s1.heap.IsTuple l2 itsb.toArray from pb) λh' g5 g3 g4 g1 g2 kp=>wpAny_pyIter_zip g5 ?_
    exact ⟨_,[_,_,_,_,_],_,_,H1,rfl,I1.kept (t':=s1.toks) kp,ZkF _ _ _ _ _ l1 l2 (Zep s1.heap.objs.size l1 l2 lt1 lt2),⟨g5,g3,⟨_,_,g4⟩,g1,g2⟩,λc hc=>I1.fpOk (big c hc) (I1.hok.fresh (big c hc)),q⟩
end
theorem ZkG {K:PySem.W.Frag} {a b:Addr} {xs zs:List V} {l:Addr} {g:TG} {tc:TT} {te:TE} {σ0:St} {H0:Hp} {Qf:Hp->Prop} (hlen:xs.length=zs.length) (Pv:Nat->List V->St->Hp->Prop) (h0:Pv 0 [] σ0 H0)
    (hl:∀ i ys σ' H',i<=xs.length->Pv i ys σ' H'->SqT K H' a xs/\SqT K H' b zs)
    (hs:∀ i x z t ys σ' H',i<xs.length->xs[i]?=some x->zs[i]?=some z->ys.length<=i->Pv i ys σ' H'->H' t=none->g (.ref t) σ' (upd H' t (.tup [x,z])) λσ2 H3=>tc σ2 H3 λb H4=>if b=true then te σ2 H4 λy H5=>CNx xs.length l Pv i ys σ2 y H5 else CNo xs.length Pv i ys σ2 H4)
    (hd:∀ ys σ' H',ys.length<=xs.length->Pv xs.length ys σ' H'->Qf H') :
    ∃ W:Nat->Nat->List V->St->Hp->Prop,(∃ m,W 0 m [] σ0 H0)/\∀ i m ys σ' H',W i m ys σ' H' ->
    ((Itzt K a b).stop i H'/\Qf H')\/((Itzt K a b).go i H'/\∀ x H2,(Itzt K a b).yld i H' x H2->g x σ' H2 λσ2 H3=>tc σ2 H3 λb H4 =>
      if b=true then te σ2 H4 λy H5=>H5 l=some (.lst ys)/\ys.length<sizeLine/\∃ m',m'<m/\W (i+1) m' (ys++[y]) σ2 (upd H5 l (.lst (ys++[y])))
      else ∃ m',m'<m/\W (i+1) m' ys σ2 H4):=by
  refine ⟨λi m ys σ' H'=>m=xs.length - i/\i<=xs.length/\ys.length<=i/\Pv i ys σ' H',⟨xs.length,rfl,Nat.zero_le _,Nat.le_refl _,h0⟩,?_⟩
  rintro i m ys σ' H' ⟨rfl,hi,hy,p⟩
  obtain ⟨qa,qb⟩:=hl i ys σ' H' hi p
  by_cases hlt:i<xs.length
  . have hlt':i<zs.length:=by omega
    refine .inr ⟨⟨xs,zs,xs[i],zs[i],qa,qb,by simp [hlt],by simp [hlt']⟩,λx H2 zq=>?_⟩
    obtain ⟨t,u,v,ht,rfl,rfl,z1,z2⟩:=zq
    exact hs i u v t ys σ' H' hlt (z1 xs qa) (z2 zs qb) hy p ht
  . have e:i=xs.length:=by omega
    subst e
    exact .inl ⟨⟨xs,qa,⟨zs,qb⟩,Nat.le_refl _⟩,hd ys σ' H' hy p⟩
end L2
namespace L2
open PySem PySem.Spec PyProof.Rows
section
variable {X:Cx} {K:PySem.W.Frag} {tg:PySem.Expr}
theorem Zdb (hK:X.K=K) {l:PySem.Expr} {tl:TE} (hl:PE X l tl):PI X tg l (iList K tl):=hK ▸ ZmU hl
theorem Znn (hK:X.K=K) {l:PySem.Expr} {tl:TE} (hl:PE X l tl):PI X tg l (iTup K tl):=hK ▸ ZnT hl
end
end L2
namespace L2
open PySem PySem.Spec PyProof.Rows
end L2
namespace L2
open PySem PySem.Spec PyProof.Rows
theorem ZkH:bootBuiltins "set" = some (.type "set"):=by first | rfl | decide +kernel | kernel_rfl
end L2
namespace L2
open PySem PySem.Spec PyProof.Rows
def ItDn (hi:Int) (n:Nat):It:=⟨λi _=>i<n,λi H x H'=>H'=H/\x=.int (hi - i),λi _=>n<=i⟩
theorem ZkI {P:Program} {w:World} {K:PySem.W.Frag} {tg:PySem.Expr} (it:Addr) (lo:Int) (n:Nat):Turn P w K tg (ItDn lo n) [it] it (λi h=>IsRangeIter h it (lo+(i:Nat) * (-1)) ((n:Int) - (i:Nat)) (-1)) where
  mem:=by simp
  obj:=λi h st b hb=>by
    have e:b=it:=by simpa using hb
    subst e
    exact ⟨_,st,λv z=>by
      have z':Data.fields _=Data.cell v:=z
      cases z'⟩
  keep:=λi h h' st k=>k it (by simp) _ st
  item:=by
    intro X hP hw hK hc i pins s σ H E I hf st hg
    subst hP hw hK
    obtain ⟨f0,f1,f2,f3,f4,f5⟩:=hf it (by simp)
    have W:=Walks.range (prog:=X.prog) (w:=X.w) (I.ok.hd hc) it lo (-1) n
    refine W.item i s _ _ hg st λv h' tk hv st' kk=>?_
    obtain ⟨t,rfl⟩:=hv
    have I1:Inv X pins σ H { s with heap:=h',toks:=tk }:=I.turned (λb o hb e=>kk b o (by simpa using hb) e) f0 f1 f3 f4 f5
    refine ⟨_,rfl,go_of (s:={ s with heap:=h',toks:=tk }) (n := "range_iterator") st' rfl rfl (by decide) ⟨.int (lo - i),H,I1,⟨t,?_⟩,⟨rfl,rfl⟩,st',λb hb=>(hf b hb).1⟩⟩
    rw [show lo+(i:Int) * (-1)=lo - i by omega]
  done:=by
    intro X hP hw hK hc i pins s σ H E I hf st hg
    subst hP hw hK
    obtain ⟨f0,f1,f2,f3,f4,f5⟩:=hf it (by simp)
    exact wpAny_pyNext_range_end (I.ok.hd hc) st (by have:n<=i:=hg; omega) λh' eb=>⟨rfl,I.turned (t':=s.toks) (λb o hb e=>eb b o hb e) f0 f1 f3 f4 f5⟩
  self:=λ_ _ _ _ _ st h=>wpAny_pyIter_rangeiter st h
section
variable {X:Cx} {tg:PySem.Expr}
theorem ZkJ {pins:List (Addr×Obj)} {σ:St} {H:Hp} {s:Shared} {R:It->Hp->Prop} {E:Value->Shared->Prop} {lo hi:Int} {t u v:Tok} {tk:Nat} (I:Inv X pins σ H s) (h1 : -(2 ^ 62)<=lo) (h2:lo<2 ^ 62) (h3 : -(2 ^ 62)<=hi) (h4:hi<2 ^ 62)
    (q:R (ItDn lo (lo - hi).toNat) H):wpAny (model X.prog X.w) X.A (pyIter (.ref s.heap.objs.size)) (PIE X pins σ tg R) E { s with heap:=s.heap.push { cls:=.type "range",data:=.fields #[.int lo t,.int hi u,.int (-1) v] },toks:=tk }:=by
  refine wpAny_pyIter_range (IsRange.new ..) (PySem.W.small_down h1 h2 h3 h4) ?_
  have I1:Inv X pins σ H { s with heap:=s.heap.push { cls:=.type "range",data:=.fields #[.int lo t,.int hi u,.int (-1) v] },toks:=tk }:=I.kept λb o e=>Heap.get?_push_of_some _ e
  refine ⟨(s.heap.push { cls:=.type "range",data:=.fields #[.int lo t,.int hi u,.int (-1) v] }).objs.size,[(s.heap.push { cls:=.type "range",data:=.fields #[.int lo t,.int hi u,.int (-1) v] }).objs.size],_,_,H,rfl,
    I1.kept (t':=tk) λb o e=>Heap.get?_push_of_some _ e,ZkI _ lo (lo - hi).toNat,?_,λb hb=>?_,q⟩
  . have e1:lo+((0:Nat):Int) * (-1)=lo:=by simp
    have e2:(((lo - hi).toNat:Nat):Int) - ((0:Nat):Int)=Builtin.Range.rangeSize lo hi (-1):=by rw [PySem.W.rangeSize_downNat]; omega
    show IsRangeIter _ _ (lo+((0:Nat):Int) * (-1)) ((((lo - hi).toNat:Nat):Int) - ((0:Nat):Int)) (-1)
    rw [e1,e2]
    exact Heap.get?_push_size _ rfl
  . have e:b=(s.heap.push { cls:=.type "range",data:=.fields #[.int lo t,.int hi u,.int (-1) v] }).objs.size:=by simpa using hb
    subst e
    exact I1.fpOk (Nat.le_refl _) (I1.hok.fresh (Nat.le_refl _))
def iRngD (ta:TA):TI:=λσ H R=>ta σ H λvs H1=>∃ i j:Int,vs=[.int i,.int j,.int (-1)]/\(-(2 ^ 61)<=i/\i<2 ^ 61 /\ -(2 ^ 61)<=j/\j<2 ^ 61)/\R (ItDn i (i - j).toNat) H1
theorem Zha {a b c:PySem.Expr} {ta:TA} {p pos:Pos} (hg:Gl X "range") (hm:X.mg "range" = none) (ha:PA X [a,b,c] ta) (hs:starEach [a,b,c] X.env=(false,eval a X.env) :: starEach [b,c] X.env:=by rfl) (hpl:(backTo pos (starEach [b,c] X.env)).any (·.1)=false:=by rfl) :
    PI X tg (.Call (.Name "range" p) [a,b,c] [] pos) (iRngD ta):=by
  intro pins s σ H R I h
  refine Call_ (Zcg I hg hm boot_range (PyProof.Rows.callWith_type1 (thn (ha pos pins s σ H _ I h) λus s1 ⟨vs,H1,I1,r1,q1⟩=>?_) hs hpl))
  obtain ⟨i,j,e,⟨q1,q2,q3,q4⟩,q⟩:=q1
  subst e
  cases r1 with
  | cons r rr =>
    cases rr with
    | cons r' rr =>
      cases rr with
      | cons r'' rr =>
        cases rr
        obtain ⟨t,rfl⟩:=r
        obtain ⟨t',rfl⟩:=r'
        obtain ⟨t'',rfl⟩:=r''
        exact call_range_3 (by decide) (ZkJ I1 (by omega) (by omega) (by omega) (by omega) q) (.inl (PyProof.noPylong_small (by omega)))
end
theorem ZiV {hi:Int} {n:Nat} {g:TG} {tb:TS} {D:Ends} {σ:St} {H:Hp} (Pv:Nat->St->Hp->Prop) (h0:Pv 0 σ H)
    (hs:∀ i σ H,i<n->Pv i σ H->g (.int (hi - i)) σ H λσ2 H2=>tb { D with nx:=Pv (i+1),ct:=Pv (i+1),bk:=D.nx } σ2 H2) (hd:∀ σ H,Pv n σ H->D.nx σ H) :
    ∃ W:Nat->Nat->St->Hp->Prop,(∃ m,W 0 m σ H)/\∀ i m σ H,W i m σ H ->
      ((ItDn hi n).stop i H/\D.nx σ H)\/((ItDn hi n).go i H/\∃ N:St->Hp->Prop,(∀ σ' H',N σ' H'->∃ m',m'<m/\W (i+1) m' σ' H')/\∀ x H',(ItDn hi n).yld i H x H'->g x σ H' λσ2 H2=>tb { D with nx:=N,ct:=N,bk:=D.nx } σ2 H2):=by
  refine ⟨λi m σ H=>m=n - i/\i<=n/\Pv i σ H,⟨n,by simp,Nat.zero_le _,h0⟩,?_⟩
  rintro i m σ H ⟨rfl,hi,p⟩
  by_cases hlt:i<n
  . refine .inr ⟨hlt,Pv (i+1),λσ' H' p'=>⟨n - (i+1),by omega,rfl,hlt,p'⟩,λx H' y=>?_⟩
    obtain ⟨e,y⟩:=y
    subst e y
    exact hs i σ _ hlt p
  . have e:i=n:=by omega
    subst e
    exact .inl ⟨Nat.le_refl _,hd σ H p⟩
theorem Zno {K:PySem.W.Frag} {a b:Addr} {xs ys:List V} {g:TG} {tb:TS} {D:Ends} {σ:St} {H:Hp} (Pv:Nat->St->Hp->Prop) (hlen:xs.length=ys.length) (h0:Pv 0 σ H) (hl:∀ i σ H,i<=xs.length->Pv i σ H->SqL K H a xs/\SqL K H b ys)
    (hs:∀ i x y t σ H,xs[i]?=some x->ys[i]?=some y->Pv i σ H->H t=none->g (.ref t) σ (upd H t (.tup [x,y])) λσ2 H2=>tb { D with nx:=Pv (i+1),ct:=Pv (i+1),bk:=D.nx } σ2 H2) (hd:∀ σ H,Pv xs.length σ H->D.nx σ H) :
    ∃ W:Nat->Nat->St->Hp->Prop,(∃ m,W 0 m σ H)/\∀ i m σ H,W i m σ H ->
      ((Itz K a b).stop i H/\D.nx σ H)\/((Itz K a b).go i H/\∃ N:St->Hp->Prop,(∀ σ' H',N σ' H'->∃ m',m'<m/\W (i+1) m' σ' H')/\∀ x H',(Itz K a b).yld i H x H'->g x σ H' λσ2 H2=>tb { D with nx:=N,ct:=N,bk:=D.nx } σ2 H2):=by
  refine ⟨λi m σ H=>m=xs.length - i/\i<=xs.length/\Pv i σ H,⟨xs.length,by simp,Nat.zero_le _,h0⟩,?_⟩
  rintro i m σ H ⟨rfl,hi,p⟩
  obtain ⟨q1,q2⟩:=hl i σ H hi p
  by_cases hlt:i<xs.length
  . have hlt2:i<ys.length:=hlen ▸ hlt
    refine .inr ⟨⟨xs,ys,xs[i],ys[i],q1,q2,by simp [hlt],by simp [hlt2]⟩,Pv (i+1),λσ' H' p'=>⟨xs.length - (i+1),by omega,rfl,hlt,p'⟩,λx H' y=>?_⟩
    obtain ⟨t,x1,y1,ht,rfl,rfl,hx,hy⟩:=y
    exact hs i x1 y1 t σ _ (hx xs q1) (hy ys q2) p ht
  . have e:i=xs.length:=by omega
    subst e
    exact .inl ⟨⟨xs,ys,q1,q2,.inl (Nat.le_refl _)⟩,hd σ H p⟩
end L2
namespace L2.Stb
open PySem PySem.Spec PyProof.Rows
def Rk (ρ:Keyed->Nat) (xs:Array Keyed) (i:Nat):Nat:=(xs[i]?).elim 0 ρ
theorem Zdc {ρ:Keyed->Nat} {xs ys:Array Keyed} {i j:Nat} (h:xs[i]?=ys[j]?):Rk ρ xs i=Rk ρ ys j:=by unfold Rk; rw [h]
def VLt (ρ:Keyed->Nat) (xs:Array Keyed) (i j:Nat):Prop:=K xs i<K xs j\/(K xs i=K xs j/\Rk ρ xs i<Rk ρ xs j)
theorem VLt.trans {ρ:Keyed->Nat} {xs:Array Keyed} {i j k:Nat} (h1:VLt ρ xs i j) (h2:VLt ρ xs j k):VLt ρ xs i k:=by
  unfold VLt at *
  omega
def Inc (ρ:Keyed->Nat) (xs:Array Keyed) (n:Nat):Prop:=∀ i j,i<j->j<n->VLt ρ xs i j
def Dec (ρ:Keyed->Nat) (xs:Array Keyed) (n:Nat):Prop:=∀ i j,i<j->j<n->VLt ρ xs j i
def Idn (ρ:Keyed->Nat) (xs:Array Keyed) (n:Nat):Prop:=∀ i,n<=i->i<xs.size->Rk ρ xs i=i
theorem Idn.mono {ρ:Keyed->Nat} {xs:Array Keyed} {m n:Nat} (h:Idn ρ xs m) (l:m<=n):Idn ρ xs n:=λi hi hs=>h i (Nat.le_trans l hi) hs
theorem ZiW {ρ:Keyed->Nat} {xs:Array Keyed} {i:Nat} (h:i<xs.size):(xs.toList.map ρ)[i]?=some (Rk ρ xs i):=by
  unfold Rk
  rw [getElem?_map,Array.getElem?_toList,Array.getElem?_eq_getElem h]
  rfl
structure Inj (ρ:Keyed->Nat) (xs:Array Keyed):Prop where
  inj:∀ i j,i<xs.size->j<xs.size->Rk ρ xs i=Rk ρ xs j->i=j
  lt:∀ i,i<xs.size->Rk ρ xs i<xs.size
theorem Zoq {ρ:Keyed->Nat} {xs a₀:Array Keyed} (p:xs.Perm a₀) (h0:Idn ρ a₀ 0):Inj ρ xs:=by
  have e0:a₀.toList.map ρ=List.range a₀.size:=by
    apply List.ext_getElem?
    intro i
    by_cases h:i<a₀.size
    . rw [ZiW h,List.getElem?_range h,h0 i (Nat.zero_le _) h]
    . rw [getElem?_eq_none (by simpa using h),getElem?_eq_none (by simpa using h)]
  have pm:(xs.toList.map ρ).Perm (List.range a₀.size):=by rw [← e0]; exact (Array.perm_iff_toList_perm.mp p).map ρ
  have nd:(xs.toList.map ρ).Nodup:=pm.nodup_iff.mpr List.nodup_range
  refine ⟨λi j hi hj e=>?_,λi hi=>?_⟩
  . refine (List.getElem?_inj (by rw [length_map,Array.length_toList]; exact hi) nd).mp ?_
    rw [ZiW hi,ZiW hj,e]
  . have m:Rk ρ xs i∈xs.toList.map ρ:=mem_of_getElem? (ZiW hi)
    have:=List.mem_range.mp (pm.mem_iff.mp m)
    rw [p.size_eq]
    exact this
theorem Inj.below {ρ:Keyed->Nat} {xs:Array Keyed} (I:Inj ρ xs) {n:Nat} (h:Idn ρ xs n) {i:Nat} (hi:i<n) (hs:i<xs.size):Rk ρ xs i<n:=by
  by_cases c:Rk ρ xs i<n
  . exact c
  . have l:=I.lt i hs
    have e:=h (Rk ρ xs i) (by omega) l
    have:=I.inj _ _ l hs e
    omega
theorem Zew {ρ:Keyed->Nat} {xs:Array Keyed} {src d:Nat} (hs:src<xs.size) (hd:d<=src) (k:Nat) :
    Rk ρ (bubble xs src d) k=if k=src - d then Rk ρ xs src else if src - d<k/\k<=src then Rk ρ xs (k - 1) else Rk ρ xs k:=by
  have e:=getElem?_bubble hs d hd k
  by_cases h1:k=src - d
  . rw [if_pos h1] at e ⊢
    exact Zdc e
  . rw [if_neg h1] at e ⊢
    by_cases h2:src - d<k/\k<=src
    . rw [if_pos h2] at e ⊢
      exact Zdc e
    . rw [if_neg h2] at e ⊢
      exact Zdc e
theorem Zbh {ρ:Keyed->Nat} {xs:Array Keyed} {i j:Nat} (hj:j<=xs.size) (k:Nat) :
    Rk ρ (mirror xs i j ((j - i) / 2)) k=if i<=k/\k<j then Rk ρ xs (i+j - 1 - k) else Rk ρ xs k:=by
  have e:=getElem?_mirror_all (i:=i) hj k
  by_cases h1:i<=k/\k<j
  . rw [if_pos h1] at e ⊢
    exact Zdc e
  . rw [if_neg h1] at e ⊢
    exact Zdc e
section
variable {prog:Program} {w:World} {A:Around} {E:Value->Shared->Prop} {s:Shared} {a₀:Array Keyed} {ρ:Keyed->Nat}
theorem SB.inj {st:SortSt} (h:SBase a₀ st) (hr:Idn ρ a₀ 0):Inj ρ (arrOf st):=Zoq h.perm hr
theorem Zor {st:SortSt} {n ok:Nat} {Q:Bool->SortSt->Prop} (h0:IntKeys a₀) (hr:Idn ρ a₀ 0) (hn:n<=a₀.size) (hok:ok<=n) (h1k:1<=ok) (hB:SBase a₀ st) (hs:Inc ρ (arrOf st) ok) (hI:Idn ρ (arrOf st) ok)
    (h:∀ st',SBase a₀ st'->Inc ρ (arrOf st') n->Q true st'):wpS (model prog w) A E s (binarySort' 0 n ok) Q st:=by
  rw [binarySort'_eq]
  simp only [Nat.zero_add]
  refine wpS_bind (wpS_mono (wpS_forRange (I:=λk c st1=>c=(none,())/\SBase a₀ st1/\Inc ρ (arrOf st1) (min k n)/\Idn ρ (arrOf st1) (min k n))
    (Q:=λc st1=>c=(none,())/\SBase a₀ st1/\Inc ρ (arrOf st1) n) ?turn ?last ?first) ?after)
  case after =>
    rintro c st1 ⟨rfl,b1,i1⟩
    exact wpS_pure (h st1 b1 i1)
  case first =>
    rw [show min (max ok 1) n=ok by omega]
    exact ⟨rfl,hB,hs,hI⟩
  case last =>
    rintro c st1 ⟨hc,b1,i1,_⟩
    rw [show min (max (max ok 1) n) n=n by omega] at i1
    exact ⟨hc,b1,i1⟩
  case turn =>
    rintro k c st1 hak hkn ⟨rfl,b1,i1,d1⟩
    rw [show min k n=k by omega] at i1 d1
    have hk:k<a₀.size:=by omega
    have sz:=b1.size
    have J:=SB.inj b1 hr
    have rk:Rk ρ (arrOf st1) k=k:=d1 k (Nat.le_refl _) (by omega)
    have lo:∀ m,m<k->¬ K (arrOf st1) k<K (arrOf st1) m->VLt ρ (arrOf st1) m k:=λm hm c=>by
      have:=J.below d1 hm (by omega)
      unfold VLt
      omega
    refine wpS_bind (wpS_mono (wpS_forRange (I:=λx c st2=>st2=st1/\∃ l r,c=(none,l,r)/\l<=r/\r<=k/\r - l<=k - x/\(∀ i,i<l->VLt ρ (arrOf st1) i k)/\(∀ i,r<=i->i<k->VLt ρ (arrOf st1) k i))
      (Q:=λc st2=>st2=st1/\∃ l r,c=(none,l,r)/\l<=k/\(∀ i,i<l->VLt ρ (arrOf st1) i k)/\(∀ i,l<=i->i<k->VLt ρ (arrOf st1) k i)) ?iturn ?ilast ?ifirst) ?iafter)
    case ifirst=>exact ⟨rfl,0,k,rfl,by omega,by omega,by omega,λi hi=>absurd hi (by omega),λi p q=>absurd q (by omega)⟩
    case ilast =>
      rintro c st2 ⟨rfl,l,r,rfl,hlr,hrk,hm,u1,u2⟩
      have e:l=r:=by omega
      subst e
      exact ⟨rfl,l,l,rfl,hrk,u1,u2⟩
    case iturn =>
      rintro x c st2 _ hxk ⟨rfl,l,r,rfl,hlr,hrk,hm,u1,u2⟩
      dsimp only
      by_cases hge:l ≥ r
      . rw [if_pos hge]
        have e:l=r:=by omega
        subst e
        exact wpS_pure ⟨rfl,l,l,rfl,hrk,u1,u2⟩
      . rw [if_neg hge]
        refine wpS_bind (wpS_ltK b1 h0 hk (by omega) ?_)
        by_cases c:K (arrOf st2) k<K (arrOf st2) ((l+r) / 2)
        . simp only [c,decide_true,if_true]
          refine wpS_pure ⟨rfl,l,(l+r) / 2,rfl,by omega,by omega,by omega,u1,λi p q=>?_⟩
          by_cases e:i=(l+r) / 2
          . subst e; exact .inl c
          . exact VLt.trans (.inl c) (i1 _ _ (by omega) q)
        . simp only [c,decide_false,Bool.false_eq_true,if_false]
          refine wpS_pure ⟨rfl,(l+r) / 2+1,r,rfl,by omega,by omega,by omega,λi p=>?_,u2⟩
          have v:=lo _ (by omega) c
          by_cases e:i=(l+r) / 2
          . subst e; exact v
          . exact VLt.trans (i1 _ _ (by omega) (by omega)) v
    case iafter =>
      rintro c st2 ⟨rfl,l,r,rfl,hlk,u1,u2⟩
      show wpS _ _ _ _ (do moveDown' k l; pure (ForInStep.yield (none,()))) _ _
      rw [moveDown'_eq]
      refine wpS_bind (wpS_modify (wpS_pure ⟨rfl,b1.setArr (bubble_perm _ _ _),?_,?_⟩))
      . rw [show min (k+1) n=k+1 by omega]
        have hks:k<(arrOf st2).size:=by omega
        intro i j hij hj
        show VLt ρ (bubble (arrOf st2) k (k - l)) i j
        unfold VLt
        rw [K_bubble hks (by omega),K_bubble hks (by omega),Zew hks (by omega),Zew hks (by omega),show k - (k - l)=l by omega]
        by_cases a1:i=l
        . have b1':¬ j=l:=by omega
          have b2':l<j/\j<=k:=by omega
          rw [if_pos a1,if_pos a1,if_neg b1',if_neg b1',if_pos b2',if_pos b2']
          exact u2 _ (by omega) (by omega)
        . rw [if_neg a1,if_neg a1]
          by_cases a2:j=l
          . have b1':¬ (l<i/\i<=k):=by omega
            rw [if_pos a2,if_pos a2,if_neg b1',if_neg b1']
            exact u1 _ (by omega)
          . rw [if_neg a2,if_neg a2]
            by_cases a3:l<i/\i<=k
            . have b1':l<j/\j<=k:=by omega
              rw [if_pos a3,if_pos a3,if_pos b1',if_pos b1']
              exact i1 _ _ (by omega) (by omega)
            . rw [if_neg a3,if_neg a3]
              by_cases a4:l<j/\j<=k
              . rw [if_pos a4,if_pos a4]
                by_cases a5:i<j - 1
                . exact i1 _ _ a5 (by omega)
                . exfalso; omega
              . rw [if_neg a4,if_neg a4]
                exact i1 _ _ (by omega) (by omega)
      . rw [show min (k+1) n=k+1 by omega]
        intro i hi hs'
        have hs2:i<(arrOf st2).size:=by
          have:(arrOf (setArr st2 (bubble (arrOf st2) k (k - l)))).size=(arrOf st2).size:=bubble_size _ _ _
          omega
        show Rk ρ (bubble (arrOf st2) k (k - l)) i=i
        rw [Zew (by omega) (by omega),if_neg (by omega),if_neg (by omega)]
        exact d1 i (by omega) hs2
theorem ZmG {st:SortSt} {a nrem:Nat} {Q:AscSt->SortSt->Prop} (h0:IntKeys a₀) (hr:Idn ρ a₀ 0) (hn:nrem<=a₀.size) (ha:1<=a) (han:a<=nrem) (hB:SBase a₀ st) (hs:Inc ρ (arrOf st) a) (hI:Idn ρ (arrOf st) a)
    (h:∀ n,a<=n->n<=nrem->Inc ρ (arrOf st) n->(n=nrem\/K (arrOf st) n<K (arrOf st) (n - 1))->Q (none,n) st):wpS (model prog w) A E s (ascLoop a nrem) Q st:=by
  unfold ascLoop
  have sz:=hB.size
  have J:=SB.inj hB hr
  refine wpS_forRange (I:=λx c st1=>st1=st/\c=(none,x)/\Inc ρ (arrOf st) x) ?turn ?last ⟨rfl,rfl,hs⟩
  case last =>
    rintro c st1 ⟨rfl,rfl,i1⟩
    rw [show max a nrem=nrem by omega] at i1 ⊢
    exact h nrem han (Nat.le_refl _) i1 (.inl rfl)
  case turn =>
    rintro x c st1 hax hxn ⟨rfl,rfl,i1⟩
    dsimp only
    refine wpS_bind (wpS_ltK hB h0 (by omega) (by omega) ?_)
    by_cases c:K (arrOf st1) x<K (arrOf st1) (x - 1)
    . simp only [c,decide_true,if_true]
      exact wpS_pure (h x hax (by omega) i1 (.inr c))
    . simp only [c,decide_false,Bool.false_eq_true,if_false]
      refine wpS_pure ⟨rfl,rfl,λi j hij hj=>?_⟩
      by_cases hjx:j<x
      . exact i1 i j hij hjx
      . have ej:j=x:=by omega
        subst ej
        have dx:=hI.mono hax
        have r1:=J.below dx (i:=j - 1) (by omega) (by omega)
        have r2:=dx j (Nat.le_refl _) (by omega)
        have v:VLt ρ (arrOf st1) (j - 1) j:=by unfold VLt; omega
        by_cases e:i=j - 1
        . subst e; exact v
        . exact VLt.trans (i1 i (j - 1) (by omega) (by omega)) v
theorem ZkK {st:SortSt} {n nrem:Nat} {Q:Option Nat->SortSt->Prop} (h0:IntKeys a₀) (hr:Idn ρ a₀ 0) (hn:nrem<=a₀.size) (h1:1<=n) (hnn:n<=nrem) (hB:SBase a₀ st) (hs:Dec ρ (arrOf st) n) (hI:Idn ρ (arrOf st) n)
    (h:∀ m st',SBase a₀ st'->1<=m->m<=nrem->Inc ρ (arrOf st') m->Idn ρ (arrOf st') m->Q (some m) st'):wpS (model prog w) A E s (tail3 n nrem) Q st:=by
  unfold tail3
  have sz:=hB.size
  refine wpS_bind (wpS_reverse ?_)
  have b1:SBase a₀ (setArr st (mirror (arrOf st) 0 n ((n - 0) / 2))):=hB.setArr (mirror_perm _ _ _ _)
  have d1:Idn ρ (mirror (arrOf st) 0 n ((n - 0) / 2)) n:=λi hi hs'=>by
    rw [mirror_size] at hs'
    rw [Zbh (by omega),if_neg (by omega)]
    exact hI i hi hs'
  refine wpS_bind (ZmG h0 hr hn h1 hnn b1 ?_ d1 λm m1 m2 i2 _=>wpS_pure (h m _ b1 (by omega) m2 i2 (d1.mono m1)))
  intro i j hij hj
  show VLt ρ (mirror (arrOf st) 0 n ((n - 0) / 2)) i j
  unfold VLt
  rw [K_mirror (by omega),K_mirror (by omega),Zbh (by omega),Zbh (by omega),if_pos (by omega),if_pos (by omega),if_pos (by omega),if_pos (by omega)]
  exact hs _ _ (by omega) (by omega)
structure DI (ρ:Keyed->Nat) (xs:Array Keyed) (x q:Nat):Prop where
  l:q+1<=x
  sz:x<=xs.size
  d:Dec ρ xs (x - (q+1))
  u:∀ i j,i<x - (q+1)->x - (q+1)<=j->j<x->K xs j<K xs i
  e:∀ i,x - (q+1)<=i->i<x->K xs i=K xs (x - 1)
  f:Idn ρ xs (x - (q+1))
theorem DI.dec0 {xs:Array Keyed} {x:Nat} (h:DI ρ xs x 0):Dec ρ xs x:=λi j hij hj=>by
  by_cases c:j<x - (0+1)
  . exact h.d i j hij c
  . exact .inl (h.u i j (by omega) (by omega) hj)
theorem DI.rev {xs:Array Keyed} {x q:Nat} (h:DI ρ xs x q):Dec ρ (mirror xs (x - (q+1)) x ((x - (x - (q+1))) / 2)) x/\Idn ρ (mirror xs (x - (q+1)) x ((x - (x - (q+1))) / 2)) x:=by
  have hl:=h.l
  have hz:=h.sz
  refine ⟨λi j hij hj=>?_,λi hi hs=>?_⟩
  . have ke:=K_mirror_equal (i:=x - (q+1)) hz h.e
    unfold VLt
    rw [ke,ke,Zbh hz,Zbh hz]
    by_cases c1:j<x - (q+1)
    . rw [if_neg (by omega),if_neg (by omega)]
      exact h.d i j hij c1
    . by_cases c2:i<x - (q+1)
      . exact .inl (h.u i j c2 (by omega) hj)
      . rw [if_pos (by omega),if_pos (by omega)]
        refine .inr ⟨(h.e j (by omega) hj).trans (h.e i (by omega) (by omega)).symm,?_⟩
        rw [h.f _ (by omega) (by omega),h.f _ (by omega) (by omega)]
        omega
  . rw [mirror_size] at hs
    rw [Zbh hz,if_neg (by omega)]
    exact h.f i (by omega) hs
theorem DI.of {xs:Array Keyed} {x:Nat} (hx:1<=x) (hz:x<xs.size) (hd:Dec ρ xs x) (hf:Idn ρ xs x) (hk:K xs x<K xs (x - 1)):DI ρ xs (x+1) 0:=by
  refine ⟨by omega,by omega,hd,λi j hi hj hj'=>?_,λi hi hi'=>?_,hf⟩
  . have ej:j=x:=by omega
    subst ej
    by_cases e:i=j - 1
    . subst e; exact hk
    . have v:=hd i (j - 1) (by omega) (by omega)
      unfold VLt at v
      omega
  . have ei:i=x:=by omega
    subst ei
    rfl
theorem DI.more {xs:Array Keyed} {x q:Nat} (h:DI ρ xs x q) (hz:x<xs.size) (hk:K xs x=K xs (x - 1)):DI ρ xs (x+1) (q+1):=by
  have hl:=h.l
  have e0:x+1 - (q+1+1)=x - (q+1):=by omega
  refine ⟨by omega,by omega,by rw [e0]; exact h.d,λi j hi hj hj'=>?_,λi hi hi'=>?_,by rw [e0]; exact h.f⟩
  . rw [e0] at hi hj
    by_cases c:j<x
    . exact h.u i j hi hj c
    . have ej:j=x:=by omega
      subst ej
      rw [hk]
      exact h.u i (j - 1) hi (by omega) (by omega)
  . rw [show x+1 - 1=x by omega]
    by_cases c:i<x
    . rw [hk]; exact h.e i (by omega) c
    . have ei:i=x:=by omega
      subst ei
      rfl
theorem Znp {st:SortSt} {n nrem:Nat} {Q:DescSt->SortSt->Prop} (h0:IntKeys a₀) (hn:nrem<=a₀.size) (hnn:n<=nrem) (hB:SBase a₀ st) (hs:DI ρ (arrOf st) n 0)
    (h:∀ m q st',SBase a₀ st'->m<=nrem->DI ρ (arrOf st') m q->Q (none,m,q) st'):wpS (model prog w) A E s (descLoop n nrem) Q st:=by
  unfold descLoop
  refine wpS_forRange (I:=λx c st1=>∃ q,c=(none,x,q)/\SBase a₀ st1/\DI ρ (arrOf st1) x q) ?turn ?last ⟨0,rfl,hB,hs⟩
  case last =>
    rintro c st1 ⟨q,rfl,b1,d1⟩
    rw [show max n nrem=nrem by omega] at d1 ⊢
    exact h nrem q st1 b1 (Nat.le_refl _) d1
  case turn =>
    rintro x c st1 hax hxn ⟨q,rfl,b1,d1⟩
    dsimp only
    have sz:=b1.size
    have hl:=d1.l
    refine wpS_bind (wpS_ltK b1 h0 (by omega) (by omega) ?_)
    by_cases c:K (arrOf st1) x<K (arrOf st1) (x - 1)
    . simp only [c,decide_true,if_true]
      by_cases hq:q > 0
      . rw [if_pos hq]
        obtain ⟨r1,r2⟩:=d1.rev
        refine wpS_bind (wpS_reverse (wpS_pure ⟨0,rfl,b1.setArr (mirror_perm _ _ _ _),DI.of (by omega) (by show x<(mirror _ _ _ _).size; rw [mirror_size]; omega) r1 r2 ?_⟩))
        show K (mirror _ _ _ _) x<K (mirror _ _ _ _) (x - 1)
        rw [K_mirror_equal d1.sz d1.e,K_mirror_equal d1.sz d1.e]
        exact c
      . rw [if_neg hq]
        have e:q=0:=by omega
        subst e
        exact wpS_pure ⟨0,rfl,b1,DI.of (by omega) (by omega) d1.dec0 (d1.f.mono (by omega)) c⟩
    . simp only [c,decide_false,Bool.false_eq_true,if_false]
      refine wpS_bind (wpS_ltK b1 h0 (by omega) (by omega) ?_)
      by_cases c2:K (arrOf st1) (x - 1)<K (arrOf st1) x
      . simp only [c2,decide_true,if_true]
        exact wpS_pure (h x q st1 b1 (by omega) d1)
      . simp only [c2,decide_false,Bool.false_eq_true,if_false]
        exact wpS_pure ⟨q+1,rfl,b1,d1.more (by omega) (by omega)⟩
theorem ZkL {st:SortSt} {n nrem:Nat} {Q:Option Nat->SortSt->Prop} (h0:IntKeys a₀) (hr:Idn ρ a₀ 0) (hn:nrem<=a₀.size) (hnn:n+1<=nrem) (hB:SBase a₀ st) (hs:DI ρ (arrOf st) (n+1) 0)
    (h:∀ m st',SBase a₀ st'->1<=m->m<=nrem->Inc ρ (arrOf st') m->Idn ρ (arrOf st') m->Q (some m) st'):wpS (model prog w) A E s (descPart n nrem) Q st:=by
  unfold descPart
  refine wpS_bind (wpS_lift (wpAny_rule ⟨rfl,?_⟩))
  refine wpS_bind (Znp h0 hn hnn hB hs λm q st1 b1 m2 d1=>?_)
  dsimp only
  have hl:=d1.l
  by_cases hq:q > 0
  . rw [if_pos hq]
    obtain ⟨r1,r2⟩:=d1.rev
    exact wpS_bind (wpS_reverse (ZkK h0 hr hn (by omega) m2 (b1.setArr (mirror_perm _ _ _ _)) r1 r2 h))
  . rw [if_neg hq]
    have e:q=0:=by omega
    subst e
    exact ZkK h0 hr hn (by omega) m2 b1 d1.dec0 (d1.f.mono (by omega)) h
theorem ZlW {st:SortSt} {nrem:Nat} {Q:Option Nat->SortSt->Prop} (h0:IntKeys a₀) (hr:Idn ρ a₀ 0) (hn:nrem<=a₀.size) (h1:1<=nrem) (hB:SBase a₀ st) (hI:Idn ρ (arrOf st) 0)
    (h:∀ m st',SBase a₀ st'->1<=m->m<=nrem->Inc ρ (arrOf st') m->Idn ρ (arrOf st') m->Q (some m) st'):wpS (model prog w) A E s (countRun' 0 nrem) Q st:=by
  rw [countRun0_eq]
  have sz:=hB.size
  refine wpS_bind (ZmG h0 hr hn (Nat.le_refl 1) h1 hB (λi j hij hj=>absurd hj (by omega)) (hI.mono (Nat.zero_le _)) λn n1 n2 i1 hor=>?_)
  dsimp only
  by_cases e:n=nrem
  . rw [if_pos (by simpa using e)]
    exact wpS_pure (h n st hB n1 n2 i1 (hI.mono (Nat.zero_le _)))
  . rw [if_neg (by simpa using e)]
    have lt:K (arrOf st) n<K (arrOf st) (n - 1):=hor.resolve_left e
    by_cases g:n > 1
    . rw [if_pos g]
      refine wpS_bind (wpS_ltK hB h0 (by omega) (by omega) ?_)
      by_cases c:K (arrOf st) 0<K (arrOf st) (n - 1)
      . simp only [c,decide_true,if_true]
        exact wpS_pure (h n st hB n1 n2 i1 (hI.mono (Nat.zero_le _)))
      . simp only [c,decide_false,Bool.false_eq_true,if_false]
        have all:∀ k,0<=k->k<n->K (arrOf st) k=K (arrOf st) (n - 1):=by
          intro k _ hk
          have a1:k=0\/VLt ρ (arrOf st) 0 k:=by
            by_cases z:k=0
            . exact .inl z
            . exact .inr (i1 0 k (by omega) hk)
          have a2:k=n - 1\/VLt ρ (arrOf st) k (n - 1):=by
            by_cases z:k=n - 1
            . exact .inl z
            . exact .inr (i1 k (n - 1) (by omega) (by omega))
          have a3:=i1 0 (n - 1) (by omega) (by omega)
          unfold VLt at a1 a2 a3
          rcases a1 with a1 | a1
          . subst a1; omega
          . rcases a2 with a2 | a2
            . subst a2; rfl
            . omega
        have ke:=K_mirror_equal (xs:=arrOf st) (i:=0) (j:=n) (by omega) all
        refine wpS_bind (wpS_reverse (ZkL h0 hr hn (by omega) (hB.setArr (mirror_perm _ _ _ _)) (DI.of (by omega) (by show n<(mirror _ _ _ _).size; rw [mirror_size]; omega) (λi j hij hj=>?_) (λi hi hs=>?_) ?_) h))
        . show VLt ρ (mirror (arrOf st) 0 n ((n - 0) / 2)) j i
          unfold VLt
          rw [ke,ke,all i (by omega) (by omega),all j (by omega) hj,Zbh (by omega),Zbh (by omega),if_pos (by omega),if_pos (by omega),hI _ (by omega) (by omega),hI _ (by omega) (by omega)]
          omega
        . have hs':i<(mirror (arrOf st) 0 n ((n - 0) / 2)).size:=hs
          rw [mirror_size] at hs'
          show Rk ρ (mirror (arrOf st) 0 n ((n - 0) / 2)) i=i
          rw [Zbh (by omega),if_neg (by omega)]
          exact hI i (by omega) hs'
        . show K (mirror (arrOf st) 0 n ((n - 0) / 2)) n<K (mirror (arrOf st) 0 n ((n - 0) / 2)) (n - 1)
          rw [ke,ke]
          exact lt
    . rw [if_neg g]
      have en:n=1:=by omega
      subst en
      exact ZkL h0 hr hn (by omega) hB (DI.of (by omega) (by omega) (λi j hij hj=>absurd hj (by omega)) (hI.mono (Nat.zero_le _)) lt) h
def SEnd (ρ:Keyed->Nat) (a₀:Array Keyed) (st:SortSt):Prop:=(arrOf st).Perm a₀/\failedOf st=none/\pendingOf st=#[(0,a₀.size,0)]/\Inc ρ (arrOf st) a₀.size
theorem SEnd.of {st:SortSt} (hB:SBase a₀ st) (hs:Inc ρ (arrOf st) a₀.size):SEnd ρ a₀ (setPending st ((pendingOf st).push (0,a₀.size,0))) :=
  ⟨hB.perm,hB.failed,by show (pendingOf st).push _=_; rw [hB.pend]; rfl,hs⟩
theorem Znq {st:SortSt} {Q:Unit->SortSt->Prop} (h0:IntKeys a₀) (hr:Idn ρ a₀ 0) (hB:SBase a₀ st) (hI:Idn ρ (arrOf st) 0) (h2:2<=a₀.size) (h64:a₀.size<64)
    (h:∀ st',(arrOf st').Perm a₀->failedOf st'=none->Inc ρ (arrOf st') a₀.size->Q () st'):wpS (model prog w) A E s sortRuns' Q st:=by
  rw [sortRuns'_eq]
  refine wpS_bind (wpS_get ?_)
  dsimp only
  have mr:minRun' a₀.size a₀.size 0=a₀.size:=by
    obtain ⟨f,hf⟩:∃ f,a₀.size=f+1:=⟨a₀.size - 1,by omega⟩
    have e:minRun' (f+1) a₀.size 0=a₀.size:=by
      rw [minRun'_succ,if_pos h64]
      rfl
    rwa [← hf] at e
  simp only [hB.size,mr]
  refine wpS_bind (wpS_mono (wpS_forRange
    (I:=λx c st1=>(x=0/\c=(none,0)/\SBase a₀ st1/\Idn ρ (arrOf st1) 0)\/(1<=x/\c=(none,a₀.size)/\SEnd ρ a₀ st1))
    (Q:=λc st1=>c=(none,a₀.size)/\SEnd ρ a₀ st1) ?turn ?last (.inl ⟨rfl,rfl,hB,hI⟩)) ?after)
  case last =>
    rintro c st1 (⟨hx,_⟩ | ⟨_,hc,hD⟩)
    . omega
    . exact ⟨hc,hD⟩
  case turn =>
    rintro x c st1 _ hx (⟨rfl,rfl,b1,i1⟩ | ⟨hx1,rfl,hD⟩)
    . dsimp only
      rw [if_neg (by omega)]
      simp only [Nat.sub_zero,Nat.min_self,Nat.zero_add]
      refine wpS_bind (ZlW h0 hr (Nat.le_refl _) (by omega) b1 i1 λm st2 b2 m1 m2 s2 d2=>?_)
      dsimp only
      by_cases lt:m<a₀.size
      . rw [if_pos lt]
        refine wpS_bind (wpS_lift (wpAny_rule ⟨rfl,?_⟩))
        refine wpS_bind (Zor h0 hr (Nat.le_refl _) m2 m1 b2 s2 d2 λst3 b3 s3=>?_)
        simp only [Bool.not_true,Bool.false_eq_true,if_false]
        refine wpS_bind (wpS_get ?_)
        have hb:(pendingOf st3).back?=none:=by
          rw [b3.pend]
          rfl
        rw [hb]
        dsimp only
        exact wpS_bind (wpS_modify (wpS_pure (.inr ⟨by omega,rfl,SEnd.of b3 s3⟩)))
      . rw [if_neg lt]
        have em:m=a₀.size:=by omega
        subst em
        refine wpS_bind (wpS_get ?_)
        have hb:(pendingOf st2).back?=none:=by
          rw [b2.pend]
          rfl
        rw [hb]
        dsimp only
        exact wpS_bind (wpS_modify (wpS_pure (.inr ⟨by omega,rfl,SEnd.of b2 s2⟩)))
    . dsimp only
      rw [if_pos (Nat.le_refl _)]
      exact wpS_pure ⟨rfl,hD⟩
  case after =>
    rintro c st1 ⟨rfl,hD⟩
    dsimp only
    refine wpS_bind (wpS_mono (wpS_forRange (I:=λ_ c st2=>st2=st1/\c=(none,())) (Q:=λc st2=>st2=st1/\c=(none,())) ?_ (λ_ _ hh=>hh) ⟨rfl,rfl⟩) ?_)
    . rintro x c st2 _ _ ⟨rfl,rfl⟩
      refine wpS_bind (wpS_get ?_)
      rw [if_pos (by rw [hD.2.2.1]; exact Nat.le_refl 1)]
      exact wpS_pure ⟨rfl,rfl⟩
    . rintro c st2 ⟨rfl,rfl⟩
      exact wpS_pure (h _ hD.1 hD.2.1 hD.2.2.2)
end
end L2.Stb
namespace L2
open PySem PySem.Spec PyProof.Rows
def BMod (base:Heap) (mg:Str->Option Value):Prop:=∃ bm o,mg "__builtins__" = some (.ref bm)/\bm≠builtinsNs/\bm≠mainGlobals/\base.get? bm=some o/\o.cls=.type "module" /\ o.dict=some builtinsNs/\o.data=.plain
section
variable {X:Cx} {pins:List (Addr×Obj)} {σ:St} {H:Hp} {s:Shared}
theorem Inv.grown {P c':Addr} {pos:Pos} {qual:Str} {ps:Array Value} {h':Heap} {tk:Nat} (I:Inv X pins σ H s) (hP:H P=some (.tbl pos qual)) (hx:Heap.ExtBut P s.heap h') (hge:s.heap.objs.size<=c') (hrec:h'.CodeRec (.ref c') qual)
    (htr:TriplesOk ps.toList) (hnf:codeAmong pos ps.toList=none) (htb:h'.get? P=some { cls:=.none,data:=.fields (ps++#[rawInt pos.line,rawInt pos.col,.ref c']) }) :
    ∃ oc vs t,h'.get? c'=some oc/\oc.data=.fields vs/\vs[1]?=some (.str qual t)/\Inv X pins σ (upd H c' (.frz oc (.own P))) { s with heap:=h',toks:=tk }:=by
  obtain ⟨c,oc,vs,t,z,hoc,hd,hv⟩:=hrec
  cases z
  have fr:H c'=none:=I.hok.fresh hge
  have nP:∀ b,H b=none->b≠P:=λb n z=>by rw [z,hP] at n; cases n
  have nc:∀ b u,H b=some u->b≠c':=λb u e=>Zd e fr
  have nh:∀ b o,s.heap.get? b=some o->b≠c':=λb o e=>Nat.ne_of_lt (Nat.lt_of_lt_of_le (Heap.lt_size e) hge)
  have cP:c'≠P:=λz=>by rw [z,hP] at fr; cases fr
  refine ⟨oc,vs,t,hoc,hd,hv,I.step (g':=s.gens) (d':=s.drawn) (t':=tk) (ch:=[]) (h':=h') (H':=upd H c' (.frz oc (.own P))) (λ_ z=>nomatch z) (λb o _ _ _ e n=>hx b o (nP b n) e) (λb o _ _ _ e n=>⟨o.slots,hx b o (nP b n) e⟩)
    (λb o _ e n=>by rw [Zb (nh b o e)]; exact n) (λb o _ e=>?_) (λb xs e=>by rw [Zb (nc b _ e)]; exact e) (λb o u e=>by rw [Zb (nc b _ e)]; exact e) (λb p q e=>by rw [Zb (nc b _ e)]; exact e) (λm hm=>?_) (λb u e=>?_) I.bare⟩
  . by_cases hb:b=P
    . subst hb; exact ⟨_,htb⟩
    . exact ⟨o,hx b o hb e⟩
  . obtain ⟨o,es,ep,ho,r⟩:=hm
    exact ⟨o,es,ep,hx _ o (nP _ I.free) ho,r⟩
  . by_cases hb:b=c'
    . subst hb
      rw [Za] at e
      cases e
      exact ⟨hoc,_,hoc⟩
    . rw [Zb hb] at e
      by_cases hbP:b=P
      . subst hbP
        rw [hP] at e
        cases e
        have e1:(ps++#[rawInt pos.line,rawInt pos.col,Value.ref c']).toList=ps.toList++[rawInt pos.line,rawInt pos.col,.ref c']:=by simp
        refine ⟨_,htb,?_,λcv hc=>?_⟩
        . rw [e1]; exact TriplesOk_snoc _ _ _ _ htr
        . rw [e1,codeAmong_snoc _ htr hnf] at hc
          cases hc
          exact ⟨c',oc,vs,t,rfl,Za,hd,hv⟩
      . refine (I.hok b u e).stay (λd v hd' q=>hx d v ?_ q) (λd q=>by rw [Zb (nc d _ q)]; exact q) (λd xs q=>by rw [Zb (nc d _ q)]; exact q) λd oz q=>by rw [Zb (nc d _ q)]; exact q
        rcases hd' with rfl | hd'
        . exact hbP
        . intro z; rw [z,hP] at hd'; cases hd'
structure LamOk (X:Cx) (scope:Scope) (x:Str) (fr:List Str) (js:List Nat):Prop where
  kind:scope.kind=.function
  co:scope.isCoroutine=false
  gen:scope.isGenerator=false
  nocell:∀ y∈scope.names,y.2≠.cell
  par:scope.names.lookup x=some .local
  free:∀ y∈scope.names,y.2=.free->X.env.kindOf y.1=some .cell\/X.env.kindOf y.1=some .free
  len:fr.length=js.length
  js:∀ (k j:Nat),js[k]?=some j->fr[k]?=X.N[j]?
  jf:∀ (k:Nat) (y:Str),fr[k]?=some y->scope.names.lookup y=some .free
def cxLam (X:Cx) (A:Around) (N:List Str) (qual:Str) (scope:Scope) (f:Addr) (cd:Value) (cl:List (Str×Addr)) (s:Shared) (H:Hp):Cx where
  prog:=X.prog
  w:=X.w
  K:=X.K
  mg:=X.mg
  base:=X.base
  A:=A.deeper (PySem.W.envX qual scope s.heap.objs.size f cd cl)
  N:=N
  s₀:=s
  H₀:=H
  env:=PySem.W.envX qual scope s.heap.objs.size f cd cl
  outer:=X.stack
  stack:=PySem.W.envX qual scope s.heap.objs.size f cd cl :: X.stack
  ex:=[]
  calm:=true
  fn:=λ_=>false
  pn:=[]
  xe:=λ_ _=>False
theorem Znr {A:Around} {x:Str} {fr:List Str} {js:List Nat} {qual:Str} {scope:Scope} {f:Addr} {cd:Value} {cl:List (Str×Addr)} {s1:Shared} {u:Value} {v:V} (c:LamOk X scope x fr js) (I:Inv X pins σ H s) (hA:A.frames=some X.stack) (hh:A.handled=none)
    (cl1:∀ x c,cl.lookup x=some c->X.env.cells.lookup x=some c) (cl2:∀ p∈scope.names,p.2=.free->∃ c,cl.lookup p.1=some c) (r:RelV v u)
    (hn:s1.heap.Ns s.heap.objs.size λy=>[(x,u)].reverse.lookup y) (hk:∀ b o,s.heap.get? b=some o->s1.heap.get? b=some o) (hos:s1.os=s.os) (hg:s1.gens=s.gens) :
    Inv (cxLam X A (x :: fr) qual scope f cd cl s H) [] (some v :: js.map λj=>(σ[j]?).join) H s1:=by
  have noA:∀ b:Addr,b∉(cxLam X A (x :: fr) qual scope f cd cl s H).ex:=λb z=>absurd (show b∈([]:List Addr) from z) (by simp)
  have ok:(cxLam X A (x :: fr) qual scope f cd cl s H).Ok:=by
    refine ⟨I.ok.mod,c.kind,rfl,rfl,Nat.le_refl _,λy z d e1 e2=>I.ok.inj y z d (cl1 _ _ e1) (cl1 _ _ e2),λy hy=>?_,λy d z _=>absurd z (by simp [cxLam]),λ_=>hh,Around.frames_deeper hA,.inr ⟨rfl,rfl⟩,λb z=>absurd z (noA b),I.bs,Nat.le_trans I.ok.bsz I.sz,λb _ _=>noA b,λb z=>absurd z (noA b),I.stack,I.stkFree⟩
    have hy:scope.names.lookup y=some .cell\/scope.names.lookup y=some .free:=hy
    rcases hy with hy | hy
    . exact absurd rfl (c.nocell _ (ZaG hy))
    . exact cl2 _ (ZaG hy) rfl
  refine ⟨ok,hos,by rw [hg]; exact I.bare,Un.kept hk,⟨_,hn,λi y v' e1 e2 e3=>?_⟩,λy d e=>?_,I.hok.fresh (Nat.le_refl _),λy d e=>I.freeC y d (cl1 y d e),λp hp=>absurd (show p∈([]:List (Addr×Obj)) from hp) (by simp),I.hok.kept hk,?_⟩
  . cases i with
    | zero =>
      have e1':x=y:=by simpa [cxLam] using e1
      have e2':v=v':=by simpa using e2
      subst e1'
      subst e2'
      refine ⟨u,r,.inl ⟨c.par,?_⟩⟩
      show ([(x,u)]:List (Str×Value)).reverse.lookup x=some u
      simp
    | succ k =>
      have e1':fr[k]?=some y:=by simpa [cxLam] using e1
      rw [List.getElem?_cons_succ,getElem?_map] at e2
      cases q:js[k]? with
      | none=>rw [q] at e2; cases e2
      | some j =>
        rw [q] at e2
        have e2':(σ[j]?).join=some v':=by simpa using e2
        have e4:σ[j]?=some (some v'):=by
          cases z:σ[j]? with
          | none=>rw [z] at e2'; cases e2'
          | some o=>rw [z] at e2'; rw [show o=some v' from e2']
        have hXN:X.N[j]?=some y:=(c.js k j q).symm.trans e1'
        have hfr:=c.jf k y e1'
        have hk2:=c.free _ (ZaG hfr) rfl
        have vis:Vis X.env.scope y:=by
          rcases hk2 with z | z
          . exact .inr (.inl z)
          . exact .inr (.inr z)
        obtain ⟨m,_,hl⟩:=I.loc
        obtain ⟨u',r',l⟩:=hl j y v' hXN e4 vis
        refine ⟨u',r',?_⟩
        rcases l with ⟨z,_⟩ | ⟨_,d,e,⟨od,ho,hd⟩⟩
        . rcases hk2 with y' | y'
          . rw [show X.env.kindOf y=_ from z] at y'; cases y'
          . rw [show X.env.kindOf y=_ from z] at y'; cases y'
        . obtain ⟨d',e'⟩:=cl2 _ (ZaG hfr) rfl
          have z':=cl1 _ _ e'
          have:d'=d:=by rw [e] at z'; exact (Option.some.inj z').symm
          subst this
          exact .inr ⟨.inr hfr,d',e',⟨od,hk _ _ ho,hd⟩⟩
  . obtain ⟨v',⟨o,ho,hd⟩⟩:=I.cell y d (cl1 y d e)
    exact ⟨v',o,hk _ _ ho,hd⟩
  . show (some v :: _:List (Option V)).length=(x :: fr).length
    rw [length_cons,length_cons,length_map,c.len]
theorem ZlX {A:Around} {x:Str} {fr:List Str} {js:List Nat} {name qual:Str} {params:Arguments} {body:PySem.Expr} {scope:Scope} {f:Addr} {pm cd ct:Value} {cl:List (Str×Addr)} {u:Value} {v:V} {te:TE} {Q:VK} {E:Value->Shared->Prop} {of:Obj} (c:LamOk X scope x fr js) (I:Inv X pins σ H s)
    (hA:A.frames=some X.stack) (hh:A.handled=none) (hdep:A.depth<recursionLimit)
    (cl1:∀ x c,cl.lookup x=some c->X.env.cells.lookup x=some c) (cl2:∀ p∈scope.names,p.2=.free->∃ c,cl.lookup p.1=some c)
    (ho:s.heap.get? f=some of) (hof:of.data=.func (PySem.W.kla_fn name qual params body scope cl pm cd ct)) (hcd:s.heap.CodeRec cd qual)
    (hb:∀ u,bindArgs (PySem.W.kla_fn name qual params body scope cl pm cd ct) ⟨[u],[]⟩=pure [(x,u)]) (r:RelV v u)
    (he:∀ s,PE (cxLam X A (x :: fr) qual scope f cd cl s H) body te) (h:te (some v :: js.map λj=>(σ[j]?).join) H Q) :
    wpAny (model X.prog X.w) A (call (.ref f) [u]) (EP X pins σ Q) E s:=by
  refine wpAny_call (codeAny_mono (R:=λr s'=>∃ u',r=.ok (.ret u')/\CE X.stack X.prog X.w H s Q u' s') (PySem.W.kla_callFunE hdep ho hof c.co c.gen rfl hcd (by
    rw [hb u]
    refine wpAny_pure ?_
    refine wpAny_newFunctionEnv c.nocell (λy hy=>by rw [List.mem_singleton.mp hy]; exact c.par) (λh₁ hns hsb=>?_) c.kind
    have hk₁:∀ b o,s.heap.get? b=some o->h₁.get? b=some o:=λb o e=>hsb.extBut b o (Nat.ne_of_lt (Heap.lt_size e)) (Heap.get?_push_of_some _ e)
    refine ⟨I.nolimit.keeps hk₁,?_⟩
    have J:=Znr (qual:=qual) (f:=f) (cd:=cd) (s1:={ s with heap:=h₁,toks:=s.toks+[(x,u)].length }) c I hA hh cl1 cl2 r hns hk₁ rfl rfl
    refine PySem.W.kla_codeExpr (wpAny_mono (he s [] _ _ H Q J h) (λu' s' hq=>?_) λ_ _ z=>z.elim)
    obtain ⟨v',H',J',rv,q⟩:=hq
    exact ⟨u',rfl,v',H',J'.os,J'.bare,J'.base,J'.hok,rv,q⟩)) λr s' hq=>?_)
  obtain ⟨u',rfl,hq⟩:=hq
  exact I.after hq
theorem ZlY {P c0:Addr} {x:Str} {fr:List Str} {js:List Nat} {params:Arguments} {body:PySem.Expr} {scope:Scope} {pos:Pos} {R:Value->Shared->Prop} (c:LamOk X scope x fr js) (I:Inv X pins σ H s) (hc0:X.env.code=.ref c0) (hcd:PySem.W.codeHdIn X.K c0 P=true)
    (bm:BMod X.base X.mg) (hP:H P=some (.tbl pos (X.env.qual ++ "<lambda>"))) (hd0:params.defaults=[]) (hk0:params.kw_defaults=[])
    (h:∀ f cl cd pm ct of H' s',Inv X pins σ H' s'->Same H H'->(∀ x c,cl.lookup x=some c->X.env.cells.lookup x=some c)->(∀ p∈scope.names,p.2=.free->∃ c,cl.lookup p.1=some c) -> 
      H' f=some (.frz of (.own 0))->of.data=.func (PySem.W.kla_fn "<lambda>" (X.env.qual ++ "<lambda>") params body scope cl pm cd ct)->(∃ c' oc vs t,cd=.ref c'/\H' c'=some (.frz oc (.own P))/\oc.data=.fields vs/\vs[1]?=some (.str (X.env.qual ++ "<lambda>") t))->R (.ref f) s') :
    wpAny (model X.prog X.w) X.A (eval (.Lambda params body scope pos) X.env) R X.xe s:=by
  obtain ⟨cl,e1,cl1,_,cl2⟩:=ZbU (env:=X.env) scope.names [] (λp hp hf=>I.ok.has _ (c.free p hp hf)) (λx d e=>by simp at e)
  have hclos:closureFor scope X.env=pure cl:=by
    unfold closureFor
    refine (congrArg (λz=>z >>= λcs=>pure cs) e1).trans ?_
    rfl
  have CH:=PySem.W.codeHd_of_K I.kIn hcd
  obtain ⟨ps,hps,htr,hcode⟩:=(show ObjOk X.prog X.w H s.heap P (.tbl pos (X.env.qual ++ "<lambda>")) from I.hok P _ hP)
  have hg:=I.ok.mod.glob.keeps I.bk
  have hgP:mainGlobals≠P:=λq=>by
    obtain ⟨o,es,ep,e,hd,_⟩:=hg
    rw [q,hps] at e; cases e; cases hd
  have hb:s.heap.BuiltinsAt X.mg P:=by
    obtain ⟨b,o,a1,a2,a3,a4,a5,a6,a7⟩:=bm
    have e:=I.bk _ _ a4
    exact ⟨b,o,a1,a2,a3,(λz=>by rw [z,hps] at e; cases e; cases a5),e,a5,a6,a7⟩
  rw [arm_eval_Lambda,defaultsOf_eq,hd0,hk0]
  show wpAny _ _ (do let dv ← evalAll (evalEach [] X.env); let kdv ← holding dv (evalAllOpt []); makeFunction "<lambda>" (X.env.qual ++ "<lambda>") params (.expr body) scope X.env dv kdv [] pos pos.line) _ _ s
  refine wpAny_bind (evalAll_nil ?_)
  refine wpAny_bind (wpAny_holding (wpAny_pure ?_))
  cases hf:codeAmong pos ps.toList with
  | some cv =>
    obtain ⟨c',oc,vs,t,rfl,hH,hd,hv⟩:=hcode cv hf
    refine PySem.W.kla_makeFunctionHit hclos I.ok.glob hg hc0 CH hps htr hf hb λctv h' tk hk hsz=>?_
    have I1:=I.laid (a:=h'.objs.size) (t':=tk) (o:=.frz { cls:=.type "function",data:=.func (PySem.W.kla_fn "<lambda>" (X.env.qual ++ "<lambda>") params body scope cl ((X.mg "__name__").getD .none) (.ref c') ctv) } (.own 0)) (h':=h'.push { cls:=.type "function",data:=.func (PySem.W.kla_fn "<lambda>" (X.env.qual ++ "<lambda>") params body scope cl ((X.mg "__name__").getD .none) (.ref c') ctv) }) (λb o e=>Heap.get?_push_of_some _ (hk b o e)) hsz ⟨Heap.get?_push_size _ rfl,_,Heap.get?_push_size _ rfl⟩
    have fr:=I.hok.fresh hsz
    exact h _ cl _ _ _ _ _ _ I1 (Zg fr _) cl1 cl2 Za rfl ⟨c',oc,vs,t,rfl,by rw [Zb (Zd hH fr)]; exact hH,hd,hv⟩
  | none =>
    refine PySem.W.kla_makeFunction hclos I.ok.glob hg hc0 CH hps htr hf hgP hb λc' ctv h' tk hx hge hlt hrec htb=>?_
    obtain ⟨oc,vs,t,hoc,hd,hv,I1⟩:=I.grown (tk:=tk) hP hx hge hrec htr hf htb
    have fr:H c'=none:=I.hok.fresh hge
    have fr2:upd H c' (.frz oc (.own P)) h'.objs.size=none:=I1.hok.fresh (Nat.le_refl _)
    have I2:=I1.laid (a:=h'.objs.size) (t':=tk) (o:=.frz (PySem.W.kla_obj "<lambda>" (X.env.qual ++ "<lambda>") params body scope cl ((X.mg "__name__").getD .none) c' ctv) (.own 0)) (h':=h'.push (PySem.W.kla_obj "<lambda>" (X.env.qual ++ "<lambda>") params body scope cl ((X.mg "__name__").getD .none) c' ctv)) (λb o e=>Heap.get?_push_of_some _ e) (Nat.le_refl _) ⟨Heap.get?_push_size _ rfl,_,Heap.get?_push_size _ rfl⟩
    exact h _ cl _ _ _ _ _ _ I2 ((Zg fr _).trans (Zg fr2 _)) cl1 cl2 Za rfl ⟨c',oc,vs,t,rfl,by rw [Zb (Zd Za fr2)]; exact Za,hd,hv⟩
end
end L2
namespace L2
open PySem PySem.Spec PyProof.Rows L2.Stb
def KLt (key:Int->Int) (ns:List Int) (a b:Int):Prop:=key a<key b\/(key a=key b/\ns.idxOf a<ns.idxOf b)
theorem ZlZ {l:List Keyed} (h:∀ p∈l,∃ t,p.2=.int (numOf p.2) t):Vals ((l.map λp=>numOf p.2).map V.int) (l.map (·.2)):=by
  induction l with
  | nil=>exact .nil
  | cons p r ih =>
    obtain ⟨t,e⟩:=h p mem_cons_self
    exact .cons ⟨t,e⟩ (ih λq hq=>h q (mem_cons_of_mem _ hq))
theorem ZfJ {vs:List Value} {ns:List Int} (h:IntsAre vs ns):∀ {i:Nat} {v:Value},vs[i]?=some v->∃ n t,ns[i]?=some n/\v=.int n t:=by
  induction h with
  | nil=>intro i v e; simp at e
  | cons n t _ ih =>
    intro i v e
    cases i with
    | zero=>exact ⟨n,t,rfl,by simpa using e.symm⟩
    | succ i=>exact ih (by simpa using e)
theorem ZmH:∀ {ns:List Int},ns.Nodup->∀ {i:Nat} {n:Int},ns[i]?=some n->ns.idxOf n=i
  | [],_,_,_,e=>by simp at e
  | x :: r,nd,0,n,e=>by
    have e':x=n:=by simpa using e
    subst e'
    simp
  | x :: r,nd,i+1,n,e=>by
    obtain ⟨h1,h2⟩:=List.nodup_cons.mp nd
    have e':r[i]?=some n:=by simpa using e
    have ne:x≠n:=λz=>h1 (z ▸ mem_of_getElem? e')
    rw [List.idxOf_cons,show (x == n)=false by simpa using ne]
    show r.idxOf n+1=i+1
    rw [ZmH h2 e']
theorem ZiX {keys:Array Value} {vs:List Value} {ns:List Int} {key:Int->Int} (hk:IntsAre keys.toList (ns.map key)) (hv:IntsAre vs ns) (nd:ns.Nodup) :
    Idn (λp=>ns.idxOf (numOf p.2)) (keys.zip vs.toArray) 0/\∀ xs:Array Keyed,xs.Perm (keys.zip vs.toArray)->Inc (λp=>ns.idxOf (numOf p.2)) xs xs.size ->
      ∃ os:List Int,Vals (os.map V.int) (xs.map (·.2)).toList/\os.Perm ns/\os.Pairwise (KLt key ns):=by
  have lk:keys.size=ns.length:=by have:=hk.length; rw [Array.length_toList,length_map] at this; omega
  have lv:vs.length=ns.length:=by have:=hv.length; omega
  have at0:∀ (i:Nat) (p:Keyed),(keys.zip vs.toArray)[i]?=some p->∃ n t t',ns[i]?=some n/\p=(Value.int (key n) t,Value.int n t'):=λi p e=>by
    have e':(keys.toList.zip vs)[i]?=some p:=by rw [← ksk_zip,Array.getElem?_toList]; exact e
    rw [List.getElem?_zip_eq_some] at e'
    obtain ⟨n1,t1,q1,r1⟩:=ZfJ hk e'.1
    obtain ⟨n2,t2,q2,r2⟩:=ZfJ hv e'.2
    rw [getElem?_map,q2] at q1
    have q1':key n2=n1:=by simpa using q1
    exact ⟨n2,t1,t2,q2,Prod.ext (by rw [r1,q1']) r2⟩
  have mem0:∀ p∈(keys.zip vs.toArray).toList,∃ n t t',n∈ns/\p=(Value.int (key n) t,Value.int n t'):=λp hp=>by
    obtain ⟨i,e⟩:=getElem?_of_mem hp
    rw [Array.getElem?_toList] at e
    obtain ⟨n,t,t',q,r⟩:=at0 i p e
    exact ⟨n,t,t',mem_of_getElem? q,r⟩
  refine ⟨λi _ hi=>?_,λxs hp hi=>?_⟩
  . obtain ⟨n,t,t',q,r⟩:=at0 i _ (Array.getElem?_eq_getElem hi)
    unfold Rk
    rw [Array.getElem?_eq_getElem hi,r]
    show ns.idxOf n=i
    exact ZmH nd q
  . have pm:=Array.perm_iff_toList_perm.mp hp
    have memx:∀ p∈xs.toList,∃ n t t',n∈ns/\p=(Value.int (key n) t,Value.int n t'):=λp hp'=>mem0 p (pm.mem_iff.mp hp')
    refine ⟨xs.toList.map λp=>numOf p.2,?_,?_,?_⟩
    . rw [Array.toList_map]
      refine ZlZ λp hp'=>?_
      obtain ⟨n,t,t',_,rfl⟩:=memx p hp'
      exact ⟨t',rfl⟩
    . have e:(keys.zip vs.toArray).toList.map (λp=>numOf p.2)=ns:=by
        apply List.ext_getElem?
        intro i
        rw [getElem?_map,Array.getElem?_toList]
        by_cases hlt:i<(keys.zip vs.toArray).size
        . obtain ⟨n,t,t',q,r⟩:=at0 i _ (Array.getElem?_eq_getElem hlt)
          rw [Array.getElem?_eq_getElem hlt,r,q]
          rfl
        . have lz:(keys.zip vs.toArray).size=ns.length:=by rw [Array.size_zip,lk,List.size_toArray,lv,Nat.min_self]
          rw [Array.getElem?_eq_none (by omega),getElem?_eq_none (by omega)]
          rfl
      rw [← e]
      exact pm.map _
    . rw [List.pairwise_iff_getElem]
      intro i j hi' hj' hij
      have hi2:i<xs.size:=by simpa using hi'
      have hj2:j<xs.size:=by simpa using hj'
      have v:=hi i j hij hj2
      obtain ⟨n1,t1,t1',_,r1⟩:=memx xs[i] (by simp)
      obtain ⟨n2,t2,t2',_,r2⟩:=memx xs[j] (by simp)
      have k1:K xs i=key n1:=by rw [K_eq hi2,r1]; rfl
      have k2:K xs j=key n2:=by rw [K_eq hj2,r2]; rfl
      have q1:Rk (λp=>ns.idxOf (numOf p.2)) xs i=ns.idxOf n1:=by unfold Rk; rw [Array.getElem?_eq_getElem hi2,r1]; rfl
      have q2:Rk (λp=>ns.idxOf (numOf p.2)) xs j=ns.idxOf n2:=by unfold Rk; rw [Array.getElem?_eq_getElem hj2,r2]; rfl
      have g1:(xs.toList.map λp=>numOf p.2)[i]=n1:=by simp [r1,numOf]
      have g2:(xs.toList.map λp=>numOf p.2)[j]=n2:=by simp [r2,numOf]
      rw [g1,g2]
      unfold VLt at v
      rw [k1,k2,q1,q2] at v
      exact v
section
variable {X:Cx} {pins:List (Addr×Obj)} {σ:St} {H:Hp} {s:Shared} {d:Addr} {xs:List V} {o:Obj}
theorem Inv.thawedL (I:Inv X pins σ H s) (h:H d=some (.frz o (.lst xs))) (h0:∀ o' u,X.H₀ d≠some (.frz o' u)):Inv X pins σ (upd H d (.lst xs)) s:=by
  have ne:∀ b u,H b=some u->u≠.frz o (.lst xs)->b≠d:=λb u e n z=>by rw [z,h] at e; exact n (Option.some.inj e).symm
  have nn:∀ b,H b=none->b≠d:=λb e z=>by rw [z,h] at e; cases e
  refine ⟨I.ok,I.os,I.bare,⟨I.base.keep,I.base.slot,λb o' e n hx=>?_,I.base.there,λb ys e=>?_,λb o' u e=>?_,λb p r e=>?_⟩,I.loc,I.cell,?_,λx c e=>?_,λp hp=>?_,λb u e=>?_,I.len⟩
  . have q:=I.base.free b o' e n hx
    rw [Zb (nn b q)]
    exact q
  . have q:=I.base.tups b ys e
    rw [Zb (ne b _ q (by intro z; cases z))]
    exact q
  . have q:=I.base.frzs b o' u e
    rw [Zb (λz=>h0 o' u (by rw [← z]; exact e))]
    exact q
  . have q:=I.base.tbls b p r e
    rw [Zb (ne b _ q (by intro z; cases z))]
    exact q
  . rw [Zb (nn _ I.free)]
    exact I.free
  . rw [Zb (nn _ (I.freeC x c e))]
    exact I.freeC x c e
  . obtain ⟨a1,a2,a3⟩:=I.pin p hp
    exact ⟨a1,by rw [Zb (nn _ a2)]; exact a2,a3⟩
  . by_cases hb:b=d
    . subst hb
      rw [Za] at e
      cases e
      exact (I.hok b _ h).2
    . rw [Zb hb] at e
      exact (I.hok b u e).stay (λ_ _ _ z=>z) (λc z=>by rw [Zb (ne c _ z (by intro y; cases y))]; exact z) (λc ys z=>by rw [Zb (ne c _ z (by intro y; cases y))]; exact z) λc oz z=>by rw [Zb (ne c _ z (by intro y; cases y))]; exact z
theorem ZiY {a kS:Addr} {st:SortSt} {e1:Nat} {H1:Hp} {ns:List Int} {key:Int->Int} {keys:Array Value} {its:List Value} {ks:List V} {A:Around} {E:Value->Shared->Prop} {R:PySem.Fin->Shared->Prop} (I:Inv X pins σ H1 s) (hk:IntsAre keys.toList (ns.map key)) (hv:IntsAre its ns) (nd:ns.Nodup) (h64:ns.length<64)
    (ha:H1 a=some (.frz (seqObj "list" #[] e1) (.lst []))) (h0:∀ o' u,X.H₀ a≠some (.frz o' u)) (hkS:H1 kS=some (.lst ks)) (hlk:ks.length<=64) (hp:(arrOf st).Perm (keys.zip its.toArray)) (hi:Inc (λp=>ns.idxOf (numOf p.2)) (arrOf st) (arrOf st).size) (hf:failedOf st=none)
    (h:∀ (H':Hp) (s':Shared) (os:List Int),Inv X pins σ H' s'->(∀ b,b≠a->b≠kS->H' b=H1 b)->H' a=some (.lst (os.map V.int))->os.Perm ns->os.Pairwise (KLt key ns)->R (.done (.ret .none)) s') :
    wpAny (model X.prog X.w) A (ksk_tail a false e1 (.ref kS) st) R E s:=by
  have nak:a≠kS:=λz=>by rw [z,hkS] at ha; cases ha
  obtain ⟨os,vo,po,so⟩:=(ZiX hk hv nd).2 _ hp hi
  have lo:=po.length_eq
  unfold ksk_tail
  try dsimp only
  obtain ⟨_,itsK,n,rK,hlK,eK⟩:=I.lstM hkS
  have lK:itsK.length<=64:=by have:=rK.length; omega
  refine wpAny_bind (listUpdate_at eK rfl ?_ (by rw [List.size_toArray,sizeLine_eq]; omega) (Nat.zero_le _))
  have I6:=I.lset (t':=s.toks) (f:=λ_=>#[]) (its':=[]) (ys:=[]) hkS eK rfl .nil (Nat.zero_le _)
  have ha6:upd H1 kS (.lst []) a=some (.frz (seqObj "list" #[] e1) (.lst [])):=by rw [Zb nak]; exact ha
  have oa:=(I6.hok a _ ha6).1
  refine wpAny_bind (wpAny_letGo ?_)
  refine wpAny_bind (seqEpoch_at oa rfl ?_)
  have lo2:((arrOf st).map (·.2)).size=ns.length:=by
    have e:=vo.length
    rw [length_map] at e
    have e2:((arrOf st).map (·.2)).toList.length=((arrOf st).map (·.2)).size:=Array.length_toList
    omega
  refine wpAny_bind (listUpdate_at oa rfl ?_ (Nat.zero_le _) (by simp only [Bool.false_eq_true,if_false]; rw [lo2,sizeLine_eq]; omega))
  rw [hf]
  simp only [bne_self_eq_false,Bool.false_eq_true,if_false]
  have I7:=I6.thawedL ha6 h0
  have I8:=I7.lset (t':=s.toks) (f:=λ_=>(arrOf st).map (·.2)) (its:=[]) (its':=((arrOf st).map (·.2)).toList) (ys:=os.map V.int) Za oa (by exact (Array.toArray_toList).symm) vo (by rw [length_map,sizeLine_eq]; omega)
  refine wpAny_pure (h _ _ os I8 (λb n1 n2=>?_) Za po so)
  rw [Zb n1,Zb n1,Zb n2]
theorem Zns {a kS:Addr} {e1:Nat} {H1:Hp} {ns:List Int} {key:Int->Int} {keys:Array Value} {its:List Value} {ks:List V} {A:Around} {E:Value->Shared->Prop} {R:PySem.Fin->Shared->Prop} (I:Inv X pins σ H1 s) (hk:IntsAre keys.toList (ns.map key)) (hv:IntsAre its ns) (nd:ns.Nodup) (h64:ns.length<64)
    (ha:H1 a=some (.frz (seqObj "list" #[] e1) (.lst []))) (h0:∀ o' u,X.H₀ a≠some (.frz o' u)) (hkS:H1 kS=some (.lst ks)) (hlk:ks.length<=64)
    (h:∀ (H':Hp) (s':Shared) (os:List Int),Inv X pins σ H' s'->(∀ b,b≠a->b≠kS->H' b=H1 b)->H' a=some (.lst (os.map V.int))->os.Perm ns->os.Pairwise (KLt key ns)->R (.done (.ret .none)) s') :
    wpAny (model X.prog X.w) A (ksk_end a false its.toArray e1 (.ref kS) keys) R E s:=by
  have lk:keys.size=ns.length:=by have:=hk.length; rw [Array.length_toList,length_map] at this; omega
  have lv:its.length=ns.length:=by have:=hv.length; omega
  have hzs:(keys.zip its.toArray).size=ns.length:=by rw [Array.size_zip,lk,List.size_toArray,lv,Nat.min_self]
  obtain ⟨idn,_⟩:=ZiX hk hv nd
  unfold ksk_end
  simp only [Bool.false_eq_true,if_false]
  by_cases h2:its.toArray.size<2
  . rw [if_pos h2,if_pos h2]
    refine wpAny_bind (wpAny_pure ?_)
    rw [StateT.run_pure]
    refine wpAny_bind (wpAny_pure ?_)
    try dsimp only
    refine ZiY (st:=SortSt.mk' general' (keys.zip its.toArray) #[] 7 none) I hk hv nd h64 ha h0 hkS hlk (Array.Perm.refl _) (λi j hij hj=>?_) rfl h
    have hj2:j<(keys.zip its.toArray).size:=hj
    rw [List.size_toArray] at h2
    omega
  . rw [if_neg h2,if_neg h2]
    rw [List.size_toArray] at h2
    rw [ksk_kind hk (by rw [lk]; omega)]
    refine wpAny_bind (wpAny_pure ?_)
    refine wpAny_bind (wpAny_mono (Znq (ρ:=λp=>ns.idxOf (numOf p.2)) (a₀:=keys.zip its.toArray) (st:=SortSt.mk' oneType' (keys.zip its.toArray) #[] 7 none)
      (Q:=λ_ st1=>(arrOf st1).Perm (keys.zip its.toArray)/\failedOf st1=none/\Inc (λp=>ns.idxOf (numOf p.2)) (arrOf st1) (keys.zip its.toArray).size)
      (ksk_intKeys hk) idn ⟨Array.Perm.refl _,rfl,rfl,rfl⟩ idn (by rw [hzs]; omega) (by rw [hzs]; exact h64) λst1 a1 a2 a3=>⟨a1,a2,a3⟩) ?_ λ_ _ e=>e)
    rintro ⟨⟨⟩,st1⟩ s1 ⟨rfl,hp,hf,hs⟩
    try dsimp only
    exact ZiY I hk hv nd h64 ha h0 hkS hlk hp (by rw [hp.size_eq]; exact hs) hf h
theorem Zma {l f:Addr} {ns:List Int} {key:Int->Int} {Q:VK} {E:Value->Shared->Prop} (I:Inv X pins σ H s) (hq:SqL X.K H l (ns.map V.int)) (h64:ns.length<64) (nd:ns.Nodup)
    (turn:∀ z∈ns,∀ H1 s1 u,Same H H1->Inv X pins σ H1 s1->RelV (.int z) u->wpAny (model X.prog X.w) X.A.in1.in1 (call (.ref f) [u]) (EP X pins σ λv H'=>v=.int (key z)/\H'=H1) (λ_ _=>False) s1)
    (q:∀ (D:Addr) (H':Hp) (os:List Int),H D=none->Same H H'->H' D=some (.lst (os.map V.int))->os.Perm ns->os.Pairwise (KLt key ns)->Q (.ref D) H') :
    wpAny (model X.prog X.w) X.A (call (.builtin "sorted") [.ref l] [(Str.ofString "key",.ref f)]) (EP X pins σ Q) E s:=by
  obtain ⟨its,rv,pl,hz⟩:=I.list hq
  have hv:=ZcF rv
  have lv:its.length=ns.length:=by have:=rv.length; rw [length_map] at this; exact this.symm
  refine call_function_entry_kw kind_sorted plain_sorted entry_sorted (ksk_s1 _ _) ?_
  unfold Builtin.«sorted»
  refine wpAny_bind (m:=checkCount "sorted" 1 1 _) (wpAny_pure ?_)
  refine wpAny_bind (collect_list pl.isList ?_ (by rw [sizeLine_eq]; omega))
  refine wpAny_bind (wpAny_newList ?_ (by rw [sizeLine_eq]; omega))
  have hsz:((s.heap.push (seqObj "list" #[] 0)).update s.heap.objs.size (Obj.mapSeq (·++its.toArray))).objs.size=s.heap.objs.size+1:=by
    rw [Heap.size_update,size_push']
  have hoL:(((s.heap.push (seqObj "list" #[] 0)).update s.heap.objs.size (Obj.mapSeq (·++its.toArray))).push (seqObj "list" its.toArray 0)).get? (s.heap.objs.size+1)=some (seqObj "list" its.toArray 0):=by
    rw [← hsz]
    exact Heap.get?_push_size _ rfl
  have keep:∀ b o,s.heap.get? b=some o->(((s.heap.push (seqObj "list" #[] 0)).update s.heap.objs.size (Obj.mapSeq (·++its.toArray))).push (seqObj "list" its.toArray 0)).get? b=some o:=λb o e=>by
    have lt:b<s.heap.objs.size:=Heap.lt_size e
    rw [Heap.get?_push_ne _ _ _ (by rw [hsz]; exact Nat.ne_of_lt (Nat.lt_succ_of_lt lt)),Heap.get?_update_ne _ _ _ _ (Nat.ne_of_lt lt),Heap.get?_push_ne _ _ _ (Nat.ne_of_lt lt)]
    exact e
  show wpAny _ _ _ _ _ { s with heap:=((s.heap.push (seqObj "list" #[] 0)).update s.heap.objs.size (Obj.mapSeq (·++its.toArray))).push (seqObj "list" its.toArray 0) }
  rw [hsz]
  have hsz1:(((s.heap.push (seqObj "list" #[] 0)).update s.heap.objs.size (Obj.mapSeq (·++its.toArray))).push (seqObj "list" its.toArray 0)).objs.size=s.heap.objs.size+2:=by rw [size_push',hsz]
  generalize ((s.heap.push (seqObj "list" #[] 0)).update s.heap.objs.size (Obj.mapSeq (·++its.toArray))).push (seqObj "list" its.toArray 0)=h1 at *
  refine wpAny_bind (wpAny_holding (wpAny_call_entry_kw slot_list_sort ⟨_,hoL,rfl⟩ entry_list_sort ?body (ksk_l1 _ _)))
  case body =>
    show wpAny (model X.prog X.w) X.A.in1.in1 (Builtin.«list.sort» ⟨[.ref (s.heap.objs.size+1)],[(Str.ofString "key",.ref f)]⟩) _ _ _
    rw [ksk_t1]
    unfold ksk_tree
    refine wpAny_bind (listItems_at hoL rfl ?_)
    refine wpAny_bind (listUpdate_at hoL rfl ?_ (by rw [List.size_toArray,sizeLine_eq]; omega) (Nat.zero_le _))
    obtain ⟨e1,ho1⟩:∃ e1,(h1.update (s.heap.objs.size+1) (Obj.mapSeq λ_=>(#[]:Array Value))).get? (s.heap.objs.size+1)=some (seqObj "list" #[] e1):=⟨_,get?_update_seq hoL λ_=>#[]⟩
    have keep2:∀ b o,s.heap.get? b=some o->(h1.update (s.heap.objs.size+1) (Obj.mapSeq λ_=>(#[]:Array Value))).get? b=some o:=λb o e=>by
      have lt:b<s.heap.objs.size:=Heap.lt_size e
      rw [Heap.get?_update_ne _ _ _ _ (Nat.ne_of_lt (Nat.lt_succ_of_lt lt))]
      exact keep b o e
    generalize h1.update (s.heap.objs.size+1) (Obj.mapSeq λ_=>(#[]:Array Value))=h2 at *
    refine wpAny_bind (seqEpoch_at ho1 rfl ?_)
    refine wpAny_bind (wpAny_newTuple ?_ (by show its.length<=_; rw [sizeLine_eq]; omega))
    refine wpAny_bind (wpAny_newList ?_ (Nat.zero_le _))
    refine wpAny_holding ?_
    have fr:H (s.heap.objs.size+1)=none:=I.hok.fresh (Nat.le_succ _)
    have h0:∀ o' u,X.H₀ (s.heap.objs.size+1)≠some (.frz o' u):=λo' u e=>by rw [I.base.frzs _ _ _ e] at fr; cases fr
    have ho2:(h2.push (seqObj "tuple" its.toArray 0)).get? (s.heap.objs.size+1)=some (seqObj "list" #[] e1):=Heap.get?_push_of_some _ ho1
    have I3:=I.laid (a:=s.heap.objs.size+1) (t':=s.toks) (o:=.frz (seqObj "list" #[] e1) (.lst [])) (h':=h2.push (seqObj "tuple" its.toArray 0)) (λb o e=>Heap.get?_push_of_some _ (keep2 b o e)) (Nat.le_succ _) ⟨ho2,Nat.zero_le _,[],e1,.nil,ho2⟩
    have fr3:=I3.hok.fresh (Nat.le_refl _)
    have I4:=I3.laid (t':=s.toks) (o:=.lst []) (h':=(h2.push (seqObj "tuple" its.toArray 0)).push (seqObj "list" #[] 0)) (λb o e=>Heap.get?_push_of_some _ e) (Nat.le_refl _) ⟨Nat.zero_le _,[],0,.nil,Heap.get?_push_size _ rfl⟩
    have nak:s.heap.objs.size+1≠(h2.push (seqObj "tuple" its.toArray 0)).objs.size:=Zd Za fr3
    have sm:Same H (upd (upd H (s.heap.objs.size+1) (.frz (seqObj "list" #[] e1) (.lst []))) (h2.push (seqObj "tuple" its.toArray 0)).objs.size (.lst [])):=(Zg fr _).trans (Zg fr3 _)
    have frK:H (h2.push (seqObj "tuple" its.toArray 0)).objs.size=none:=(Zg fr _).free fr3
    have hkS0:upd (upd H (s.heap.objs.size+1) (.frz (seqObj "list" #[] e1) (.lst []))) (h2.push (seqObj "tuple" its.toArray 0)).objs.size (.lst []) (h2.push (seqObj "tuple" its.toArray 0)).objs.size=some (.lst []):=Za
    have ha0:upd (upd H (s.heap.objs.size+1) (.frz (seqObj "list" #[] e1) (.lst []))) (h2.push (seqObj "tuple" its.toArray 0)).objs.size (.lst []) (s.heap.objs.size+1)=some (.frz (seqObj "list" #[] e1) (.lst [])):=by rw [Zb nak]; exact Za
    generalize upd (upd H (s.heap.objs.size+1) (.frz (seqObj "list" #[] e1) (.lst []))) (h2.push (seqObj "tuple" its.toArray 0)).objs.size (.lst [])=H4 at *
    show wpAny (model X.prog X.w) X.A.in1.in1 (ksk_rest (s.heap.objs.size+1) (.ref f) false its.toArray e1 (.ref (h2.push (seqObj "tuple" its.toArray 0)).objs.size)) _ _ { s with heap:=(h2.push (seqObj "tuple" its.toArray 0)).push (seqObj "list" #[] 0) }
    generalize (h2.push (seqObj "tuple" its.toArray 0)).objs.size=kS at *
    generalize (h2.push (seqObj "tuple" its.toArray 0)).push (seqObj "list" #[] 0)=h4 at *
    unfold ksk_rest
    refine wpAny_bind (wpAny_rule ?_)
    rw [List.forIn_toArray]
    refine wpAny_bind (ksk_fold (λi s1=>∃ H1:Hp,Inv X pins σ H1 s1/\Same H H1/\H1 (s.heap.objs.size+1)=some (.frz (seqObj "list" #[] e1) (.lst []))/\H1 kS=some (.lst (((ns.take i).map key).map V.int))) its 0 _
      ⟨H4,I4,sm,ha0,hkS0⟩ ?step ?done)
    case step =>
      rintro j x s1 hx ⟨H1,I1,s1',a1,k1⟩
      simp only [Nat.zero_add] at k1 ⊢
      obtain ⟨z,t,hz',rfl⟩:=ZfJ hv hx
      have hj:j<ns.length:=(List.getElem?_eq_some_iff.mp hz').1
      refine wpAny_bind (wpAny_attempt (wpAny_mono (turn z (mem_of_getElem? hz') H1 s1 _ s1' I1 ⟨t,rfl⟩) (λv s2 he=>?_) λ_ _ hF=>hF.elim))
      obtain ⟨v',H',I2,r2,rfl,rfl⟩:=he
      try dsimp only
      obtain ⟨_,itsK,n,rK,hlK,eK⟩:=I2.lstM k1
      have lK:itsK.length<=ns.length:=by
        have:=rK.length
        rw [length_map,length_map,length_take] at this
        omega
      refine wpAny_bind (listUpdate_at eK rfl ?_ (by rw [List.size_toArray,sizeLine_eq]; omega) (by rw [Array.size_push,List.size_toArray,sizeLine_eq]; omega))
      have ek:ns.take (j+1)=ns.take j++[z]:=by rw [take_succ,hz']; rfl
      have I5:=I2.lset (t':=s2.toks) (f:=(·.push v)) (its':=itsK++[v]) (ys:=((ns.take (j+1)).map key).map V.int) k1 eK (by simp) (by rw [ek,map_append,map_append]; exact rK.append (.cons r2 .nil)) (by rw [length_map,length_map,length_take,sizeLine_eq]; omega)
      refine wpAny_pure ⟨rfl,_,I5,λb o y=>?_,?_,Za⟩
      . rw [Zb (Zd y frK)]
        exact s1' _ _ y
      . rw [Zb nak]
        exact a1
    case done =>
      rintro s1 ⟨H1,I1,s1',a1,k1⟩
      rw [Nat.zero_add,lv,take_length] at k1
      obtain ⟨_,itsK,n,rK,hlK,eK⟩:=I1.lstM k1
      try dsimp only
      refine wpAny_bind (listItems_at eK rfl ?_)
      refine Zns (ns:=ns) (key:=key) I1 (by simpa using ZcF rK) hv nd h64 a1 h0 k1 (by rw [length_map,length_map]; omega) λH' s2 os I2 oth hD po so=>⟨_,rfl,?_⟩
      refine wpAny_pure ⟨_,rfl,.ref (s.heap.objs.size+1),H',I2,rfl,q _ H' os fr (λb o y=>?_) hD po so⟩
      rw [oth b (Zd y fr) (Zd y frK)]
      exact s1' _ _ y
end
end L2
namespace L2
open PySem PySem.Spec PyProof.Rows
structure MDef (P:Program) (w:World) (K:PySem.W.Frag) (mg:Str->Option Value) (base:Heap) (C:Addr) (m:Str) (k:Nat) (ps:List Str) (sp:Sp):Prop where
  ex:∃ (f:Addr) (fd:FuncData),FnOk P w K mg base CX0 k f fd ps sp/\Meth K C m f/\Binds K fd ps []
structure KDef (P:Program) (w:World) (K:PySem.W.Frag) (mg:Str->Option Value) (base:Heap) (C:Addr) (x:Str) (k:Nat) (ps:List Str) (sp:Sp):Prop where
  ex:∃ (f:Addr) (fd:FuncData),FnOk P w K mg base CX0 k f fd ps sp/\Mk K C f/\mg x=some (.ref C)/\Binds K fd ps []
section
variable {X:Cx} {x m:Str} {p pos apos:Pos} {e o:PySem.Expr} {es:List PySem.Expr} {ta:TE} {t:TA} {k:Nat} {ps:List Str} {sp:Sp} {C:Addr}
theorem Zl {pl:Sem Bool} (M:MDef X.prog X.w X.K X.mg X.base C m k ps sp) (hr:Room k X.A) (c:Cls X.K C) (he:PE X o ta) (ha:PA X (e :: es) t) (hn:NSs (e :: es):=by repeat' (first | exact True.intro | refine ⟨?_,?_⟩))
    (ht:eval (.Call (.Attribute o m apos) (e :: es) [] pos) X.env=(do
      let ov ← eval o X.env
      standAt apos.atName
      let (f,first) ← holding [ov] (getMethod ov m pl)
      callWith pos f first (backTo pos (starEach (e :: es) X.env)) (backToKw pos (keywordEach [] X.env))):=by rfl) :
    PE X (.Call (.Attribute o m apos) (e :: es) [] pos) (tMeth C m sp [] E0 ta t):=by
  obtain ⟨f,fd,F,hm,hb⟩:=M.ex
  exact Zna he c hm F hr hb .nil pass0 ha (ZbG hn.1) (ZcR hn.2) ht
theorem ZcH (M:KDef X.prog X.w X.K X.mg X.base C x k ps sp) (hr:Room (k+1) X.A) (hg:Gl X x) (ha:PA X (e :: es) t) (hn:NSs (e :: es):=by repeat' (first | exact True.intro | refine ⟨?_,?_⟩)) (hd:(x == ("__debug__" : Str))=false:=by decide) :
    PE X (.Call (.Name x p) (e :: es) [] pos) (tMake C sp [] E0 t):=by
  obtain ⟨f,fd,F,M',hm,hb⟩:=M.ex
  exact Znb M' F hr hg hm hb .nil pass0 ha (hdb:=hd) (he:=ZbG hn.1) (hpl:=ZcR hn.2)
def tNo:TS:=λ_ _ _=>False
theorem ps_no {st:Stmt}:PS X st tNo:=λ_ _ _ _ _ _ h=>False.elim h
end
theorem Fun.okC {P:Program} {w:World} {K:PySem.W.Frag} {mg:Str->Option Value} {base:Heap} {x qual:Str} {st:Stmt} {f:Addr} {fd:FuncData} {N ps:List Str} {k:Nat} {sp:Sp} (F:Fun K x qual st f fd) (S:FnScope N ps (Zc st)) (len:∀ vs H Q E,sp vs H Q E->vs.length=ps.length)
    (hbody:∀ (cdv:Value) (A:Around) (outer:List Env) (s:Shared) (H:Hp) (vs:List V) (Q:VK) (E:XK),fd.code=cdv->Room k (A.deeper (envOfC qual (Zc st) s.heap.objs.size f cdv))->sp vs H Q E ->
      ∃ t,PSs (cxOf CX0 P w K mg base N qual (Zc st) f cdv A outer s H E).nox (Zm st) t/\t { nx:=λ_ H'=>Q .non H',rt:=Q } (start N vs) H):FnOk P w K mg base CX0 (k+1) f fd ps sp:=by
  obtain ⟨oc,od,kV,doc,pm,an,cdv,ct,osl,rfl,lk,hcd⟩:=F.ex
  refine fn_of lk hcd S len λA outer s H vs Q E hr hsp=>?_
  obtain ⟨t,h,q⟩:=hbody cdv A outer s H vs Q E rfl hr hsp
  exact ⟨t,h.nox,q⟩
theorem Zo {X:Cx} {K:PySem.W.Frag} {e:PySem.Expr} {f:Str} {pos:Pos} {ta:TE} (hK:X.K=K) (he:PE X e ta) (hb:attributeBase e f X.env (eval e X.env)=eval e X.env):PE X (.Attribute e f pos) (tFld K ta f):=by
  subst hK
  exact ZnW he hb
def lamB (osc:Scope) (oN:List Str) (scope:Scope) (x:Str) (fr:List Str) (js:List Nat):Bool :=
  scope.kind == .function && !scope.isCoroutine && !scope.isGenerator && scope.names.all (λy=>y.2 != .cell) && scope.names.lookup x == some .local &&
  scope.names.all (λy=>y.2 != .free || (osc.names.lookup y.1 == some .cell || osc.names.lookup y.1 == some .free)) && fr.length == js.length &&
  (js.map λj=>oN[j]?) == fr.map some && fr.all λy=>scope.names.lookup y == some .free
theorem Zmb {X:Cx} {osc:Scope} {oN:List Str} {scope:Scope} {x:Str} {fr:List Str} {js:List Nat} (h:lamB osc oN scope x fr js=true) (hs:X.env.scope=osc) (hN:X.N=oN):LamOk X scope x fr js:=by
  unfold lamB at h
  simp only [Bool.and_eq_true,all_eq_true,Bool.or_eq_true,beq_iff_eq,bne_iff_ne,ne_eq,Bool.not_eq_true'] at h
  obtain ⟨⟨⟨⟨⟨⟨⟨⟨h1,h2⟩,h3⟩,h4⟩,h5⟩,h6⟩,h7⟩,h8⟩,h9⟩:=h
  refine ⟨h1,h2,h3,h4,h5,λy hy hf=>?_,h7,λk j e=>?_,λk y e=>h9 y (mem_of_getElem? e)⟩
  . rcases h6 y hy with q | q
    . exact absurd hf q
    . show X.env.scope.names.lookup y.1=_\/X.env.scope.names.lookup y.1=_
      rw [hs]; exact q
  . rw [hN]
    have z:=congrArg (λl=>l[k]?) h8
    simp only [getElem?_map,e,Option.map_some] at z
    cases q:fr[k]? with
    | none=>rw [q] at z; cases z
    | some y=>rw [q] at z; exact (Option.some.inj z).symm
theorem Zos {A:Around} {k:Nat} {env:Env} (hr:Room k A):(A.in1.in1.deeper env).units+1<cLine:=by
  have:=hr.un
  show A.units+1+1+3+1<cLine
  omega
def ZmI (K:PySem.W.Frag) (P:Addr) (lpos:Pos) (qual:Str) (js:List Nat) (te:TE) (σ:St) (Q:VK) (x:V) (H1:Hp):Prop:=∃ (l:Addr) (ns:List Int) (key:Int->Int),x=.ref l/\SqL K H1 l (ns.map V.int)/\ns.length<64/\ns.Nodup/\H1 P=some (.tbl lpos qual) /\
  (∀ z∈ns,∀ H2,Same H1 H2->te (some (.int z) :: js.map λj=>(σ[j]?).join) H2 λv H'=>v=.int (key z)/\H'=H2) /\
  ∀ (D:Addr) (H':Hp) (os:List Int),H1 D=none->Same H1 H'->H' D=some (.lst (os.map V.int))->os.Perm ns->os.Pairwise (KLt key ns)->Q (.ref D) H'
def Zot (K:PySem.W.Frag) (P:Addr) (lpos:Pos) (qual:Str) (js:List Nat) (txs te:TE):TE:=λσ H Q=>txs σ H λx H1=>ZmI K P lpos qual js te σ Q x H1
section
variable {X:Cx}
theorem Zmc {K:PySem.W.Frag} {P c0:Addr} {k:Nat} {y:Str} {fr:List Str} {js:List Nat} {qual:Str} {params:Arguments} {body xs:PySem.Expr} {scope:Scope} {p pos lpos kpos:Pos} {txs te:TE} (hK:X.K=K) (hr:Room k X.A) (hcl:X.calm=true) (hg:Gl X "sorted") (hm:X.mg "sorted" = none)
    (c:LamOk X scope y fr js) (hc0:X.env.code=.ref c0) (hcd:PySem.W.codeHdIn X.K c0 P=true) (bm:BMod X.base X.mg) (hq:X.env.qual ++ "<lambda>" = qual) (hd0:params.defaults=[]) (hk0:params.kw_defaults=[])
    (hb:∀ cl pm cd ct u,bindArgs (PySem.W.kla_fn "<lambda>" qual params body scope cl pm cd ct) ⟨[u],[]⟩=pure [(y,u)]) (ha:PE X xs txs)
    (he:∀ f cd cl s H,PE (cxLam X X.A.in1.in1 (y :: fr) qual scope f cd cl s H) body te) (hn:NSs [xs]:=by repeat' (first | exact True.intro | refine ⟨?_,?_⟩)) :
    PE X (.Call (.Name "sorted" p) [xs] [⟨some "key",.Lambda params body scope lpos,kpos⟩] pos) (Zot K P lpos qual js txs te):=by
  subst hK
  subst hq
  intro pins s σ H Q I h
  refine wpAny_Call_Name_kw (Zcg I hg hm boot_sorted ?_ (by decide) (by decide))
  refine callWith_kw (thn ((pc ha Ze hn.1) pos pins s σ H (λvs H1=>match vs with | [x]=>ZmI X.K P lpos (X.env.qual ++ "<lambda>") js te σ Q x H1 | _=>False) I h) λus s1 ⟨vs,H1,I1,r1,q1⟩=>?_) (by rw [ZbG hn.1]; rfl) (by rw [ZbG hn.1]; rfl) rfl rfl
  match vs,r1,q1 with
  | [],_,z=>exact z.elim
  | _ :: _ :: _,_,z=>exact z.elim
  | [x],r1,q1 =>
    obtain ⟨l,ns,key,rfl,hS,h64,nd,hP,ht,q⟩:=q1
    obtain ⟨u,rfl,ru⟩:=vals1 r1
    cases ru
    show wpAny _ _ (evalAll [(do let v ← eval (.Lambda params body scope lpos) X.env; standAt pos; pure v)]) _ _ s1
    refine wpAny_evalAll_cons (wpAny_bind (ZlY c I1 hc0 hcd bm hP hd0 hk0 λf cl cd pm ct of H2 s2 I2 sm cl1 cl2 hf hof hcode=>wpAny_bind (wpAny_standAt (wpAny_pure (wpAny_evalAll_nil ?_)))))
    show wpAny _ _ (call (.builtin "sorted") [.ref l] [(Str.ofString "key",.ref f)]) _ _ s2
    refine Zma I2 (sm.seq hS) h64 nd (λz hz H3 s3 u sm3 I3 ru=>?_) λD H' os hD sm' hl po so=>q D H' os (sm.free hD) (sm.trans sm') hl po so
    have of3:=(I3.hok f _ (sm3 _ _ hf)).1
    obtain ⟨c',oc,vs',t',rfl,hc',hd',hv'⟩:=hcode
    have oc3:=(I3.hok c' _ (sm3 _ _ hc')).1
    exact ZlX (A:=X.A.in1.in1) c I3 I3.ok.frames (I3.ok.hd hcl) hr.depth cl1 cl2 of3 hof ⟨c',oc,vs',t',rfl,oc3,hd',hv'⟩ (hb cl pm _ ct) ru (λs=>he f _ cl s H3) (ht z hz H3 (sm.trans sm3))
end
end L2
namespace L2
open PySem PySem.Spec PyProof.Rows
theorem ZkM {P:Program} {w:World} {K:PySem.W.Frag} {mg mb:Str->Option Value} {CX:CXT} {k:Nat} {fa a tp c0:Addr} {pos:Pos} {qual:Str} {fd:FuncData} {x:Str} {sp:Sp} {s₁:Shared} {vs:List Value} {ns:List Int}
    (KX:K.In s₁.heap) (hns:s₁.heap.Ns mainGlobals mg) (hb:s₁.heap.Ns builtinsNs mb) (hbb:∀ x:Str,x ≠ "__name__" -> mb x=bootBuiltins x) (hlim:s₁.heap.NoLimit) (hg:s₁.gens=#[])
    (ha:s₁.heap.get? a=some { cls:=.type "list",data:=.seq vs.toArray }) (hi:IntsAre vs ns) (hl:ns.length<=sizeLine) (hr:Room k callerA)
    (htp:s₁.heap.get? tp=some { cls:=.none,data:=.fields #[] }) (hch:PySem.W.codeHdIn K c0 tp=true) (hKt:K.lookup tp=none)
    (hbm:BMod s₁.heap mg) (F:∀ base:Heap,K.In base->base.Ns mainGlobals mg->BMod base mg->FnOk P w K mg base CX k fa fd [x] sp) (hbind:∀ (s:Shared) (u:Value),BindsTo s fd ⟨[u],[]⟩ [(x,u)])
    (hsp:∀ H:Hp,H tp=some (.tbl pos qual)->SqL K H a (ns.map V.int)->sp [.ref a] H (λv _=>v=.bl true) λ_ _ _=>False)
    (hCX:∀ H e s',CX [] H s₁ (λ_ _ _=>False) e s'->False) :
    codeAny (model P w) callerA (.call (.ref fa) ⟨[.ref a],[]⟩) (λr s'=>r=.ok (.ret (.bool true))/\OldK s₁.heap s'.heap/\s'.os=s₁.os/\AllBare s'.gens) s₁:=by
  have rv:=ZcX hi
  have lenV:=hi.length
  have nat:a≠tp:=λz=>by rw [z,htp] at ha; cases ha
  have core:∀ H:Hp,H tp=some (.tbl pos qual)->SqL K H a (ns.map V.int)->HOk P w H s₁.heap->(∀ b,H b≠none->b=tp\/(b=a/\∃ o xs,H b=some (.frz o (.lst xs))))->(H a≠none->K.lookup a=none) ->
      codeAny (model P w) callerA (.call (.ref fa) ⟨[.ref a],[]⟩) (λr s'=>r=.ok (.ret (.bool true))/\OldK s₁.heap s'.heap/\s'.os=s₁.os/\AllBare s'.gens) s₁:=by
    intro H hT hS hok hA hK
    have noD:∀ {b:Addr} {o:Obj} {es:Array DictEntry} {ep:Nat},s₁.heap.get? b=some o->o.data=.dict es ep->H b=none:=λ{b o es ep} e d=>by
      cases q:H b with
      | none=>rfl
      | some u =>
        rcases hA b (by rw [q]; simp) with z | ⟨z,_⟩
        . rw [z,htp] at e
          cases e
          cases d
        . rw [z,ha] at e
          cases e
          cases d
    have nsK:∀ {b:Addr} {m:Str->Option Value},s₁.heap.Ns b m->(hidT s₁.heap H).Ns b m:=λ{b m} ⟨o,es,ep,e,d,r⟩=>⟨o,es,ep,ZfA e (noD e d),d,r⟩
    have hKb:K.In (hidT s₁.heap H):=λb o e=>ZfA (KX b o e) (by
      cases q:H b with
      | none=>rfl
      | some u =>
        rcases hA b (by rw [q]; simp) with z | ⟨z,_⟩
        . rw [z,hKt] at e
          cases e
        . have n:H a≠none:=by rw [← z,q]; simp
          rw [z,hK n] at e
          cases e)
    have hM:Mod K mg (hidT s₁.heap H):=⟨hKb,nsK hns,⟨mb,nsK hb,hbb⟩,let ⟨mc,h1,h2⟩:=hlim; ⟨mc,nsK h1,h2⟩⟩
    have e0:Env0 P w K mg (hidT s₁.heap H) callerA [] s₁ H:=⟨rfl,hM,λb o e=>ZmR e,Nat.le_of_eq (ZjX _ _),trivial,λb hb=>absurd (show b∈([]:List Addr) from hb) (by simp),hok,.of_eq hg⟩
    have hB:BMod (hidT s₁.heap H) mg:=by
      obtain ⟨b,o,a1,a2,a3,a4,a5,a6,a7⟩:=hbm
      refine ⟨b,o,a1,a2,a3,ZfA a4 ?_,a5,a6,a7⟩
      cases q:H b with
      | none=>rfl
      | some u =>
        rcases hA b (by rw [q]; simp) with z | ⟨z,_⟩
        . rw [z,htp] at a4
          cases a4
          cases a5
        . rw [z,ha] at a4
          cases a4
          have a8:Value.type "list" = Value.type "module" := a5
          injection a8 with a8
          exact absurd a8 (by decide)
    refine codeAny_mono ((F _ hKb (nsK hns) hB).run callerA [] s₁ H ⟨[.ref a],[]⟩ [.ref a] [.ref a] _ _ hr e0 (hbind s₁ (.ref a)) (.cons rfl .nil) (hsp H hT hS)) λr s' h=>?_
    cases r with
    | error e=>exact (hCX H e s' h).elim
    | ok fl =>
      cases fl with
      | next=>exact False.elim h
      | brk=>exact False.elim h
      | cont=>exact False.elim h
      | ret u =>
        obtain ⟨v,H',os,bare,un,hok',r',q⟩:=h
        have q':v=.bl true:=q
        subst q'
        obtain rfl:u=Value.bool true:=r'
        have tab:=(PySem.W.codeHd_of_K KX hch).tab htp
        have t2:=hok' tp _ (un.tbls _ _ _ hT)
        obtain ⟨ps,hps,_⟩:=t2
        have old:∀ b o,s₁.heap.get? b=some o->b≠tp->s'.heap.get? b=some o:=λb o e nb=>by
          cases q:H b with
          | none=>exact un.keep b o e q (by intro z; exact absurd (show b∈([]:List Addr) from z) (by simp)) (by simp)
          | some u =>
            rcases hA b (by rw [q]; simp) with z | ⟨_,ob,xs,z⟩
            . exact absurd z nb
            . have z2:=un.frzs b ob _ z
              obtain ⟨e1,_⟩:=hok b _ z
              obtain ⟨e2,_⟩:=hok' b _ z2
              rw [e] at e1
              cases e1
              exact e2
        refine ⟨rfl,⟨λb o e=>?_,λb o e=>?_⟩,os,bare⟩
        . by_cases nb:b=tp
          . subst nb
            rw [htp] at e
            cases e
            exact .inr (.inl ⟨tab.isCodeTable,rfl,#[],ps,rfl,by rw [hps]; simp⟩)
          . exact .inl (old b o e nb)
        . by_cases nb:b=tp
          . subst nb
            exact ⟨_,hps⟩
          . exact ⟨o,old b o e nb⟩
  have tb:∀ H:Hp,ObjOk P w H s₁.heap tp (.tbl pos qual):=λH=>⟨#[],htp,True.intro,λcv e=>by cases e⟩
  cases hk:K.lookup a with
  | some o =>
    have e:=KX a o hk
    rw [ha] at e
    cases e
    refine core (λb=>if b=tp then some (.tbl pos qual) else none) (if_pos rfl) (.inr ⟨_,vs.toArray,_,hk,rfl,rfl,rfl,by rw [List.size_toArray,lenV]; exact hl,by simpa using rv⟩) (λb u z=>?_) (λb z=>?_) λz=>absurd (if_neg nat) z
    . by_cases hb:b=tp
      . have z':=(if_pos hb).symm.trans z
        cases z'
        subst hb
        exact tb _
      . have z':=(if_neg hb).symm.trans z
        cases z'
    . by_cases hb:b=tp
      . exact .inl hb
      . exact absurd (if_neg hb) z
  | none =>
    refine core (λb=>if b=tp then some (.tbl pos qual) else if b=a then some (.frz { cls:=.type "list",data:=.seq vs.toArray } (.lst (ns.map V.int))) else none) (if_pos rfl) (.inl (.inr ⟨{ cls:=.type "list",data:=.seq vs.toArray },(if_neg nat).trans (if_pos rfl)⟩)) (λb u z=>?_) (λb z=>?_) λ_=>hk
    . by_cases hb:b=tp
      . have z':=(if_pos hb).symm.trans z
        cases z'
        subst hb
        exact tb _
      . have z':=(if_neg hb).symm.trans z
        by_cases hb2:b=a
        . have z2:=(if_pos hb2).symm.trans z'
          cases z2
          subst hb2
          exact ⟨ha,by rw [length_map]; exact hl,vs,_,rv,ha⟩
        . have z2:=(if_neg hb2).symm.trans z'
          cases z2
    . by_cases hb:b=tp
      . exact .inl hb
      . by_cases hb2:b=a
        . exact .inr ⟨hb2,_,_,(if_neg hb).trans (if_pos hb2)⟩
        . exact absurd (by show (if b=tp then _ else if b=a then _ else none)=none; rw [if_neg hb,if_neg hb2]) z
theorem Zmd {l:PySem.W.OpenLaw} {n k:Nat} {q:Program} {loose:List Str} {XP:(Str->Option Value)->Heap->Prop} {YP:World->Heap->Prop} {d:DefRec} {K:Params->PySem.W.Frag} {CX:World->CXT} {sp:World->Sp} {x:Str} {tp:Addr} {pos:Pos} {qual:Str} {G:World->Prop}
    (hn:l.most=some n) (hn2:n<=sizeLine) (hdf:d.params.defaults=[]) (hr:Room k callerA)
    (hY:∀ (w:World) (h:Heap),YP w h->(K w.params).In h/\h.get? tp=some { cls:=.none,data:=.fields #[] })
    (F:∀ (w:World) (mg:Str->Option Value) (fa:Addr) (h:Heap),(K w.params).In h->h.Ns mainGlobals mg->mg d.name=some (.ref fa) ->
      G w/\(∃ c0,PySem.W.codeHdIn (K w.params) c0 tp=true)/\(K w.params).lookup tp=none/\∃ fd:FuncData,(∀ (s:Shared) (u:Value),BindsTo s fd ⟨[u],[]⟩ [(x,u)]) /\
        ∀ base:Heap,(K w.params).In base->base.Ns mainGlobals mg->BMod base mg->FnOk l.prog w (K w.params) mg base (CX w) k fa fd [x] (sp w))
    (hsp:∀ (w:World) (H:Hp) (a:Addr) (ns:List Int),G w->ns.length<=n->H tp=some (.tbl pos qual)->SqL (K w.params) H a (ns.map V.int)->sp w [.ref a] H (λv _=>v=.bl true) λ_ _ _=>False)
    (hCX:∀ (w:World) (H:Hp) (s:Shared) (e:Value) (s':Shared),CX w [] H s (λ_ _ _=>False) e s'->False) :
    PySem.W.WalkO q loose XP YP l.row.toRowW d [] (λf vs=>PySem.call f vs):=by
  refine Att.attach_call hn hdf λw s₀ s₁ mg mb fa o pm cd doc a vs ns G' Y ho hd hcd hmg hobj hints hlen hg=>?_
  obtain ⟨KX,htp⟩:=hY w _ Y
  obtain ⟨g,⟨c0,hc⟩,hk,fd,hb,hF⟩:=F w mg fa _ KX G'.T.g hmg
  have hbm:BMod s₁.heap mg:=by
    obtain ⟨bm,ob,b1,b2,b3,b4,b5,b6⟩:=G'.T.bmain
    refine ⟨bm,ob,b1,b2,λz=>?_,b3,b4,b5,b6⟩
    obtain ⟨o,es,ep,e,hd',_⟩:=G'.T.g
    rw [z,e] at b3
    cases b3
    rw [hd'] at b6
    cases b6
  exact ZkM KX G'.T.g G'.T.b G'.T.builtins G'.T.nolimit hg hobj hints (Nat.le_trans hlen hn2) hr htp hc hk hbm hF hb (λH hT hS=>hsp w H a ns g hlen hT hS) λH e s'=>hCX w H s₁ e s'
def clsOf (K:PySem.W.Frag) (x:Str):Addr:=match PySem.W.nsIn K mainGlobals x with
  | some (some (.ref C))=>C
  | _=>0
def tabOf (K:PySem.W.Frag) (x m:Str):Addr:=match PySem.W.findIn K (.ref (clsOf K x)) m with
  | some (some (.ref f))=>(match K.lookup f with
    | some ⟨_,_,.func fd,_⟩=>(match fd.code with
      | .ref c=>(match K.lookup c with
        | some ⟨_,_,.fields vs,_⟩=>(match (vs[11]?:Option Value) with
          | some (.ref P)=>P
          | _=>0)
        | _=>0)
      | _=>0)
    | _=>0)
  | _=>0
theorem Zdd {K:PySem.W.Frag} {x:Str} {C:Addr} (h:PySem.W.nsIn K mainGlobals x=some (some (.ref C))):clsOf K x=C:=by
  unfold clsOf
  rw [h]
theorem Zme {K:PySem.W.Frag} {x m:Str} {f c P:Addr} {oc:Value} {od:Option Addr} {fd:FuncData} {sl:Array (Option Value)} (h1:PySem.W.findIn K (.ref (clsOf K x)) m=some (some (.ref f))) (h2:K.lookup f=some ⟨oc,od,.func fd,sl⟩) (h3:fd.code=.ref c)
    (h4:PySem.W.codeHdIn K c P=true):tabOf K x m=P:=by
  unfold PySem.W.codeHdIn at h4
  split at h4
  . rename_i vs _ hk
    simp only [Bool.and_eq_true] at h4
    obtain ⟨⟨⟨⟨⟨e1,_⟩,_⟩,_⟩,_⟩,_⟩:=h4
    split at e1
    . rename_i P' h11
      have hP:P'=P:=beq_iff_eq.mp e1
      subst hP
      unfold tabOf
      simp only [h1,h2,h3,hk,h11]
    . cases e1
  . cases h4
end L2
namespace L2
open PySem PySem.Spec PyProof.Rows
end L2
namespace L2
open PySem PySem.F PyProof.Rows PySem.MeetsSeq
variable {K:PySem.W.Frag} {X:Cx} {pins:List Pin} {σ:St} {H:Hp} {s:Shared}
theorem ZdK {e:PySem.Expr} {T:String} {r:V->List V->Hp->VK->Prop} {to:TE} {t:TA} (hK:X.K=K) (h:PE X e (tBM X.K T r to t)):PE X e (tBM K T r to t):=by
  subst hK; exact h
end L2
namespace L2
open PySem PySem.Calls PyProof.Rows PySem.MeetsSeq PySem.W
variable {K:PySem.W.Frag} {X:Cx} {pins:List Pin} {σ:St} {H:Hp} {s:Shared}
def Zmf:List V->Hp->VK->Prop:=λxs H Q=>∃ (d:Addr) (kvs:List (Key×V)) (ns:List Int),xs=[.ref d]/\H d=some (.dK kvs)/\kvs.map Prod.fst=ns.map Sum.inl/\ns.length<64 /\
  ∀ (D:Addr) (os:List Int),H D=none->os.Perm ns->os.Pairwise (·<=·)->Q (.ref D) (upd H D (.lst (os.map V.int)))
theorem ZkN:∀ {xs:List V} {us:List Value},xs.length=us.length->(∀ (i:Nat) x u,xs[i]?=some x->us[i]?=some u->RelV x u)->Vals xs us
  | [],[],_,_=>.nil
  | [],_ :: _,h,_=>nomatch h
  | _ :: _,[],h,_=>nomatch h
  | x :: xs,u :: us,h,k=>.cons (k 0 x u rfl rfl) (ZkN (by simpa using h) λi x' u' h1 h2=>k (i+1) x' u' (by simpa using h1) (by simpa using h2))
theorem ZmJ:∀ {kvs:List (Key×V)} {vs:List (Key×Value)},KV kvs vs->∀ {i:Nat} {p:Key×V} {q:Key×Value},kvs[i]?=some p->vs[i]?=some q->p.1=q.1
  | _,_,.nil,_,_,_,h,_=>nomatch h
  | _,_,.cons r t,0,_,_,h1,h2=>by cases h1; cases h2; exact r.1
  | _,_,.cons r t,i+1,_,_,h1,h2=>ZmJ (i:=i) t (by simpa using h1) (by simpa using h2)
theorem ZkO {P:Program} {w:World} {kvs:List (Key×V)} {vs:List (Key×Value)} {ns:List Int} {acc:Array Value} (r:KV kvs vs) (e:kvs.map Prod.fst=ns.map Sum.inl) (h:ItemsOf (λi v=>∃ k x,vs[i]?=some (k,x)/\(ZY P w).is k v=true) acc vs.length):IntsAre acc.toList ns:=by
  have lv:kvs.length=vs.length:=Paired.length r
  have ln:kvs.length=ns.length:=by have:=congrArg List.length e; simpa using this
  refine ZcF (ZkN (by have l3:acc.toList.length=acc.size:=Array.length_toList; have l4:=h.1; rw [length_map]; omega) λi x u hx hu=>?_)
  rw [Array.getElem?_toList] at hu
  obtain ⟨k,y,h1,h2⟩:=h.2 i u hu
  have hi:i<kvs.length:=by rw [lv]; exact (List.getElem?_eq_some_iff.mp h1).1
  have e1:=ZmJ r (getElem?_eq_getElem hi) h1
  have e2:(kvs.map Prod.fst)[i]?=some k:=by rw [getElem?_map,getElem?_eq_getElem hi]; exact congrArg some e1
  rw [e,getElem?_map] at e2
  rw [getElem?_map] at hx
  cases g:ns[i]? with
  | none=>rw [g] at hx; cases hx
  | some z =>
    rw [g] at hx e2
    cases hx; cases e2
    exact ZlV h2
theorem Zhb (hc:X.calm=true):CallR X (.builtin "sorted") Zmf:=by
  intro pins s σ H xs us Q I r h
  obtain ⟨d,kvs,ns,rfl,hd,hk,h64,q⟩:=h
  obtain ⟨u,rfl,rx⟩:=vals1 r
  cases rx
  obtain ⟨hz,hs,vs,rv,hD⟩:=I.hok d _ hd
  obtain ⟨ep,hat⟩:=hD.dictAt
  have hl:vs.length=ns.length:=by have l1:kvs.length=vs.length:=Paired.length rv; have l2:=congrArg List.length hk; simp at l2; omega
  refine call_function_entry kind_sorted plain_sorted entry_sorted (args_sorted1 _) ?_
  unfold Builtin.«sorted»
  refine wpAny_bind (m:=checkCount "sorted" 1 1 _) (wpAny_pure ?_)
  refine wpAny_bind (kdu_collect (A:=X.A.in1) (kdl_dict (knd:=ZY X.prog X.w) (kvs:=vs) (ep:=ep) hs) (show X.A.in1.handled=none from I.ok.hd hc) hat (by rw [sizeLine_eq]; omega) λh' tk acc hk' hacc=>?_)
  have hI:=ZkO rv hk hacc
  have la:acc.toList.length=ns.length:=by rw [Array.length_toList,hacc.1,hl]
  refine wpAny_bind (wpAny_newList ?_ (by rw [la,sizeLine_eq]; omega))
  have hoL:(h'.push (seqObj "list" acc.toList.toArray 0)).get? h'.objs.size=some (seqObj "list" acc.toList.toArray 0):=Heap.get?_push_size _ rfl
  have I1:=I.kept (t':=tk) hk'
  show wpAny _ _ _ _ _ { s with heap:=h'.push (seqObj "list" acc.toList.toArray 0),toks:=tk }
  refine wpAny_bind (wpAny_holding (wpAny_call_entry slot_list_sort ⟨_,hoL,rfl⟩ entry_list_sort (list_sort_tree hoL hI (by omega) λout ns' a1 a2 a3=>⟨_,rfl,?_⟩) (args_list_sort _)))
  refine wpAny_pure ⟨_,rfl,?_⟩
  obtain ⟨e,he⟩:=sortedHeap_at (out:=out) hoL
  have fr:H h'.objs.size=none:=I1.hok.fresh (Nat.le_refl _)
  have lo:=a2.length_eq
  refine ⟨.ref h'.objs.size,_,I1.laid (a:=h'.objs.size) (t':=tk) (o:=.lst (ns'.map V.int)) (λb o z=>?_) (Nat.le_refl _) ⟨by rw [length_map,lo,sizeLine_eq]; omega,out.toList,e,ZcX a1,he⟩,rfl,q _ ns' fr a2 a3⟩
  have z':h'.get? b=some o:=z
  have lt:=Heap.lt_size z'
  rw [sortedHeap_old (Nat.ne_of_lt lt) (by rw [size_push']; exact Nat.lt_succ_of_lt lt),Heap.get?_push_ne _ _ _ (Nat.ne_of_lt lt)]
  exact z'
theorem Zex {C:Addr} {m:Str} {k:Nat} {ps:List Str} {sp:Sp} {o:PySem.Expr} {ta:TE} {apos pos:Pos} {pl:Sem Bool} (M:MDef X.prog X.w X.K X.mg X.base C m k ps sp) (hr:Room k X.A) (c:Cls X.K C) (he:PE X o ta)
    (ht:eval (.Call (.Attribute o m apos) [] [] pos) X.env=(do
      let ov ← eval o X.env
      standAt apos.atName
      let (f,first) ← holding [ov] (getMethod ov m pl)
      callWith pos f first (backTo pos (starEach [] X.env)) (backToKw pos (keywordEach [] X.env))):=by rfl) :
    PE X (.Call (.Attribute o m apos) [] [] pos) (tMeth C m sp [] E0 ta tNil):=by
  obtain ⟨f,fd,F,hm,hb⟩:=M
  exact ZlG he c hm F hr hb .nil (λ_ _ _ _ _ _ _ z=>z.elim) ht
end L2
namespace L2
open PySem PySem.Calls PySem.Spec PyProof.Rows PySem.W
end L2
namespace L2
open PySem PySem.Calls PySem.Spec PyProof.Rows PySem.W
end L2
namespace L2
open PySem PySem.Calls PySem.Spec PyProof.Rows PySem.W
end L2
namespace L2
open PySem PySem.Calls PySem.Spec PyProof.Rows PySem.W Builtin Builtin.ObjectAttr Builtin.Getset_descriptor
end L2
namespace L2
open PySem PySem.Calls PySem.Spec PyProof.Rows PySem.W
end L2
namespace L2
open PySem PySem.Calls PySem.Spec PyProof.Rows PySem.W
end L2
namespace L2
open PySem PySem.Calls PySem.Spec PyProof.Rows PySem.W
structure ClsFn (K:PySem.W.Frag) (C:Addr) (m:Str) (f:Addr):Prop where
  ga:PySem.W.specialIn K (.ref C) "__getattribute__" = some (some (.builtin "type.__getattribute__"))
  rd:∃ mc,PySem.W.readsIn K C mc=true/\PySem.W.findCls K (.ref C) mc m=some (.val (.ref f))
  kp:PySem.W.keepIn K (.ref f)=true
structure CDef (P:Program) (w:World) (K:PySem.W.Frag) (mg:Str->Option Value) (base:Heap) (x m:Str) (k:Nat) (ps:List Str) (sp:Sp):Prop where
  ex:∃ (C f:Addr) (fd:FuncData),FnOk P w K mg base CX0 k f fd ps sp/\ClsFn K C m f/\mg x=some (.ref C)/\Binds K fd ps []
section
variable {X:Cx} {x m:Str} {p pos apos:Pos} {e o:PySem.Expr} {es:List PySem.Expr} {ta:TE} {t:TA} {k:Nat} {ps:List Str} {sp:Sp} {C:Addr}
theorem Znt {pl:Sem Bool} (M:CDef X.prog X.w X.K X.mg X.base x m k ps sp) (hr:Room k X.A) (hg:Gl X x) (ha:PA X (e :: es) t) (hn:NSs (e :: es):=by repeat' (first | exact True.intro | refine ⟨?_,?_⟩)) (hd:(x == ("__debug__" : Str))=false:=by decide)
    (ht:eval (.Call (.Attribute (.Name x p) m apos) (e :: es) [] pos) X.env=(do
      let ov ← eval (.Name x p) X.env
      standAt apos.atName
      let (f,first) ← holding [ov] (getMethod ov m pl)
      callWith pos f first (backTo pos (starEach (e :: es) X.env)) (backToKw pos (keywordEach [] X.env))):=by rfl) :
    PE X (.Call (.Attribute (.Name x p) m apos) (e :: es) [] pos) (tCall sp [] E0 t):=by
  obtain ⟨C,f,fd,F,c,hm,hb⟩:=M.ex
  obtain ⟨mc,hr1,hr2⟩:=c.rd
  intro pins s σ H Q I h
  have he:PE X (.Name x p) (tC (.ref C)):=ZmS (v:=.ref C) hg hm rfl hd
  refine PySem.W.methodCall_KW (pl:=pl) (thn (he pins s σ H (λv H1=>v=.ref C/\H1=H) I ⟨rfl,rfl⟩) λu s1 ⟨x,H1,I1,rx,e1,e2⟩=>?_) ht
  subst e1 e2
  obtain rfl:u=Value.ref C:=rx
  have I2:Inv X pins σ H1 { s1 with toks:=s1.toks+1 }:=I1.kept (t':=s1.toks+1) λb o e=>e
  refine PySem.W.method_cls I1.kIn c.ga (PySem.W.cls_value I1.kIn hr1 hr2 rfl ?_)
  refine PySem.W.callWith_K (first:=[]) (h₀:=X.base) I.ok.mod.kin c.kp (thn (ha pos pins _ σ H1 _ I2 h) λus s2 ⟨vs,H2,I3,r,q2⟩=>⟨I3.kIn,?_⟩) (ZbG hn.1) (ZcR hn.2)
  exact ZiH (us:=us) (vs:=vs) F hr hb .nil pass0 I3 r q2
end
theorem Room.m {j k:Nat} {A:Around} (r:Room k A) (h:j<=k:=by first | decide | omega):Room j A:=r.mono h
section
variable {X:Cx} {pos:Pos}
theorem pgn (i:Nat) {x:Str} (hN:X.N.Nodup) (hi:X.N[i]?=some x:=by rfl) (hx:Loc X.env.scope x:=by first | exact Or.inl rfl | exact Or.inr rfl) (hf:X.fn x=true\/X.env.scope.names.lookup x=some .local:=by first | exact .inl rfl | exact .inr rfl | assumption):PG X (.Name x pos) (gName i):=ZmT hN hi hx hf
theorem pst (i:Nat) {x:Str} {e:PySem.Expr} {te:TE} {pos':Pos} (hN:X.N.Nodup) (he:PE X e te) (hi:X.N[i]?=some x:=by rfl) (hx:Loc X.env.scope x:=by first | exact Or.inl rfl | exact Or.inr rfl) (hs:swapsWith e (some (.Name x pos')) pos.line X.env=pure false:=by rfl) (hf:X.fn x=true\/X.env.scope.names.lookup x=some .local:=by first | exact .inl rfl | exact .inr rfl | assumption):PS X (.Assign [.Name x pos'] e pos) (tAsg te (gName i)):=ZnS hN hi hx he hs hf
end
end L2
namespace L2
open PySem PySem.Spec PyProof.Rows
end L2
namespace L2
open PySem PySem.Calls PyProof.Rows PySem.MeetsSeq PySem.W PySem.Spec
def Up (xs:Array Nat):Prop:=∀ i j,i<j->(h:j<xs.size)->xs.getD i 0<xs.getD j 0
theorem ZfK (xs:Array Nat) (j:Nat):∀ (f lo hi:Nat),hi - lo<=f->lo<=hi->hi<=xs.size->(∀ i,i<lo->xs.getD i 0<j)->(∀ i,hi<=i->i<xs.size->¬ xs.getD i 0<j)->Up xs ->
    SetTable.below.go xs j f lo hi<=xs.size/\(∀ i,i<SetTable.below.go xs j f lo hi->xs.getD i 0<j)/\∀ i,SetTable.below.go xs j f lo hi<=i->i<xs.size->¬ xs.getD i 0<j
  | 0,lo,hi,h1,h2,h3,a,b,u=>by
    unfold SetTable.below.go
    have e:lo=hi:=by omega
    subst e
    exact ⟨h3,a,b⟩
  | f+1,lo,hi,h1,h2,h3,a,b,u=>by
    unfold SetTable.below.go
    by_cases c:lo<hi
    . rw [if_pos c]
      have m1:(lo+hi) / 2<hi:=by omega
      have m2:lo<=(lo+hi) / 2:=by omega
      have ms:(lo+hi) / 2<xs.size:=by omega
      have eD:xs.getD ((lo+hi) / 2) j=xs.getD ((lo+hi) / 2) 0:=by simp [Array.getD,ms]
      dsimp only
      rw [eD]
      by_cases d:xs.getD ((lo+hi) / 2) 0<j
      . rw [if_pos d]
        refine ZfK xs j f _ _ (by omega) (by omega) h3 (λi hi'=>?_) b u
        by_cases e:i=(lo+hi) / 2
        . rw [e]; exact d
        . exact Nat.lt_trans (u i _ (by omega) ms) d
      . rw [if_neg d]
        refine ZfK xs j f _ _ (by omega) m2 (by omega) a (λi h4 h5=>?_) u
        by_cases e:i=(lo+hi) / 2
        . rw [e]; exact d
        . have:=u _ i (by omega:(lo+hi) / 2<i) h5; omega
    . rw [if_neg c]
      have e:lo=hi:=by omega
      subst e
      exact ⟨h3,a,b⟩
theorem ZfL {xs:Array Nat} (j:Nat) (u:Up xs):SetTable.below xs j<=xs.size/\(∀ i,i<SetTable.below xs j->xs.getD i 0<j)/\∀ i,SetTable.below xs j<=i->i<xs.size->¬ xs.getD i 0<j :=
  ZfK xs j xs.size 0 xs.size (by omega) (Nat.zero_le _) (Nat.le_refl _) (λi h=>by omega) (λi h h'=>by omega) u
theorem ZcN {xs:List Nat} (h:xs.Pairwise (·<·)):Up xs.toArray:=λi j hij hj=>by
  have hj':j<xs.length:=by simpa using hj
  have hi':i<xs.length:=by omega
  have:=(List.pairwise_iff_getElem.mp h) i j hi' hj' hij
  simpa [Array.getD,hi',hj'] using this
theorem ZeV {xs:Array Nat} (u:Up xs):xs.toList.Pairwise (·<·):=by
  rw [List.pairwise_iff_getElem]
  intro i j hi hj hij
  have h1:i<xs.size:=by simpa using hi
  have h2:j<xs.size:=by simpa using hj
  have:=u i j hij h2; simpa [Array.getD,h1,h2] using this
theorem ZfM {α:Type} (xs:Array α) (p:Nat) (x:α) (h:p<=xs.size):(SetTable.insertAt xs p x).toList=xs.toList.take p++x :: xs.toList.drop p:=by
  unfold SetTable.insertAt
  simp [Array.toList_extract,List.extract_eq_drop_take]
  have:xs.size - p=(xs.toList.drop p).length:=by simp
  rw [this,take_length]
theorem ZkP {xs:Array Nat} {j:Nat} (u:Up xs) (hn:xs[SetTable.below xs j]?≠some j):Up (SetTable.insertAt xs (SetTable.below xs j) j):=by
  obtain ⟨a,b,c⟩:=ZfL j u
  have hl:=ZfM xs (SetTable.below xs j) j a
  have hp:=ZeV u
  generalize hq:SetTable.below xs j=p at *
  have e:SetTable.insertAt xs p j=(xs.toList.take p++j :: xs.toList.drop p).toArray:=by rw [← hl]
  rw [e]
  refine ZcN ?_
  rw [List.pairwise_append]
  refine ⟨hp.sublist (List.take_sublist _ _),?_,?_⟩
  . rw [pairwise_cons]
    refine ⟨λy hy=>?_,hp.sublist (List.drop_sublist _ _)⟩
    obtain ⟨i,hi,rfl⟩:=List.mem_iff_getElem.mp hy
    rw [List.getElem_drop]
    have hi':p+i<xs.size:=by simp at hi; omega
    have h1:=c (p+i) (by omega) hi'
    have e1:xs.getD (p+i) 0=xs[p+i]:=by simp [Array.getD,hi']
    rw [e1] at h1
    show j<xs.toList[p+i]
    rw [Array.getElem_toList]
    rcases Nat.lt_or_ge j xs[p+i] with h | h
    . exact h
    . exfalso
      have e2:xs[p+i]=j:=by omega
      by_cases h0:i=0
      . subst h0
        exact hn (by rw [Array.getElem?_eq_getElem (show p<xs.size by omega)]; exact congrArg some e2)
      . have h3:=u p (p+i) (by omega) hi'
        have h4:=c p (Nat.le_refl _) (by omega)
        rw [e1] at h3
        omega
  . intro y hy z hz
    obtain ⟨i,hi,rfl⟩:=List.mem_iff_getElem.mp hy
    rw [List.getElem_take]
    have hip:i<p:=by simp at hi; omega
    have his:i<xs.size:=by omega
    have h1:=b i hip
    have e1:xs.getD i 0=xs[i]:=by simp [Array.getD,his]
    rw [e1] at h1
    rw [Array.getElem_toList]; rcases List.mem_cons.mp hz with rfl | hz
    . exact h1
    . obtain ⟨k,hk,rfl⟩:=List.mem_iff_getElem.mp hz
      rw [List.getElem_drop]
      have hk':p+k<xs.size:=by simp at hk; omega
      have:=u i (p+k) (by omega) hk'
      rw [e1] at this
      have e3:xs.getD (p+k) 0=xs[p+k]:=by simp [Array.getD,hk']
      rw [e3] at this
      rw [Array.getElem_toList]
      exact this
def Ris (t:SetTable):Prop:=Up t.place/\t.dummies=#[]
theorem Zmg (n:Nat):Up (Array.range n):=λi j hij hj=>by
  have hj':j<n:=by simpa using hj
  have hi':i<n:=by omega
  simpa [Array.getD,hi',hj'] using hij
theorem Zde (t:SetTable) (n:Nat):Ris (t.standIn n):=⟨Zmg n,rfl⟩
theorem ZiZ (t:SetTable) (f:Nat->Int) (h:Int) (hd:t.dummies=#[]):∀ (fu:Nat) (p:SetTable.Probe),p.dummy=none->∀ j d,SetTable.probe.go t f h fu p=some (.empty j d)->d=none/\t.place[SetTable.below t.place j]?≠some j
  | 0,p,h0,j,d,e=>by simp [SetTable.probe.go] at e
  | fu+1,p,h0,j,d,e=>by
    unfold SetTable.probe.go at e
    have ha:∀ q:SetTable.Probe,q.dummy=none->(t.advance q).dummy=none:=λq hq=>by
      unfold SetTable.advance
      split
      . exact hq
      . exact hq
    cases hs:t.slot p.j with
    | empty =>
      rw [hs] at e
      simp only [Option.some.injEq,SetTable.Met.empty.injEq] at e
      obtain ⟨rfl,rfl⟩:=e
      refine ⟨h0,λz=>?_⟩
      unfold SetTable.slot at hs
      simp [z] at hs
    | dummy =>
      exfalso
      unfold SetTable.slot at hs
      dsimp only at hs
      split at hs
      . cases hs
      . rw [hd] at hs
        simp [SetTable.has] at hs
    | live i =>
      rw [hs] at e
      dsimp only at e
      split at e
      . cases e
      . exact ZiZ t f h hd fu _ (ha p h0) j d e
theorem Znu {t:SetTable} (r:Ris t) (es:Array (Int×Value)) (h:Int) (x:Value):Ris (layNew t es h x).2.1/\(layNew t es h x).2.1.led=t.led:=by
  unfold layNew
  cases hf:t.freeSlot h with
  | none=>exact ⟨Zde _ _,rfl⟩
  | some q =>
    obtain ⟨slot,was⟩:=q
    dsimp only
    have key:Ris (t.put slot).1/\(t.put slot).1.led=t.led:=by
      refine ⟨⟨?_,?_⟩,rfl⟩
      . refine ZkP r.1 ?_
        unfold SetTable.freeSlot SetTable.probe at hf
        cases hg:SetTable.probe.go t (λ_=>h+1) h (10 * SetTable.turns t.mask) (t.probeStart h) with
        | none=>rw [hg] at hf; cases hf
        | some m =>
          rw [hg] at hf
          cases m with
          | candidate a b c=>cases hf
          | empty j d =>
            obtain ⟨rfl,hn⟩:=ZiZ t _ h r.2 _ _ rfl j d hg
            dsimp only at hf
            simp at hf
            obtain ⟨rfl,_⟩:=hf
            exact hn
      . show (if SetTable.has t.dummies slot=true then _ else t.dummies)=#[]
        rw [r.2]
        simp [SetTable.has]
    unfold SetTable.orStandIn
    split
    . exact key
    . exact ⟨Zde _ _,key.2⟩
theorem ZkQ {t:SetTable} (r:Ris t) (es:Array (Int×Value)) (n:Nat):Ris (relayAll t es n).2.1/\(relayAll t es n).2.1.led=t.led:=by
  unfold relayAll
  cases hl:t.relaid (es.map (·.1)) n with
  | none=>exact ⟨Zde _ _,rfl⟩
  | some q =>
    obtain ⟨t',order⟩:=q
    dsimp only
    have key:Ris t'/\t'.led=t.led:=by
      unfold SetTable.relaid SetTable.laid at hl
      cases ho:SetTable.layClean (SetTable.sizeAbove n - 1) (es.map (·.1)) with
      | none=>rw [ho] at hl; cases hl
      | some owner =>
        rw [ho] at hl
        have e:=(Prod.mk.inj (Option.some.inj hl)).1
        rw [← e]
        refine ⟨⟨?_,rfl⟩,rfl⟩
        refine ZcN ?_
        rw [List.pairwise_map,List.pairwise_filterMap]
        refine List.Pairwise.imp ?_ List.pairwise_lt_range
        intro a b hab c hc d hd
        simp only [Option.map_eq_some_iff] at hc hd
        obtain ⟨_,_,rfl⟩:=hc
        obtain ⟨_,_,rfl⟩:=hd
        exact hab
    split
    . exact key
    . exact ⟨Zde _ _,rfl⟩
theorem ZkR {α:Type} (f:Nat->Nat):∀ (n k:Nat) (left:List α) (out:Array α),left.length=n->(pickOrder.go f n k left out).toList.Perm (out.toList++left)
  | 0,k,left,out,h=>by
    have:left=[]:=List.eq_nil_of_length_eq_zero h
    subst this
    simp [pickOrder.go]
  | n+1,k,left,out,h=>by
    unfold pickOrder.go
    have hm:f k % left.length<left.length:=Nat.mod_lt _ (by omega)
    rw [getElem?_eq_getElem hm]
    dsimp only
    refine (ZkR f n (k+1) _ _ (by rw [List.length_eraseIdx,if_pos hm]; omega)).trans ?_
    rw [Array.toList_push,append_assoc]
    refine List.Perm.append_left _ ?_; show (left[f k % left.length] :: left.eraseIdx (f k % left.length)).Perm left
    generalize f k % left.length=i at hm ⊢
    have e:left.take i++left[i] :: left.drop (i+1)=left:=by rw [← List.drop_eq_getElem_cons hm,List.take_append_drop]
    rw [List.eraseIdx_eq_take_drop_succ]
    exact List.perm_middle.symm.trans (List.Perm.of_eq e)
theorem ZkS {α:Type} (f:Nat->Nat) (xs:Array α):(pickOrder f xs).toList.Perm xs.toList:=by
  have:=ZkR f xs.size 0 xs.toList #[] (by simp)
  simpa [pickOrder] using this
def kOf:Int×Value->Int:=λe=>match e.2 with | .int k _=>k | _=>0
structure SetG (P:Program) (w:World) (o:Obj) (es:Array (Int×Value)) (ep:Nat) (t:SetTable):Prop where
  ex:o.ExactSet
  dat:o.data=.set es ep t
  el:ElemsOf (intKind P w) es.toList
  nd:(es.toList.map kOf).Nodup
  fit:t.fits es.size=true
  ris:Ris t
  led:w.params.followText "set-order" = true\/t.led=true
  lit:es.size<scanBound
section
variable {P:Program} {w:World} {A:Around} {E:Value->Shared->Prop} {s:Shared} {a:Addr} {o:Obj} {es:Array (Int×Value)} {ep:Nat} {t:SetTable}
theorem ZmK {e:Int×Value} {k:Int} (h:(intKind P w).is k e.2=true):kOf e=k:=by
  obtain ⟨tk,q⟩:=Value.isInt_shape (show Value.isInt k e.2=true from h)
  unfold kOf; rw [q]
theorem ZmL {e:Int×Value} (h:(∃ k,(intKind P w).is k e.2=true/\e.1=(intKind P w).hash k)/\e.2.scannable=true):(intKind P w).is (kOf e) e.2=true:=by
  obtain ⟨⟨k,q,_⟩,_⟩:=h
  rw [ZmK q]; exact q
theorem SetG.store (ho:s.heap.get? a=some o) (hx:o.ExactSet) (hd:o.data=.set es ep t) {es':Array (Int×Value)} {t':SetTable} (el:ElemsOf (intKind P w) es'.toList) (nd:(es'.toList.map kOf).Nodup) (f:t'.fits es'.size=true) (r:Ris t')
    (l:w.params.followText "set-order" = true\/t'.led=true) (b:es'.size<scanBound) :
    (s.heap.update a (Obj.putSet es' t')).get? a=some { o with data:=.set es' (ep+1) t' }/\SetG P w { o with data:=.set es' (ep+1) t' } es' (ep+1) t' :=
  ⟨(SetOf_store (knd:=intKind P w) (S':=λk=>decide (∃ e∈es'.toList,(intKind P w).is k e.2=true)) ho hx hd el (λk=>by simp) b f).1,⟨hx,rfl,el,nd,f,r,l,b⟩⟩
theorem addG {k:Int} {tk:Tok} {Q:Bool->Shared->Prop} (ho:s.heap.get? a=some o) (g:SetG P w o es ep t) (hr:es.size+1<scanBound)
    (h:∀ b h' o' es' ep' t',Heap.SameBut a s.heap h'->h'.get? a=some o'->SetG P w o' es' ep' t'->es'.size<=es.size+1->(∀ k',k'∈es'.toList.map kOf↔k'∈es.toList.map kOf\/k'=k)->Q b { s with heap:=h' }) :
    wpAny (model P w) A (setAddHashed a (.int k tk) ((intKind P w).hash k)) Q E s:=by
  have hk:(intKind P w).is k (.int k tk)=true:=intKind_is _ _ _ _
  have sc:(Value.int k tk).scannable=true:=rfl
  unfold setAddHashed setAddHashedIn; refine wpAny_holding (wpAny_bind (wpAny_setState_of ho g.dat g.fit ?_)); dsimp only
  rw [byScan_of sc g.lit g.el,if_pos rfl]
  unfold setAddByScan
  refine wpAny_bind (wpAny_bind (wpAny_rule (wpAny_bind (wpAny_setScan_of hk ho g.dat g.fit g.el ?_))))
  cases hf:List.findIdx? (λe=>(intKind P w).is k e.2) es.toList with
  | some j =>
    refine wpAny_pure (wpAny_pure ?_); obtain ⟨hj,pj,_⟩:=List.findIdx?_eq_some_iff_getElem.mp hf
    have hm:k∈es.toList.map kOf:=List.mem_map.mpr ⟨_,getElem_mem hj,ZmK pj⟩
    exact h _ s.heap o es ep t (Heap.SameBut.refl a s.heap) ho g (Nat.le_succ _) λk'=>⟨.inl,λz=>z.elim id λe=>e ▸ hm⟩
  | none =>
    dsimp only
    have hno:k∉es.toList.map kOf:=λz=>by
      obtain ⟨e,he,q⟩:=List.mem_map.mp z
      have:=List.findIdx?_eq_none_iff.mp hf e he
      rw [← q,ZmL (g.el e he)] at this; cases this
    have hp:=layNew_perm t es ((intKind P w).hash k) (.int k tk)
    have hfit:=layNew_fits t es ((intKind P w).hash k) (.int k tk)
    have hris:=Znu g.ris es ((intKind P w).hash k) (.int k tk)
    generalize layNew t es ((intKind P w).hash k) (.int k tk)=L at hp hfit hris ⊢
    obtain ⟨es1,t1,was,gave⟩:=L
    dsimp only at hp hfit hris ⊢
    rw [Array.toList_push] at hp
    have el1:ElemsOf (intKind P w) es1.toList:=(g.el.push hk sc).perm hp
    have mp:=hp.map kOf
    rw [map_append,map_cons,map_nil,show kOf ((intKind P w).hash k,Value.int k tk)=k from rfl] at mp
    have nd1:(es1.toList.map kOf).Nodup:=mp.nodup_iff.mpr (by
      rw [List.nodup_append]
      exact ⟨g.nd,by simp,λx hx y hy e=>hno (by rw [mem_singleton] at hy; rw [← hy,← e]; exact hx)⟩)
    have sz1:es1.size=es.size+1:=by rw [← Array.length_toList,hp.length_eq,length_append,Array.length_toList]; rfl
    have l1:w.params.followText "set-order" = true\/t1.led=true:=g.led.imp id λz=>by rw [hris.2]; exact z
    have mem1:∀ k',k'∈es1.toList.map kOf↔k'∈es.toList.map kOf\/k'=k:=λk'=>by rw [mp.mem_iff]; simp
    have gw:∀ (b:Bool) {s₁:Shared} {Q':Unit->Shared->Prop},Q' () s₁->wpAny (model P w) A (match b with | true=>rule "set.scan.the-table-gave-way" | false=>pure ()) Q' E s₁:=λb s₁ Q' hq=>by
      cases b
      . exact wpAny_pure hq
      . exact wpAny_rule hq
    refine wpAny_bind (gw _ ?_)
    have pl:hashByValue 8 (.int k tk)=pure true:=hashByValue_scannable 8 sc
    have fin:∀ (X:Sem (Option Bool)),X=(do storeSet a es1 t1; (if (!was && t1.tooFull)=true then do (match (relayAll t1 es1 (SetTable.grown es1.size)).2.2 with | true=>rule "set.scan.the-table-gave-way" | false=>pure ()); storeSet a (relayAll t1 es1 (SetTable.grown es1.size)).1 (relayAll t1 es1 (SetTable.grown es1.size)).2.1; pure (some true) else pure (some true))) ->
        wpAny (model P w) A X (λr s'=>wpAny (model P w) A (match r with | some added=>pure added | none=>setAddHashedIn a (.int k tk) ((intKind P w).hash k) 99999) Q E s') E s:=by
      rintro X rfl
      refine wpAny_bind (wpAny_storeSet_of ho g.dat ?_ (fits_of_scanBound (by omega)))
      obtain ⟨ho1,g1⟩:=SetG.store (P:=P) (w:=w) (s:=s) ho g.ex g.dat el1 nd1 hfit hris.1 l1 (by omega)
      have sb1:=Heap.SameBut.update s.heap a (Obj.putSet es1 t1)
      split
      . have hp2:=relayAll_perm t1 es1 (SetTable.grown es1.size)
        have hf2:=relayAll_fits t1 es1 (SetTable.grown es1.size)
        have hr2:=ZkQ hris.1 es1 (SetTable.grown es1.size)
        generalize relayAll t1 es1 (SetTable.grown es1.size)=L2 at hp2 hf2 hr2 ⊢
        obtain ⟨es2,t2,gave2⟩:=L2
        dsimp only at hp2 hf2 hr2 ⊢
        have sz2:es2.size=es1.size:=by rw [← Array.length_toList,hp2.length_eq,Array.length_toList]
        refine wpAny_bind (gw _ (wpAny_bind (wpAny_storeSet_of ho1 rfl (wpAny_pure ?_) (fits_of_scanBound (by omega)))))
        obtain ⟨ho2,g2⟩:=SetG.store (P:=P) (w:=w) (s:={ s with heap:=s.heap.update a (Obj.putSet es1 t1) }) ho1 g.ex rfl (el1.perm hp2) ((hp2.map kOf).nodup_iff.mpr nd1) hf2 hr2.1 (l1.imp id λz=>by rw [hr2.2]; exact z) (by omega)
        exact wpAny_pure (h _ _ _ _ _ _ (sb1.trans (Heap.SameBut.update _ a _)) ho2 g2 (by omega) λk'=>(hp2.map kOf).mem_iff.trans (mem1 k'))
      . exact wpAny_pure (wpAny_pure (h _ _ _ _ _ _ sb1 ho1 g1 (by omega) mem1))
    split
    . refine wpAny_bind ?_
      rw [pl]
      refine wpAny_pure ?_
      rw [if_pos rfl]
      exact fin _ rfl
    . refine wpAny_bind (wpAny_pure ?_); rw [if_pos rfl]
      exact fin _ rfl
end
def GSet (P:Program) (w:World) (h:Heap) (a:Addr) (ns:List Int):Prop:=∃ o es ep t,h.get? a=some o/\SetG P w o es ep t/\es.size<=ns.length/\∀ k,k∈es.toList.map kOf↔k∈ns
theorem GSet.at {P:Program} {w:World} {h h':Heap} {a:Addr} {ns:List Int} (x:GSet P w h a ns) (k:∀ o,h.get? a=some o->h'.get? a=some o):GSet P w h' a ns:=by
  obtain ⟨o,es,ep,t,ho,r⟩:=x
  exact ⟨o,es,ep,t,k o ho,r⟩
section
variable {P:Program} {w:World} {A:Around} {R:Result->Shared->Prop} {I:Addr} {fp wr:List Addr} {G:Array GenState->Array GenState->Prop} {St:Nat->Shared->Prop} {ns:List Int} {Pv:Nat->Value->Prop}
theorem loopG (W:WalksS P w A.in1 I fp wr G ns.length Pv St) (S:Addr) (hS:S∉fp) (hv:∀ i v,Pv i v->∃ t,v=.int (ns.getD i 0) t) (hb:ns.length+1<scanBound) :
    ∀ (k i:Nat) (s:Shared),ns.length - i=k->i<=ns.length->St i s->GSet P w s.heap S (ns.take i) ->
      (∀ s',Moved (S :: wr) G s s'->GSet P w s'.heap S ns->R (.ok (.ret .none)) s') ->
      codeAny (model P w) A (.builtin "set.update.loop" ⟨[.ref S,.ref I],[]⟩) R s:=by
  have sw:S∉wr:=λh=>hS (W.sub _ h)
  have up:∀ b∈wr,b∈S :: wr:=λb h=>mem_cons_of_mem _ h
  intro k
  induction k with
  | zero =>
    intro i s hk hi st g hR
    obtain rfl:i=ns.length:=by omega
    refine codeAny_builtin F.entry_set_update_loop ?_; rw [Around.under_plainId F.plain_set_update_loop _]
    show wpAny _ A.in1 (pyNext (.ref I) >>= _) _ _ s; refine wpAny_bind (W.done s _ _ st λs' m=>?_)
    show wpAny _ A.in1 (ret Value.none) _ _ s'; rw [take_length] at g
    exact wpAny_pure (hR s' (m.mono up) (g.at λo e=>m.heap S o sw e))
  | succ k ih =>
    intro i s hk hi st g hR
    have lt:i<ns.length:=by omega
    refine codeAny_builtin F.entry_set_update_loop ?_; rw [Around.under_plainId F.plain_set_update_loop _]
    show wpAny _ A.in1 (pyNext (.ref I) >>= _) _ _ s; refine wpAny_bind (W.item i s _ _ lt st λv s' hP st' m=>?_)
    obtain ⟨t,rfl⟩:=hv i v hP
    obtain ⟨o,es,ep,tb,ho,g',sz,mem⟩:=g.at (h':=s'.heap) λo e=>m.heap S o sw e
    have sz':es.size<=i:=by rw [length_take] at sz; omega
    show wpAny _ A.in1 (holding [Value.int (ns.getD i 0) t] (setAdd S (.int (ns.getD i 0) t)) >>= _) _ _ s'
    refine wpAny_bind (wpAny_holding ?_); unfold setAdd
    refine wpAny_holding (wpAny_bind ((intKind P w).pyHash (k:=ns.getD i 0) (intKind_is _ _ _ _) ?_))
    refine addG (s:={ s' with toks:=s'.toks+1 }) ho g' (by omega) λb h' o' es' ep' t' sb ho' g2 sz2 mem2=>?_
    have et:ns.take (i+1)=ns.take i++[ns.getD i 0]:=by rw [List.take_succ_eq_append_getElem lt]; simp [List.getD,lt]
    have gi:GSet P w h' S (ns.take (i+1)):=⟨o',es',ep',t',ho',g2,by rw [length_take]; omega,λk'=>by rw [mem2 k',mem k',et]; simp⟩
    refine wpAny_pure ⟨plainId_quiet F.plain_set_update_loop _,ih (i+1) _ (by omega) lt (W.frame _ s' _ _ st' (Nat.le_succ _) λb hb o e=>?_) gi λs'' m'' gs=>?_⟩
    . rw [sb.2 b (λh:b=S=>hS (h ▸ hb))]; exact e
    . refine hR s'' (Moved.trans W.gtrans ((m.mono up).then_heap (Nat.le_succ _) λb o hb e=>?_) m'') gs
      rw [sb.2 b (λh:b=S=>hb (h ▸ mem_cons_self))]; exact e
end
section
variable {P:Program} {w:World} {A:Around} {E:Value->Shared->Prop} {s:Shared}
theorem newG (a:Value) {Q:Value->Shared->Prop} (h:∀ led:Bool,(w.params.followText "set-order" = true\/led=true)->Q (.ref s.heap.objs.size) { s with heap:=s.heap.push { cls:=.type "set",dict:=none,data:=.set #[] 0 (.fresh 0 0 led) } }) :
    codeAny (model P w) A (.call (.builtin "set.__new__") ⟨[.type "set",a],[]⟩) (wants Q E) s:=by
  refine codeAny_of_tree ?_
  show wpAny _ A.in1 (checkBuiltinCall "set.__new__" ⟨[.type "set",a],[]⟩ >>= λ_=>again (.builtin "set.__new__" ⟨[.type "set",a],[]⟩)) _ _ s
  refine wpAny_bind (wpAny_of_eq (F.newCall_set_1 a) (wpAny_pure ⟨plainId_quiet F.plain_set_new _,codeAny_builtin F.entry_set_new ?_⟩)); rw [Around.under_plainId F.plain_set_new _]
  unfold Builtin.«set.__new__» Builtin.Frozenset.newClass; have hsub:=sub_set_self
  obtain ⟨hp,g,d,tk,os⟩:=s; dsimp only
  wp_walk
  refine wpAny_askSetting (wpAny_pure ?_); dsimp only; simp only [newObj]
  refine wpAny_bind (wpAny_alloc (wpAny_pure (wpAny_pure (h _ ?_))))
  cases e:w.params.followText "set-order"
  . exact .inr (by show (!(w.params.followText "set-order"))=true; rw [e]; rfl)
  . exact .inl rfl
theorem callG {l:Addr} {items:Array Value} {ns:List Int} {Q:Value->Shared->Prop} (hh:A.handled=none) (hl:s.heap.IsList l items) (hi:IntsAre items.toList ns) (hb:ns.length+1<scanBound)
    (h:∀ (h':Heap) (tk:Nat),GSet P w h' s.heap.objs.size ns->(∀ b o,b<s.heap.objs.size->s.heap.get? b=some o->h'.get? b=some o)->Q (.ref s.heap.objs.size) { s with heap:=h',toks:=tk }) :
    wpAny (model P w) A (call (.type "set") [.ref l]) Q E s:=by
  obtain ⟨c,tl,hmro⟩:=F.called_set.mro; have hmade:=F.called_set.made
  have hsub:=F.called_set.sub; refine wpAny_call (codeAny_of_tree ?_)
  show wpAny _ _ (callAny (.type "set") _) _ _ _; refine wpAny_pure ⟨Code.quiet_builtin _ (by decide +kernel),codeAny_builtin F.entry_type_call ?_⟩
  rw [Around.under_plain (weight_type_call_type "set" [.ref l] []) rfl]; have h1:=F.called_set.notType; have h2:=F.called_set.canCreate; have hct:=F.typeCall_set_1 (.ref l)
  (repeat (any_goals (first | assumption | wp_step)))
  refine codeAny_mono (newG (.ref l) (E:=E) (Q:=λobj s₁=>∃ led:Bool,(w.params.followText "set-order" = true\/led=true)/\obj=.ref s.heap.objs.size/\s₁={ s with heap:=s.heap.push { cls:=.type "set",dict:=none,data:=.set #[] 0 (.fresh 0 0 led) } }) λled z=>⟨led,z,rfl,rfl⟩) λr s₁ hr=>?_
  cases r with
  | error e=>exact hr
  | ok fl =>
    cases fl with
    | ret obj =>
      obtain ⟨led,hled,rfl,rfl⟩:=hr
      generalize ez:({ cls:=.type "set",dict:=none,data:=.set #[] 0 (.fresh 0 0 led) }:Obj)=z
      have hS:(s.heap.push z).get? s.heap.objs.size=some z:=Heap.get?_push_size _ (by rw [← ez]; rfl)
      have hT:Shared.TypeIs { s with heap:=s.heap.push z } (.ref s.heap.objs.size) "set" := ⟨_,hS,by rw [← ez]⟩
      have g0:GSet P w (s.heap.push z) s.heap.objs.size []:=⟨z,#[],0,.fresh 0 0 led,hS,⟨by rw [← ez]; exact ⟨rfl,rfl,rfl⟩,by rw [← ez],λe he=>by simp at he,by simp,rfl,⟨λi j _ hj=>by simp [SetTable.fresh] at hj,rfl⟩,hled,by decide⟩,Nat.le_refl _,λk=>by simp⟩
      have hli:=F.called_set.init.lookup; have hbi:=F.called_set.init.bind (.ref s.heap.objs.size)
      (repeat (any_goals (first | assumption | wp_step)))
      refine codeAny_mono (codeAny_call_builtin (R:=wants (λr s₂=>r=.none/\∃ h' tk,s₂={ s with heap:=h',toks:=tk }/\GSet P w h' s.heap.objs.size ns/\∀ b o,b<s.heap.objs.size->s.heap.get? b=some o->h'.get? b=some o) E) F.called_set.init.plain F.entry_set_init (check_set_init_1 hT ?_)) λr₂ s₂ hr₂=>?_
      . obtain ⟨ol,hol,hcl,nl,hdl⟩:=hl; obtain ⟨ocls,odict,odata,oslots⟩:=ol
        simp only at hcl hdl
        subst hcl; subst hdl
        have hol':=Heap.get?_push_of_some z hol
        have hsls:=F.sub_list_set; have hslf:=F.sub_list_frozenset
        have hne:(Value.type "list" == Value.type "dict")=false:=(by decide)
        have hl1:(s.heap.push z).IsList l items:=⟨_,hol',rfl,nl,rfl⟩
        subst ez
        unfold Builtin.«set.__init__» noKeywords Builtin.Frozenset.updateFrom; generalize hPI:pyIter=PI
        wp_walk
        subst hPI
        refine wpAny_pyIter_list hl1 ?_; refine wpAny_bind (wpAny_runValue ?_)
        generalize ez:({ cls:=.type "set",dict:=none,data:=.set #[] 0 (.fresh 0 0 led) }:Obj)=z at *
        have lS:l<s.heap.objs.size:=Heap.lt_size hol
        have h3:A.in1.in1.in1.handled=none:=by simp [hh]
        have sz:(s.heap.push z).objs.size=s.heap.objs.size+1:=Heap.size_push _ _
        have nI:l≠(s.heap.push z).objs.size:=by rw [sz]; exact Nat.ne_of_lt (Nat.lt_succ_of_lt lS)
        have hSf:s.heap.objs.size∉[(s.heap.push z).objs.size,l]:=by
          rw [sz]; simp only [mem_cons,not_mem_nil,or_false,not_or]
          exact ⟨Nat.ne_of_lt (Nat.lt_succ_self _),Nat.ne_of_gt lS⟩
        have hv:∀ (i:Nat) (v:Value),items[i]?=some v->∃ t,v=.int (ns.getD i 0) t:=λi v q=>IntsAre.int_at hi i v (by rw [Array.getElem?_toList]; exact q)
        have ln:items.size=ns.length:=by rw [← Array.length_toList]; exact IntsAre.length hi
        have W:=(Walks.list (prog:=P) (w:=w) h3 _ l nI items).toS
        rw [ln] at W
        refine loopG W s.heap.objs.size hSf hv hb (ns.length - 0) 0 _ (by omega) (Nat.zero_le _) ⟨⟨_,Heap.get?_push_size _ rfl,rfl,rfl⟩,hl1.push _⟩ (g0.at λo e=>Heap.get?_push_of_some _ e) λs' m gs=>?_
        rw [Moved.eq_with m]
        refine wpAny_pure ?_
        show wpAny _ _ (ret Value.none) _ _ _; refine wpAny_pure ⟨rfl,s'.heap,s'.toks,rfl,gs,λb o hb' e=>?_⟩
        refine m.heap b o ?_ (Heap.get?_push_of_some _ (Heap.get?_push_of_some _ e))
        rw [sz]; simp only [mem_cons,not_mem_nil,or_false,not_or]
        exact ⟨Nat.ne_of_lt hb',Nat.ne_of_lt (Nat.lt_succ_of_lt hb')⟩
      . cases r₂ with
        | error e=>exact hr₂
        | ok fl₂ =>
          cases fl₂ with
          | ret r =>
            obtain ⟨rfl,h',tk,rfl,gs,hk⟩:=hr₂
            (repeat (any_goals (first | assumption | wp_step)))
            exact h _ _ gs hk
          | _=>exact hr₂.elim
    | _=>exact hr.elim
end
theorem ZeW:entryFor table "set.__iter__" = some Builtin.«frozenset.__iter__»:=entryFor_alias (id' := "frozenset.__iter__") (by kernel_rfl) rfl (by decide +kernel) (by kernel_rfl)
theorem Zja:Manifest.owners.lookup (String.ofList ['r','o','t','a','r','e','t','i','_','t','e','s'].reverse)=some Manifest.sig_set_iterator:=by kernel_rfl
theorem si_slot_next:Slot "set_iterator" "__next__" "set_iterator.__next__" := .of (owner := "set_iterator") (n := "__next__") (by rw [typeLookup_type,builtinLookup_eq_fast]; kernel_rfl) (by decide +kernel) (by decide +kernel) (by decide +kernel) (.inl (by decide +kernel)) (by rw [isSubtype_type]; kernel_rfl)
theorem Zdf:entryFor table "set_iterator.__next__" = some Builtin.«set_iterator.__next__»:=entryFor_of_tree (by kernel_rfl)
theorem ZdL (a:Value):argsOk "set_iterator.__next__" ⟨[a],[]⟩:=by unfold argsOk; rw [signature?_of (id := "set_iterator.__next__") (n:=['_','_','t','x','e','n','_','_']) (o:=['r','o','t','a','r','e','t','i','_','t','e','s']) (by kernel_rfl) Zja]; kernel_rfl
theorem ZdM:Slot "set_iterator" "__iter__" "set_iterator.__iter__" := .of (owner := "set_iterator") (n := "__iter__") (by rw [typeLookup_type,builtinLookup_eq_fast]; kernel_rfl) (by decide +kernel) (by decide +kernel) (by decide +kernel) (.inl (by decide +kernel)) (by rw [isSubtype_type]; kernel_rfl)
theorem ZfN:entryFor table "set_iterator.__iter__" = some Builtin.«dict_keyiterator.__iter__»:=entryFor_alias (id' := "dict_keyiterator.__iter__") (by kernel_rfl) rfl (by decide +kernel) (by kernel_rfl)
theorem Zhc (a:Value):argsOk "set_iterator.__iter__" ⟨[a],[]⟩:=by unfold argsOk; rw [signature?_of (id := "set_iterator.__iter__") (n:=['_','_','r','e','t','i','_','_']) (o:=['r','o','t','a','r','e','t','i','_','t','e','s']) (by kernel_rfl) Zja]; kernel_rfl
theorem Zou:typeLookup (.type "set") "__len__" = pure (some (.builtin "set.__len__")):=F.slot_set_len.lookup
section
variable {P:Program} {w:World} {A:Around} {E:Value->Shared->Prop} {s:Shared} {a:Addr} {o:Obj} {es:Array (Int×Value)} {ep:Nat} {t:SetTable}
theorem ZjI {src:Source} {n:Nat} {Q:Nat->Shared->Prop} (hn:n≠0) (h:∀ i d,i<n->Q i { s with drawn:=d }):wpAny (model P w) A (choose src n) Q E s :=
  λΓ p hΓ=>⟨hn,h _ _ (Nat.mod_lt _ (Nat.pos_of_ne_zero hn))⟩
theorem ZkT {α:Type}:∀ (n:Nat) (xs:List α) (s:Shared) (Q:List α->Shared->Prop),xs.length=n->(∀ ys d,ys.Perm xs->Q ys { s with drawn:=d })->wpAny (model P w) A (drawOrder n xs) Q E s
  | 0,xs,s,Q,h,k=>by
    have:xs=[]:=List.eq_nil_of_length_eq_zero h
    subst this
    unfold drawOrder
    exact wpAny_pure (k [] s.drawn .nil)
  | n+1,[],s,Q,h,k=>nomatch h
  | n+1,x :: xs,s,Q,h,k=>by
    unfold drawOrder
    refine wpAny_bind (ZjI (by simp) λi d hi=>?_)
    rw [getElem?_eq_getElem hi]
    dsimp only
    refine wpAny_bind (ZkT n _ _ _ (by rw [List.length_eraseIdx,if_pos hi,h]; rfl) λys d' hp=>wpAny_pure (k _ d' ?_))
    have e:(x :: xs).take i++(x :: xs)[i] :: (x :: xs).drop (i+1)=x :: xs:=by rw [← List.drop_eq_getElem_cons hi,List.take_append_drop]
    refine (hp.cons _).trans ?_
    rw [List.eraseIdx_eq_take_drop_succ]
    exact List.perm_middle.symm.trans (List.Perm.of_eq e)
def itO (first:Value) (i n ep:Nat) (a:Addr):Obj:={ cls:=.type "set_iterator",dict:=none,data:=.fields #[first,.int i 0,.ref a,.int n 0,.int ep 0],slots:=#[] }
def ZkU (t:SetTable):Nat->Nat | 0=>0 | i+1=>t.place.getD i 0+1
theorem Zjb {t:SetTable} (u:Up t.place):∀ i,i<=t.place.size->SetTable.below t.place (ZkU t i)=i
  | 0,h=>by
    obtain ⟨h1,h2,h3⟩:=ZfL 0 u
    rcases Nat.eq_zero_or_pos (SetTable.below t.place 0) with e | e
    . exact e
    . exact absurd (h2 0 e) (Nat.not_lt_zero _)
  | i+1,h=>by
    obtain ⟨h1,h2,h3⟩:=ZfL (t.place.getD i 0+1) u
    show SetTable.below t.place (t.place.getD i 0+1)=i+1
    generalize SetTable.below t.place (t.place.getD i 0+1)=b at h1 h2 h3 ⊢
    rcases Nat.lt_trichotomy b (i+1) with q | q | q
    . exact absurd (Nat.lt_succ_self _) (h3 i (by omega) (by omega))
    . exact q
    . have z1:=h2 (i+1) q
      have z2:=u i (i+1) (Nat.lt_succ_self _) (by omega)
      omega
inductive Way (w:World) (a:Addr) (es:Array (Int×Value)) (ep:Nat) (t:SetTable) (h:Heap):List (Int×Value)->Nat->Value->Prop
  | text {i j:Nat} (e:w.params.followText "set-order" = true):Way w a es ep t h (pickOrder (w.params.setOrder a ep) es).toList i (.int j 0)
  | place {i:Nat} (e:w.params.followText "set-order" = false) (d:(!t.plain && decide (es.size > 1))=false):Way w a es ep t h es.toList i (.int (ZkU t i:Nat) 0)
  | draw {i:Nat} {tp:Addr} {ot:Obj} {c:Nat} {ix:List Nat} (e:h.get? tp=some ot) (d:ot.data=.seq (ix.map λ(k:Nat)=>(Value.int k 0)).toArray c) (pm:ix.Perm (List.range es.size)):Way w a es ep t h (ix.filterMap λk=>es[k]?) i (.ref tp)
theorem ZhR {I:Addr} {first:Value} {i n:Nat} (h:s.heap.get? I=some (itO first i n ep a)):s.TypeIs (.ref I) "set_iterator" := ⟨_,h,rfl⟩
end
section
variable {P:Program} {w:World} {A:Around} {E:Value->Shared->Prop} {s:Shared} {a:Addr} {o:Obj} {es:Array (Int×Value)} {ep:Nat} {t:SetTable}
theorem Zhd {j i:Nat} {Q:Option (Value×Nat)->Shared->Prop} (ha:s.heap.get? a=some o) (g:SetG P w o es ep t) (e:w.params.followText "set-order" = true) (h:Q (((pickOrder (w.params.setOrder a ep) es)[i]?).map λe=>(e.2,j)) s) :
    wpAny (model P w) A (setNext a j i ep) Q E s:=by
  unfold setNext setsByText
  refine wpAny_bind (wpAny_setState_of ha g.dat g.fit ?_); dsimp only
  refine wpAny_bind (wpAny_bind (wpAny_askSetting (wpAny_pure ?_))); dsimp only
  rw [show (model P w).w.params.followText "set-order" = true from e,if_pos rfl,if_neg (by simp)]
  unfold setWalk setsByText
  refine wpAny_bind (wpAny_bind (wpAny_setState_of ha g.dat g.fit ?_)); dsimp only
  refine wpAny_bind (wpAny_bind (wpAny_askSetting (wpAny_pure ?_))); dsimp only
  rw [show (model P w).w.params.followText "set-order" = true from e,if_pos rfl]
  refine wpAny_bind (wpAny_askSetting (wpAny_pure (wpAny_pure ?_)))
  exact h
theorem Zfr {j i:Nat} {Q:Option (Value×Nat)->Shared->Prop} (ha:s.heap.get? a=some o) (g:SetG P w o es ep t) (e:w.params.followText "set-order" = false) (d:(!t.plain && decide (es.size > 1))=false)
    (h:Q (match es[SetTable.below t.place j]?,t.place[SetTable.below t.place j]? with | some (_,x),some j=>some (x,j+1) | _,_=>none) s):wpAny (model P w) A (setNext a j i ep) Q E s:=by
  have hl:t.led=true:=g.led.elim (λz=>by rw [e] at z; cases z) id
  unfold setNext setsByText
  refine wpAny_bind (wpAny_setState_of ha g.dat g.fit ?_); dsimp only
  refine wpAny_bind (wpAny_bind (wpAny_askSetting (wpAny_pure ?_))); dsimp only
  rw [show (model P w).w.params.followText "set-order" = false from e,if_neg (by decide)]
  show wpAny _ _ (if (!t.plain && decide (es.size > 1))=true then _ else _) _ _ _
  rw [d,if_neg (by decide)]
  refine wpAny_bind ?_
  show wpAny _ _ (if (!t.led && !es.isEmpty)=true then unsupported _ else pure ()) _ _ _
  rw [hl,if_neg (by simp)]; exact wpAny_pure (wpAny_pure h)
theorem ZhS {I:Addr} {h h':Heap} (x:Heap.SameBut I h h') {b:Addr} (hb:b≠I):h'.get? b=h.get? b:=x.2 b hb
theorem Znv {I:Addr} {out:List (Int×Value)} {first:Value} {i:Nat} {e:Int×Value} {Q:Option Value->Shared->Prop} (hI:s.heap.get? I=some (itO first i es.size ep a)) (ha:s.heap.get? a=some o) (g:SetG P w o es ep t) (y:Way w a es ep t s.heap out i first) (he:out[i]?=some e)
    (hQ:∀ h' f',Heap.SameBut I s.heap h'->h'.get? I=some (itO f' (i+1) es.size ep a)->Way w a es ep t h' out (i+1) f'->(∀ tp,f'=.ref tp->first=.ref tp)->Q (some e.2) { s with heap:=h' }):wpAny (model P w) A (pyNext (.ref I)) Q E s:=by
  have T:=ZhR hI
  unfold pyNext
  refine wpAny_bind (wpAny_attempt (wpAny_callSpecial?_slot (name:=Str.ofString "__next__") T si_slot_next (wpAny_call_entry si_slot_next T Zdf ?_ (ZdL _))))
  unfold Builtin.«set_iterator.__next__»
  refine wpAny_bind (wpAny_pure ?_); refine wpAny_bind (wpAny_fieldsOf hI rfl ?_)
  show wpAny _ _ (setEntries a >>= _) _ _ s
  refine wpAny_bind (wpAny_setEntries_of ha g.dat g.fit ?_); dsimp only
  rw [if_neg (by simp)]
  have two:∀ (x:Nat),wpAny (model P w) A.in1 (do setField (.ref I) 0 (rawInt x); setField (.ref I) 1 (rawInt ((i:Int)+1)); ret e.2) (λfin s'=>∃ v,fin=Fin.done (Flow.ret v)/\∃ h',v=e.2/\Heap.SameBut I s.heap h'/\h'.get? I=some (itO (.int x 0) (i+1) es.size ep a)/\s'={ s with heap:=h' }) (λ_ _=>False) s:=λx=>by
    refine wpAny_bind (wpAny_setField_rec hI (by simp) λh1 e1 sb1=>?_)
    refine wpAny_bind (wpAny_setField_rec e1 (by simp) λh2 e2 sb2=>?_)
    exact wpAny_pure ⟨_,rfl,h2,rfl,sb1.trans sb2,e2,rfl⟩
  cases y with
  | text eT =>
    rename_i j
    refine wpAny_bind (Zhd ha g eT ?_)
    simp only [Int.toNat_natCast]
    rw [← Array.getElem?_toList,he]
    refine wpAny_mono (two (Int.toNat (j:Int))) (λfin s' z=>?_) λ_ _ z=>z.elim
    obtain ⟨v,rfl,h',rfl,sb,gi,rfl⟩:=z
    exact ⟨_,rfl,wpAny_pure (hQ h' _ sb gi (.text eT) λ_ e=>nomatch e)⟩
  | place eT d =>
    have hsz:t.place.size=es.size:=by have:=g.fit; simp [SetTable.fits] at this; exact this.1
    have hi:i<es.size:=by have:=(List.getElem?_eq_some_iff.mp he).1; simpa using this
    refine wpAny_bind (Zfr ha g eT d ?_)
    simp only [Int.toNat_natCast]
    rw [Zjb g.ris.1 i (by omega)]
    rw [Array.getElem?_toList] at he
    rw [he,Array.getElem?_eq_getElem (show i<t.place.size by omega)]
    have ep:t.place[i]'(by omega)=t.place.getD i 0:=by simp [Array.getD,show i<t.place.size by omega]
    refine wpAny_mono (two (t.place[i]'(by omega)+1)) (λfin s' z=>?_) λ_ _ z=>z.elim
    obtain ⟨v,rfl,h',rfl,sb,gi,rfl⟩:=z
    refine ⟨_,rfl,wpAny_pure (hQ h' _ sb gi ?_ λ_ e=>nomatch e)⟩
    rw [ep]
    exact .place (i:=i+1) eT d
  | draw et dt pm =>
    rename_i tp ot c ix
    have nI:tp≠I:=λz=>by
      rw [z,hI] at et
      have:=Option.some.inj et
      rw [← this] at dt
      exact nomatch dt
    have full:∀ (l:List Nat),(∀ k∈l,k<es.size)->∀ (i:Nat) (e:Int×Value),(l.filterMap λk=>es[k]?)[i]?=some e->∃ k:Nat,l[i]?=some k/\es[k]?=some e:=by
      intro l
      induction l with
      | nil=>intro _ i e z; simp at z
      | cons q l ih =>
        intro hq i e z
        have hq':q<es.size:=hq q (by simp)
        rw [List.filterMap_cons_some (Array.getElem?_eq_getElem hq')] at z
        cases i with
        | zero=>exact ⟨q,rfl,by rw [Array.getElem?_eq_getElem hq']; simpa using z⟩
        | succ i=>exact ih (λk hk=>hq k (by simp [hk])) i e (by simpa using z)
    obtain ⟨k,hk,hek⟩:=full ix (λk hk=>by have:=pm.mem_iff.mp hk; simpa using this) i e he
    refine wpAny_bind (wpAny_seqItems et dt ?_)
    have hx:((ix.map λ(k:Nat)=>(Value.int k 0)).toArray)[Int.toNat (i:Int)]?=some (.int k 0):=by
      rw [show (Int.toNat (i:Int))=i from rfl]
      simp [hk]
    dsimp only
    rw [hx]
    dsimp only
    unfold setNextDrawn
    refine wpAny_bind (wpAny_bind (wpAny_setState_of ha g.dat g.fit ?_)); dsimp only
    rw [if_neg (by simp),show (Int.toNat (k:Int))=k from rfl,hek]
    refine wpAny_pure ?_
    refine wpAny_bind (wpAny_setField_rec hI (by simp) λh1 e1 sb1=>wpAny_pure ⟨_,rfl,wpAny_pure (hQ h1 _ sb1 e1 ?_ λ_ e=>e)⟩)
    exact .draw (by rw [ZhS sb1 nI]; exact et) dt pm
end
section
variable {P:Program} {w:World} {A:Around} {E:Value->Shared->Prop} {s:Shared} {a:Addr} {o:Obj} {es:Array (Int×Value)} {ep:Nat} {t:SetTable}
theorem stopG {α:Type} {Q:α->Shared->Prop} (hh:A.handled=none) (h:∀ h' e,(∀ b o,s.heap.get? b=some o->h'.get? b=some o)->Shared.TypeIs { s with heap:=h' } e "StopIteration" -> E e { s with heap:=h' }) :
    wpAny (model P w) A (newExc (.type "StopIteration") [] >>= λe=>(raiseNew e:Sem α)) Q E s:=by
  refine wpAny_bind ?_; simp only [newExc,newTuple]
  refine wpAny_bind (wpAny_newObj_type ?_ (by size_fits)); refine wpAny_bind (m:=firstArgMember _ _) (wpAny_of_eq (a:=Value.none) (by first | rfl | (simp only [firstArgMember]; rfl)) ?_)
  refine wpAny_newObj_type (wpAny_raiseNew_none hh (h _ _ (λb o e=>Heap.get?_push_of_some _ (Heap.get?_push_of_some _ e)) ⟨_,Heap.get?_push_size _ rfl,rfl⟩)) (by size_fits)
theorem ZhT {h:Heap} {out:List (Int×Value)} {i:Nat} {f:Value} (y:Way w a es ep t h out i f):out.Perm es.toList:=by
  cases y with
  | text _=>exact ZkS _ _
  | place _ _=>exact .refl _
  | draw _ _ pm =>
    rename_i tp ot c ix et dt
    refine (pm.filterMap _).trans (List.Perm.of_eq ?_)
    refine List.ext_getElem? λi=>?_
    have key:∀ (n:Nat),n<=es.size->((List.range n).filterMap λk=>es[k]?)=es.toList.take n:=by
      intro n
      induction n with
      | zero=>intro _; simp
      | succ n ih =>
        intro hn
        rw [List.range_succ,List.filterMap_append,ih (by omega),List.take_succ_eq_append_getElem (show n<es.toList.length by rw [Array.length_toList]; omega)]
        rw [List.filterMap_cons_some (Array.getElem?_eq_getElem (show n<es.size by omega))]
        simp
    rw [key es.size (Nat.le_refl _),← Array.length_toList,take_length]
theorem Znw {I:Addr} {out:List (Int×Value)} {first:Value} {Q:Option Value->Shared->Prop} (hh:A.handled=none) (hI:s.heap.get? I=some (itO first es.size es.size ep a)) (ha:s.heap.get? a=some o) (g:SetG P w o es ep t) (y:Way w a es ep t s.heap out es.size first)
    (hQ:∀ h',(∀ b o,b≠I->s.heap.get? b=some o->h'.get? b=some o)->Q none { s with heap:=h' }):wpAny (model P w) A (pyNext (.ref I)) Q E s:=by
  have T:=ZhR hI
  have lo:out.length=es.size:=by rw [(ZhT y).length_eq,Array.length_toList]
  unfold pyNext
  refine wpAny_bind (wpAny_attempt (wpAny_callSpecial?_slot (name:=Str.ofString "__next__") T si_slot_next (wpAny_call_entry si_slot_next T Zdf ?_ (ZdL _))))
  unfold Builtin.«set_iterator.__next__»
  refine wpAny_bind (wpAny_pure ?_); refine wpAny_bind (wpAny_fieldsOf hI rfl ?_)
  show wpAny _ _ (setEntries a >>= _) _ _ s
  refine wpAny_bind (wpAny_setEntries_of ha g.dat g.fit ?_); dsimp only
  rw [if_neg (by simp)]
  have h1:A.in1.handled=none:=by simp [hh]
  have fin:∀ (s1:Shared),(∀ b o,b≠I->s.heap.get? b=some o->s1.heap.get? b=some o)->s1={ s with heap:=s1.heap }->wpAny (model P w) A.in1 (newExc (.type "StopIteration") [] >>= λe=>(raiseNew e:Sem PySem.Fin))
      (λfin s'=>∃ v,fin=Fin.done (Flow.ret v)/\wpAny (model P w) A (pure (some v)) Q E s') (λe s'=>wpAny (model P w) A (do let r ← isInstance e (Value.type "StopIteration"); if r=true then pure none else throw e) Q E s') s1:=λs1 k1 e1=>by
    refine stopG h1 λh' e k T'=>?_
    refine wpAny_bind (wpAny_isInstance (b:=true) T' isSubtype_stop ?_)
    rw [if_pos rfl]
    have:=hQ h' λb o hb z=>k b o (k1 b o hb z)
    rw [e1]
    exact wpAny_pure this
  cases y with
  | text eT =>
    rename_i j
    refine wpAny_bind (Zhd ha g eT ?_)
    simp only [Int.toNat_natCast]
    rw [← Array.getElem?_toList,getElem?_eq_none (by omega)]
    refine wpAny_bind (wpAny_setField_rec hI (by simp) λh1 e1 sb1=>fin _ (λb o hb z=>(sb1.2 b hb).trans z) rfl)
  | place eT d =>
    have hsz:t.place.size=es.size:=by have:=g.fit; simp [SetTable.fits] at this; exact this.1
    refine wpAny_bind (Zfr ha g eT d ?_)
    simp only [Int.toNat_natCast]
    rw [Zjb g.ris.1 es.size (by omega),Array.getElem?_eq_none (Nat.le_refl _)]
    refine wpAny_bind (wpAny_setField_rec hI (by simp) λh1 e1 sb1=>fin _ (λb o hb z=>(sb1.2 b hb).trans z) rfl)
  | draw et dt pm =>
    rename_i tp ot c ix
    have li:ix.length=es.size:=by rw [pm.length_eq,List.length_range]
    refine wpAny_bind (wpAny_seqItems et dt ?_)
    have hx:((ix.map λ(k:Nat)=>(Value.int k 0)).toArray)[Int.toNat (es.size:Int)]?=none:=by
      rw [Int.toNat_natCast,Array.getElem?_eq_none (by simp [li])]
    dsimp only
    rw [hx]
    refine wpAny_bind (wpAny_setField_rec hI (by simp) λh1 e1 sb1=>?_)
    refine wpAny_bind (wpAny_setField_rec e1 (by simp) λh2 e2 sb2=>fin _ (λb o hb z=>(sb2.2 b hb).trans ((sb1.2 b hb).trans z)) rfl)
theorem iterG {Q:Value->Shared->Prop} (ha:s.heap.get? a=some o) (g:SetG P w o es ep t)
    (hQ:∀ h' d I first out,(∀ b o,s.heap.get? b=some o->h'.get? b=some o)->s.heap.get? I=none->h'.get? I=some (itO first 0 es.size ep a)->Way w a es ep t h' out 0 first->(∀ tp,first=.ref tp->s.heap.get? tp=none/\tp≠I)->Q (.ref I) { s with heap:=h',drawn:=d }) :
    wpAny (model P w) A (pyIter (.ref a)) Q E s:=by
  have T:s.TypeIs (.ref a) "set" := ⟨o,ha,g.ex.1⟩
  refine wpAny_pyIter_slot T F.slot_set_iter (wpAny_call_entry F.slot_set_iter T ZeW ?_ (F.args_set_iter_1 _))
  unfold Builtin.«frozenset.__iter__» Builtin.Frozenset.slot0 Builtin.Frozenset.sizeOf setDrawn setsByText
  refine wpAny_bind (wpAny_bind (wpAny_pure (wpAny_pure ?_)))
  refine wpAny_bind (wpAny_bind (wpAny_setEntries_of ha g.dat g.fit (wpAny_pure ?_)))
  refine wpAny_bind (wpAny_bind (wpAny_setState_of ha g.dat g.fit ?_)); dsimp only
  refine wpAny_bind (wpAny_bind (wpAny_askSetting (wpAny_pure ?_))); dsimp only
  refine wpAny_pure ?_
  have fin:∀ (s1:Shared) (first:Value) (out:List (Int×Value)),(∀ b o,s.heap.get? b=some o->s1.heap.get? b=some o)->(∃ d,s1={ s with heap:=s1.heap,drawn:=d })->Way w a es ep t s1.heap out 0 first->(∀ tp,first=.ref tp->s.heap.get? tp=none)->s.heap.objs.size<=s1.heap.objs.size ->
      wpAny (model P w) A.in1 (do let e ← setEpoch a; let r ← newFields "set_iterator" [first,rawInt 0,Value.ref a,rawInt es.size,rawInt e]; ret r) (λfin s'=>∃ v,fin=Fin.done (Flow.ret v)/\∃ T' r,s'.TypeIs v T'/\typeLookup (Value.type T') (Str.ofString "__next__")=pure (some r)/\Q v s') E s1:=λs1 first out k e1 y ft le=>by
    obtain ⟨d,e1⟩:=e1
    refine wpAny_bind (wpAny_setEpoch_of (k _ _ ha) g.dat g.fit ?_)
    refine wpAny_bind (wpAny_newObj_type ?_ (by size_fits)); have hI:(s1.heap.push (itO first 0 es.size ep a)).get? s1.heap.objs.size=some (itO first 0 es.size ep a):=Heap.get?_push_size _ rfl
    refine wpAny_pure ⟨_,rfl, "set_iterator",_,⟨_,hI,rfl⟩,si_slot_next.lookup,?_⟩
    have hn:s.heap.get? s1.heap.objs.size=none:=by
      cases z:s.heap.get? s1.heap.objs.size with
      | none=>rfl
      | some q=>exact absurd (Heap.lt_size z) (Nat.not_lt.mpr le)
    rw [e1]
    refine hQ _ d _ first out (λb o z=>Heap.get?_push_of_some _ (k b o z)) hn hI ?_ λtp e=>⟨ft tp e,λz=>?_⟩
    . cases y with
      | text q=>exact .text q
      | place q r=>exact .place (i:=0) q r
      | draw q r pm=>exact .draw (Heap.get?_push_of_some _ q) r pm
    . subst e
      cases y with
      | draw q r pm=>exact absurd (Heap.lt_size q) (by rw [z]; exact Nat.lt_irrefl _)
  split
  . refine wpAny_bind (ZkT es.size _ _ _ (by simp) λys d hp=>?_)
    refine wpAny_bind (wpAny_newObj_type ?_ (show (List.map (λi:Nat=>rawInt (i:Int)) ys).toArray.size<=sizeLine by have:=hp.length_eq; simp at this; simp only [List.size_toArray,length_map]; exact fits_of_scanBound (by rw [this]; exact g.lit)))
    refine fin _ (.ref s.heap.objs.size) (ys.filterMap λk=>es[k]?) (λb o z=>Heap.get?_push_of_some _ z) ⟨d,rfl⟩ (.draw (Heap.get?_push_size _ rfl) rfl hp) (λtp e=>?_) (by rw [Heap.size_push]; exact Nat.le_succ _)
    cases e
    cases z:s.heap.get? s.heap.objs.size with
    | none=>rfl
    | some q=>exact absurd (Heap.lt_size z) (Nat.lt_irrefl _)
  . rename_i hc
    refine wpAny_bind (wpAny_pure ?_)
    cases eT:w.params.followText "set-order" with
    | true=>exact fin s (.int (0:Nat) 0) _ (λ_ _ z=>z) ⟨s.drawn,rfl⟩ (.text eT) (λ_ e=>nomatch e) (Nat.le_refl _)
    | false =>
      refine fin s (.int (ZkU t 0:Nat) 0) _ (λ_ _ z=>z) ⟨s.drawn,rfl⟩ (.place (i:=0) eT ?_) (λ_ e=>nomatch e) (Nat.le_refl _)
      have hc':¬ ((!(w.params.followText "set-order") && (!t.plain && decide (es.size > 1)))=true):=hc
      rw [eT] at hc'
      simpa using hc'
end
section
variable {P:Program} {w:World} {A:Around} {E:Value->Shared->Prop} {s:Shared} {a:Addr} {o:Obj} {es:Array (Int×Value)} {ep:Nat} {t:SetTable}
theorem walkG (hh:A.handled=none) {I:Addr} {out:List (Int×Value)} {rest:List Addr} (g:SetG P w o es ep t) (po:out.length=es.size) (hne:a≠I) :
    WalksS P w A I (I :: a :: rest) [I] (λx y=>y=x) es.size (λi v=>∃ e,out[i]?=some e/\v=e.2) (λi s=>s.heap.get? a=some o/\∃ f,s.heap.get? I=some (itO f i es.size ep a)/\Way w a es ep t s.heap out i f/\∀ tp,f=.ref tp->tp∈rest/\tp≠I) where
  sub:=λc hc=>by simp at hc; simp [hc]
  grefl:=λ_=>rfl
  gtrans:=λx y z h1 h2=>by rw [h2,h1]
  frame:=λi s h' tk st _ k=>by
    obtain ⟨ha,f,hI,y,hf⟩:=st
    refine ⟨k a (by simp) _ ha,f,k I (by simp) _ hI,?_,hf⟩
    cases y with
    | text q=>exact .text q
    | place q r=>exact .place q r
    | draw q r pm=>exact .draw (k _ (by simp [(hf _ rfl).1]) _ q) r pm
  item:=λi s Q E hi st hQ=>by
    obtain ⟨ha,f,hI,y,hf⟩:=st
    have he:out[i]?=some (out[i]'(by omega)):=getElem?_eq_getElem (by omega)
    refine Znv hI ha g y he λh' f' sb gI y' yf=>hQ _ _ ⟨_,he,rfl⟩ ⟨by rw [sb.2 a hne]; exact ha,f',gI,y',λtp e=>hf tp (yf tp e)⟩ ⟨λb o hb z=>(sb.2 b (λq=>hb (by simp [q]))).trans z,rfl,rfl,rfl,Nat.le_refl _⟩
  done:=λs Q E st hQ=>by
    obtain ⟨ha,f,hI,y,hf⟩:=st
    exact Znw hh hI ha g y λh' k=>hQ _ ⟨λb o hb z=>k b o (λq=>hb (by simp [q])) z,rfl,rfl,rfl,Nat.le_refl _⟩
  self:=λi s Q E st hQ=>by
    obtain ⟨ha,f,hI,y,hf⟩:=st
    have T:=ZhR hI
    refine wpAny_pyIter_slot T ZdM (wpAny_call_entry ZdM T ZfN ?_ (Zhc _))
    show wpAny _ _ (ret (.ref I)) _ _ s
    exact wpAny_pure ⟨_,rfl, "set_iterator",_,T,si_slot_next.lookup,hQ⟩
theorem hintG {r:Addr} {Q:Bool->Shared->Prop} (hT:s.TypeIs (.ref r) "set") (h:Q false s):wpAny (model P w) A (Builtin.List.listLengthHint (.ref r)) Q E s:=by
  unfold Builtin.List.listLengthHint; refine wpAny_bind (wpAny_specialOf hT Zou ?_)
  generalize hid:("set.__len__" : String)=id0; wp_delta
  rw [show splitId id0=some ("set", "__len__") from by subst hid; decide +kernel]; subst hid
  refine wpAny_bind (wpAny_isInstance (T := "set") (b:=true) hT sub_set_self ?_)
  refine wpAny_ite_split (λq=>absurd q (by decide)) λ_=>wpAny_ite_split (λ_=>?_) λq=>absurd (by decide +kernel) q
  exact wpAny_bind (wpAny_typeOf hT (wpAny_pure h))
theorem Zmh {Q:List Value->Shared->Prop} (hh:A.handled=none) (ha:s.heap.get? a=some o) (g:SetG P w o es ep t)
    (hQ:∀ h' tk d (out:List (Int×Value)),(∀ b o,s.heap.get? b=some o->h'.get? b=some o)->out.Perm es.toList->Q (out.map Prod.snd) { s with heap:=h',toks:=tk,drawn:=d }):wpAny (model P w) A (collect (.ref a)) Q E s:=by
  have T:s.TypeIs (.ref a) "set" := ⟨o,ha,g.ex.1⟩
  unfold collect
  refine wpAny_bind (wpAny_runValue (codeAny_builtin entry_proto_collect' ?_)); rw [Around.under_plainId PySem.F.plain_proto_collect _]
  show wpAny _ A.in1 (newList [] >>= λl=>again (.builtin "list.__iadd__" ⟨[l,.ref a],[]⟩)) _ _ s
  refine wpAny_bind (wpAny_newObj_type (wpAny_pure ⟨plainId_quiet PySem.F.plain_list_iadd _,codeAny_builtin entry_list_iadd' ?_⟩)); rw [Around.under_plainId PySem.F.plain_list_iadd _]
  generalize hL:s.heap.objs.size=L
  generalize h1:s.heap.push { cls:=.type "list",data:=.seq ([]:List Value).toArray }=hp1
  have gL:hp1.get? L=some { cls:=.type "list",dict:=none,data:=.seq #[] 0,slots:=#[] }:=by rw [← h1,← hL]; exact Heap.get?_push_size _ rfl
  have k1:∀ b o,s.heap.get? b=some o->hp1.get? b=some o:=λb o e=>by rw [← h1]; exact Heap.get?_push_of_some _ e
  have nL:∀ b o,s.heap.get? b=some o->b≠L:=λb o e=>by rw [← hL]; exact Nat.ne_of_lt (Heap.lt_size e)
  show wpAny _ A.in1 (Builtin.List.listExtendWith (.ref L) (.ref a) (.ref L)) _ _ _
  unfold Builtin.List.listExtendWith; have T1:Shared.TypeIs { s with heap:=hp1 } (.ref a) "set" := ⟨o,k1 _ _ ha,g.ex.1⟩
  refine wpAny_bind (wpAny_typeOf T1 ?_)
  have sr:Builtin.List.listSameRef (.ref L) (.ref a)=false:=by simp [Builtin.List.listSameRef,(nL a o ha).symm]
  rw [sr,if_neg (by decide)]
  refine wpAny_bind (iterG (s:={ s with heap:=hp1 }) (k1 _ _ ha) g λh' d I first out k nI gI y ft=>?_)
  have nIL:L≠I:=λe=>by rw [e] at gL; rw [show hp1.get? I=none from nI] at gL; cases gL
  have nIa:a≠I:=λe=>by have:=k1 _ _ ha; rw [e] at this; rw [show hp1.get? I=none from nI] at this; cases this
  have po:out.length=es.size:=by rw [(ZhT y).length_eq,Array.length_toList]
  refine wpAny_bind (wpAny_holding (hintG ⟨o,k _ _ (k1 _ _ ha),g.ex.1⟩ ?_))
  obtain ⟨rest,hr1,hr2⟩:∃ rest:List Addr,(∀ tp,first=.ref tp->tp∈rest/\tp≠I)/\L∉I :: a :: rest:=by
    have n0:L∉[I,a]:=by simp only [mem_cons,not_mem_nil,or_false,not_or]; exact ⟨nIL,(nL a o ha).symm⟩
    cases first with
    | ref tp =>
      refine ⟨[tp],λtp' e=>by cases e; exact ⟨by simp,(ft tp rfl).2⟩,?_⟩
      have nt:L≠tp:=λe=>by rw [e] at gL; rw [show hp1.get? tp=none from (ft tp rfl).1] at gL; cases gL
      simp only [mem_cons,not_mem_nil,or_false,not_or]
      exact ⟨nIL,(nL a o ha).symm,nt⟩
    | _=>exact ⟨[],(λ_ e=>nomatch e),n0⟩
  have W:=walkG (A:=A.in1) (by simp [hh]) (I:=I) (out:=out) (rest:=rest) g po nIa
  rw [if_pos (by decide +kernel)]
  have key:∀ (h2:Heap) (c:Nat),(∀ b o,b≠L->h'.get? b=some o->h2.get? b=some o)->h2.get? L=some { cls:=.type "list",dict:=none,data:=.seq #[] c,slots:=#[] } ->
      codeAny (model P w) A (.builtin "list.extend.loop" ⟨[.ref L,.ref I,.ref L],[]⟩) (λr s'=>∃ (h3:Heap) (tk:Nat) (acc:Array Value) (c':Nat),r=.ok (.ret (.ref L))/\s'={ s with heap:=h3,toks:=tk,drawn:=d }/\(∀ b o,s.heap.get? b=some o->h3.get? b=some o)/\h3.get? L=some { cls:=.type "list",dict:=none,data:=.seq acc c',slots:=#[] }/\acc.toList=out.map Prod.snd) { s with heap:=h2,drawn:=d }:=λh2 c k2 g2=>by
    refine codeAny_extend_loopS W (fits_of_scanBound g.lit) L hr2 (.ref L) es.size 0 _ #[] c (by omega) (Nat.zero_le _) ?_ g2 (ItemsOf.nil _) λs' acc' c' m gL' hacc=>?_
    . refine ⟨k2 _ _ (nL a o ha) (k _ _ (k1 _ _ ha)),first,k2 _ _ nIL.symm gI,?_,hr1⟩
      cases y with
      | text q=>exact .text q
      | place q r=>exact .place (i:=0) q r
      | draw q r pm =>
        refine .draw (k2 _ _ (λe=>hr2 ?_) q) r pm
        rw [← e]; simp [(hr1 _ rfl).1]
    . rw [Moved.eq_with m]
      refine ⟨s'.heap,s'.toks,acc',c',rfl,rfl,λb o z=>m.heap b o ?_ (k2 b o (nL b o z) (k b o (k1 b o z))),gL',?_⟩
      . have nb:b≠I:=λe=>by have:=k1 b o z; rw [e] at this; rw [show hp1.get? I=none from nI] at this; cases this
        simp only [mem_cons,not_mem_nil,or_false,not_or]
        exact ⟨nL b o z,nb⟩
      . refine List.ext_getElem? λi=>?_
        by_cases hi:i<es.size
        . have hv:acc'.toList[i]?=some (acc'.toList[i]'(by rw [Array.length_toList,hacc.1]; exact hi)):=getElem?_eq_getElem _
          obtain ⟨e,he,hv2⟩:=hacc.2 i _ (by rw [← Array.getElem?_toList]; exact hv)
          rw [hv,hv2,getElem?_map,he]; rfl
        . rw [getElem?_eq_none (by rw [Array.length_toList,hacc.1]; omega),getElem?_eq_none (by rw [length_map]; omega)]
  refine wpAny_bind (wpAny_rule ?_); refine wpAny_bind ?_
  have gL1:h'.get? L=some { cls:=.type "list",dict:=none,data:=.seq #[] 0,slots:=#[] }:=k _ _ gL
  show wpAny _ _ (updateSeq L (·.push .none) >>= λ_=>updateSeq L (·.pop)) _ _ _
  refine wpAny_bind (wpAny_updateSeq gL1 rfl ?_)
  have gL2:=Heap.get?_update_self (Obj.mapSeq (·.push Value.none)) gL1 rfl
  refine wpAny_updateSeq (hz:=by seq_fits) gL2 rfl ?_
  have gL3:=Heap.get?_update_self (Obj.mapSeq (·.pop)) gL2 rfl
  refine wpAny_pure ⟨plainId_quiet PySem.F.plain_extend_loop _,?_⟩
  refine codeAny_mono (key _ _ (λb o hb z=>(Heap.get?_update_other _ _ (Ne.symm hb)).trans ((Heap.get?_update_other _ _ (Ne.symm hb)).trans z)) gL3) λr s' q=>?_
  obtain ⟨h3,tk,acc,c',rfl,rfl,k3,gL4,ea⟩:=q
  show wpAny _ A (load L >>= _) _ _ _
  refine wpAny_bind (wpAny_load gL4 ?_)
  have:=hQ h3 tk d out k3 (ZhT y)
  rw [← ea] at this
  exact wpAny_pure this
end
section
variable {X:Cx}
def rSetG (P:Program) (w:World):List V->Hp->VK->Prop:=λxs H Q=>∃ (l:Addr) (ns:List Int),xs=[.ref l]/\H l=some (.lst (ns.map V.int))/\ns.length<64/\∀ q,H q=none->Q (.ref q) (upd H q (.ext λh=>GSet P w h q ns))
theorem ZkV (hc:X.calm=true):CallR X (.type "set") (rSetG X.prog X.w):=by
  intro pins s σ H xs us Q I r h
  obtain ⟨l,ns,rfl,hl,h64,q⟩:=h
  obtain ⟨u,rfl,rx⟩:=vals1 r
  cases rx
  obtain ⟨hz,its,n,rv,ho⟩:=I.hok l _ hl
  have hi:IntsAre its.toArray.toList ns:=by simpa using ZcF rv
  refine callG (items:=its.toArray) (ns:=ns) (I.ok.hd hc) ⟨_,ho,rfl,n,rfl⟩ hi (by show ns.length+1<4096; omega) λh' tk g k=>?_
  have hn:H s.heap.objs.size=none:=I.hok.fresh (Nat.le_refl _); refine ⟨.ref s.heap.objs.size,_,I.laid (a:=s.heap.objs.size) (t':=tk) (o:=.ext λh=>GSet X.prog X.w h s.heap.objs.size ns) (λb o e=>k b o (Heap.lt_size e) e) (Nat.le_refl _) ⟨g,?_,λh1 h2 g1 k1=>g1.at k1⟩,rfl,q _ hn⟩
  obtain ⟨o,_,_,_,e,_⟩:=g
  exact ⟨o,e⟩
def Zmi (P:Program) (w:World):List V->Hp->VK->Prop:=λxs H Q=>∃ (a:Addr) (ns:List Int),xs=[.ref a]/\H a=some (.ext λh=>GSet P w h a ns)/\ns.length<64 /\
  ∀ (D:Addr) (os:List Int),H D=none->os.Nodup->(∀ k,k∈os↔k∈ns)->os.Pairwise (·<=·)->Q (.ref D) (upd H D (.lst (os.map V.int)))
theorem Zjc {P:Program} {w:World}:∀ {l:List (Int×Value)},ElemsOf (intKind P w) l->IntsAre (l.map Prod.snd) (l.map kOf)
  | [],_=>.nil
  | e :: l,h=>by
    obtain ⟨tk,q⟩:=Value.isInt_shape (show Value.isInt (kOf e) e.2=true from ZmL (h e (by simp)))
    have r:=Zjc (l:=l) λx hx=>h x (by simp [hx])
    show IntsAre (e.2 :: l.map Prod.snd) (kOf e :: l.map kOf)
    rw [q]
    exact .cons _ _ r
theorem Zhe (hc:X.calm=true):CallR X (.builtin "sorted") (Zmi X.prog X.w):=by
  intro pins s σ H xs us Q I r h
  obtain ⟨a,ns,rfl,ha,h64,q⟩:=h
  obtain ⟨u,rfl,rx⟩:=vals1 r
  cases rx
  obtain ⟨⟨o,es,ep,t,ho,g,sz,mem⟩,_⟩:=I.hok a _ ha
  refine call_function_entry kind_sorted plain_sorted entry_sorted (args_sorted1 _) ?_; unfold Builtin.«sorted»
  refine wpAny_bind (m:=checkCount "sorted" 1 1 _) (wpAny_pure ?_); refine wpAny_bind (Zmh (A:=X.A.in1) (show X.A.in1.handled=none from I.ok.hd hc) ho g λh' tk d out hk' hp=>?_)
  have el:ElemsOf (intKind X.prog X.w) out:=g.el.perm hp
  have hI:=Zjc el
  have lo:out.length=es.size:=by rw [hp.length_eq,Array.length_toList]
  refine wpAny_bind (wpAny_newList ?_ (by rw [length_map,lo,sizeLine_eq]; omega))
  have hoL:(h'.push (seqObj "list" (out.map Prod.snd).toArray 0)).get? h'.objs.size=some (seqObj "list" (out.map Prod.snd).toArray 0):=Heap.get?_push_size _ rfl
  have I0:Inv X pins σ H { s with drawn:=d }:=⟨I.ok,I.os,I.bare,I.base,I.loc,I.cell,I.free,I.freeC,I.pin,I.hok,I.len⟩
  have I1:=I0.kept (t':=tk) (h':=h') hk'
  show wpAny _ _ _ _ _ { s with heap:=h'.push (seqObj "list" (out.map Prod.snd).toArray 0),toks:=tk,drawn:=d }
  refine wpAny_bind (wpAny_holding (wpAny_call_entry slot_list_sort ⟨_,hoL,rfl⟩ entry_list_sort (list_sort_tree hoL (by simpa using hI) (by rw [length_map]; omega) λout' ns' a1 a2 a3=>⟨_,rfl,?_⟩) (args_list_sort _)))
  refine wpAny_pure ⟨_,rfl,?_⟩; obtain ⟨e,he⟩:=sortedHeap_at (out:=out') hoL
  have fr:H h'.objs.size=none:=I1.hok.fresh (Nat.le_refl _)
  have lo':=a2.length_eq
  have pm:ns'.Perm (es.toList.map kOf):=a2.trans (hp.map kOf)
  refine ⟨.ref h'.objs.size,_,I1.laid (a:=h'.objs.size) (t':=tk) (o:=.lst (ns'.map V.int)) (λb o z=>?_) (Nat.le_refl _) ⟨by rw [length_map,lo',length_map,lo,sizeLine_eq]; omega,out'.toList,e,ZcX a1,he⟩,rfl,q _ ns' fr (pm.nodup_iff.mpr g.nd) (λk=>pm.mem_iff.trans (mem k)) a3⟩
  have z':h'.get? b=some o:=z
  have lt:=Heap.lt_size z'
  rw [sortedHeap_old (Nat.ne_of_lt lt) (by rw [size_push']; exact Nat.lt_succ_of_lt lt),Heap.get?_push_ne _ _ _ (Nat.ne_of_lt lt)]
  exact z'
def tSS (t:TA):TE:=λσ H Q=>t σ H λvs H1=>∃ (l:Addr) (ns:List Int),vs=[.ref l]/\H1 l=some (.lst (ns.map V.int))/\ns.length<64 /\
  ∀ (q D:Addr) (φ:Heap->Prop) (os:List Int),H1 q=none->H1 D=none->D≠q->os.Nodup->(∀ k,k∈os↔k∈ns)->os.Pairwise (·<=·)->Q (.ref D) (upd (upd H1 q (.ext φ)) D (.lst (os.map V.int)))
theorem Znx {p p':Pos} {pos pos':Pos} {e:Expr} {t:TA} (hc:X.calm=true) (hg:Gl X "sorted") (hm:X.mg "sorted" = none) (hg':Gl X "set") (hm':X.mg "set" = none) (ha:PA X [e] t) (hnn:NSs [e]:=by repeat' (first | exact True.intro | refine ⟨?_,?_⟩)) :
    PE X (.Call (.Name "sorted" p) [.Call (.Name "set" p') [e] [] pos'] [] pos) (tSS t):=by
  intro pins s σ H Q I h
  have hs:starEach [e] X.env=[(false,eval e X.env)]:=ZbG hnn.1
  have hs3:starEach [PySem.Expr.Call (.Name "set" p') [e] [] pos'] X.env=[(false,eval (PySem.Expr.Call (.Name "set" p') [e] [] pos') X.env)]:=ZbG (show NS (PySem.Expr.Call (.Name "set" p') [e] [] pos') from True.intro)
  refine Call_ (Zcg I hg hm PyProof.Rows.boot_sorted (PyProof.Rows.callWith_builtin1 (Q:=EP X pins σ Q) ?_ hs3 rfl))
  rw [hs3]
  refine Calls.spliced_cons (Call_ (Zcg I hg' hm' ZkH (PyProof.Rows.callWith_type1 (thn (ha pos' pins s σ H _ I h) λus s1 ⟨vs,H1,I1,r1,q1⟩=>?_) hs rfl)))
  obtain ⟨l,ns,rfl,hl,h64,q⟩:=q1
  refine thn (ZkV hc pins s1 σ H1 _ us (λx H2=>∃ q,x=.ref q/\H1 q=none/\H2=upd H1 q (.ext λh=>GSet X.prog X.w h q ns)) I1 r1 ⟨l,ns,rfl,hl,h64,λq hq=>⟨q,rfl,hq,rfl⟩⟩) λu s2 ⟨x,H2,I2,rx,q2⟩=>?_
  obtain ⟨q',rfl,hq',rfl⟩:=q2
  refine Calls.spliced_nil ?_
  refine Zhe hc pins s2 σ _ [.ref q'] [u] Q I2 (.cons rx .nil) ⟨q',ns,rfl,Za,h64,λD os hD nd mem pw=>?_⟩
  have nD:D≠q':=λe=>by rw [e,Za] at hD; cases hD
  rw [Zb nD] at hD
  exact q q' D _ os hq' hD nD nd mem pw
end
end L2
namespace L2
open PySem PySem.Calls PyProof.Rows PySem.W PySem.Spec
end L2
namespace L2
open PySem PySem.Calls PyProof.Rows PySem.W PySem.Spec
end L2
namespace L2
open PySem PySem.F PyProof.Rows
variable {K:PySem.W.Frag} {X:Cx} {pins:List (Addr×Obj)} {σ:St} {H H':Hp} {s:Shared}
end L2
namespace L2
open PySem PySem.F PyProof.Rows PySem.MeetsSeq
variable {K:PySem.W.Frag} {X:Cx}
end L2
namespace L2
open PySem PySem.F PyProof.Rows
end L2
namespace Mine
open PySem L2
def top (i:Nat):Stmt:=PySem.Challenge.pw_nearstairs_k27_one_room_alone.main.body.getD i (.Pass ⟨0,0,0,0⟩)
abbrev ZbK:Stmt:=top 2
abbrev ZjJ:List Str:=["size", "spot"]
abbrev ZbL:List Str:=["size", "spot"]
theorem sc_board_of:FnScope ZjJ ZbL (Zc ZbK):=⟨rfl,rfl,rfl,by decide +kernel,rfl,by decide +kernel,by decide +kernel⟩
abbrev ZbM:Stmt:=top 3
abbrev ZjK:List Str:=["size", "board", "first"]
abbrev Zcl:List Str:=["size", "board"]
theorem sc_spots_of:FnScope ZjK Zcl (Zc ZbM):=⟨rfl,rfl,rfl,by decide +kernel,rfl,by decide +kernel,by decide +kernel⟩
abbrev ZbN:Stmt:=top 4
abbrev ZjL:List Str:=["shelves", "board"]
abbrev Zcm:List Str:=["shelves", "board"]
theorem sc_shelf_of:FnScope ZjL Zcm (Zc ZbN):=⟨rfl,rfl,rfl,by decide +kernel,rfl,by decide +kernel,by decide +kernel⟩
abbrev ZaV:Stmt:=Zr (top 12) 0
abbrev Zey:List Str:=["self", "shelves", "places", "rule"]
abbrev ZaW:List Str:=["self", "shelves", "places", "rule"]
theorem sc_Room_init:FnScope Zey ZaW (Zc ZaV):=⟨rfl,rfl,rfl,by decide +kernel,rfl,by decide +kernel,by decide +kernel⟩
abbrev ZbO:Stmt:=Zr (top 12) 1
abbrev ZjM:List Str:=["self", "board"]
abbrev ZaJ:List Str:=["self", "board"]
theorem sc_Room_has:FnScope ZjM ZaJ (Zc ZbO):=⟨rfl,rfl,rfl,by decide +kernel,rfl,by decide +kernel,by decide +kernel⟩
abbrev ZaY:Stmt:=Zr (top 12) 2
abbrev Zhf:List Str:=["self", "board", "out"]
abbrev ZaA:List Str:=["self", "board"]
theorem sc_Room_bring:FnScope Zhf ZaA (Zc ZaY):=⟨rfl,rfl,rfl,by decide +kernel,rfl,by decide +kernel,by decide +kernel⟩
abbrev ZbP:Stmt:=Zr (top 12) 3
abbrev ZjN:List Str:=["self", "board", "mates"]
abbrev Zbp:List Str:=["self", "board"]
theorem sc_Room_use:FnScope ZjN Zbp (Zc ZbP):=⟨rfl,rfl,rfl,by decide +kernel,rfl,by decide +kernel,by decide +kernel⟩
abbrev Zbq:Stmt:=Zr (top 12) 4
abbrev ZhU:List Str:=["self", "board"]
abbrev Zbr:List Str:=["self", "board"]
theorem sc_Room_drop:FnScope ZhU Zbr (Zc Zbq):=⟨rfl,rfl,rfl,by decide +kernel,rfl,by decide +kernel,by decide +kernel⟩
abbrev ZaK:Stmt:=Zr (top 12) 5
abbrev ZfO:List Str:=["self"]
abbrev ZaL:List Str:=["self"]
theorem sc_Room_boards:FnScope ZfO ZaL (Zc ZaK):=⟨rfl,rfl,rfl,by decide +kernel,rfl,by decide +kernel,by decide +kernel⟩
abbrev ZaZ:Stmt:=Zr (top 12) 6
abbrev Zhg:List Str:=["self", "number"]
abbrev Zba:List Str:=["self", "number"]
theorem sc_Room_shelf:FnScope Zhg Zba (Zc ZaZ):=⟨rfl,rfl,rfl,by decide +kernel,rfl,by decide +kernel,by decide +kernel⟩
abbrev Zbs:Stmt:=Zr (top 12) 7
abbrev ZhV:List Str:=["self", "board"]
abbrev ZaX:List Str:=["self", "board"]
theorem sc_Room_need:FnScope ZhV ZaX (Zc Zbs):=⟨rfl,rfl,rfl,by decide +kernel,rfl,by decide +kernel,by decide +kernel⟩
abbrev Zbb:Stmt:=Zr (top 12) 8
abbrev Zhh:List Str:=["self", "board"]
abbrev Zag:List Str:=["self", "board"]
theorem sc_Room_mates:FnScope Zhh Zag (Zc Zbb):=⟨rfl,rfl,rfl,by decide +kernel,rfl,by decide +kernel,by decide +kernel⟩
abbrev ZI:Stmt:=Zr (top 12) 9
abbrev Zdu:List Str:=["self", "board", "mates"]
abbrev ZJ:List Str:=["self", "board"]
theorem sc_Room_leaver_for:FnScope Zdu ZJ (Zc ZI):=⟨rfl,rfl,rfl,by decide +kernel,rfl,by decide +kernel,by decide +kernel⟩
abbrev ZT:Stmt:=Zr (top 12) 10
abbrev Zcz:List Str:=["self", "mates"]
abbrev Zbc:List Str:=["self", "mates"]
theorem sc_Room_going:FnScope Zcz Zbc (Zc ZT):=⟨rfl,rfl,rfl,by decide +kernel,rfl,by decide +kernel,by decide +kernel⟩
abbrev Zbd:Stmt:=Zr (top 14) 0
abbrev Zhi:List Str:=["self", "room_plan", "shelves", "places", "rule", "writing"]
abbrev ZbB:List Str:=["self", "room_plan"]
theorem sc_Store_init:FnScope Zhi ZbB (Zc Zbd):=⟨rfl,rfl,rfl,by decide +kernel,rfl,by decide +kernel,by decide +kernel⟩
abbrev Zbt:Stmt:=Zr (top 14) 1
abbrev ZhW:List Str:=["self", "board"]
abbrev Zbu:List Str:=["self", "board"]
theorem sc_Store_has:FnScope ZhW Zbu (Zc Zbt):=⟨rfl,rfl,rfl,by decide +kernel,rfl,by decide +kernel,by decide +kernel⟩
abbrev Zab:Stmt:=Zr (top 14) 2
abbrev Zez:List Str:=["self", "board", "words"]
abbrev ZaB:List Str:=["self", "board", "words"]
theorem sc_Store_take_in:FnScope Zez ZaB (Zc Zab):=⟨rfl,rfl,rfl,by decide +kernel,rfl,by decide +kernel,by decide +kernel⟩
abbrev ZN:Stmt:=Zr (top 14) 3
abbrev ZdQ:List Str:=["self", "board"]
abbrev Zam:List Str:=["self", "board"]
theorem sc_Store_give_out:FnScope ZdQ Zam (Zc ZN):=⟨rfl,rfl,rfl,by decide +kernel,rfl,by decide +kernel,by decide +kernel⟩
abbrev ZO:Stmt:=Zr (top 14) 4
abbrev ZdR:List Str:=["self", "board"]
abbrev ZP:List Str:=["self", "board"]
theorem sc_Store_words_of:FnScope ZdR ZP (Zc ZO):=⟨rfl,rfl,rfl,by decide +kernel,rfl,by decide +kernel,by decide +kernel⟩
abbrev Zbv:Stmt:=Zr (top 14) 5
abbrev ZhX:List Str:=["self", "board", "words"]
abbrev ZbW:List Str:=["self", "board", "words"]
theorem sc_Store_lay:FnScope ZhX ZbW (Zc Zbv):=⟨rfl,rfl,rfl,by decide +kernel,rfl,by decide +kernel,by decide +kernel⟩
abbrev ZaM:Stmt:=Zr (top 15) 0
abbrev ZfP:List Str:=["self", "size"]
abbrev Zbi:List Str:=["self", "size"]
theorem sc_Memory_init:FnScope ZfP Zbi (Zc ZaM):=⟨rfl,rfl,rfl,by decide +kernel,rfl,by decide +kernel,by decide +kernel⟩
abbrev ZA:Stmt:=Zr (top 15) 2
abbrev Zcn:List Str:=["self", "board"]
abbrev Zac:List Str:=["self", "board"]
theorem sc_Memory_words_of:FnScope Zcn Zac (Zc ZA):=⟨rfl,rfl,rfl,by decide +kernel,rfl,by decide +kernel,by decide +kernel⟩
abbrev ZaC:Stmt:=Zr (top 17) 0
abbrev ZdN:List Str:=["self", "size", "room_plans"]
abbrev ZbC:List Str:=["self", "size", "room_plans"]
theorem sc_Steps_init:FnScope ZdN ZbC (Zc ZaC):=⟨rfl,rfl,rfl,by decide +kernel,rfl,by decide +kernel,by decide +kernel⟩
abbrev Zbe:Stmt:=Zr (top 17) 1
abbrev Zhj:List Str:=["self", "k"]
abbrev ZbD:List Str:=["self", "k"]
theorem sc_Steps_lies:FnScope Zhj ZbD (Zc Zbe):=⟨rfl,rfl,rfl,by decide +kernel,rfl,by decide +kernel,by decide +kernel⟩
abbrev ZaN:Stmt:=Zr (top 17) 3
abbrev ZfQ:List Str:=["self", "k", "board"]
abbrev ZaO:List Str:=["self", "k", "board"]
theorem sc_Steps_words:FnScope ZfQ ZaO (Zc ZaN):=⟨rfl,rfl,rfl,by decide +kernel,rfl,by decide +kernel,by decide +kernel⟩
abbrev ZaP:Stmt:=Zr (top 17) 5
abbrev ZfR:List Str:=["self", "k"]
abbrev Zah:List Str:=["self", "k"]
theorem sc_Steps_store:FnScope ZfR Zah (Zc ZaP):=⟨rfl,rfl,rfl,by decide +kernel,rfl,by decide +kernel,by decide +kernel⟩
abbrev ZQ:Stmt:=Zr (top 17) 6
abbrev ZdS:List Str:=["self", "events"]
abbrev Zan:List Str:=["self"]
theorem sc_Steps_happened:FnScope ZdS Zan (Zc ZQ):=⟨rfl,rfl,rfl,by decide +kernel,rfl,by decide +kernel,by decide +kernel⟩
abbrev Zaq:Stmt:=Zr (top 17) 7
abbrev ZeX:List Str:=["self", "k", "board"]
abbrev Zaa:List Str:=["self", "k", "board"]
theorem sc_Steps_leaver:FnScope ZeX Zaa (Zc Zaq):=⟨rfl,rfl,rfl,by decide +kernel,rfl,by decide +kernel,by decide +kernel⟩
abbrev ZE:Stmt:=Zr (top 17) 8
abbrev Zdg:List Str:=["self", "k"]
abbrev ZU:List Str:=["self", "k"]
theorem sc_Steps_tell_found:FnScope Zdg ZU (Zc ZE):=⟨rfl,rfl,rfl,by decide +kernel,rfl,by decide +kernel,by decide +kernel⟩
abbrev Zar:Stmt:=Zr (top 17) 9
abbrev ZeY:List Str:=["self", "k", "board"]
abbrev Zas:List Str:=["self", "k", "board"]
theorem sc_Steps_use_in:FnScope ZeY Zas (Zc Zar):=⟨rfl,rfl,rfl,by decide +kernel,rfl,by decide +kernel,by decide +kernel⟩
abbrev Zad:Stmt:=Zr (top 17) 10
abbrev ZeA:List Str:=["self", "k", "board", "words"]
abbrev Zae:List Str:=["self", "k", "board", "words"]
theorem sc_Steps_come_in:FnScope ZeA Zae (Zc Zad):=⟨rfl,rfl,rfl,by decide +kernel,rfl,by decide +kernel,by decide +kernel⟩
abbrev Zat:Stmt:=Zr (top 17) 11
abbrev ZeZ:List Str:=["self", "k", "board"]
abbrev ZH:List Str:=["self", "k", "board"]
theorem sc_Steps_go_out:FnScope ZeZ ZH (Zc Zat):=⟨rfl,rfl,rfl,by decide +kernel,rfl,by decide +kernel,by decide +kernel⟩
abbrev ZbX:Stmt:=Zr (top 17) 12
abbrev ZbY:List Str:=["self", "k", "board", "words"]
abbrev Zaf:Stmt:=Zr (top 17) 13
abbrev ZeB:List Str:=["self", "k", "spot"]
abbrev ZaD:List Str:=["self", "k", "spot"]
theorem sc_Steps_word_in:FnScope ZeB ZaD (Zc Zaf):=⟨rfl,rfl,rfl,by decide +kernel,rfl,by decide +kernel,by decide +kernel⟩
abbrev ZaQ:Stmt:=Zr (top 19) 0
abbrev ZfS:List Str:=["self", "plan", "size", "kind", "room_plans"]
abbrev Zbj:List Str:=["self", "plan"]
theorem sc_Stairs_init:FnScope ZfS Zbj (Zc ZaQ):=⟨rfl,rfl,rfl,by decide +kernel,rfl,by decide +kernel,by decide +kernel⟩
abbrev ZaR:Stmt:=Zr (top 19) 1
abbrev ZfT:List Str:=["self", "spot", "board"]
abbrev Zbk:List Str:=["self", "spot"]
theorem sc_Stairs_read:FnScope ZfT Zbk (Zc ZaR):=⟨rfl,rfl,rfl,by decide +kernel,rfl,by decide +kernel,by decide +kernel⟩
abbrev Zau:Stmt:=Zr (top 19) 4
abbrev Zfa:List Str:=["self", "k", "shelf"]
abbrev ZaS:List Str:=["self", "k", "shelf"]
theorem sc_Stairs_order:FnScope Zfa ZaS (Zc Zau):=⟨rfl,rfl,rfl,by decide +kernel,rfl,by decide +kernel,by decide +kernel⟩
abbrev Zav:Stmt:=Zr (top 19) 5
abbrev Zfb:List Str:=["self", "board", "k"]
abbrev ZaT:List Str:=["self", "board"]
theorem sc_Stairs_fetch:FnScope Zfb ZaT (Zc Zav):=⟨rfl,rfl,rfl,by decide +kernel,rfl,by decide +kernel,by decide +kernel⟩
abbrev ZR:Stmt:=Zr (top 19) 6
abbrev ZdT:List Str:=["self", "board", "k", "store"]
abbrev Zao:List Str:=["self", "board"]
theorem sc_Stairs_nearest:FnScope ZdT Zao (Zc ZR):=⟨rfl,rfl,rfl,by decide +kernel,rfl,by decide +kernel,by decide +kernel⟩
abbrev ZaE:Stmt:=Zr (top 19) 7
abbrev Zbl:List Str:=["self", "k", "board"]
abbrev ZaU:Stmt:=Zr (top 19) 8
abbrev Zbz:List Str:=["self", "k", "board", "words"]
abbrev ZB:Stmt:=Zr (top 19) 9
abbrev ZcS:List Str:=["self", "k", "board", "words", "near", "out"]
abbrev ZK:List Str:=["self", "k", "board"]
theorem sc_Stairs_fetch_down:FnScope ZcS ZK (Zc ZB):=⟨rfl,rfl,rfl,by decide +kernel,rfl,by decide +kernel,by decide +kernel⟩
abbrev ZF:Stmt:=Zr (top 19) 10
abbrev Zdh:List Str:=["self", "k", "board", "words", "fresh", "near", "fresh_near"]
abbrev ZV:List Str:=["self", "k", "board"]
theorem sc_Stairs_drive_out:FnScope Zdh ZV (Zc ZF):=⟨rfl,rfl,rfl,by decide +kernel,rfl,by decide +kernel,by decide +kernel⟩
abbrev Zy:Stmt:=Zr (top 19) 11
abbrev ZcK:List Str:=["self", "k", "board", "words", "fresh"]
abbrev ZG:List Str:=["self", "k", "board"]
theorem sc_Stairs_fetch_apart:FnScope ZcK ZG (Zc Zy):=⟨rfl,rfl,rfl,by decide +kernel,rfl,by decide +kernel,by decide +kernel⟩
abbrev Zai:Stmt:=Zr (top 19) 12
abbrev ZfU:List Str:=["self", "k", "board", "words", "fresh", "out", "out_words", "out_fresh"]
abbrev ZW:List Str:=["self", "k", "board", "words", "fresh"]
theorem sc_Stairs_push:FnScope ZfU ZW (Zc Zai):=⟨rfl,rfl,rfl,by decide +kernel,rfl,by decide +kernel,by decide +kernel⟩
abbrev ZC:Stmt:=Zr (top 19) 13
abbrev ZcT:List Str:=["self", "k", "board", "words", "fresh"]
abbrev ZD:List Str:=["self", "k", "board", "words", "fresh"]
theorem sc_Stairs_come_apart:FnScope ZcT ZD (Zc ZC):=⟨rfl,rfl,rfl,by decide +kernel,rfl,by decide +kernel,by decide +kernel⟩
abbrev s_ask:Stmt:=top 21
abbrev N_ask:List Str:=["room", "board"]
abbrev P_ask:List Str:=["room", "board"]
theorem sc_ask:FnScope N_ask P_ask (Zc s_ask):=⟨rfl,rfl,rfl,by decide +kernel,rfl,by decide +kernel,by decide +kernel⟩
abbrev ZbZ:Stmt:=top 22
abbrev Zhk:List Str:=["shelves", "places", "rule", "row", "room"]
abbrev Zco:List Str:=["shelves", "places", "rule", "row"]
theorem sc_run_row:FnScope Zhk Zco (Zc ZbZ):=⟨rfl,rfl,rfl,by decide +kernel,rfl,by decide +kernel,by decide +kernel⟩
abbrev Zcq:Stmt:=top 23
abbrev Zjd:List Str:=["shelves", "places", "rule", "row"]
abbrev Zdi:List Str:=["shelves", "places", "rule", "row"]
theorem sc_misses:FnScope Zjd Zdi (Zc Zcq):=⟨rfl,rfl,rfl,by decide +kernel,rfl,by decide +kernel,by decide +kernel⟩
abbrev s_box:Stmt:=top 25
abbrev N_box:List Str:=["_law_script", "_law_k", "_law_cell"]
abbrev P_box:List Str:=["_law_script", "_law_k"]
theorem sc_box:FnScope N_box P_box (Zc s_box):=⟨rfl,rfl,rfl,by decide +kernel,rfl,by decide +kernel,by decide +kernel⟩
abbrev Zfs:Stmt:=top 26
abbrev Zov:List Str:=["_law_box_here", "_law_size", "_law_found", "_law_step", "_law_once", "_law_twice"]
abbrev Zdj:List Str:=["_law_box_here", "_law_size"]
theorem sc_take:FnScope Zov Zdj (Zc Zfs):=⟨rfl,rfl,rfl,by decide +kernel,rfl,by decide +kernel,by decide +kernel⟩
abbrev ZcI:Stmt:=top 27
abbrev Zmj:List Str:=["_law_script", "_law_size", "_law_cells", "_law_k", "_law_cell"]
abbrev Zdk:List Str:=["_law_script", "_law_size"]
theorem sc_folded:FnScope Zmj Zdk (Zc ZcI):=⟨rfl,rfl,rfl,by decide +kernel,rfl,by decide +kernel,by decide +kernel⟩
abbrev ZdO:Stmt:=top 28
abbrev ZmM:List Str:=["_law_found", "_law_due_here"]
abbrev ZdP:List Str:=["_law_found", "_law_due_here"]
theorem sc_same:FnScope ZmM ZdP (Zc ZdO):=⟨rfl,rfl,rfl,by decide +kernel,rfl,by decide +kernel,by decide +kernel⟩
abbrev Zbw:Stmt:=top 29
abbrev ZhY:List Str:=["_law_box_here", "_law_far", "_law_shelves", "_law_places", "_law_rule"]
abbrev Zca:List Str:=["_law_box_here"]
theorem sc_room_plan:FnScope ZhY Zca (Zc Zbw):=⟨rfl,rfl,rfl,by decide +kernel,rfl,by decide +kernel,by decide +kernel⟩
abbrev ZeC:Stmt:=top 30
abbrev ZmN:List Str:=["_law_box_here", "_law_kind", "_law_size"]
abbrev Zhl:List Str:=["_law_box_here"]
theorem sc_plan:FnScope ZmN Zhl (Zc ZeC):=⟨rfl,rfl,rfl,by decide +kernel,rfl,by decide +kernel,by decide +kernel⟩
abbrev Zaj:Stmt:=top 31
abbrev Zdl:List Str:=["_law_box_here", "_law_size", "_law_many_here", "_law_way", "_law_begin", "_law_first", "_law_found", "_law_far", "_law_k", "_law_at"]
abbrev Zbm:List Str:=["_law_box_here", "_law_size"]
theorem sc_some_boards:FnScope Zdl Zbm (Zc Zaj):=⟨rfl,rfl,rfl,by decide +kernel,rfl,by decide +kernel,by decide +kernel⟩
abbrev Zft:Stmt:=top 32
abbrev Zow:List Str:=["_law_box_here", "_law_few", "_law_most", "_law_great"]
abbrev Zhm:List Str:=["_law_box_here", "_law_few", "_law_most"]
theorem sc_many:FnScope Zow Zhm (Zc Zft):=⟨rfl,rfl,rfl,by decide +kernel,rfl,by decide +kernel,by decide +kernel⟩
abbrev s_due:Stmt:=top 33
abbrev N_due:List Str:=["_law_pair", "_law_board", "_law_events"]
abbrev P_due:List Str:=["_law_pair", "_law_board"]
theorem sc_due:FnScope N_due P_due (Zc s_due):=⟨rfl,rfl,rfl,by decide +kernel,rfl,by decide +kernel,by decide +kernel⟩
abbrev Zcr:Stmt:=top 34
abbrev ZfV:List Str:=["_law_box_here", "_law_size", "_law_kind", "_law_rooms", "_law_shelves", "_law_places", "_law_rule", "_law_writing", "_law_some", "_law_row", "_law_stairs", "_law_room", "_law_missed", "_law_board", "_law_pair", "_law_found", "_law_numbers"]
abbrev ZeD:List Str:=["_law_box_here"]
theorem sc_right:FnScope ZfV ZeD (Zc Zcr):=⟨rfl,rfl,rfl,by decide +kernel,rfl,by decide +kernel,by decide +kernel⟩
abbrev s_law:Stmt:=top 35
abbrev N_law:List Str:=["_law_script", "_law_cells"]
abbrev P_law:List Str:=["_law_script"]
theorem sc_law:FnScope N_law P_law (Zc s_law):=⟨rfl,rfl,rfl,by decide +kernel,rfl,by decide +kernel,by decide +kernel⟩
structure Txt (K:W.Frag) (mg:Str->Option Value):Prop where
  z_abs:mg "abs" = none
  z_all:mg "all" = none
  z_bool:mg "bool" = none
  z_divmod:mg "divmod" = none
  z_enumerate:mg "enumerate" = none
  z_int:mg "int" = none
  z_isinstance:mg "isinstance" = none
  z_len:mg "len" = none
  z_list:mg "list" = none
  z_max:mg "max" = none
  z_min:mg "min" = none
  z_range:mg "range" = none
  z_set:mg "set" = none
  z_sorted:mg "sorted" = none
  z_str:mg "str" = none
  z_tuple:mg "tuple" = none
  z_zip:mg "zip" = none
  cl_Room:Cls K (clsOf K "Room")
  n_Room_places:NoAttr K (clsOf K "Room") "places"
  n_Room_rule:NoAttr K (clsOf K "Room") "rule"
  n_Room_shelves:NoAttr K (clsOf K "Room") "shelves"
  n_Room_standing:NoAttr K (clsOf K "Room") "standing"
  n_Room_uses:NoAttr K (clsOf K "Room") "uses"
  cl_Store:Cls K (clsOf K "Store")
  n_Store_fresh:NoAttr K (clsOf K "Store") "fresh"
  n_Store_held:NoAttr K (clsOf K "Store") "held"
  n_Store_late:NoAttr K (clsOf K "Store") "late"
  n_Store_room:NoAttr K (clsOf K "Store") "room"
  cl_Memory:Cls K (clsOf K "Memory")
  n_Memory_kept:NoAttr K (clsOf K "Memory") "kept"
  n_Memory_size:NoAttr K (clsOf K "Memory") "size"
  cl_Stairs:Cls K (clsOf K "Stairs")
  n_Stairs_bottom:NoAttr K (clsOf K "Stairs") "bottom"
  n_Stairs_events:NoAttr K (clsOf K "Stairs") "events"
  n_Stairs_kind:NoAttr K (clsOf K "Stairs") "kind"
  n_Stairs_last:NoAttr K (clsOf K "Stairs") "last"
  n_Stairs_size:NoAttr K (clsOf K "Stairs") "size"
  n_Stairs_stores:NoAttr K (clsOf K "Stairs") "stores"
structure BoxAt (H:Hp) (b:Addr) (a q c:Int):Prop where
  at':H b=some (.lst [.int a,.int q,.int c])
  a0:0<=a
  q0:0<=q
  q1:q<2147483647
  c0:0<=c
theorem BoxAt.sb {H H':Hp} {b x:Addr} {a q c:Int} (B:BoxAt H b a q c) (s:SB x H H') (n:b≠x):BoxAt H' b a q c:=⟨s _ _ n B.at',B.a0,B.q0,B.q1,B.c0⟩
theorem BoxAt.same {H H':Hp} {b:Addr} {a q c:Int} (B:BoxAt H b a q c) (s:Same H H'):BoxAt H' b a q c:=⟨s _ _ B.at',B.a0,B.q0,B.q1,B.c0⟩
def ZeE:Sp:=λvs H Q _=>∃ (b:Addr) (a q c n:Int),vs=[.ref b,.int n]/\BoxAt H b a q c/\c<1099511627776/\0<n/\n<1073741824 /\
  ∀ (r a' c':Int) (H':Hp),0<=r->r<n->BoxAt H' b a' q c'->c'<=c+1->SB b H H'->Q (.int r) H'
section
variable {P:Program} {w:World} {K:W.Frag} {mg:Str->Option Value} {base:Heap}
theorem em0 (a:Int) {b:Int} (h:0<b):0<=a % b:=Int.emod_nonneg a (by omega)
theorem em1 (a:Int) {b:Int} (h:0<b):a % b<b:=Int.emod_lt_of_pos a h
theorem Zny {f:Addr} {fd:FuncData} (F:Fun K "_law_take" "_law_take" Zfs f fd) (T:Txt K mg):FnOk P w K mg base CX0 1 f fd Zdj ZeE:=by
  refine F.ok sc_take (λvs H Q E h=>?_) (λcdv A outer s H vs Q E hr h=>?_)
  . obtain ⟨b,a,q,c,n,rfl,_⟩:=h
    rfl
  obtain ⟨b,a,q,c,n,rfl,B,hc,hn0,hn1,k⟩:=h
  have nd:=sc_take.nd
  refine ⟨_,(Zh (ps_if (ZZ op_gt (pe_ix (Zu (K:=K) rfl) (pv 0) Zj (λ_ _=>rfl)) Zj (ZM _)) (Zh (ZbQ (Zs ZhL rfl T.z_divmod ZhO (pc (pe_ix (Zu (K:=K) rfl) (pv 0) Zj (λ_ _=>rfl)) (pc (pv 1) Ze))) (Zaz (K:=K) (n:=2) rfl rfl (Zp (Zfk (pv 0) Zj ZcG) (Zp (pgn 2 nd) Zay))))
      (Zi (Zw (pv 2)))) Zz)
      (Zh (ZbQ (pe_op Zaw (pe_ix (Zu (K:=K) rfl) (pv 0) Zj (λ_ _=>rfl)) Zj) (Zfk (pv 0) Zj ZcG))
      (Zh (pst 3 nd (pe_op Zaw Zj (pe_op Zct (pe_ix (Zu (K:=K) rfl) (pv 0) Zj (λ_ _=>rfl)) (pe_ix (Zu (K:=K) rfl) (pv 0) Zj (λ_ _=>rfl)))))
      (Zh (pst 4 nd (pe_op Zci (pe_op Zct (pe_op Zaw (pe_ix (Zu (K:=K) rfl) (pv 0) Zj (λ_ _=>rfl)) (pe_op Zct Zj (pe_ix (Zu (K:=K) rfl) (pv 0) Zj (λ_ _=>rfl)))) (pv 3)) Zj))
      (Zh (pst 5 nd (pe_op Zci (pe_op Zaw (pe_op Zct (pv 4) (pe_op Zaw (pe_op Zci (pv 4) Zj) Zj)) (pe_ix (Zu (K:=K) rfl) (pv 0) Zj (λ_ _=>rfl))) Zj))
      (Zi (Zw (pe_op Zci (pe_op Zdt (pe_op Zci (pe_op Zct (pv 5) (pe_op Zaw (pe_op Zci (pv 5) Zj) Zj)) Zj) Zj) (pv 1))))))))),?_⟩
  have hb:=B.at'
  have hc0:=B.c0
  have hq0:=B.q0
  have hq1:=B.q1
  refine ⟨_,rfl,b,_,_,_,rfl,rfl,SqL.of hb,atI0,_,_,rfl,rfl,_,rfl,?_⟩
  refine Zbo (λha=>?_) (λha=>?_)
  . refine ⟨_,rfl,b,_,_,_,rfl,rfl,SqL.of hb,atI0,_,rfl,_,_,rfl,⟨hn0,hn1⟩,λp hp=>?_⟩
    have hbp:upd H p (.tup [.int (a / n),.int (a % n)]) b=some (.lst [.int a,.int q,.int c]):=by rw [Zb (Zd hb hp)]; exact hb
    refine ⟨p,_,rfl,SqT.of Za,rfl,_,_,rfl,⟨_,rfl,b,_,_,0,rfl,rfl,hbp,rfl,?_⟩⟩
    refine ⟨_,_,rfl,rfl,_,rfl,?_⟩
    exact k _ (a / n) c _ (em0 _ hn0) (em1 _ hn0) ⟨Za,Int.ediv_nonneg B.a0 (by omega),hq0,hq1,hc0⟩ (by omega) ((Zg hp _).sb b |>.trans (Zeu b _ _))
  . refine ⟨_,rfl,b,_,_,_,rfl,rfl,SqL.of hb,atI2,_,_,rfl,rfl,_,rfl,b,_,_,2,rfl,rfl,hb,rfl,?_⟩
    have hb1:upd H b (.lst [.int a,.int q,.int (c+1)]) b=some (.lst [.int a,.int q,.int (c+1)]):=Za
    have i0:SqL K (upd H b (.lst [.int a,.int q,.int (c+1)])) b [.int a,.int q,.int (c+1)]:=SqL.of hb1
    refine ⟨_,rfl,b,_,_,_,rfl,rfl,i0,atI2,_,rfl,b,_,_,_,rfl,rfl,i0,atI2,_,_,rfl,rfl,.inl ⟨by omega,by omega⟩,_,_,rfl,rfl,?_⟩
    refine ⟨_,rfl,b,_,_,_,rfl,rfl,i0,atI1,_,rfl,b,_,_,_,rfl,rfl,i0,atI2,_,_,rfl,rfl,.inl ⟨by decide,by decide⟩,_,_,rfl,rfl,_,rfl,_,_,rfl,rfl,.inl ⟨by omega,by omega⟩,_,_,rfl,rfl,(by show (0:Int)<_; decide),?_⟩
    generalize hon:(q+39373 * (c+1)) * (69621+(c+1) * (c+1)) % 2147483587=on
    have on0:0<=on:=by rw [← hon]; exact em0 _ (by decide)
    have on1:on<2147483587:=by rw [← hon]; exact em1 _ (by decide)
    refine ⟨_,rfl,_,rfl,_,_,rfl,rfl,(by show (0:Int)<_; decide),_,_,rfl,rfl,_,_,rfl,rfl,.inl ⟨by omega,by omega⟩,_,rfl,b,_,_,_,rfl,rfl,i0,atI2,_,_,rfl,rfl,_,_,rfl,rfl,(by show (0:Int)<_; decide),?_⟩
    generalize htw:(on * (on % 30011+5)+(c+1)) % 2147483563=tw
    have tw0:0<=tw:=by rw [← htw]; exact em0 _ (by decide)
    have tw1:tw<2147483563:=by rw [← htw]; exact em1 _ (by decide)
    refine ⟨_,rfl,_,rfl,_,_,rfl,rfl,(by show (0:Int)<_; decide),_,_,rfl,rfl,_,_,rfl,rfl,.inl ⟨by omega,by omega⟩,_,_,rfl,rfl,(by show (0:Int)<_; decide),_,_,rfl,rfl,⟨by decide,by decide⟩,_,rfl,_,_,rfl,rfl,hn0,?_⟩
    exact k _ a (c+1) _ (em0 _ hn0) (em1 _ hn0) ⟨hb1,B.a0,hq0,hq1,by omega⟩ (by omega) (Zeu b _ _)
end
section
variable {P:Program} {w:World} {K:W.Frag} {mg:Str->Option Value} {base:Heap}
def spBox (K:W.Frag):Sp:=λvs H Q _=>∃ (l:Addr) (ns:List Int) (k:Int),vs=[.ref l,.int k]/\SqL K H l (ns.map V.int)/\0<=k/\k<1000000 /\
  ∀ (r:Addr) (a q:Int) (H':Hp),H r=none->Same H H'->BoxAt H' r a q 0->Q (.ref r) H'
theorem ite01 (b:Bool) : -(2 ^ 64)<(if b then 1 else 0:Int)/\(if b then 1 else 0:Int)<2 ^ 64:=by cases b <;> decide
theorem Zje {ns:List Int} {k:Int} (h0:0<=k) (h:k<(ns.length:Int)):∃ v:Int,atI (ns.map V.int) k=some (.int v):=by
  have hk:k.toNat<ns.length:=by omega
  have q:atI (ns.map V.int) ((k.toNat:Nat):Int)=some (.int ns[k.toNat]):=ZbS (by rw [getElem?_map,getElem?_eq_getElem hk] <;> rfl)
  rw [show ((k.toNat:Nat):Int)=k by omega] at q
  exact ⟨_,q⟩
theorem Zox (i:Int):0<=(if i<0 then -i else i):=by split <;> omega
theorem ZkW (i:Int) (b:Bool):0<=(if i<0 then -i else i) * (if b then 1 else 0:Int):=Int.mul_nonneg (Zox i) (by cases b <;> decide)
theorem Zoy {f:Addr} {fd:FuncData} (F:Fun K "_law_box" "_law_box" s_box f fd) (T:Txt K mg):FnOk P w K mg base CX0 1 f fd P_box (spBox K):=by
  refine F.ok sc_box (λvs H Q E h=>?_) (λcdv A outer s H vs Q E hr h=>?_)
  . obtain ⟨l,ns,k,rfl,_⟩:=h
    rfl
  obtain ⟨l,ns,k,rfl,hS,hk0,hk1,kk⟩:=h
  have nd:=sc_box.nd
  refine ⟨_,(Zh (pst 2 nd (ZcD (ZZ op_lt (pv 1) (Zs (ZS (K:=K) rfl) rfl T.z_len PySem.boot_len (pc (pv 0) Ze)) (ZM _)) (pe_ix (Zu (K:=K) rfl) (pv 0) (pv 1) (λ_ _=>rfl)) Zj))
      (Zi (Zw (Zcc (pc (pe_op Zct (Zs ZiG rfl T.z_abs ZiP (pc (pv 2) Ze)) (Zap Zcw rfl T.z_int Zcj (pc (ZbR op_ge (Zs ZiG rfl T.z_abs ZiP (pc (pv 2) Ze)) (pe_op ZnU Zj Zj) (ZM _)) Ze))) (pc (pe_op Zci (pe_op Zct (pe_op Zaw (pe_op Zaw (pe_op Zci (pv 2) Zj) (pe_op Zct Zj (pv 1))) Zj) Zj) Zj) (pc Zj Ze))))))),?_⟩
  refine ⟨_,rfl,_,rfl,l,_,rfl,.inl hS,_,_,rfl,rfl,_,rfl,?_⟩
  refine Zbo (λc=>?_) (λc=>?_)
  . rw [length_map] at c
    obtain ⟨v,hv⟩:=Zje hk0 c
    refine ⟨_,rfl,_,rfl,l,_,_,_,rfl,rfl,hS,hv,?_⟩
    refine ⟨_,rfl,_,rfl,_,rfl,_,rfl,_,_,rfl,rfl,⟨by decide,by decide,by decide⟩,_,_,rfl,rfl,.inr ⟨_,rfl,_,_,rfl,rfl,.inr (ite01 _),?_⟩⟩
    refine ⟨_,rfl,_,_,rfl,rfl,(by show (0:Int)<_; decide),_,rfl,_,_,rfl,rfl,.inl ⟨by decide,by decide⟩,_,_,rfl,rfl,_,_,rfl,rfl,_,_,rfl,rfl,.inr ⟨by decide,by decide⟩,_,_,rfl,rfl,(by show (0:Int)<_; decide),(by show 3<=sizeLine; decide),λr hr=>?_⟩
    exact kk r _ _ _ hr (Zg hr _) ⟨Za,ZkW _ _,em0 _ (by decide),em1 _ (by decide),Int.le_refl _⟩
  . refine ⟨_,rfl,_,rfl,_,rfl,_,rfl,_,_,rfl,rfl,⟨by decide,by decide,by decide⟩,_,_,rfl,rfl,.inr ⟨_,rfl,_,_,rfl,rfl,.inr (ite01 _),?_⟩⟩
    refine ⟨_,rfl,_,_,rfl,rfl,(by show (0:Int)<_; decide),_,rfl,_,_,rfl,rfl,.inl ⟨by decide,by decide⟩,_,_,rfl,rfl,_,_,rfl,rfl,_,_,rfl,rfl,.inr ⟨by decide,by decide⟩,_,_,rfl,rfl,(by show (0:Int)<_; decide),(by show 3<=sizeLine; decide),λr hr=>?_⟩
    exact kk r _ _ _ hr (Zg hr _) ⟨Za,ZkW _ _,em0 _ (by decide),em1 _ (by decide),Int.le_refl _⟩
def ZfW (K:W.Frag):Sp:=λvs H Q _=>∃ (a:Addr) (ns:List Int) (n:Nat),vs=[.ref a,.int (n:Int)]/\SqL K H a (ns.map V.int)/\ns.length<=63/\0<n/\n<=63 /\
  ∀ (r:Addr) (ms:List Int) (H':Hp),H r=none->Same H H'->H' r=some (.lst (ms.map V.int))->ms.length=min n ns.length->Q (.ref r) H'
theorem ZkX (ns:List Int) (lo hi:Option Int):cutV (ns.map V.int) lo hi=((ns.drop (HT.sIx ns.length 0 lo)).take (HT.sIx ns.length ns.length hi - HT.sIx ns.length 0 lo)).map V.int:=by
  unfold cutV
  rw [length_map,← List.map_drop,← List.map_take]
theorem Zeb (ms:List Int) (j:Nat) (v:Int):(ms.map V.int).set j (.int v)=(ms.set j v).map V.int:=by rw [List.map_set]
theorem ZkY {n:Nat} {i:Int} (h0:0<=i) (h:i<n):ixN n i=some i.toNat:=by unfold ixN; rw [if_pos h0,if_pos h]
theorem Zoz {ms:List Int} {i:Nat} {x:V} (h:(ms.map V.int)[i]?=some x):∃ z,x=V.int z/\i<ms.length:=by
  rw [getElem?_map] at h
  cases e:ms[i]? with
  | none=>rw [e] at h; cases h
  | some z=>rw [e] at h; exact ⟨z,(Option.some.inj h).symm,(List.getElem?_eq_some_iff.mp e).1⟩
theorem ZkZ {f:Addr} {fd:FuncData} (F:Fun K "_law_folded" "_law_folded" ZcI f fd) (T:Txt K mg):FnOk P w K mg base CX0 1 f fd Zdk (ZfW K):=by
  refine F.ok sc_folded (λvs H Q E h=>?_) (λcdv A outer s H vs Q E hr h=>?_)
  . obtain ⟨a,ns,n,rfl,_⟩:=h
    rfl
  obtain ⟨a,ns,n,rfl,hS,h63,hn0,hn1,k⟩:=h
  have nd:=sc_folded.nd
  refine ⟨_,(Zh (pst 2 nd (Zap (ZbJ (K:=K) rfl) rfl T.z_list ZaH (pc (ZfD (ZiR (K:=K) rfl) (pv 0) Zkn (ZfC (pv 1))) Ze)))
      (Zh (Zfl PassesOwn.never rfl (Zkv rfl T.z_enumerate (pc (ZfD (ZiR (K:=K) rfl) (pv 0) (ZfC (pv 1)) (ZfC Zj)) Ze)) (Zaz (K:=K) (n:=2) rfl rfl (Zp (pgn 3 nd) (Zp (pgn 4 nd) Zay))) (Zi (ZbQ (pe_op Zaw (pe_ix (Zu (K:=K) rfl) (pv 2) (pe_op Zci (pv 3) (pv 1)) (λ_ _=>rfl)) (pe_op Zct (pv 4) (pe_op Zaw (pv 3) Zj))) (Zfk (pv 2) (pe_op Zci (pv 3) (pv 1)) ZcG))))
      (Zi (Zw (pv 2))))),?_⟩
  refine ⟨_,rfl,_,rfl,_,rfl,a,_,rfl,hS,λp hp=>?_⟩
  have s1:=Zg hp (.lst (cutV (ns.map V.int) none (some (n:Int))))
  refine ⟨p,_,rfl,.inl (SqL.of Za),λr hr1=>?_⟩
  have s2:=s1.trans (Zg hr1 (.lst (cutV (ns.map V.int) none (some (n:Int)))))
  have hrH:H r=none:=s1.free hr1
  rw [ZkX] at *
  generalize hms:(ns.drop (HT.sIx ns.length 0 none)).take (HT.sIx ns.length ns.length (some (n:Int)) - HT.sIx ns.length 0 none)=ms at *
  have lms:ms.length=min n ns.length:=by
    rw [← hms,HT.sIx_none,HT.sIx_nat,length_take,length_drop]; omega
  generalize hH2:upd (upd H p (.lst (ms.map V.int))) r (.lst (ms.map V.int))=H2 at *
  have h2r:H2 r=some (.lst (ms.map V.int)):=by rw [← hH2]; exact Za
  refine ⟨_,rfl,_,rfl,_,rfl,_,rfl,a,_,rfl,s2.seq hS,λt ht=>?_⟩
  rw [ZkX]
  generalize hws:(ns.drop (HT.sIx ns.length 0 (some (n:Int)))).take (HT.sIx ns.length ns.length (some 63) - HT.sIx ns.length 0 (some (n:Int)))=ws
  have lws:0<ws.length->n<ns.length:=λh=>by
    rw [← hws,length_take,length_drop,HT.sIx_nat] at h; omega
  have lw63:ws.length<=63:=by rw [← hws,length_take,length_drop]; omega
  have s3:=s2.trans (Zg ht (.lst (ws.map V.int)))
  have nrt:r≠t:=Zd h2r ht
  refine ⟨t,rfl,⟨_,SqL.of Za⟩,ZiQ (K:=K) (a:=t) (xs:=ws.map V.int) (λi σ H'=>∃ (ms':List Int) (v3 v4:Option V),σ=[some (.ref a),some (.int n),some (.ref r),v3,v4]/\ms'.length=min n ns.length/\H' r=some (.lst (ms'.map V.int))/\H' t=some (.lst (ws.map V.int))/\Same H H')
    ⟨ms,none,none,rfl,lms,by rw [Zb nrt]; exact h2r,Za,s3⟩ (λi σ H' _ ⟨_,_,_,_,_,_,q,_⟩=>SqL.of q) ?_ ?_⟩
  . rintro i x u σ H' hi ⟨ms',v3,v4,rfl,lm,h1,h2,s4⟩ hu
    obtain ⟨z,rfl,hlt⟩:=Zoz hi
    have hnl:=lws (by omega)
    have s5:=Zg hu (.tup [.int (i:Int),.int z])
    refine ⟨u,_,rfl,SqT.of Za,rfl,_,_,rfl,_,_,rfl,rfl,?_⟩
    have m0:0<=(i:Int) % (n:Int):=em0 _ (by omega)
    have m1:(i:Int) % (n:Int)<(n:Int):=em1 _ (by omega)
    obtain ⟨v,hv⟩:=Zje (ns:=ms') m0 (by omega)
    refine ⟨_,rfl,_,rfl,_,rfl,_,_,rfl,rfl,(by show (0:Int)<_; omega),r,_,_,_,rfl,rfl,SqL.of (s5 _ _ h1),hv,?_⟩
    refine ⟨_,rfl,_,rfl,_,_,rfl,rfl,_,_,rfl,rfl,.inr ⟨by omega,by omega⟩,_,_,rfl,rfl,?_⟩
    refine ⟨_,rfl,_,rfl,_,rfl,_,_,rfl,rfl,(by show (0:Int)<_; omega),r,_,_,((i:Int) % (n:Int)).toNat,rfl,rfl,s5 _ _ h1,ZkY m0 (by rw [length_map]; omega),?_⟩
    refine ⟨ms'.set ((i:Int) % (n:Int)).toNat (v+z * ((i:Int)+2)),_,_,rfl,by rw [length_set]; exact lm,by rw [Za,Zeb],?_,?_⟩
    . rw [Zb (Ne.symm nrt)]; exact s5 _ _ h2
    . intro b o e
      rw [Zb (Zd e hrH)]
      exact s5 _ _ (s4 _ _ e)
  . rintro σ H' ⟨ms',v3,v4,rfl,lm,h1,h2,s4⟩
    exact ⟨_,rfl,k r ms' H' hrH s4 h1 lm⟩
end
theorem hide {t u:TS} {D:Ends} {σ:St} {H:Hp} (h:∀ u',u'=u->tSeq t u' D σ H):tSeq t u D σ H:=h u rfl
theorem cpA {te:TE} {g:TG} {u:TS} {D:Ends} {σ:St} {H:Hp} (Post:V->Hp->Prop) (h1:∀ Q':VK,(∀ v H1,Post v H1->Q' v H1)->te σ H Q') (h2:∀ v H1,Post v H1->g v σ H1 (u D)):tSeq (tAsg te g) u D σ H:=h1 _ h2
theorem cpI {ts u:TS} {D:Ends} {σ:St} {H:Hp} (Post:St->Hp->Prop) (h1:∀ D':Ends,D'.rt=D.rt->(∀ σ1 H1,Post σ1 H1->D'.nx σ1 H1)->ts D' σ H) (h2:∀ σ1 H1,Post σ1 H1->u D σ1 H1):tSeq ts u D σ H:=h1 _ rfl h2
theorem cpIfS {tt:TT} {ta tb:TS} {D:Ends} {σ:St} {H:Hp} (Post:Bool->Hp->Prop) (h1:∀ Q':Bool->Hp->Prop,(∀ v H1,Post v H1->Q' v H1)->tt σ H Q') (h2:∀ c H1,Post c H1->if c=true then ta D σ H1 else tb D σ H1):tIfS tt ta tb D σ H:=h1 _ h2
theorem cpOr {t u:TT} {σ:St} {H:Hp} {Q:Bool->Hp->Prop} (Post:Bool->Hp->Prop) (h1:∀ Q':Bool->Hp->Prop,(∀ v H1,Post v H1->Q' v H1)->t σ H Q') (h2:∀ c H1,Post c H1->if c=true then Q true H1 else u σ H1 Q):tOr t u σ H Q:=h1 _ h2
theorem Zjf {b l:Addr} {H G:Hp} {xs:List V} (s:SB b H G) (hb:G b=some (.lst xs)) (hl:G l=none):H l=none:=by
  cases e:H l with
  | none=>rfl
  | some o =>
    by_cases h:l=b
    . rw [h,hb] at hl; cases hl
    . rw [s _ _ h e] at hl; cases hl
theorem ZoA {ns:List Int} {k:Int} (h0:0<=k) (h:k<(ns.length:Int)):∃ v:Int,atI (ns.map V.int) k=some (.int v)/\v∈ns:=by
  have hk:k.toNat<ns.length:=by omega
  have q:atI (ns.map V.int) ((k.toNat:Nat):Int)=some (.int ns[k.toNat]):=ZbS (by rw [getElem?_map,getElem?_eq_getElem hk] <;> rfl)
  rw [show ((k.toNat:Nat):Int)=k by omega] at q
  exact ⟨_,q,getElem_mem hk⟩
theorem Zhn (ns:List Int):(ns.map V.int).all flatV=true:=by
  rw [all_eq_true]
  intro x hx
  obtain ⟨n,_,rfl⟩:=List.mem_map.mp hx
  rfl
theorem Zmk {n:Nat} (h:0<n):ixN n (-1)=some (n - 1):=by
  unfold ixN
  rw [if_neg (by decide),if_pos (by omega)]
  congr 1
  omega
theorem ZhZ {ns:List Int} {j:Nat} {v x:Int} (h:x∈ns.set j v):x∈ns\/x=v:=by
  rcases List.mem_or_eq_of_mem_set h with h | h
  . exact .inl h
  . exact .inr h
theorem ZeF {i j:Int} {A B:Prop} (h1:i=j->A) (h2:¬ i=j->B):if decide (V.int i=V.int j)=true then A else B :=
  Zbo (λe=>h1 (by injection e)) (λe=>h2 λz=>e (by rw [z]))
theorem ifF {b:Bool} {A B:Prop} (h:b=false) (hB:B):if b=true then A else B:=by subst h; rw [if_neg Bool.false_ne_true]; exact hB
theorem ifT {b:Bool} {A B:Prop} (h:b=true) (hA:A):if b=true then A else B:=by subst h; rw [if_pos rfl]; exact hA
theorem ZfX {α:Type} {xs:List α} {i:Int} (h0:0<=i) (h1:i<(xs.length:Int)):∃ v,atI xs i=some v/\v∈xs:=by
  have hk:i.toNat<xs.length:=by omega
  have q:atI xs ((i.toNat:Nat):Int)=some xs[i.toNat]:=ZbS (getElem?_eq_getElem hk)
  rw [show ((i.toNat:Nat):Int)=i by omega] at q
  exact ⟨_,q,getElem_mem hk⟩
theorem ZmO (x y:Int) (k:Bool):∃ n:Int,atI [V.int x,V.int y] (if k=true then 1 else 0)=some (.int n)/\(n=x\/n=y):=by
  cases k with
  | true=>exact ⟨y,atI1,.inr rfl⟩
  | false=>exact ⟨x,atI0,.inl rfl⟩
theorem pick2 (x y r:Int) (h0:0<=r) (h1:r<2):∃ n:Int,atI [V.int x,V.int y] r=some (.int n)/\(n=x\/n=y):=by
  have h:r=0\/r=1:=by omega
  rcases h with rfl | rfl
  . exact ⟨x,atI0,.inl rfl⟩
  . exact ⟨y,atI1,.inr rfl⟩
theorem ZoB (r:Int) (h0:0<=r) (h1:r<4):∃ n:Int,atI [V.int 1,V.int 1,V.int 12,V.int 24] r=some (.int n)/\(n=1\/n=12\/n=24):=by
  obtain ⟨x,hx,m⟩:=ZfX (xs:=[V.int 1,V.int 1,V.int 12,V.int 24]) h0 (by show r<((4:Nat):Int); omega)
  simp only [mem_cons,not_mem_nil,or_false] at m
  rcases m with rfl | rfl | rfl | rfl
  . exact ⟨_,hx,.inl rfl⟩
  . exact ⟨_,hx,.inl rfl⟩
  . exact ⟨_,hx,.inr (.inl rfl)⟩
  . exact ⟨_,hx,.inr (.inr rfl)⟩
theorem pick5 (r:Int) (h0:0<=r) (h1:r<5):∃ v,atI [V.int 1,V.int 1,V.int 2,V.int 3,V.int 4] r=some (.int v)/\1<=v/\v<=64:=by
  obtain ⟨x,hx,m⟩:=ZfX (xs:=[V.int 1,V.int 1,V.int 2,V.int 3,V.int 4]) h0 (by show r<((5:Nat):Int); omega)
  simp only [mem_cons,not_mem_nil,or_false] at m
  rcases m with rfl | rfl | rfl | rfl | rfl <;> exact ⟨_,hx,by decide,by decide⟩
def Rule (z:Str):Prop:=z = "old" \/ z = "come" \/ z = "few"
theorem pickR (r:Int) (h0:0<=r) (h1:r<3):∃ z:Str,atI [V.str "old",V.str "come",V.str "few"] r=some (.str z)/\Rule z:=by
  obtain ⟨x,hx,m⟩:=ZfX (xs:=[V.str "old",V.str "come",V.str "few"]) h0 (by show r<((3:Nat):Int); omega)
  simp only [mem_cons,not_mem_nil,or_false] at m
  rcases m with rfl | rfl | rfl
  . exact ⟨_,hx,.inl rfl⟩
  . exact ⟨_,hx,.inr (.inl rfl)⟩
  . exact ⟨_,hx,.inr (.inr rfl)⟩
theorem Zla {s:Int} (h0:1<=s) (h1:s<=16):555<=9999 / s/\9999 / s<=9999/\1<=(if 10000 / s - 480 > 1 then 10000 / s - 480 else 1)/\(if 10000 / s - 480 > 1 then 10000 / s - 480 else 1)+455<=9999 / s:=by
  have key:∀ n:Fin 17,1<=(n.val:Int)->(555<=9999 / (n.val:Int)/\9999 / (n.val:Int)<=9999/\1<=(if 10000 / (n.val:Int) - 480 > 1 then 10000 / (n.val:Int) - 480 else 1)/\(if 10000 / (n.val:Int) - 480 > 1 then 10000 / (n.val:Int) - 480 else 1)+455<=9999 / (n.val:Int)):=by decide +kernel
  have e:((⟨s.toNat,by omega⟩:Fin 17).val:Int)=s:=by show ((s.toNat:Nat):Int)=s; omega
  have q:=key ⟨s.toNat,by omega⟩ (by rw [e]; exact h0)
  rw [e] at q
  exact q
def Bds (t:Int) (ns:List Int):Prop:=∀ n∈ns,0<=n/\n<=t
def Low (t:Int) (ns:List Int):Prop:=∃ x∈ns,x+1<=t
theorem ZmP {ns:List Int} {k:Int} (h0:0<=k) (h:k<(ns.length:Int)):∃ v:Int,atI (ns.map V.int) k=some (.int v)/\ns[k.toNat]?=some v:=by
  have hk:k.toNat<ns.length:=by omega
  have q:atI (ns.map V.int) ((k.toNat:Nat):Int)=some (.int ns[k.toNat]):=ZbS (by rw [getElem?_map,getElem?_eq_getElem hk] <;> rfl)
  rw [show ((k.toNat:Nat):Int)=k by omega] at q
  exact ⟨_,q,getElem?_eq_getElem hk⟩
theorem Zml {ns:List Int} {i j:Nat} {x1 x2 x:Int} (h1:ns[j]?=some x1) (h2:ns[i]?=some x2) (h:x∈ns):x∈(ns.set i x1).set j x2:=by
  obtain ⟨p,hp⟩:=getElem?_of_mem h
  have li:=(List.getElem?_eq_some_iff.mp h2).1
  have lj:=(List.getElem?_eq_some_iff.mp h1).1
  by_cases e:p=i
  . subst e
    rw [h2] at hp; cases hp
    exact mem_of_getElem? (getElem?_set_self (i:=j) (by rw [length_set]; exact lj))
  . by_cases e':p=j
    . subst e'
      rw [h1] at hp; cases hp
      refine mem_of_getElem? (i:=i) ?_
      rw [getElem?_set_ne e,getElem?_set_self li]
    . refine mem_of_getElem? (i:=p) ?_
      rw [getElem?_set_ne (λz=>e' z.symm),getElem?_set_ne (λz=>e z.symm)]
      exact hp
section
variable {P:Program} {w:World} {K:W.Frag} {mg:Str->Option Value} {base:Heap}
def ZfY:Sp:=λvs H Q _=>∃ (b:Addr) (a q c s:Int),vs=[.ref b,.int s]/\BoxAt H b a q c/\c<500000000/\1<=s/\s<=16 /\
  ∀ (l:Addr) (ns:List Int) (a' c':Int) (H':Hp),H l=none->H' l=some (.lst (ns.map V.int))->3<=ns.length->ns.length<=20->Bds (9999 / s) ns->Low (9999 / s) ns->BoxAt H' b a' q c'->c'<=c+40->SB b H H'->Q (.ref l) H'
theorem Zfc {f:Addr} {fd:FuncData} (F:Fun K "_law_some_boards" "_law_some_boards" Zaj f fd) (T:Txt K mg) (D_take:Def P w K mg base "_law_take" 1 Zdj ZeE):FnOk P w K mg base CX0 2 f fd Zbm ZfY:=by
  refine F.ok sc_some_boards (λvs H Q E h=>?_) (λcdv A outer st H vs Q E hr h=>?_)
  . obtain ⟨b,a,q,c,s,rfl,_⟩:=h
    rfl
  obtain ⟨b,a,q,c,s,rfl,B,hc,hs0,hs1,k⟩:=h
  have nd:=sc_some_boards.nd
  obtain ⟨top0,top1,m0,m1⟩:=Zla hs0 hs1
  refine ⟨_,(Zh (pst 2 nd (pe_op Zaw Zj (Zt D_take hr.m rfl (pc (pv 0) (pc (pe_ix (Zu (K:=K) rfl) (Zcc (pc Zj (pc Zj Ze))) (Zap Zcw rfl T.z_int Zcj (pc (ZbR op_eq (Zt D_take hr.m rfl (pc (pv 0) (pc Zj Ze))) Zj (ZM _)) Ze)) (λ_ _=>rfl)) Ze)))))
      (Zh (ZbQ (Zbg (pc (Zt D_take hr.m rfl (pc (pv 0) (pc Zj Ze))) (pc (Zt D_take hr.m rfl (pc (pv 0) (pc Zj Ze))) Ze))) (Zaz (K:=K) (n:=2) rfl rfl (Zp (pgn 3 nd) (Zp (pgn 4 nd) Zay))))
      (Zh (pst 5 nd (ZcD (ZZ op_lt (pv 4) Zj (ZM _)) (pv 4) (Zt D_take hr.m rfl (pc (pv 0) (pc (pe_ix (Zu (K:=K) rfl) (Zcc (pc Zj (pc (Zs (ZgA rfl) rfl T.z_max ZiO (pc Zj (pc (pe_op ZdH (pe_op Zdt Zj (pv 1)) Zj) Ze))) Ze))) (pe_op ZdH (pv 4) Zj) (λ_ _=>rfl)) Ze)))))
      (Zh (ZiK 6 (Zal (osc:=(Zc Zaj)) (oN:=Zdl) (N:=["_law_k", "_law_first", "_law_way"]) (own:=1) (js:=[5,3]) (by decide +kernel) rfl rfl) rfl nd rfl rfl (Zch rfl T.z_range (pc (pv 2) Ze)) (λ_ _ _ _ _ _=>(pgn 0 (show List.Nodup (["_law_k", "_law_first", "_law_way"]:List Str) by decide +kernel))) (λ_ _ _ _ _ _=>(pe_op Zaw (pv 1) (pe_op Zct (pe_ix (Zu (K:=K) rfl) (Zcc (pc Zj (pc Zj (pc Zj (pc Zj Ze))))) (pv 2) (λ_ _=>rfl)) (pv 0)))))
      (Zh (pst 7 nd (ZcD (ZZ op_eq (Zt D_take hr.m rfl (pc (pv 0) (pc Zj Ze))) Zj (ZM _)) (pe_op Zdt Zj (pv 1)) (Zt D_take hr.m rfl (pc (pv 0) (pc (pe_op Zaw Zj (pe_op Zdt Zj (pv 1))) Ze)))))
      (Zh (ps_if (PW.pt (pw_or (PW.pt (ZmA (ZZ op_eq (pv 3) Zj (ZM _)) (ZjY (ZZ (ZcZ (K:=K) rfl) (pv 7) (pv 6) rfl)))) (ZiB (PW.pt (ZmA (ZZ op_eq (pv 7) (pe_op Zdt Zj (pv 1)) (ZM _)) (ZjY (ZZ (ZcZ (K:=K) rfl) (pv 7) (pv 6) rfl))))))) (Zi (ZbQ (pv 7) (Zfk (pv 6) (pe_un Zgz Zj) ZcG))) Zz)
      (Zh (Zfl PassesOwn.never rfl (Zch rfl T.z_range (pc (pe_op ZdH (pv 2) Zj) Ze)) (pgn 8 nd) (Zh (pst 9 nd (pe_op Zaw (pv 8) (Zt D_take hr.m rfl (pc (pv 0) (pc (pe_op ZdH (pv 2) (pv 8)) Ze)))))
      (Zi (ZbQ (Zbg (pc (pe_ix (Zu (K:=K) rfl) (pv 6) (pv 9) (λ_ _=>rfl)) (pc (pe_ix (Zu (K:=K) rfl) (pv 6) (pv 8) (λ_ _=>rfl)) Ze))) (Zaz (K:=K) (n:=2) rfl rfl (Zp (Zfk (pv 6) (pv 8) ZcG) (Zp (Zfk (pv 6) (pv 9) ZcG) Zay)))))))
      (Zi (Zw (pv 6)))))))))),?_⟩
  generalize hm:(if 10000 / s - 480 > 1 then 10000 / s - 480 else 1)=m at m0 m1
  generalize ht:(9999:Int) / s=top at *
  refine hide λuu ee=>?_
  refine ⟨_,rfl,(by show 2<=sizeLine; decide),λp1 hp1=>⟨_,rfl,b,a,q,c,6,rfl,B.same (Zg hp1 _),by omega,by decide,by decide,λr1 a1 c1 H1 r10 r11 B1 hc1 s1=>⟨rfl,.inr ⟨_,rfl,?_⟩⟩⟩⟩
  have q1:b≠p1:=Zd B.at' hp1
  obtain ⟨n,hn,hn'⟩:=ZmO 5 18 (decide (V.int r1=V.int 0))
  refine ⟨p1,_,_,_,rfl,rfl,SqL.of (s1 _ _ (Ne.symm q1) Za),hn,b,a1,q,c1,n,rfl,B1,by omega,by omega,by omega,λr2 a2 c2 H2 r20 r21 B2 hc2 s2=>⟨_,_,rfl,rfl,?_⟩⟩
  have mn0:3<=3+r2:=by omega
  have mn1:3+r2<=20:=by omega
  have u2:SB b H H2:=(((Zg hp1 _).sb b).trans s1).trans s2
  dsimp only [gName]
  subst ee
  try dsimp only
  refine hide λuu ee=>?_
  refine ⟨_,rfl,b,a2,q,c2,4,rfl,B2,by omega,by decide,by decide,λr3 a3 c3 H3 r30 r31 B3 hc3 s3=>?_⟩
  refine ⟨_,rfl,b,a3,q,c3,4,rfl,B3,by omega,by decide,by decide,λr4 a4 c4 H4' r40 r41 B4' hc4 s4=>⟨(by show 2<=sizeLine; decide),λp4 hp4=>⟨p4,_,rfl,SqT.of Za,rfl,_,_,rfl,_,_,rfl,rfl,?_⟩⟩⟩
  have B4:=B4'.same (Zg hp4 (.tup [.int r3,.int r4]))
  have u4:SB b H (upd H4' p4 (.tup [.int r3,.int r4])):=((u2.trans s3).trans s4).trans ((Zg hp4 _).sb b)
  generalize upd H4' p4 (.tup [.int r3,.int r4])=H4 at *
  subst ee
  try dsimp only
  refine cpA (λv G=>∃ z a' c',v=.int z/\0<=z/\z+456<=top/\BoxAt G b a' q c'/\c'<=c4+1/\SB b H G) (λQ' k'=>?_) ?_
  . refine ⟨_,rfl,_,_,rfl,rfl,_,rfl,Zbo (λc2'=>⟨_,rfl,k' _ _ ⟨_,a4,c4,rfl,r40,by omega,B4,by omega,u4⟩⟩) (λc2'=>?_)⟩
    refine ⟨_,rfl,_,rfl,_,_,rfl,rfl,⟨by omega,by omega⟩,_,_,rfl,rfl,_,_,rfl,(by show 2<=sizeLine; decide),λp2 hp2=>?_⟩
    have q2:b≠p2:=Zd B4.at' hp2
    rw [hm]
    obtain ⟨n2,hn2,hn2'⟩:=pick2 100 m (r4 - 2) (by omega) (by omega)
    refine ⟨_,rfl,_,_,rfl,rfl,p2,_,_,_,rfl,rfl,SqL.of Za,hn2,b,a4,q,c4,n2,rfl,B4.same (Zg hp2 _),by omega,by omega,by omega,λr5 a5 c5 H5 r50 r51 B5 hc5 s5=>?_⟩
    exact k' _ _ ⟨r5,a5,c5,rfl,r50,by omega,B5,by omega,u4.trans (((Zg hp2 _).sb b).trans s5)⟩
  rintro _ H5 ⟨z,a5,c5,rfl,z0,z1,B5,hc5,u5⟩
  dsimp only [gName]
  refine hide λuu ee=>?_
  refine ⟨_,rfl,_,rfl,by omega,by omega,λl hl=>?_⟩
  have hlH:H l=none:=Zjf u5 B5.at' hl
  have nlb:l≠b:=Ne.symm (Zd B5.at' hl)
  have hmn:(3+r2).toNat<=20:=by omega
  refine Zck (lo:=0) (n:=(3+r2).toNat) (l:=l) (λj ys σ G=>∃ (v0:Option V) (ns:List Int),σ=[v0,some (.int z),some (.int r3)]/\ys=ns.map V.int/\ns.length=j/\(Bds top ns/\(0<j->ns[0]?=some z))/\G l=some (.lst ys)/\Same H5 G)
    ⟨none,[],rfl,rfl,rfl,⟨λn hn=>(nomatch hn),λz=>absurd z (Nat.lt_irrefl 0)⟩,Za,Zg hl _⟩ ?_ ?_
  . rintro j ys σ G hj hy ⟨v0,ns,rfl,rfl,hj',⟨hb',hz'⟩,h1,h2⟩
    refine ⟨_,rfl,(by show 4<=sizeLine; decide),λp hp=>?_⟩
    obtain ⟨n4,hn4,hn4'⟩:=ZoB r3 r30 r31
    have np:l≠p:=Zd h1 hp
    have j20:(j:Int)<=19:=by omega
    refine ⟨_,rfl,p,_,_,_,rfl,rfl,SqL.of Za,hn4,_,rfl,_,_,rfl,rfl,.inl ⟨by omega,by omega⟩,_,_,rfl,rfl,CNx.of (Nat.le_trans hmn (by decide)) hj hy (by rw [Zb np]; exact h1) ⟨_,ns++[z+n4 * (0+(j:Int))],rfl,by rw [map_append]; rfl,by rw [length_append,hj']; rfl,⟨λx hx=>?_,λ_=>?_⟩,Za,λe o y=>?_⟩⟩
    . rcases List.mem_append.mp hx with h | h
      . exact hb' x h
      . have ex:x=z+n4 * (0+(j:Int)):=by simpa using h
        subst ex
        rcases hn4' with rfl | rfl | rfl
        . exact ⟨by omega,by omega⟩
        . exact ⟨by omega,by omega⟩
        . exact ⟨by omega,by omega⟩
    . by_cases j0:j=0
      . have:ns=[]:=List.eq_nil_of_length_eq_zero (by omega)
        rw [this,j0]
        show some (z+n4 * (0+((0:Nat):Int)))=some z
        rw [show (0:Int)+((0:Nat):Int)=0 by omega,Int.mul_zero,Int.add_zero]
      . rw [getElem?_append_left (by omega)]
        exact hz' (by omega)
    . rw [Zb (Zd y hl)]
      exact Zg hp _ _ _ (h2 _ _ y)
  rintro ys σ G hy ⟨v0,ns,rfl,rfl,hj',⟨hb',hz'⟩,h1,h2⟩
  have B6:=B5.same h2
  have u6:SB b H G:=u5.trans (h2.sb b)
  have ln3:3<=ns.length:=by omega
  have ln20:ns.length<=20:=by omega
  have hz0:ns[0]?=some z:=hz' (by omega)
  dsimp only [gName]
  subst ee
  try dsimp only
  refine cpA (λv G'=>∃ z a' c',v=.int z/\0<=z/\z<=top/\BoxAt G' b a' q c'/\c'<=c5+2/\SB b G G') (λQ' k'=>?_) ?_
  . refine ⟨_,rfl,b,a5,q,c5,5,rfl,B6,by omega,by decide,by decide,λr7 a7 c7 H7 r70 r71 B7 hc7 s7=>⟨rfl,_,rfl,Zbo (λ_=>?_) (λ_=>?_)⟩⟩
    . refine ⟨_,rfl,_,_,rfl,rfl,⟨by omega,by omega⟩,?_⟩
      exact k' _ _ ⟨_,a7,c7,rfl,by rw [ht]; omega,by rw [ht]; omega,B7,by omega,s7⟩
    . refine ⟨_,rfl,_,rfl,_,_,rfl,rfl,⟨by omega,by omega⟩,_,_,rfl,rfl,b,a7,q,c7,_,rfl,B7,by omega,by rw [ht]; omega,by rw [ht]; omega,λr8 a8 c8 H8 r80 r81 B8 hc8 s8=>?_⟩
      exact k' _ _ ⟨_,a8,c8,rfl,r80,by rw [ht] at r81; omega,B8,by omega,s7.trans s8⟩
  rintro _ H7 ⟨fr,a7,c7,rfl,fr0,fr1,B7,hc7,s7⟩
  have h7:=s7 _ _ nlb h1
  have u7:SB b H H7:=u6.trans s7
  refine cpI (λσ G'=>∃ ns':List Int,σ=[some (.ref b),some (.int s),some (.int (3+r2)),some (.int r3),some (.int r4),some (.int z),some (.ref l),some (.int fr),none,none]/\G' l=some (.lst (ns'.map V.int))/\ns'.length=ns.length/\(Bds top ns'/\Low top ns')/\BoxAt G' b a7 q c7/\SB b H G') (λD' _ k'=>?_) ?_
  . refine cpIfS (λ_ G'=>G'=H7) (λQ' k''=>?_) ?_
    . refine cpOr (λ_ G'=>G'=H7) (λQ'' k3=>?_) ?_
      . exact ⟨_,rfl,rfl,_,rfl,Zbo (λ_=>⟨_,rfl,_,rfl,l,_,rfl,.inl (SqL.of h7),rfl,Zhn _,_,rfl,k3 _ _ rfl⟩) (λ_=>k3 _ _ rfl)⟩
      . rintro cb _ rfl
        cases cb with
        | true=>exact ifT rfl (k'' _ _ rfl)
        | false=>exact ifF rfl ⟨_,rfl,_,rfl,_,_,rfl,rfl,⟨by omega,by omega⟩,rfl,_,rfl,Zbo (λ_=>⟨_,rfl,_,rfl,l,_,rfl,.inl (SqL.of h7),rfl,Zhn _,_,rfl,k'' _ _ rfl⟩) (λ_=>k'' _ _ rfl)⟩
    . rintro cb _ rfl
      cases cb with
      | false=>exact ifF rfl (k' _ _ ⟨ns,rfl,h7,rfl,⟨hb',z,mem_of_getElem? hz0,by omega⟩,B7,u7⟩)
      | true =>
        refine ifT rfl ⟨_,rfl,_,rfl,_,rfl,l,_,_,_,rfl,rfl,h7,Zmk (by rw [length_map]; omega),k' _ _ ⟨ns.set (ns.length - 1) fr,rfl,?_,length_set,⟨λx hx=>?_,z,?_,by omega⟩,B7.sb (Zeu l _ _) (Ne.symm nlb),λe o n' y=>?_⟩⟩
        . rw [Za,length_map,Zeb]
        . rcases ZhZ hx with h | h
          . exact hb' x h
          . subst h; exact ⟨fr0,fr1⟩
        . refine mem_of_getElem? (i:=0) ?_
          rw [getElem?_set_ne (by omega)]
          exact hz0
        . rw [Zb (Zd y hlH)]; exact u7 _ _ n' y
  rintro _ H8 ⟨ns8,rfl,h8,l8,b8,B8,u8⟩
  refine ⟨_,rfl,_,_,rfl,rfl,_,rfl,by omega,by omega,Zkc (lo:=0) (n:=(3+r2 - 1).toNat) (λj σ G'=>∃ (ns':List Int) (v8 v9:Option V) (a' c':Int),σ=[some (.ref b),some (.int s),some (.int (3+r2)),some (.int r3),some (.int r4),some (.int z),some (.ref l),some (.int fr),v8,v9]/\G' l=some (.lst (ns'.map V.int))/\ns'.length=ns.length/\(Bds top ns'/\Low top ns')/\BoxAt G' b a' q c'/\c'<=c7+(j:Int)/\SB b H G')
    ⟨ns8,_,_,a7,c7,rfl,h8,l8,b8,B8,by omega,u8⟩ ?_ ?_⟩
  . rintro j σ G' hj ⟨ns',v8,v9,a',c',rfl,h1',l',⟨b',lo'⟩,B',hc',u'⟩
    have j20:(j:Int)<=18:=by omega
    have jl:(j:Int)+1<3+r2:=by omega
    refine ⟨_,rfl,_,rfl,_,rfl,_,rfl,_,_,rfl,rfl,b,a',q,c',_,rfl,B',by omega,by omega,by omega,λr9 a9 c9 H9 r90 r91 B9 hc9 s9=>⟨_,_,rfl,rfl,?_⟩⟩
    have h9:=s9 _ _ nlb h1'
    obtain ⟨x1,hx1,gx1⟩:=ZmP (ns:=ns') (k:=0+(j:Int)+r9) (by omega) (by omega)
    have mx1:=mem_of_getElem? gx1
    obtain ⟨x2,hx2,gx2⟩:=ZmP (ns:=ns') (k:=0+(j:Int)) (by omega) (by omega)
    have mx2:=mem_of_getElem? gx2
    refine ⟨_,rfl,_,rfl,l,_,_,_,rfl,rfl,SqL.of h9,hx1,_,rfl,_,rfl,l,_,_,_,rfl,rfl,SqL.of h9,hx2,(by show 2<=sizeLine; decide),λt ht'=>?_⟩
    have nlt:l≠t:=Zd h9 ht'
    refine ⟨t,_,rfl,SqT.of Za,rfl,_,_,rfl,_,rfl,_,rfl,l,_,_,_,rfl,rfl,(by rw [Zb nlt]; exact h9),ZkY (by omega) (by rw [length_map]; omega),?_⟩
    refine ⟨_,_,rfl,_,rfl,_,rfl,l,_,_,_,rfl,rfl,Za,ZkY (by omega) (by rw [length_set,length_map]; omega),rfl,?_⟩
    refine ⟨(ns'.set (0+(j:Int)).toNat x1).set (0+(j:Int)+r9).toNat x2,_,_,a9,c9,rfl,by rw [Za,Zeb,Zeb],by rw [length_set,length_set]; exact l',⟨λx hx=>?_,(by obtain ⟨x,m,q⟩:=lo'; exact ⟨x,Zml gx1 gx2 m,q⟩)⟩,?_,by omega,λe o n' y=>?_⟩
    . rcases ZhZ hx with h | h
      . rcases ZhZ h with h | h
        . exact b' x h
        . subst h; exact b' _ mx1
      . subst h; exact b' _ mx2
    . exact ((B9.same (Zg ht' _)).sb (Zeu l _ _) (Ne.symm nlb)).sb (Zeu l _ _) (Ne.symm nlb)
    . have ne:e≠l:=Zd y hlH
      rw [Zb ne,Zb ne]
      exact Zg ht' _ _ _ (s9 _ _ n' (u' _ _ n' y))
  . rintro σ G' ⟨ns',v8,v9,a',c',rfl,h1',l',⟨b',lo'⟩,B',hc',u'⟩
    exact ⟨_,rfl,k l ns' a' c' G' hlH h1' (by omega) (by omega) b' lo' B' (by omega) u'⟩
end
def Sc:V->Prop
  | .int _=>True
  | .bl _=>True
  | .non=>True
  | .str _=>True
  | _=>False
def Eqv:Nat->Hp->V->V->Prop
  | 0,_,x,y=>x=y/\Sc x
  | n+1,H,x,y=>(x=y/\Sc x)\/∃ (a b:Addr) (xs ys:List V),x=.ref a/\y=.ref b/\((H a=some (.lst xs)/\H b=some (.lst ys))\/(H a=some (.tup xs)/\H b=some (.tup ys)))/\xs.length=ys.length/\xs.length<=1000/\∀ (i:Nat) (u v:V),xs[i]?=some u->ys[i]?=some v->Eqv n H u v
theorem Eqv.same:∀ {n:Nat} {H H':Hp} {x y:V},Eqv n H x y->Same H H'->Eqv n H' x y
  | 0,_,_,_,_,h,_=>h
  | n+1,H,H',x,y,h,s=>by
    rcases h with h | ⟨a,b,xs,ys,h1,h2,h3,h5,h6,h7⟩
    . exact .inl h
    . refine .inr ⟨a,b,xs,ys,h1,h2,?_,h5,h6,λi u v e1 e2=>(h7 i u v e1 e2).same s⟩
      rcases h3 with ⟨h3,h4⟩ | ⟨h3,h4⟩
      . exact .inl ⟨s _ _ h3,s _ _ h4⟩
      . exact .inr ⟨s _ _ h3,s _ _ h4⟩
def ZfZ (n:Nat):Sp:=λvs H Q _=>∃ x y,vs=[x,y]/\Eqv n H x y/\∀ H',Same H H'->Q (.bl true) H'
theorem Eqv.sc {H:Hp} {x:V} (h:Sc x):∀ n,Eqv n H x x
  | 0=>⟨rfl,h⟩
  | _+1=>.inl ⟨rfl,h⟩
theorem Eqv.flatN {H:Hp} {a b:Addr} {xs:List V} (n:Nat) (ha:H a=some (.lst xs)) (hb:H b=some (.lst xs)) (hl:xs.length<=1000) (hs:∀ x∈xs,Sc x):Eqv (n+1) H (.ref a) (.ref b) :=
  .inr ⟨a,b,xs,xs,rfl,rfl,.inl ⟨ha,hb⟩,rfl,hl,λi u v e1 e2=>by rw [e1] at e2; cases e2; exact Eqv.sc (hs u (mem_of_getElem? e1)) n⟩
theorem Eqv.flatTN {H:Hp} {a b:Addr} {xs:List V} (n:Nat) (ha:H a=some (.tup xs)) (hb:H b=some (.tup xs)) (hl:xs.length<=1000) (hs:∀ x∈xs,Sc x):Eqv (n+1) H (.ref a) (.ref b) :=
  .inr ⟨a,b,xs,xs,rfl,rfl,.inr ⟨ha,hb⟩,rfl,hl,λi u v e1 e2=>by rw [e1] at e2; cases e2; exact Eqv.sc (hs u (mem_of_getElem? e1)) n⟩
theorem tyT {H:Hp} {a:Addr} {xs:List V} (h:H a=some (.tup xs)):tyN H (.ref a)=some "tuple" := by simp only [tyN,h]
theorem tyL {H:Hp} {a:Addr} {xs:List V} (h:H a=some (.lst xs)):tyN H (.ref a)=some "list" := by simp only [tyN,h]
section
variable {P:Program} {w:World} {K:W.Frag} {mg:Str->Option Value} {base:Heap}
theorem Zlb {n:Nat} {sp0:Sp} (hsp:∀ m,n=m+1->sp0=ZfZ m) {f:Addr} {fd:FuncData} (F:Fun K "_law_same" "_law_same" ZdO f fd) (T:Txt K mg) (D_same:Def P w K mg base "_law_same" n ZdP sp0):FnOk P w K mg base CX0 (n+1) f fd ZdP (ZfZ n):=by
  refine F.ok sc_same (λvs H Q E h=>?_) (λcdv A outer st H vs Q E hr h=>?_)
  . obtain ⟨x,y,rfl,_⟩:=h
    rfl
  obtain ⟨x,y,rfl,h,k⟩:=h
  have nd:=sc_same.nd
  refine ⟨_,(Zh (ps_if (ZbA (Zs ZgN rfl T.z_isinstance Zby (pc (pv 1) (pc (Zbg (pc (ZbF (v:=.ty "list") rfl T.z_list ZaH rfl) (pc (ZbF (v:=.ty "tuple") rfl T.z_tuple ZcQ rfl) Ze))) Ze)))) (Zh (ps_if (PW.pt (pw_or (Zfj (ZbA (Zs ZgN rfl T.z_isinstance Zby (pc (pv 0) (pc (Zbg (pc (ZbF (v:=.ty "list") rfl T.z_list ZaH rfl) (pc (ZbF (v:=.ty "tuple") rfl T.z_tuple ZcQ rfl) Ze))) Ze))))) (ZiB (ZZ op_ne (Zs Zcd rfl T.z_isinstance Zby (pc (pv 0) (pc (ZbF (v:=.ty "list") rfl T.z_list ZaH rfl) Ze))) (Zs Zcd rfl T.z_isinstance Zby (pc (pv 1) (pc (ZbF (v:=.ty "list") rfl T.z_list ZaH rfl) Ze))) (ZM _))))) (Zi (Zw pe_bl)) Zz)
      (Zi (Zw (ZiD (ZbR op_eq (Zs (ZS (K:=K) rfl) rfl T.z_len PySem.boot_len (pc (pv 0) Ze)) (Zs (ZS (K:=K) rfl) rfl T.z_len PySem.boot_len (pc (pv 1) Ze)) (ZM _)) (ZiC (Zs (Zet rfl) rfl T.z_all ZfH (pc (ZbI (Zal (osc:=(Zc ZdO)) (oN:=ZmM) (N:=["_law_one", "_law_other"]) (own:=2) (js:=[]) (by decide +kernel) rfl rfl) rfl (Znm rfl T.z_zip (pc (pv 0) (pc (pv 1) Ze))) (λ_ _ _ _ _ _=>(Zaz (K:=K) (n:=2) rfl rfl (Zp (pgn 0 (show List.Nodup (["_law_one", "_law_other"]:List Str) by decide +kernel)) (Zp (pgn 1 (show List.Nodup (["_law_one", "_law_other"]:List Str) by decide +kernel)) Zay)))) (λ_ _ _ _ _ _=>(Zt D_same hr.m rfl (pc (pv 0) (pc (pv 1) Ze))))) Ze))))))) Zz)
      (Zh (ps_if (PW.pt (pw_or (Zgx (Zmz (pv 1))) (ZiB (ZbA (Zs Zcd rfl T.z_isinstance Zby (pc (pv 1) (pc (ZbF (v:=.ty "str") rfl T.z_str Zes rfl) Ze))))))) (Zi (Zw (ZiD (ZbR op_eq (pv 0) (pv 1) (ZM _)) (ZiC (ZbR op_eq (Zs Zcd rfl T.z_isinstance Zby (pc (pv 0) (pc (ZbF (v:=.ty "str") rfl T.z_str Zes rfl) Ze))) (Zs Zcd rfl T.z_isinstance Zby (pc (pv 1) (pc (ZbF (v:=.ty "str") rfl T.z_str Zes rfl) Ze))) (ZM _)))))) Zz)
      (Zi (Zw (ZiD (Zs Zcd rfl T.z_isinstance Zby (pc (pv 0) (pc (ZbF (v:=.ty "int") rfl T.z_int Zcj rfl) Ze))) (ZiD (ZbR op_eq (Zs Zcd rfl T.z_isinstance Zby (pc (pv 0) (pc (ZbF (v:=.ty "bool") rfl T.z_bool Zfq rfl) Ze))) (Zs Zcd rfl T.z_isinstance Zby (pc (pv 1) (pc (ZbF (v:=.ty "bool") rfl T.z_bool Zfq rfl) Ze))) (ZM _)) (ZiC (ZbR op_eq (pv 0) (pv 1) (ZM _))))))))),?_⟩
  have split:(x=y/\Sc x)\/∃ (m:Nat) (a b:Addr) (xs ys:List V),n=m+1/\x=.ref a/\y=.ref b/\((H a=some (.lst xs)/\H b=some (.lst ys))\/(H a=some (.tup xs)/\H b=some (.tup ys)))/\xs.length=ys.length/\xs.length<=1000/\∀ (i:Nat) (u v:V),xs[i]?=some u->ys[i]?=some v->Eqv m H u v:=by
    cases n with
    | zero=>exact .inl h
    | succ m =>
      rcases h with h | ⟨a,b,xs,ys,h1,h2,h3,h5,h6,h7⟩
      . exact .inl h
      . exact .inr ⟨m,a,b,xs,ys,rfl,h1,h2,h3,h5,h6,h7⟩
  rcases split with ⟨rfl,hs⟩ | ⟨m,a,b,xs,ys,rfl,rfl,rfl,⟨ha,hb⟩ | ⟨ha,hb⟩,hl,hlen,hi⟩
  . have key:∀ p,H p=none->∀ o,Same H (upd H p o):=λp hp o=>Zg hp o
    cases x with
    | int j =>
      refine ⟨_,rfl,(by show 2<=sizeLine; decide),λp hp=>⟨_,_,_,_,p,rfl,Za,rfl,by decide,by decide,_,rfl,ifF (by decide) ?_⟩⟩
      refine ⟨_,rfl,_,rfl,ifF (by simp) ⟨_,rfl,_,_,_,rfl,rfl,by decide,_,rfl,ifF (by decide) ?_⟩⟩
      refine ⟨_,rfl,_,_,_,rfl,rfl,by decide,_,rfl,ifT (by decide) ⟨_,rfl,_,_,_,rfl,rfl,by decide,_,rfl,_,_,_,rfl,rfl,by decide,rfl,_,rfl,ifT (by decide) ⟨_,rfl,_,rfl,rfl,?_⟩⟩⟩
      rw [decide_eq_true rfl]
      exact k _ (key p hp _)
    | bl j =>
      refine ⟨_,rfl,(by show 2<=sizeLine; decide),λp hp=>⟨_,_,_,_,p,rfl,Za,rfl,by decide,by decide,_,rfl,ifF (by decide) ?_⟩⟩
      refine ⟨_,rfl,_,rfl,ifF (by simp) ⟨_,rfl,_,_,_,rfl,rfl,by decide,_,rfl,ifF (by decide) ?_⟩⟩
      refine ⟨_,rfl,_,_,_,rfl,rfl,by decide,_,rfl,ifT (by decide) ⟨_,rfl,_,_,_,rfl,rfl,by decide,_,rfl,_,_,_,rfl,rfl,by decide,rfl,_,rfl,ifT (by decide) ⟨_,rfl,_,rfl,rfl,?_⟩⟩⟩
      rw [decide_eq_true rfl]
      exact k _ (key p hp _)
    | non =>
      refine ⟨_,rfl,(by show 2<=sizeLine; decide),λp hp=>⟨_,_,_,_,p,rfl,Za,rfl,by decide,by decide,_,rfl,ifF (by decide) ?_⟩⟩
      refine ⟨_,rfl,_,rfl,ifT (by simp) (ifT rfl ⟨_,rfl,_,rfl,rfl,_,rfl,ifT (by decide) ⟨_,rfl,_,_,_,rfl,rfl,by decide,_,rfl,_,_,_,rfl,rfl,by decide,rfl,?_⟩⟩)⟩
      rw [decide_eq_true rfl]
      exact k _ (key p hp _)
    | str z =>
      refine ⟨_,rfl,(by show 2<=sizeLine; decide),λp hp=>⟨_,_,_,_,p,rfl,Za,rfl,by decide,by decide,_,rfl,ifF (by decide) ?_⟩⟩
      refine ⟨_,rfl,_,rfl,ifF (by simp) ⟨_,rfl,_,_,_,rfl,rfl,by decide,_,rfl,ifT (by decide) ⟨_,rfl,_,rfl,rfl,_,rfl,ifT (by simp) ⟨_,rfl,_,_,_,rfl,rfl,by decide,_,rfl,_,_,_,rfl,rfl,by decide,rfl,?_⟩⟩⟩⟩
      rw [decide_eq_true rfl]
      exact k _ (key p hp _)
    | _=>exact hs.elim
  . have he:=hsp m rfl
    subst he
    refine ⟨_,rfl,(by show 2<=sizeLine; decide),λp hp=>?_⟩
    have s1:=Zg hp (.tup [.ty "list",.ty "tuple"])
    refine ⟨_,_,_,_,p,rfl,Za,tyL (s1 _ _ hb),by decide,by decide,_,rfl,ifT (by decide) ?_⟩
    refine ⟨_,rfl,(by show 2<=sizeLine; decide),λp2 hp2=>?_⟩
    have s2:=s1.trans (Zg hp2 (.tup [.ty "list",.ty "tuple"]))
    refine ⟨_,_,_,_,p2,rfl,Za,tyL (s2 _ _ ha),by decide,by decide,_,rfl,ifF (by decide) ?_⟩
    refine ⟨_,rfl,_,_,_,rfl,tyL (s2 _ _ ha),by decide,_,rfl,_,_,_,rfl,tyL (s2 _ _ hb),by decide,rfl,_,rfl,ifF (by decide) ?_⟩
    refine ⟨_,rfl,a,_,rfl,.inl (SqL.of (s2 _ _ ha)),_,rfl,b,_,rfl,.inl (SqL.of (s2 _ _ hb)),rfl,_,rfl,?_⟩
    generalize upd (upd H p (.tup [.ty "list",.ty "tuple"])) p2 (.tup [.ty "list",.ty "tuple"])=H2 at *
    refine ifT (by rw [hl]; simp) ?_
    refine ⟨_,rfl,_,rfl,a,b,rfl,.inl ⟨_,_,SqL.of (s2 _ _ ha),SqL.of (s2 _ _ hb),λl hl'=>?_⟩⟩
    have hlH:H l=none:=s2.free hl'
    refine ZlP (K:=K) (a:=a) (b:=b) (xs:=xs) (zs:=ys) (l:=l) hl (λi zs σ H'=>∃ v0 v1:Option V,σ=[v0,v1]/\zs=(List.replicate i true).map V.bl/\H' l=some (.lst zs)/\Same H H')
      ⟨none,none,rfl,by simp,Za,s2.trans (Zg hl' _)⟩ (λi zs σ H' _ ⟨_,_,_,_,_,q⟩=>⟨SqL.of (q _ _ ha),SqL.of (q _ _ hb)⟩) ?_ ?_
    . rintro i x z t zs σ H' hii hxi hzi hzl ⟨v0,v1,rfl,rfl,h1,s3⟩ ht
      have s4:=s3.trans (Zg ht (.tup [x,z]))
      have ntl:l≠t:=Zd h1 ht
      refine ⟨t,_,rfl,SqT.of Za,rfl,_,_,rfl,_,_,rfl,rfl,?_⟩
      refine ⟨_,rfl,_,rfl,x,z,rfl,(hi i x z hxi hzi).same s4,λH5 s5=>?_⟩
      refine CNx.of (Nat.le_of_lt (Zx hlen)) hii hzl (s5 _ _ (by rw [Zb ntl]; exact h1)) ⟨_,_,rfl,by rw [replicate_succ',map_append]; rfl,Za,?_⟩
      intro c o e
      rw [Zb (Zd e hlH)]
      exact s5 _ _ (s4 _ _ e)
    . rintro zs σ H' hzl ⟨v0,v1,rfl,rfl,h1,s3⟩
      refine ⟨l,_,rfl,SqL.of h1,?_⟩
      rw [show (List.replicate xs.length true).all id=true by rw [all_eq_true]; intro z hz; rw [(List.mem_replicate.mp hz).2]; rfl]
      exact k H' s3
  . have he:=hsp m rfl
    subst he
    refine ⟨_,rfl,(by show 2<=sizeLine; decide),λp hp=>?_⟩
    have s1:=Zg hp (.tup [.ty "list",.ty "tuple"])
    refine ⟨_,_,_,_,p,rfl,Za,tyT (s1 _ _ hb),by decide,by decide,_,rfl,ifT (by decide) ?_⟩
    refine ⟨_,rfl,(by show 2<=sizeLine; decide),λp2 hp2=>?_⟩
    have s2:=s1.trans (Zg hp2 (.tup [.ty "list",.ty "tuple"]))
    refine ⟨_,_,_,_,p2,rfl,Za,tyT (s2 _ _ ha),by decide,by decide,_,rfl,ifF (by decide) ?_⟩
    refine ⟨_,rfl,_,_,_,rfl,tyT (s2 _ _ ha),by decide,_,rfl,_,_,_,rfl,tyT (s2 _ _ hb),by decide,rfl,_,rfl,ifF (by decide) ?_⟩
    refine ⟨_,rfl,a,_,rfl,.inr (SqT.of (s2 _ _ ha)),_,rfl,b,_,rfl,.inr (SqT.of (s2 _ _ hb)),rfl,_,rfl,?_⟩
    generalize upd (upd H p (.tup [.ty "list",.ty "tuple"])) p2 (.tup [.ty "list",.ty "tuple"])=H2 at *
    refine ifT (by rw [hl]; simp) ?_
    refine ⟨_,rfl,_,rfl,a,b,rfl,.inr ⟨_,_,SqT.of (s2 _ _ ha),SqT.of (s2 _ _ hb),λl hl'=>?_⟩⟩
    have hlH:H l=none:=s2.free hl'
    refine ZkG (K:=K) (a:=a) (b:=b) (xs:=xs) (zs:=ys) (l:=l) hl (λi zs σ H'=>∃ v0 v1:Option V,σ=[v0,v1]/\zs=(List.replicate i true).map V.bl/\H' l=some (.lst zs)/\Same H H')
      ⟨none,none,rfl,by simp,Za,s2.trans (Zg hl' _)⟩ (λi zs σ H' _ ⟨_,_,_,_,_,q⟩=>⟨SqT.of (q _ _ ha),SqT.of (q _ _ hb)⟩) ?_ ?_
    . rintro i x z t zs σ H' hii hxi hzi hzl ⟨v0,v1,rfl,rfl,h1,s3⟩ ht
      have s4:=s3.trans (Zg ht (.tup [x,z]))
      have ntl:l≠t:=Zd h1 ht
      refine ⟨t,_,rfl,SqT.of Za,rfl,_,_,rfl,_,_,rfl,rfl,?_⟩
      refine ⟨_,rfl,_,rfl,x,z,rfl,(hi i x z hxi hzi).same s4,λH5 s5=>?_⟩
      refine CNx.of (Nat.le_of_lt (Zx hlen)) hii hzl (s5 _ _ (by rw [Zb ntl]; exact h1)) ⟨_,_,rfl,by rw [replicate_succ',map_append]; rfl,Za,?_⟩
      intro c o e
      rw [Zb (Zd e hlH)]
      exact s5 _ _ (s4 _ _ e)
    . rintro zs σ H' hzl ⟨v0,v1,rfl,rfl,h1,s3⟩
      refine ⟨l,_,rfl,SqL.of h1,?_⟩
      rw [show (List.replicate xs.length true).all id=true by rw [all_eq_true]; intro z hz; rw [(List.mem_replicate.mp hz).2]; rfl]
      exact k H' s3
def spNo:Sp:=λ_ _ _ _=>False
theorem Zjg {f:Addr} {fd:FuncData} (F:Fun K "_law_same" "_law_same" ZdO f fd) (bi:Binds K fd ZdP []) (m:mg "_law_same" = some (.ref f)) (T:Txt K mg):∀ n,Def P w K mg base "_law_same" (n+1) ZdP (ZfZ n)
  | 0=>by
    have D0:Def P w K mg base "_law_same" 0 ZdP spNo:=⟨f,fd,⟨λ_ _ _ _ h=>h.elim,λ_ _ _ _ _ _ _ _ _ _ _ _ _ h=>h.elim⟩,m,F.kp,bi⟩
    exact ⟨f,fd,Zlb (n:=0) (λ_ h=>by omega) F T D0,m,F.kp,bi⟩
  | n+1=>⟨f,fd,Zlb (n:=n+1) (λj h=>by cases (show j=n by omega); rfl) F T (Zjg F bi m T n),m,F.kp,bi⟩
end
def optV:Option Int->V
  | none=>.non
  | some g=>.int g
theorem gN {i:Nat} {v:V} {σ:St} {H:Hp} {Q:St->Hp->Prop} (h:Q (σ.set i (some v)) H):gName i v σ H Q:=h
theorem Zmm {b:Bool} {A B:Prop} (h1:b=true->A) (h2:¬ b=true->B):if b=true then A else B:=by
  by_cases h:b=true
  . rw [if_pos h]; exact h1 h
  . rw [if_neg h]; exact h2 h
theorem Zga {ns:List Int} {i:Nat} {x:V} (h:(ns.map V.int)[i]?=some x):∃ z,ns[i]?=some z/\x=V.int z:=by
  rw [getElem?_map] at h
  cases e:ns[i]? with
  | none=>rw [e] at h; cases h
  | some z=>rw [e] at h; exact ⟨z,rfl,(Option.some.inj h).symm⟩
structure Rec where
  b:Int
  t0:Int
  t1:Int
  n:Int
def recOf (S:List Rec) (b:Int):Option Rec:=S.find? λr=>decide (r.b=b)
def putR (S:List Rec) (q:Rec):List Rec:=if S.any (λr=>decide (r.b=q.b)) then S.map (λr=>if r.b=q.b then q else r) else S++[q]
def dropR (S:List Rec) (b:Int):List Rec:=S.filter λr=>decide (r.b≠b)
def byL (ru:Str):List Int:=if ru = "old" then [1] else if ru = "come" then [0] else [2,0]
def fld (r:Rec) (k:Int):Int:=if k=0 then r.t0 else if k=1 then r.t1 else r.n
def keyR (ru:Str) (r:Rec):List Int:=(byL ru).map (fld r)
def ZbH (sh b:Int) (S:List Rec):List Rec:=S.filter λr=>decide (V.int (r.b % sh)=V.int (b % sh))
def bestR (ru:Str) (S:List Rec):Nat:=argBest (λi j=>HT.lexLt ((S.map λr=>keyR ru r++[r.b]).getD i []) ((S.map λr=>keyR ru r++[r.b]).getD j [])) (S.length - 1)
def goesF (sh pl:Int) (ru:Str) (S:List Rec) (b:Int):Option Int:=if ((ZbH sh b S).length:Int)<pl then none else ((ZbH sh b S)[bestR ru (ZbH sh b S)]?).map (·.b)
def Uq (S:List Rec):Prop:=(S.map (·.b)).Nodup
theorem Uq.rec:∀ {S:List Rec},Uq S->∀ r∈S,recOf S r.b=some r
  | [],_,_,h=>nomatch h
  | q :: S,u,r,h=>by
    have u':(q.b :: S.map (·.b)).Nodup:=u
    obtain ⟨u1,u2⟩:=List.nodup_cons.mp u'
    rcases List.mem_cons.mp h with rfl | h
    . unfold recOf
      rw [find?_cons_of_pos (by simp)]
    . have ne:¬ q.b=r.b:=λe=>u1 (by rw [e]; exact List.mem_map.mpr ⟨r,h,rfl⟩)
      unfold recOf
      rw [find?_cons_of_neg (by simpa using ne)]
      exact Uq.rec u2 r h
theorem ZoC (S:List Rec) (q:Rec):(S.map λr=>if r.b=q.b then q else r).map (·.b)=S.map (·.b):=by
  rw [map_map]
  refine List.map_congr_left λr _=>?_
  show (if r.b=q.b then q else r).b=r.b
  split
  . rename_i e; exact e.symm
  . rfl
theorem Uq.put {S:List Rec} (u:Uq S) (q:Rec):Uq (putR S q):=by
  unfold putR
  by_cases e:(S.any λr=>decide (r.b=q.b))=true
  . rw [if_pos e]
    show ((S.map λr=>if r.b=q.b then q else r).map (·.b)).Nodup
    rw [ZoC]; exact u
  . rw [if_neg e]
    show ((S++[q]).map (·.b)).Nodup
    rw [map_append]
    refine Zcy u λm=>e ?_
    obtain ⟨r,hr,z⟩:=List.mem_map.mp m
    exact List.any_eq_true.mpr ⟨r,hr,by simpa using z⟩
theorem Uq.drop {S:List Rec} (u:Uq S) (b:Int):Uq (dropR S b):=List.Nodup.sublist (List.Sublist.map _ filter_sublist) u
theorem Zlc (S:List Rec) (q:Rec):(putR S q).length<=S.length+1:=by
  unfold putR
  split
  . rw [length_map]; omega
  . simp
theorem Zmn (S:List Rec) (b:Int):(dropR S b).length<=S.length:=length_filter_le ..
def lessR (S:List Rec):Option Int->List Rec
  | none=>S
  | some g=>dropR S g
def stepR (sh pl:Int) (ru:Str) (i:Nat) (b:Int) (S:List Rec):List Rec×(Bool×Option Int) :=
  match recOf S b with
  | some r=>(putR S ⟨b,r.t0,i,r.n+1⟩,(true,none))
  | none=>(putR (lessR S (goesF sh pl ru S b)) ⟨b,i,i,0⟩,(false,goesF sh pl ru S b))
def runR (sh pl:Int) (ru:Str) (row:List Int):Nat->List Rec×List (Bool×Option Int)
  | 0=>([],[])
  | i+1=>((stepR sh pl ru i (row.getD i 0) (runR sh pl ru row i).1).1,(runR sh pl ru row i).2++[(stepR sh pl ru i (row.getD i 0) (runR sh pl ru row i).1).2])
def rowF (sh pl:Int) (ru:Str) (row:List Int):List (Bool×Option Int):=(runR sh pl ru row row.length).2
theorem Uq.less {S:List Rec} (u:Uq S) (g:Option Int):Uq (lessR S g):=by
  cases g with
  | none=>exact u
  | some g=>exact u.drop g
theorem Zld (S:List Rec) (g:Option Int):(lessR S g).length<=S.length:=by
  cases g with
  | none=>exact Nat.le_refl _
  | some g=>exact Zmn S g
theorem Znz (sh pl:Int) (ru:Str) (i:Nat) (b:Int) (S:List Rec) (u:Uq S):Uq (stepR sh pl ru i b S).1/\(stepR sh pl ru i b S).1.length<=S.length+1:=by
  unfold stepR
  cases recOf S b with
  | some r=>exact ⟨u.put _,Zlc _ _⟩
  | none=>exact ⟨(u.less _).put _,Nat.le_trans (Zlc _ _) (Nat.add_le_add_right (Zld _ _) 1)⟩
theorem Zle (sh pl:Int) (ru:Str) (row:List Int) (i:Nat):Uq (runR sh pl ru row i).1/\(runR sh pl ru row i).1.length<=i/\(runR sh pl ru row i).2.length=i:=by
  induction i with
  | zero=>exact ⟨nodup_nil,Nat.le_refl _,rfl⟩
  | succ i ih =>
    obtain ⟨h1,h2⟩:=Znz sh pl ru i (row.getD i 0) (runR sh pl ru row i).1 ih.1
    refine ⟨h1,Nat.le_trans h2 (Nat.add_le_add_right ih.2.1 1),?_⟩
    show ((runR sh pl ru row i).2++_).length=_
    rw [length_append,ih.2.2]; rfl
def Told (H:Hp) (l:Addr) (fs:List (Bool×Option Int)):Prop:=∃ ads:List Addr,H l=some (.lst (ads.map V.ref))/\ads.length=fs.length/\∀ (m:Nat) (ad:Addr) (f:Bool×Option Int),ads[m]?=some ad->fs[m]?=some f->H ad=some (.tup [.bl f.1,optV f.2])
theorem Told.same {H H':Hp} {l:Addr} {fs:List (Bool×Option Int)} (h:Told H l fs) (s:Same H H'):Told H' l fs:=by
  obtain ⟨ads,h1,h2,h3⟩:=h
  exact ⟨ads,s _ _ h1,h2,λm ad f e1 e2=>s _ _ (h3 m ad f e1 e2)⟩
theorem no3 (ads:List Addr) (x y z:Int):HO.lst (ads.map V.ref)≠HO.lst [.int x,.int y,.int z]:=by
  intro e
  injection e with e
  cases ads with
  | nil=>simp at e
  | cons a t=>simp at e
theorem Zia (sh pl:Int) (ru:Str) (row:List Int):(rowF sh pl ru row).length=row.length:=(Zle sh pl ru row row.length).2.2
def tpos:Pos:=(match (Zm ZT).head? with
  | some (.If _ (.Return (some (.Call _ _ (⟨_,.Lambda _ _ _ pos,_⟩ :: _) _)) _ :: _) _ _)=>pos
  | _=>⟨0,0,0,0⟩)
abbrev tqual:Str := "Room.going" ++ ".<locals>." ++ "<lambda>"
def Tb (K:W.Frag) (H:Hp):Prop:=H (tabOf K "Room" "going")=some (.tbl tpos tqual)
theorem Tb.same {K:W.Frag} {H H':Hp} (t:Tb K H) (s:Same H H'):Tb K H':=s _ _ t
def spRun (K:W.Frag):Sp:=λvs H Q _=>∃ (sh pl:Int) (ru:Str) (a:Addr) (row:List Int),vs=[.int sh,.int pl,.str ru,.ref a]/\SqL K H a (row.map V.int)/\1<=sh/\sh<=64/\1<=pl/\pl<=16/\Rule ru/\row.length<=400/\Bds 9999 row/\Tb K H /\
  ∀ (l:Addr) (H':Hp),H l=none->Same H H'->Told H' l (rowF sh pl ru row)->Q (.ref l) H'
theorem Zib:∀ a:List Int,HT.lexLt a a=false
  | []=>rfl
  | x :: xs=>by rw [HT.lexLt_cons,if_pos rfl]; exact Zib xs
theorem Zho:∀ {a b c:List Int},HT.lexLt a b=true->HT.lexLt b c=true->HT.lexLt a c=true
  | [],[],_,h,_=>by rw [HT.lexLt_nil_nil] at h; cases h
  | [],_ :: _,[],_,h=>by rw [HT.lexLt_cons_nil] at h; cases h
  | [],_ :: _,_ :: _,_,_=>rfl
  | _ :: _,[],_,h,_=>by rw [HT.lexLt_cons_nil] at h; cases h
  | _ :: _,_ :: _,[],_,h=>by rw [HT.lexLt_cons_nil] at h; cases h
  | x :: xs,y :: ys,z :: zs,h1,h2=>by
    rw [HT.lexLt_cons] at h1 h2 ⊢
    by_cases e1:x=y
    . subst e1
      rw [if_pos rfl] at h1
      by_cases e2:x=z
      . subst e2
        rw [if_pos rfl] at h2 ⊢
        exact Zho h1 h2
      . rw [if_neg e2] at h2 ⊢; exact h2
    . rw [if_neg e1] at h1
      have l1:=of_decide_eq_true h1
      by_cases e2:y=z
      . subst e2
        rw [if_neg e1]; exact h1
      . rw [if_neg e2] at h2
        have l2:=of_decide_eq_true h2
        rw [if_neg (by omega)]
        exact decide_eq_true (by omega)
theorem Zlf (f:Nat->List Int):∀ k,argBest (λi j=>HT.lexLt (f i) (f j)) k<=k/\∀ j,j<=k->HT.lexLt (f j) (f (argBest (λi j=>HT.lexLt (f i) (f j)) k))=false
  | 0=>⟨Nat.le_refl _,λj hj=>by
      have:j=0:=by omega
      subst this; exact Zib _⟩
  | k+1=>by
    obtain ⟨h1,h2⟩:=Zlf f k
    unfold argBest
    by_cases c:HT.lexLt (f (k+1)) (f (argBest (λi j=>HT.lexLt (f i) (f j)) k))=true
    . rw [if_pos c]
      refine ⟨Nat.le_refl _,λj hj=>?_⟩
      by_cases e:j=k+1
      . subst e; exact Zib _
      . cases q:HT.lexLt (f j) (f (k+1)) with
        | false=>rfl
        | true =>
          have:=Zho q c
          rw [h2 j (by omega)] at this; cases this
    . rw [if_neg c]
      refine ⟨by omega,λj hj=>?_⟩
      by_cases e:j=k+1
      . subst e; simpa using c
      . exact h2 j (by omega)
theorem ZjO {sh pl:Int} {ru:Str} {S:List Rec} {b:Int} (hpl:1<=pl) (hfull:¬ ((ZbH sh b S).length:Int)<pl):∃ r∈ZbH sh b S,goesF sh pl ru S b=some r.b/\∀ r'∈ZbH sh b S,HT.lexLt (keyR ru r'++[r'.b]) (keyR ru r++[r.b])=false:=by
  unfold goesF
  rw [if_neg hfull]
  generalize ZbH sh b S=T at *
  have pos:0<T.length:=by omega
  obtain ⟨h1,h2⟩:=Zlf (λi=>(T.map λr=>keyR ru r++[r.b]).getD i []) (T.length - 1)
  have e:argBest (λi j=>HT.lexLt ((T.map λr=>keyR ru r++[r.b]).getD i []) ((T.map λr=>keyR ru r++[r.b]).getD j [])) (T.length - 1)=bestR ru T:=rfl
  rw [e] at h1 h2
  have hlt:bestR ru T<T.length:=by omega
  have at':∀ i (h:i<T.length),(T.map λr=>keyR ru r++[r.b]).getD i []=keyR ru T[i]++[T[i].b]:=λi h=>by
    rw [getD_eq_getElem?_getD,getElem?_map,getElem?_eq_getElem h]; rfl
  refine ⟨T[bestR ru T],getElem_mem hlt,by rw [getElem?_eq_getElem hlt]; rfl,λr' hr'=>?_⟩
  obtain ⟨j,hj,rfl⟩:=List.getElem_of_mem hr'
  have q:=h2 j (by omega)
  rw [at' j hj,at' _ hlt] at q
  exact q
def bds (S:List Rec):List Int:=S.map (·.b)
theorem recOf_none {S:List Rec} {b:Int}:recOf S b=none↔b∉bds S:=by
  unfold recOf bds
  rw [List.find?_eq_none]
  constructor
  . intro h m
    obtain ⟨r,hr,e⟩:=List.mem_map.mp m
    exact h r hr (by simpa using e)
  . intro h r hr e
    exact h (List.mem_map.mpr ⟨r,hr,by simpa using e⟩)
theorem Zfu {S:List Rec} {b:Int} {r:Rec} (h:recOf S b=some r):r∈S/\r.b=b:=by
  unfold recOf at h
  exact ⟨List.mem_of_find?_eq_some h,by simpa using List.find?_some h⟩
theorem ZeG {S:List Rec} {q:Rec} (x:Int):recOf (putR S q) x=if x=q.b then some q else recOf S x:=by
  unfold putR
  by_cases e:(S.any λr=>decide (r.b=q.b))=true
  . rw [if_pos e]
    induction S with
    | nil=>simp at e
    | cons r S ih =>
      rw [map_cons]
      by_cases er:r.b=q.b
      . rw [if_pos er]
        by_cases ex:x=q.b
        . rw [if_pos ex]
          unfold recOf
          rw [find?_cons_of_pos (by simpa using ex.symm)]
        . rw [if_neg ex]
          have e1:recOf (q :: S.map λr=>if r.b=q.b then q else r) x=recOf (S.map λr=>if r.b=q.b then q else r) x:=by
            unfold recOf
            rw [find?_cons_of_neg (by simpa using Ne.symm ex)]
          have e2:recOf (r :: S) x=recOf S x:=by
            unfold recOf
            rw [find?_cons_of_neg (by rw [er]; simpa using Ne.symm ex)]
          rw [e1,e2]
          clear e ih e1 e2
          induction S with
          | nil=>rfl
          | cons s S ih2 =>
            rw [map_cons]
            by_cases es:s.b=q.b
            . rw [if_pos es]
              unfold recOf at ih2 ⊢
              rw [find?_cons_of_neg (by simpa using Ne.symm ex),find?_cons_of_neg (by rw [es]; simpa using Ne.symm ex)]
              exact ih2
            . rw [if_neg es]
              unfold recOf at ih2 ⊢
              by_cases esx:s.b=x
              . rw [find?_cons_of_pos (by simpa using esx),find?_cons_of_pos (by simpa using esx)]
              . rw [find?_cons_of_neg (by simpa using esx),find?_cons_of_neg (by simpa using esx)]
                exact ih2
      . rw [if_neg er]
        rw [any_cons] at e
        have e':(S.any λr=>decide (r.b=q.b))=true:=by
          rcases Bool.or_eq_true _ _ |>.mp e with h | h
          . exact absurd (of_decide_eq_true h) er
          . exact h
        have ih':=ih e'
        unfold recOf at ih' ⊢
        by_cases erx:r.b=x
        . rw [find?_cons_of_pos (by simpa using erx),find?_cons_of_pos (by simpa using erx),if_neg (by rw [← erx]; exact er)]
        . rw [find?_cons_of_neg (by simpa using erx),find?_cons_of_neg (by simpa using erx)]
          exact ih'
  . rw [if_neg e]
    unfold recOf
    rw [List.find?_append]
    by_cases ex:x=q.b
    . rw [if_pos ex]
      have:S.find? (λr=>decide (r.b=x))=none:=by
        rw [List.find?_eq_none]
        intro r hr hx
        exact e (List.any_eq_true.mpr ⟨r,hr,by rw [← ex]; exact hx⟩)
      rw [this,Option.none_or]
      rw [find?_cons_of_pos (by simpa using ex.symm)]
    . rw [if_neg ex]
      have:List.find? (λr=>decide (r.b=x)) [q]=none:=by
        rw [find?_cons_of_neg (by simpa using Ne.symm ex)]; rfl
      rw [this,Option.or_none]
theorem Zfv {S:List Rec} {g:Int} (x:Int):recOf (dropR S g) x=if x=g then none else recOf S x:=by
  by_cases ex:x=g
  . rw [if_pos ex,recOf_none]
    intro m
    obtain ⟨r,hr,e⟩:=List.mem_map.mp m
    have:=(List.mem_filter.mp hr).2
    simp [e,ex] at this
  . rw [if_neg ex]
    induction S with
    | nil=>rfl
    | cons r S ih =>
      unfold dropR recOf at ih ⊢
      rw [filter_cons]
      by_cases er:r.b=g
      . rw [if_neg (by simp [er]),find?_cons_of_neg (by rw [er]; simpa using Ne.symm ex)]
        exact ih
      . rw [if_pos (by simpa using er)]
        by_cases erx:r.b=x
        . rw [find?_cons_of_pos (by simpa using erx),find?_cons_of_pos (by simpa using erx)]
        . rw [find?_cons_of_neg (by simpa using erx),find?_cons_of_neg (by simpa using erx)]
          exact ih
theorem Zlg {S:List Rec} {q:Rec} (x:Int):x∈bds (putR S q)↔x=q.b\/x∈bds S:=by
  have h:=ZeG (S:=S) (q:=q) x
  constructor
  . intro m
    by_cases e:x=q.b
    . exact .inl e
    . rw [if_neg e] at h
      refine .inr ?_
      by_cases c:x∈bds S
      . exact c
      . rw [recOf_none.mpr c] at h
        exact absurd m (recOf_none.mp h)
  . intro m
    by_cases c:x∈bds (putR S q)
    . exact c
    . rw [recOf_none.mpr c] at h
      by_cases e:x=q.b
      . rw [if_pos e] at h; cases h
      . rw [if_neg e] at h
        rcases m with m | m
        . exact absurd m e
        . exact absurd m (recOf_none.mp h.symm)
theorem Zmo {S:List Rec} {g:Int} (x:Int):x∈bds (dropR S g)↔x∈bds S/\x≠g:=by
  have h:=Zfv (S:=S) (g:=g) x
  constructor
  . intro m
    by_cases e:x=g
    . rw [if_pos e] at h
      exact absurd m (recOf_none.mp h)
    . rw [if_neg e] at h
      refine ⟨?_,e⟩
      by_cases c:x∈bds S
      . exact c
      . rw [recOf_none.mpr c] at h
        exact absurd m (recOf_none.mp h)
  . rintro ⟨m,e⟩
    rw [if_neg e] at h
    by_cases c:x∈bds (dropR S g)
    . exact c
    . rw [recOf_none.mpr c] at h
      exact absurd m (recOf_none.mp h.symm)
def Zk (sh s:Int) (there:List Int):List Int:=there.filter λo=>decide (o % sh=s)
theorem Zbx (sh s b:Int) (there:List Int):Zk sh s (there++[b])=if b % sh=s then Zk sh s there++[b] else Zk sh s there:=by
  unfold Zk
  rw [List.filter_append]
  by_cases h:b % sh=s
  . rw [if_pos h,filter_cons,if_pos (by simpa using h),List.filter_nil]
  . rw [if_neg h,filter_cons,if_neg (by simpa using h),List.filter_nil,append_nil]
theorem ZaF (sh s g:Int) (there:List Int):Zk sh s (there.erase g)=(Zk sh s there).erase g:=by
  unfold Zk
  rw [List.erase_filter]
theorem mem_shelfS {sh s b:Int} {there:List Int}:b∈Zk sh s there↔b∈there/\b % sh=s:=by
  unfold Zk
  rw [mem_filter,decide_eq_true_eq]
structure Shl (H:Hp) (ls:Addr) (ads:List Addr) (sh:Int) (there:List Int):Prop where
  top:H ls=some (.lst (ads.map V.ref))
  len:ads.length=sh.toNat
  nd:ads.Nodup
  off:ls∉ads
  at_:∀ (s:Nat) (ad:Addr),ads[s]?=some ad->H ad=some (.lst ((Zk sh s there).map V.int))
theorem Shl.other {H:Hp} {ls:Addr} {ads:List Addr} {sh:Int} {there:List Int} (h:Shl H ls ads sh there) {a:Addr} (o:HO) (h1:a≠ls) (h2:a∉ads):Shl (upd H a o) ls ads sh there :=
  ⟨by rw [Zb (Ne.symm h1)]; exact h.top,h.len,h.nd,h.off,λi ad e=>by rw [Zb (λz:ad=a=>h2 (z ▸ mem_of_getElem? e))]; exact h.at_ i ad e⟩
theorem Shl.put {H:Hp} {ls:Addr} {ads:List Addr} {sh:Int} {there there':List Int} (h:Shl H ls ads sh there) {s0:Nat} {ad:Addr} {ns:List Int} (e0:ads[s0]?=some ad) (hn:Zk sh s0 there'=ns) (ho:∀ s:Nat,s≠s0->Zk sh s there'=Zk sh s there):Shl (upd H ad (.lst (ns.map V.int))) ls ads sh there':=by
  refine ⟨by rw [Zb (λz:ls=ad=>h.off (z ▸ mem_of_getElem? e0))]; exact h.top,h.len,h.nd,h.off,λs a e=>?_⟩
  by_cases hs:s=s0
  . subst hs
    rw [e0] at e
    cases e
    rw [Za,hn]
  . have ne:a≠ad:=λz=>by
      subst z
      exact hs ((List.getElem?_inj (List.getElem?_eq_some_iff.mp e).1 h.nd).mp (e.trans e0.symm))
    rw [Zb ne,ho s hs]
    exact h.at_ s a e
theorem Shl.get {H:Hp} {ls:Addr} {ads:List Addr} {sh:Int} {there:List Int} (h:Shl H ls ads sh there) {k:Int} (h0:0<=k) (h1:k<sh):∃ (s:Nat) (ad:Addr),(s:Int)=k/\ads[s]?=some ad/\atI (ads.map V.ref) k=some (.ref ad)/\H ad=some (.lst ((Zk sh k there).map V.int)):=by
  have hk:k.toNat<ads.length:=by rw [h.len]; omega
  have e:ads[k.toNat]?=some ads[k.toNat]:=getElem?_eq_getElem hk
  have ek:((k.toNat:Nat):Int)=k:=by omega
  have q:atI (ads.map V.ref) ((k.toNat:Nat):Int)=some (.ref ads[k.toNat]):=ZbS (by rw [getElem?_map,e]; rfl)
  have q2:=h.at_ _ _ e
  rw [ek] at q q2
  exact ⟨k.toNat,_,ek,e,q,q2⟩
theorem Shl.one {H:Hp} {ls:Addr} {ads:List Addr} {sh:Int} {there:List Int} (h:Shl H ls ads sh there) {ad:Addr} (m:ad∈ads):∃ xs,H ad=some (.lst xs):=by
  obtain ⟨s,e⟩:=getElem?_of_mem m
  exact ⟨_,h.at_ s ad e⟩
def flds (sh pl:Int) (ru:Str) (ls du:Addr):List (Str×V):=putF "uses" (.ref du) (putF "standing" (.ref ls) (putF "rule" (.str ru) (putF "places" (.int pl) (putF "shelves" (.int sh) []))))
theorem Zdv (sh pl:Int) (ru:Str) (ls du:Addr):(flds sh pl ru ls du).lookup ("uses" : Str)=some (.ref du):=by
  unfold flds
  rw [Zf,if_pos rfl]
theorem ZeH (sh pl:Int) (ru:Str) (ls du:Addr):(flds sh pl ru ls du).lookup ("standing" : Str)=some (.ref ls):=by
  unfold flds
  rw [Zf,if_neg (by decide +kernel),Zf,if_pos rfl]
theorem Zic (sh pl:Int) (ru:Str) (ls du:Addr):(flds sh pl ru ls du).lookup ("rule" : Str)=some (.str ru):=by
  unfold flds
  rw [Zf,if_neg (by decide +kernel),Zf,if_neg (by decide +kernel),Zf,if_pos rfl]
theorem Zlh (sh pl:Int) (ru:Str) (ls du:Addr):(flds sh pl ru ls du).lookup ("places" : Str)=some (.int pl):=by
  unfold flds
  rw [Zf,if_neg (by decide +kernel),Zf,if_neg (by decide +kernel),Zf,if_neg (by decide +kernel),Zf,if_pos rfl]
theorem Zfw (sh pl:Int) (ru:Str) (ls du:Addr):(flds sh pl ru ls du).lookup ("shelves" : Str)=some (.int sh):=by
  unfold flds
  rw [Zf,if_neg (by decide +kernel),Zf,if_neg (by decide +kernel),Zf,if_neg (by decide +kernel),Zf,if_neg (by decide +kernel),Zf,if_pos rfl]
theorem fl_no (sh pl:Int) (ru:Str) (ls du:Addr) {m:Str} (h1:¬ m = "uses" := by decide +kernel) (h2:¬ m = "standing" := by decide +kernel) (h3:¬ m = "rule" := by decide +kernel) (h4:¬ m = "places" := by decide +kernel) (h5:¬ m = "shelves" := by decide +kernel):(flds sh pl ru ls du).lookup m=none:=by
  unfold flds
  rw [Zf,if_neg h1,Zf,if_neg h2,Zf,if_neg h3,Zf,if_neg h4,Zf,if_neg h5]
  rfl
def KI (kvs:List (Key×V)):Prop:=∃ ks:List Int,kvs.map Prod.fst=ks.map Sum.inl/\ks.Nodup
theorem KI.nil:KI []:=⟨[],rfl,nodup_nil⟩
theorem KI.put {kvs:List (Key×V)} (h:KI kvs) (b:Int) (v:V):KI (putK kvs (Sum.inl b) v):=by
  obtain ⟨ks,e,nd⟩:=h
  unfold putK
  split
  . refine ⟨ks,?_,nd⟩
    rw [← e,map_map]
    exact List.map_congr_left λq _=>by
      show (if q.1=Sum.inl b then (q.1,v) else q).1=q.1
      split <;> rfl
  . rename_i c
    refine ⟨ks++[b],by rw [map_append,map_append,e]; rfl,?_⟩
    rw [List.nodup_append]
    refine ⟨nd,by simp,λx hx y hy z=>c ?_⟩
    rw [List.mem_singleton.mp hy] at z
    subst z
    have m:(Sum.inl x:Key)∈kvs.map Prod.fst:=by rw [e]; exact List.mem_map_of_mem hx
    obtain ⟨q,hq,eq⟩:=List.mem_map.mp m
    exact List.any_eq_true.mpr ⟨q,hq,by simpa using eq⟩
theorem KI.drop {kvs:List (Key×V)} (h:KI kvs) (b:Int):KI (dropK kvs (Sum.inl b)):=by
  obtain ⟨ks,e,nd⟩:=h
  unfold dropK
  refine ⟨ks.filter λx=>decide (x≠b),?_,nd.sublist filter_sublist⟩
  have l:(kvs.filter λkv=>decide (kv.1≠Sum.inl b)).map Prod.fst=(kvs.map Prod.fst).filter λk=>decide (k≠Sum.inl b):=by
    rw [List.filter_map]; rfl
  rw [l,e,List.filter_map]
  congr 1
  refine List.filter_congr λx _=>?_
  show decide ((Sum.inl x:Key)≠Sum.inl b)=decide (x≠b)
  rw [decide_eq_decide]
  exact ⟨λz y=>z (by rw [y]),λz y=>z (Sum.inl.inj y)⟩
theorem Zli {kvs:List (Key×V)} (k:Key):(valV kvs k).isSome=true↔k∈kvs.map Prod.fst:=by
  rw [← Zda,any_eq_true,mem_map]
  exact ⟨λ⟨q,h1,h2⟩=>⟨q,h1,by simpa using h2⟩,λ⟨q,h1,h2⟩=>⟨q,h1,by simpa using h2⟩⟩
structure RoomAt (K:W.Frag) (H:Hp) (p:Addr) (sh pl:Int) (ru:Str) (ls:Addr) (ads:List Addr) (du:Addr) (seq:List Int) (us:Int->Int) (n:Nat):Prop where
  ob:∃ dx,H p=some (.ins (clsOf K "Room") dx (flds sh pl ru ls du))
  st:Shl H ls ads sh seq
  dc:∃ kvs,H du=some (.dK kvs)/\(kvs.length<=n/\KI kvs)/\∀ b,valV kvs (Sum.inl b:Key)=if b∈seq then some (.int (us b)) else none
  nd:seq.Nodup
  s0:1<=sh
  s1:sh<=64
def SR (ads:List Addr) (du:Addr) (H H':Hp):Prop:=∀ b o,H b=some o->b≠du->b∉ads->H' b=some o
theorem SR.of {ads:List Addr} {du:Addr} {H H':Hp} (s:Same H H'):SR ads du H H':=λb o h _ _=>s b o h
theorem SR.trans {ads:List Addr} {du:Addr} {H H1 H2:Hp} (a:SR ads du H H1) (b:SR ads du H1 H2):SR ads du H H2:=λc o h n1 n2=>b c o (a c o h n1 n2) n1 n2
section
variable {K:W.Frag} {H H':Hp} {p:Addr} {sh pl:Int} {ru:Str} {ls:Addr} {ads:List Addr} {du:Addr} {seq:List Int} {us:Int->Int} {n:Nat}
theorem RoomAt.off (R:RoomAt K H p sh pl ru ls ads du seq us n):p≠du/\p∉ads/\ls≠du/\ls∉ads/\du∉ads/\p≠ls:=by
  obtain ⟨dx,h1⟩:=R.ob
  obtain ⟨kvs,h2,_⟩:=R.dc
  refine ⟨λz=>?_,λz=>?_,λz=>?_,R.st.off,λz=>?_,λz=>?_⟩
  . rw [z,h2] at h1; cases h1
  . obtain ⟨xs,e⟩:=R.st.one z
    rw [e] at h1; cases h1
  . have e:=R.st.top
    rw [z,h2] at e; cases e
  . obtain ⟨xs,e⟩:=R.st.one z
    rw [e] at h2; cases h2
  . have e:=R.st.top
    rw [← z,h1] at e; cases e
theorem RoomAt.same (R:RoomAt K H p sh pl ru ls ads du seq us n) (s:Same H H'):RoomAt K H' p sh pl ru ls ads du seq us n:=by
  obtain ⟨dx,h1⟩:=R.ob
  obtain ⟨kvs,h2,h3⟩:=R.dc
  exact ⟨⟨dx,s _ _ h1⟩,⟨s _ _ R.st.top,R.st.len,R.st.nd,R.st.off,λi ad e=>s _ _ (R.st.at_ i ad e)⟩,⟨kvs,s _ _ h2,h3⟩,R.nd,R.s0,R.s1⟩
theorem SR.keep {o:HO} {b:Addr} (s:SR ads du H H') (R:RoomAt K H p sh pl ru ls ads du seq us n) (h:H b=some o) (n1:∀ kvs,o≠.dK kvs) (n2:∀ xs,o≠.lst xs):H' b=some o:=by
  refine s _ _ h (λz=>?_) λz=>?_
  . obtain ⟨kvs,e,_⟩:=R.dc
    rw [z,e] at h
    exact n1 kvs (Option.some.inj h).symm
  . obtain ⟨xs,e⟩:=R.st.one z
    rw [e] at h
    exact n2 xs (Option.some.inj h).symm
theorem RoomAt.shelf (R:RoomAt K H p sh pl ru ls ads du seq us n) (b:Int):∃ (s:Nat) (ad:Addr),(s:Int)=b % sh/\ads[s]?=some ad/\atI (ads.map V.ref) (b % sh)=some (.ref ad)/\H ad=some (.lst ((Zk sh (b % sh) seq).map V.int)):=by
  have h0:=R.s0
  exact R.st.get (Int.emod_nonneg _ (by omega)) (Int.emod_lt_of_pos _ (by omega))
end
section
variable {P:Program} {w:World} {K:W.Frag} {mg:Str->Option Value} {base:Heap}
def Zid:Sp:=λvs H Q _=>∃ sh b:Int,vs=[.int sh,.int b]/\1<=sh/\Q (.int (b % sh)) H
theorem Zie {f:Addr} {fd:FuncData} (F:Fun K "shelf_of" "shelf_of" ZbN f fd) (T:Txt K mg):FnOk P w K mg base CX0 1 f fd Zcm Zid:=by
  refine F.ok sc_shelf_of (λvs H Q E h=>?_) (λcdv A outer st H vs Q E hr h=>?_)
  . obtain ⟨sh,b,rfl,_⟩:=h
    rfl
  obtain ⟨sh,b,rfl,h0,k⟩:=h
  have nd:=sc_shelf_of.nd
  refine ⟨_,(Zi (Zw (pe_op Zci (pv 1) (pv 0)))),?_⟩
  exact ⟨_,rfl,_,rfl,_,_,rfl,rfl,(by show 0<sh; omega),k⟩
def spHas (K:W.Frag):Sp:=λvs H Q _=>∃ (p:Addr) (b sh pl:Int) (ru:Str) (ls:Addr) (ads:List Addr) (du:Addr) (seq:List Int) (us:Int->Int) (n:Nat),vs=[.ref p,.int b]/\RoomAt K H p sh pl ru ls ads du seq us n/\Q (.bl (decide (b∈seq))) H
theorem Zif {f:Addr} {fd:FuncData} (F:Fun K "has" "Room.has" ZbO f fd) (T:Txt K mg):FnOk P w K mg base CX0 1 f fd ZaJ (spHas K):=by
  refine F.ok sc_Room_has (λvs H Q E h=>?_) (λcdv A outer st H vs Q E hr h=>?_)
  . obtain ⟨p,b,sh,pl,ru,ls,ads,du,seq,us,n,rfl,_⟩:=h
    rfl
  obtain ⟨p,b,sh,pl,ru,ls,ads,du,seq,us,n,rfl,R,k⟩:=h
  have nd:=sc_Room_has.nd
  have hu:=hu_of hr
  refine ⟨_,(Zi (Zw (ZnQ (Zok hu (pv 1) (Zo (K:=K) rfl (pv 0) rfl))))),?_⟩
  obtain ⟨dx,h1⟩:=R.ob
  obtain ⟨kvs,h2,h3,h4⟩:=R.dc
  refine ⟨_,rfl,_,rfl,p,_,dx,_,_,rfl,h1,T.cl_Room,T.n_Room_uses,Zdv ..,du,_,rfl,DGet.k (k:=Sum.inl b) h2,?_⟩
  rw [h4 b]
  by_cases c:b∈seq
  . rw [if_pos c]
    rw [decide_eq_true c] at k
    exact k
  . rw [if_neg c]
    rw [decide_eq_false c] at k
    exact k
def Zdw (K:W.Frag):Sp:=λvs H Q _=>∃ (p:Addr) (b sh pl:Int) (ru:Str) (ls:Addr) (ads:List Addr) (du:Addr) (seq:List Int) (us:Int->Int) (n:Nat),vs=[.ref p,.int b]/\RoomAt K H p sh pl ru ls ads du seq us n /\
  ∀ (s:Nat) (ad:Addr),(s:Int)=b % sh->ads[s]?=some ad->H ad=some (.lst ((Zk sh (b % sh) seq).map V.int))->Q (.ref ad) H
theorem Zgb {f:Addr} {fd:FuncData} (F:Fun K "mates" "Room.mates" Zbb f fd) (T:Txt K mg) (D_shelf_of:Def P w K mg base "shelf_of" 1 Zcm Zid):FnOk P w K mg base CX0 2 f fd Zag (Zdw K):=by
  refine F.ok sc_Room_mates (λvs H Q E h=>?_) (λcdv A outer st H vs Q E hr h=>?_)
  . obtain ⟨p,b,sh,pl,ru,ls,ads,du,seq,us,n,rfl,_⟩:=h
    rfl
  obtain ⟨p,b,sh,pl,ru,ls,ads,du,seq,us,n,rfl,R,k⟩:=h
  have nd:=sc_Room_mates.nd
  refine ⟨_,(Zi (Zw (pe_ix (Zu (K:=K) rfl) (Zo (K:=K) rfl (pv 0) rfl) (Zt D_shelf_of hr.m rfl (pc (Zo (K:=K) rfl (pv 0) rfl) (pc (pv 1) Ze))) (λ_ _=>rfl)))),?_⟩
  obtain ⟨dx,h1⟩:=R.ob
  obtain ⟨s,ad,e1,e2,e3,e4⟩:=R.shelf b
  exact ⟨_,rfl,p,_,dx,_,_,rfl,h1,T.cl_Room,T.n_Room_standing,ZeH ..,_,rfl,p,_,dx,_,_,rfl,h1,T.cl_Room,T.n_Room_shelves,Zfw ..,_,rfl,sh,b,rfl,R.s0,ls,_,_,_,rfl,rfl,SqL.of R.st.top,e3,k s ad e1 e2 e4⟩
def Zhp (K:W.Frag):Sp:=λvs H Q _=>∃ (p:Addr) (b sh pl:Int) (ru:Str) (ls:Addr) (ads:List Addr) (du:Addr) (seq:List Int) (us:Int->Int) (n:Nat),vs=[.ref p,.int b]/\RoomAt K H p sh pl ru ls ads du seq us n/\b∈seq/\Q .non H
theorem Zhq {f:Addr} {fd:FuncData} (F:Fun K "need" "Room.need" Zbs f fd) (T:Txt K mg) (M_Room_has:MDef P w K mg base (clsOf K "Room") "has" 1 ZaJ (spHas K)):FnOk P w K mg base CX0 2 f fd ZaX (Zhp K):=by
  refine F.ok sc_Room_need (λvs H Q E h=>?_) (λcdv A outer st H vs Q E hr h=>?_)
  . obtain ⟨p,b,sh,pl,ru,ls,ads,du,seq,us,n,rfl,_⟩:=h
    rfl
  obtain ⟨p,b,sh,pl,ru,ls,ads,du,seq,us,n,rfl,R,hb,k⟩:=h
  have nd:=sc_Room_need.nd
  refine ⟨_,(Zi (ps_if (Zfj (ZbA (Zl M_Room_has hr.m T.cl_Room (pv 0) (pc (pv 1) Ze)))) (Zi ps_no) Zz)),?_⟩
  obtain ⟨dx,h1⟩:=R.ob
  refine ⟨_,rfl,p,dx,_,rfl,h1,fl_no ..,_,rfl,p,b,sh,pl,ru,ls,ads,du,seq,us,n,rfl,R,?_⟩
  rw [decide_eq_true hb]
  exact ⟨_,rfl,ifF rfl k⟩
end
section
variable {P:Program} {w:World} {K:W.Frag} {mg:Str->Option Value} {base:Heap}
def Zgc (K:W.Frag):Sp:=λvs H Q _=>∃ (p m:Addr) (ms:List Int) (sh pl:Int) (ru:Str) (ls:Addr) (ads:List Addr) (du:Addr) (seq:List Int) (us:Int->Int) (n:Nat),vs=[.ref p,.ref m]/\RoomAt K H p sh pl ru ls ads du seq us n/\Tb K H/\H m=some (.lst (ms.map V.int))/\ms.length<64/\ms.Nodup/\(∀ b∈ms,b∈seq) /\
  ∀ (D:Addr) (H':Hp) (os:List Int),H D=none->Same H H'->H' D=some (.lst (os.map V.int))->os.Perm ms->(ru = "few" -> os.Pairwise (KLt us ms))->(ru ≠ "few" -> os=ms)->Q (.ref D) H'
theorem Zgd {f tp cg:Addr} {fd:FuncData} (F:Fun K "going" "Room.going" ZT f fd) (hfc:fd.code=.ref cg) (htp:tabOf K "Room" "going" = tp) (hch:W.codeHdIn K cg tp=true) (bm:BMod base mg) (T:Txt K mg):FnOk P w K mg base CX0 2 f fd Zbc (Zgc K):=by
  refine F.okC sc_Room_going (λvs H Q E h=>?_) (λcdv A outer st H vs Q E hcv hr h=>?_)
  . obtain ⟨p,m,ms,sh,pl,ru,ls,ads,du,seq,us,n,rfl,_⟩:=h
    rfl
  obtain ⟨p,m,ms,sh,pl,ru,ls,ads,du,seq,us,n,rfl,R,tb,hm,h64,hnd,hin,k⟩:=h
  have nd:=sc_Room_going.nd
  have hu:=hu_of hr
  have hc0:cdv=.ref cg:=hcv.symm.trans hfc
  refine ⟨_,(Zh (ps_if (ZZ op_eq (Zo (K:=K) rfl (pv 0) rfl) Zbf (ZM _)) (Zi (Zw (Zmc (X:=(cxOf CX0 P w K mg base Zcz "Room.going" (Zc ZT) f cdv A outer st H E).nox) (K:=K) (P:=tp) (c0:=cg) rfl hr rfl rfl T.z_sorted (Zmb (osc:=(Zc ZT)) (oN:=Zcz) (x := "board") (fr:=["self"]) (js:=[0]) (by decide +kernel) rfl rfl) hc0 hch bm rfl rfl rfl (λ_ _ _ _ _=>rfl) (pv 1) (λ_ _ _ _ _=>(Zkx (Zos hr) (Zo (K:=K) rfl (pv 1) rfl) (pv 0) (λ_ _=>rfl)))))) Zz)
      (Zi (Zw (Zap (ZbJ (K:=K) rfl) rfl T.z_list ZaH (pc (pv 1) Ze))))),?_⟩
  obtain ⟨dx,h1⟩:=R.ob
  obtain ⟨kvs,h2,h3,h4⟩:=R.dc
  refine ⟨_,rfl,p,_,dx,_,_,rfl,h1,T.cl_Room,T.n_Room_rule,Zic ..,rfl,_,rfl,?_⟩
  refine Zbo (λc=>?_) (λc=>?_)
  . have c':ru = "few" := by injection c
    have tb':H tp=some (.tbl tpos tqual):=by
      have t:=tb
      unfold Tb at t
      rw [htp] at t
      exact t
    refine ⟨_,rfl,m,ms,us,rfl,SqL.of hm,h64,hnd,tb',λz hz H2 sm=>?_,λD H' os hD sm hl po so=>k D H' os hD sm hl po (λ_=>so) λz=>absurd c' z⟩
    have v:=h4 z
    rw [if_pos (hin z hz)] at v
    exact ⟨_,rfl,p,_,dx,_,_,rfl,sm _ _ h1,T.cl_Room,T.n_Room_uses,Zdv ..,_,rfl,du,_,rfl,(by have q:=DGet.k (k:=Sum.inl z) (sm _ _ h2); rw [v] at q; exact q),rfl,rfl⟩
  . have c':¬ ru = "few" := λz=>c (by rw [z])
    exact ⟨_,rfl,m,_,rfl,.inl (SqL.of hm),λD hD=>k D _ ms hD (Zg hD _) Za (List.Perm.refl _) (λz=>absurd z c') λ_=>rfl⟩
theorem Zge {kvs:List (Key×V)} {k:Key} (j:Key):valV (dropK kvs k) j=if j=k then none else valV kvs j:=by
  induction kvs with
  | nil=>by_cases e:j=k <;> simp [dropK,valV,e]
  | cons q r ih =>
    by_cases e:q.1=k
    . rw [ZkA e,ih]
      by_cases c:j=k
      . rw [if_pos c,if_pos c]
      . rw [if_neg c,if_neg c,Zax (λz=>c (z.symm.trans e))]
    . rw [ZkB e]
      by_cases c:q.1=j
      . rw [ZaI c,if_neg (λz=>e (c.trans z)),ZaI c]
      . rw [Zax c,ih,Zax c]
theorem Zlj (kvs:List (Key×V)) (k:Key):(dropK kvs k).length<=kvs.length:=length_filter_le ..
def Zjh (K:W.Frag):Sp:=λvs H Q _=>∃ (p:Addr) (b sh pl:Int) (ru:Str) (ls:Addr) (ads:List Addr) (du:Addr) (seq:List Int) (us:Int->Int) (n:Nat),vs=[.ref p,.int b]/\RoomAt K H p sh pl ru ls ads du seq us n/\b∈seq /\
  ∀ H',RoomAt K H' p sh pl ru ls ads du (seq.erase b) us n->SR ads du H H'->Q .non H'
theorem Zhr {f:Addr} {fd:FuncData} (F:Fun K "drop" "Room.drop" Zbq f fd) (T:Txt K mg) (M_Room_need:MDef P w K mg base (clsOf K "Room") "need" 2 ZaX (Zhp K)) (M_Room_mates:MDef P w K mg base (clsOf K "Room") "mates" 2 Zag (Zdw K)):FnOk P w K mg base CX0 3 f fd Zbr (Zjh K):=by
  refine F.ok sc_Room_drop (λvs H Q E h=>?_) (λcdv A outer st H vs Q E hr h=>?_)
  . obtain ⟨p,b,sh,pl,ru,ls,ads,du,seq,us,n,rfl,_⟩:=h
    rfl
  obtain ⟨p,b,sh,pl,ru,ls,ads,du,seq,us,n,rfl,R,hb,k⟩:=h
  have nd:=sc_Room_drop.nd
  refine ⟨_,(Zh (Zv (Zl M_Room_need hr.m T.cl_Room (pv 0) (pc (pv 1) Ze)))
      (Zh (Zv (ZdK (K:=K) rfl (pe_bm PySem.F.plainAttrs_list PySem.F.slot_list_remove PySem.F.type_list_remove ZgQ (Zl M_Room_mates hr.m T.cl_Room (pv 0) (pc (pv 1) Ze)) (pc (pv 1) Ze))))
      (Zi (Zv (ZiU (Zo (K:=K) rfl (pv 0) rfl) (pv 1) ⟨rfl,rfl,rfl,rfl⟩))))),?_⟩
  obtain ⟨dx,h1⟩:=R.ob
  obtain ⟨kvs,h2,h3,h4⟩:=R.dc
  obtain ⟨o1,o2,o3,o4,o5,o6⟩:=R.off
  refine ⟨_,rfl,p,dx,_,rfl,h1,fl_no ..,_,rfl,p,b,sh,pl,ru,ls,ads,du,seq,us,n,rfl,R,hb,?_⟩
  refine ⟨_,rfl,p,dx,_,rfl,h1,fl_no ..,_,rfl,p,b,sh,pl,ru,ls,ads,du,seq,us,n,rfl,R,λs ad es hs had=>?_⟩
  have mad:ad∈ads:=mem_of_getElem? hs
  have hmem:b∈Zk sh (b % sh) seq:=mem_shelfS.mpr ⟨hb,rfl⟩
  refine ⟨.inl ⟨rfl,_,SqL.of had⟩,_,rfl,ad,_,b,rfl,rfl,had,hmem,?_⟩
  have S1:Shl (upd H ad (.lst (((Zk sh (b % sh) seq).erase b).map V.int))) ls ads sh (seq.erase b):=by
    refine R.st.put hs ?_ λs' hs'=>?_
    . rw [ZaF,es]
    . rw [ZaF]
      exact List.erase_of_not_mem λm=>hs' (by have:=(mem_shelfS.mp m).2; omega)
  have np:p≠ad:=λz=>o2 (z ▸ mad)
  have nd':du≠ad:=λz=>o5 (z ▸ mad)
  have h1':upd H ad (.lst (((Zk sh (b % sh) seq).erase b).map V.int)) p=some (.ins (clsOf K "Room") dx (flds sh pl ru ls du)):=by rw [Zb np]; exact h1
  have h2':upd H ad (.lst (((Zk sh (b % sh) seq).erase b).map V.int)) du=some (.dK kvs):=by rw [Zb nd']; exact h2
  refine ⟨_,rfl,p,_,dx,_,_,rfl,h1',T.cl_Room,T.n_Room_uses,Zdv ..,du,rfl,.inl ⟨_,.inl h2'⟩,_,rfl,kvs,Sum.inl b,_,h2',rfl,(by rw [h4 b,if_pos hb]),?_⟩
  refine k _ ⟨⟨dx,by rw [Zb o1]; exact h1'⟩,S1.other _ (Ne.symm o3) o5,⟨_,Za,⟨Nat.le_trans (Zlj _ _) h3.1,h3.2.drop b⟩,λx=>?_⟩,R.nd.erase b,R.s0,R.s1⟩ λx o e n1 n2=>?_
  . rw [Zge,h4 x]
    by_cases c:x=b
    . subst c
      rw [if_pos rfl,if_neg (λm=>((List.Nodup.mem_erase_iff R.nd).mp m).1 rfl)]
    . rw [if_neg (λz=>c (Sum.inl.inj z))]
      by_cases m:x∈seq
      . rw [if_pos m,if_pos ((List.Nodup.mem_erase_iff R.nd).mpr ⟨c,m⟩)]
      . rw [if_neg m,if_neg (λz=>m (mem_of_mem_erase z))]
  . rw [Zb n1,Zb (λz:x=ad=>n2 (z ▸ mad))]
    exact e
def bump (us:Int->Int) (b:Int):Int->Int:=λx=>if x=b then us b+1 else us x
def spUse (K:W.Frag):Sp:=λvs H Q _=>∃ (p:Addr) (b sh pl:Int) (ru:Str) (ls:Addr) (ads:List Addr) (du:Addr) (seq:List Int) (us:Int->Int) (n:Nat),vs=[.ref p,.int b]/\RoomAt K H p sh pl ru ls ads du seq us n/\n<=900/\b∈seq/\seq.length<=900 /\
  ∀ H',RoomAt K H' p sh pl ru ls ads du (if ru = "old" then seq.erase b++[b] else seq) (bump us b) (n+1)->SR ads du H H'->Q .non H'
theorem Zig {f:Addr} {fd:FuncData} (F:Fun K "use" "Room.use" ZbP f fd) (T:Txt K mg) (M_Room_need:MDef P w K mg base (clsOf K "Room") "need" 2 ZaX (Zhp K)) (M_Room_mates:MDef P w K mg base (clsOf K "Room") "mates" 2 Zag (Zdw K)):FnOk P w K mg base CX0 3 f fd Zbp (spUse K):=by
  refine F.ok sc_Room_use (λvs H Q E h=>?_) (λcdv A outer st H vs Q E hr h=>?_)
  . obtain ⟨p,b,sh,pl,ru,ls,ads,du,seq,us,n,rfl,_⟩:=h
    rfl
  obtain ⟨p,b,sh,pl,ru,ls,ads,du,seq,us,n,rfl,R,hn,hb,hsl,k⟩:=h
  have nd:=sc_Room_use.nd
  have hu:=hu_of hr
  refine ⟨_,(Zh (Zv (Zl M_Room_need hr.m T.cl_Room (pv 0) (pc (pv 1) Ze)))
      (Zh (Znl hu (Zo (K:=K) rfl (pv 0) rfl) (pv 1) Zj ZnX (λ_ _ _=>rfl))
      (Zi (ps_if (ZZ op_eq (Zo (K:=K) rfl (pv 0) rfl) Zbf (ZM _)) (Zh (pst 2 nd (Zl M_Room_mates hr.m T.cl_Room (pv 0) (pc (pv 1) Ze)))
      (Zh (Zv (ZdK (K:=K) rfl (pe_bm PySem.F.plainAttrs_list PySem.F.slot_list_remove PySem.F.type_list_remove ZgQ (pv 2) (pc (pv 1) Ze))))
      (Zi (Zv (ZdK (K:=K) rfl (pe_bm PySem.F.plainAttrs_list PySem.F.slot_list_append PySem.F.type_list_append ZbT (pv 2) (pc (pv 1) Ze))))))) Zz)))),?_⟩
  obtain ⟨dx,h1⟩:=R.ob
  obtain ⟨kvs,h2,h3,h4⟩:=R.dc
  obtain ⟨o1,o2,o3,o4,o5,o6⟩:=R.off
  refine ⟨_,rfl,p,dx,_,rfl,h1,fl_no ..,_,rfl,p,b,sh,pl,ru,ls,ads,du,seq,us,n,rfl,R,hb,?_⟩
  refine ⟨_,rfl,p,_,dx,_,_,rfl,h1,T.cl_Room,T.n_Room_uses,Zdv ..,_,rfl,du,_,rfl,(by have q:=DGet.k (k:=Sum.inl b) h2; rw [h4 b,if_pos hb] at q; exact q),_,_,rfl,rfl,_,DPut.k (k:=Sum.inl b) h2 (Zx (by omega)),?_⟩
  have R1:RoomAt K (upd H du (.dK (putK kvs (Sum.inl b) (.int (us b+1))))) p sh pl ru ls ads du seq (bump us b) (n+1):=by
    refine ⟨⟨dx,by rw [Zb o1]; exact h1⟩,R.st.other _ (Ne.symm o3) o5,⟨_,Za,⟨Nat.le_trans (Zcp ..) (by have:=h3.1; omega),h3.2.put b _⟩,λx=>?_⟩,R.nd,R.s0,R.s1⟩
    rw [ZdZ]
    unfold bump
    by_cases c:x=b
    . subst c
      rw [if_pos rfl,if_pos hb,if_pos rfl]
    . rw [if_neg (λz=>c (Sum.inl.inj z)),h4 x,if_neg c]
  have s1:SR ads du H (upd H du (.dK (putK kvs (Sum.inl b) (.int (us b+1))))):=λx o e n1 n2=>by rw [Zb n1]; exact e
  generalize upd H du (.dK (putK kvs (Sum.inl b) (.int (us b+1))))=H1 at *
  obtain ⟨dx1,g1⟩:=R1.ob
  refine ⟨_,rfl,p,_,dx1,_,_,rfl,g1,T.cl_Room,T.n_Room_rule,Zic ..,rfl,_,rfl,?_⟩
  refine Zbo (λc=>?_) (λc=>?_)
  . have c':ru = "old" := by injection c
    rw [if_pos c'] at k
    refine ⟨_,rfl,p,dx1,_,rfl,g1,fl_no ..,_,rfl,p,b,sh,pl,ru,ls,ads,du,seq,_,_,rfl,R1,λs ad es hs had=>?_⟩
    have mad:ad∈ads:=mem_of_getElem? hs
    have hmem:b∈Zk sh (b % sh) seq:=mem_shelfS.mpr ⟨hb,rfl⟩
    refine ⟨_,rfl,.inl ⟨rfl,_,SqL.of had⟩,_,rfl,ad,_,b,rfl,rfl,had,hmem,?_⟩
    have ll:((Zk sh (b % sh) seq).erase b).length<=900:=Nat.le_trans length_erase_le (Nat.le_trans (length_filter_le ..) hsl)
    refine ⟨_,rfl,.inl ⟨rfl,_,SqL.of Za⟩,_,rfl,ad,_,_,rfl,rfl,Za,Zx (by rw [length_map]; omega),?_⟩
    rw [Zeg]
    have e1:(((Zk sh (b % sh) seq).erase b).map V.int++[V.int b])=((Zk sh (b % sh) seq).erase b++[b]).map V.int:=by rw [map_append]; rfl
    have S2:Shl (upd H1 ad (.lst (((Zk sh (b % sh) seq).erase b++[b]).map V.int))) ls ads sh (seq.erase b++[b]):=by
      refine R1.st.put hs ?_ λs' hs'=>?_
      . rw [Zbx,if_pos es.symm,ZaF,es]
      . rw [Zbx,if_neg (by omega),ZaF]
        exact List.erase_of_not_mem λm=>hs' (by have:=(mem_shelfS.mp m).2; omega)
    have np:p≠ad:=λz=>o2 (z ▸ mad)
    have ndu:du≠ad:=λz=>o5 (z ▸ mad)
    obtain ⟨kvs1,g2,g3,g4⟩:=R1.dc
    have hme:∀ x,x∈seq.erase b++[b]↔x∈seq:=λx=>by
      rw [mem_append,mem_singleton,List.Nodup.mem_erase_iff R.nd]
      constructor
      . rintro (⟨_,m⟩ | rfl)
        . exact m
        . exact hb
      . intro m
        by_cases z:x=b
        . exact .inr z
        . exact .inl ⟨z,m⟩
    rw [e1]
    refine k _ ⟨⟨dx1,by rw [Zb np]; exact g1⟩,S2,⟨kvs1,by rw [Zb ndu]; exact g2,g3,λx=>?_⟩,?_,R.s0,R.s1⟩ λx o e n1 n2=>?_
    . rw [g4 x]
      by_cases m:x∈seq
      . rw [if_pos m,if_pos ((hme x).mpr m)]
      . rw [if_neg m,if_neg (λz=>m ((hme x).mp z))]
    . refine Zcy (R.nd.erase b) λm=>((List.Nodup.mem_erase_iff R.nd).mp m).1 rfl
    . rw [Zb (λz:x=ad=>n2 (z ▸ mad))]
      exact s1 _ _ e n1 n2
  . have c':¬ ru = "old" := λz=>c (by rw [z])
    rw [if_neg c'] at k
    exact k _ R1 s1
end
def tmR (ru:Str) (r:Rec):Int:=if ru = "old" then r.t1 else r.t0
def tm (ru:Str) (S:List Rec) (x:Int):Int:=match recOf S x with
  | some r=>tmR ru r
  | none=>0
theorem Zhs {ru:Str} {S:List Rec} {r:Rec} (u:Uq S) (h:r∈S):tm ru S r.b=tmR ru r:=by
  unfold tm
  rw [u.rec r h]
def lessO (seq:List Int):Option Int->List Int
  | none=>seq
  | some g=>seq.erase g
structure Link (sh pl:Int) (ru:Str) (S:List Rec) (seq:List Int) (us:Int->Int) (i:Nat):Prop where
  uq:Uq S
  nd:seq.Nodup
  mem:∀ b,b∈seq↔b∈bds S
  ord:seq.Pairwise λa b=>tm ru S a<tm ru S b
  bnd:∀ b∈seq,tm ru S b<i
  usn:∀ r∈S,us r.b=r.n
  cap:∀ s,((Zk sh s seq).length:Int)<=pl
def goneP (ru:Str) (us:Int->Int) (pl:Int) (ms:List Int) (gone:Option Int):Prop :=
  ((ms.length:Int)<pl->gone=none)/\(¬ (ms.length:Int)<pl->∃ (g:Int) (rest:List Int),gone=some g/\(g :: rest).Perm ms/\(ru = "few" -> (g :: rest).Pairwise (KLt us ms))/\(ru ≠ "few" -> g :: rest=ms))
theorem Zfx:∀ {a b:List Int},a.Nodup->b.Nodup->(∀ x,x∈a↔x∈b)->a.length=b.length
  | [],b,_,_,h=>by
    cases b with
    | nil=>rfl
    | cons y r=>exact absurd ((h y).mpr mem_cons_self) (by simp)
  | x :: a,b,na,nb,h=>by
    obtain ⟨n1,n2⟩:=List.nodup_cons.mp na
    have mb:x∈b:=(h x).mp mem_cons_self
    have ih:=Zfx n2 (nb.erase x) λy=>by
      rw [List.Nodup.mem_erase_iff nb]
      constructor
      . intro m
        exact ⟨λz=>n1 (z ▸ m),(h y).mp (mem_cons_of_mem _ m)⟩
      . rintro ⟨z,m⟩
        rcases List.mem_cons.mp ((h y).mpr m) with q | q
        . exact absurd q z
        . exact q
    rw [length_cons,ih,length_erase_of_mem mb]
    have:0<b.length:=length_pos_of_mem mb
    omega
theorem Link.onsh {sh pl:Int} {ru:Str} {S:List Rec} {seq:List Int} {us:Int->Int} {i:Nat} (L:Link sh pl ru S seq us i) (z:Int):((ZbH sh z S).length=(Zk sh (z % sh) seq).length)/\∀ x,x∈Zk sh (z % sh) seq↔∃ r∈ZbH sh z S,r.b=x:=by
  have hm:∀ x,x∈Zk sh (z % sh) seq↔∃ r∈ZbH sh z S,r.b=x:=λx=>by
    rw [mem_shelfS,L.mem x]
    constructor
    . rintro ⟨m,e⟩
      obtain ⟨r,hr,rfl⟩:=List.mem_map.mp m
      exact ⟨r,List.mem_filter.mpr ⟨hr,by simp [e]⟩,rfl⟩
    . rintro ⟨r,hr,rfl⟩
      obtain ⟨h1,h2⟩:=List.mem_filter.mp hr
      exact ⟨List.mem_map.mpr ⟨r,h1,rfl⟩,by simpa using h2⟩
  refine ⟨?_,hm⟩
  have nd1:((ZbH sh z S).map (·.b)).Nodup:=List.Nodup.sublist (List.Sublist.map _ filter_sublist) L.uq
  have nd2:(Zk sh (z % sh) seq).Nodup:=List.Nodup.sublist filter_sublist L.nd
  have e:=Zfx nd1 nd2 λx=>by
    rw [hm x,mem_map]
  rw [length_map] at e
  exact e
theorem Zmp {R:Int->Int->Prop} {l:List Int} (p:l.Pairwise R) {a b:Int} (ha:a∈l) (hb:b∈l) (h:l.idxOf a<l.idxOf b):R a b:=by
  have la:=List.idxOf_lt_length_of_mem ha
  have lb:=List.idxOf_lt_length_of_mem hb
  have q:=List.pairwise_iff_getElem.mp p _ _ la lb h
  rwa [getElem_idxOf la,getElem_idxOf lb] at q
theorem Zih {a b:Int} {x y:List Int} (h:a<b):HT.lexLt (a :: x) (b :: y)=true:=by
  rw [HT.lexLt_cons,if_neg (by omega),decide_eq_true h]
theorem Zlk {sh pl:Int} {ru:Str} {S:List Rec} {seq:List Int} {us:Int->Int} {i:Nat} {z:Int} {gone:Option Int} (L:Link sh pl ru S seq us i) (hpl:1<=pl) (hru:Rule ru) (G:goneP ru us pl (Zk sh (z % sh) seq) gone):goesF sh pl ru S z=gone:=by
  obtain ⟨hlen,hmem⟩:=L.onsh z
  by_cases c:((ZbH sh z S).length:Int)<pl
  . rw [G.1 (by rw [← hlen]; exact c)]
    unfold goesF
    rw [if_pos c]
  . obtain ⟨g,rest,rfl,pm,h1,h2⟩:=G.2 (by rw [← hlen]; exact c)
    obtain ⟨r,hr,e,least⟩:=ZjO (ru:=ru) hpl c
    rw [e]
    have hg:g∈Zk sh (z % sh) seq:=pm.mem_iff.mp mem_cons_self
    obtain ⟨r0,hr0,e0⟩:=(hmem g).mp hg
    have hrb:r.b∈Zk sh (z % sh) seq:=(hmem r.b).mpr ⟨r,hr,rfl⟩
    by_cases eq:r.b=g
    . rw [eq]
    . exfalso
      have hrest:r.b∈rest:=by
        rcases List.mem_cons.mp (pm.mem_iff.mpr hrb) with q | q
        . exact absurd q eq
        . exact q
      have inS:r∈S:=(List.mem_filter.mp hr).1
      have inS0:r0∈S:=(List.mem_filter.mp hr0).1
      have ordS:(Zk sh (z % sh) seq).Pairwise λa b=>tm ru S a<tm ru S b:=List.Pairwise.sublist filter_sublist L.ord
      have bad:=least r0 hr0
      have ht:∀ {a b:Int},a∈Zk sh (z % sh) seq->b∈Zk sh (z % sh) seq->(Zk sh (z % sh) seq).idxOf a<(Zk sh (z % sh) seq).idxOf b->tm ru S a<tm ru S b:=λha hb h=>Zmp ordS ha hb h
      by_cases few:ru = "few"
      . have k:=List.rel_of_pairwise_cons (h1 few) hrest
        have e1:tm ru S r0.b=r0.t0:=by rw [Zhs L.uq inS0,tmR,if_neg (by rw [few]; decide)]
        have e2:tm ru S r.b=r.t0:=by rw [Zhs L.uq inS,tmR,if_neg (by rw [few]; decide)]
        have u1:=L.usn r0 inS0
        have u2:=L.usn r inS
        have kk:∀ q:Rec,keyR ru q=[q.n,q.t0]:=λq=>by
          unfold keyR byL
          rw [few,if_neg (by decide),if_neg (by decide)]
          rfl
        rw [kk,kk] at bad
        rcases k with k | ⟨k1,k2⟩
        . rw [← e0,u1,u2] at k
          rw [show [r0.n,r0.t0]++[r0.b]=r0.n :: [r0.t0,r0.b] from rfl,show [r.n,r.t0]++[r.b]=r.n :: [r.t0,r.b] from rfl,Zih k] at bad
          cases bad
        . have t:=ht hg hrb k2
          rw [← e0,e1,e2] at t
          rw [← e0,u1,u2] at k1
          rw [show [r0.n,r0.t0]++[r0.b]=r0.n :: [r0.t0,r0.b] from rfl,show [r.n,r.t0]++[r.b]=r.n :: [r.t0,r.b] from rfl,HT.lexLt_cons,if_pos k1,Zih t] at bad
          cases bad
      . have e3:=h2 few
        have t:tm ru S g<tm ru S r.b:=by
          rw [← e3] at ordS
          exact List.rel_of_pairwise_cons ordS hrest
        rw [← e0,Zhs L.uq inS0,Zhs L.uq inS] at t
        have kk:∀ q:Rec,keyR ru q++[q.b]=[tmR ru q,q.b]:=λq=>by
          rcases hru with rfl | rfl | rfl
          . unfold keyR byL tmR
            rw [if_pos rfl,if_pos rfl]
            rfl
          . unfold keyR byL tmR
            rw [if_neg (by decide),if_pos rfl,if_neg (by decide)]
            rfl
          . exact absurd rfl few
        rw [kk,kk,Zih t] at bad
        cases bad
theorem Zht {ru:Str} {S:List Rec} {q:Rec} (x:Int):tm ru (putR S q) x=if x=q.b then tmR ru q else tm ru S x:=by
  unfold tm
  rw [ZeG]
  by_cases e:x=q.b
  . rw [if_pos e,if_pos e]
  . rw [if_neg e,if_neg e]
theorem ZnA {ru:Str} {S:List Rec} {g:Option Int} {x:Int} (h:∀ y,g=some y->x≠y):tm ru (lessR S g) x=tm ru S x:=by
  cases g with
  | none=>rfl
  | some y =>
    unfold tm
    rw [show recOf (lessR S (some y)) x=recOf S x by
      show recOf (dropR S y) x=_
      rw [Zfv,if_neg (h y rfl)]]
theorem Zji {seq:List Int} {g:Option Int}:(lessO seq g).length<=seq.length:=by
  cases g with
  | none=>exact Nat.le_refl _
  | some g=>exact length_erase_le
theorem less_sub {seq:List Int} {g:Option Int}:(lessO seq g).Sublist seq:=by
  cases g with
  | none=>exact List.Sublist.refl _
  | some g=>exact erase_sublist
theorem Zjj {seq:List Int} {g:Option Int} (nd:seq.Nodup) {x:Int}:x∈lessO seq g↔x∈seq/\∀ y,g=some y->x≠y:=by
  cases g with
  | none=>exact ⟨λh=>⟨h,λy e=>by cases e⟩,λh=>h.1⟩
  | some g =>
    show x∈seq.erase g↔_
    rw [List.Nodup.mem_erase_iff nd]
    exact ⟨λh=>⟨h.2,λy e=>by cases e; exact h.1⟩,λh=>⟨h.2 g rfl,h.1⟩⟩
theorem Zmq {S:List Rec} {g:Option Int} {x:Int}:x∈bds (lessR S g)↔x∈bds S/\∀ y,g=some y->x≠y:=by
  cases g with
  | none=>exact ⟨λh=>⟨h,λy e=>by cases e⟩,λh=>h.1⟩
  | some g =>
    show x∈bds (dropR S g)↔_
    rw [Zmo]
    exact ⟨λh=>⟨h.1,λy e=>by cases e; exact h.2⟩,λh=>⟨h.1,h.2 g rfl⟩⟩
theorem ZjP {S:List Rec} {o:Option Int} {r:Rec} (h:r∈lessR S o):r∈S:=by
  cases o with
  | none=>exact h
  | some g=>exact (List.mem_filter.mp h).1
theorem Zhu {S:List Rec} {q r:Rec} (u:Uq S) (h:r∈putR S q):r=q\/(r∈S/\r.b≠q.b):=by
  have e:=(u.put q).rec r h
  rw [ZeG] at e
  by_cases c:r.b=q.b
  . rw [if_pos c] at e
    exact .inl (Option.some.inj e).symm
  . rw [if_neg c] at e
    exact .inr ⟨(Zfu e).1,c⟩
theorem Zhv {R:Int->Int->Prop} {l:List Int} {z:Int} (p:l.Pairwise R) (h:∀ x∈l,R x z):(l++[z]).Pairwise R:=by
  rw [List.pairwise_append]
  exact ⟨p,List.pairwise_singleton _ _,λa ha b hb=>by rw [List.mem_singleton.mp hb]; exact h a ha⟩
theorem Link.missed {sh pl:Int} {ru:Str} {S:List Rec} {seq:List Int} {us us':Int->Int} {i:Nat} {z:Int} {gone:Option Int} (L:Link sh pl ru S seq us i) (hz:z∉seq) (hg:goesF sh pl ru S z=gone) (hu:∀ x,us' x=if x=z then 0 else us x)
    (hc:((Zk sh (z % sh) seq).length:Int)<pl\/∃ g∈Zk sh (z % sh) seq,gone=some g):Link sh pl ru (putR (lessR S gone) ⟨z,i,i,0⟩) (lessO seq gone++[z]) us' (i+1):=by
  have u1:=L.uq.less gone
  have nz:z∉lessO seq gone:=λm=>hz (less_sub.subset m)
  have tq:tmR ru ⟨z,i,i,0⟩=(i:Int):=by unfold tmR; split <;> rfl
  have te:∀ x∈lessO seq gone,tm ru (putR (lessR S gone) ⟨z,i,i,0⟩) x=tm ru S x:=λx m=>by
    obtain ⟨m1,m2⟩:=(Zjj L.nd).mp m
    rw [Zht,if_neg (λe:x=z=>nz (e ▸ m)),ZnA m2]
  have tz:tm ru (putR (lessR S gone) ⟨z,i,i,0⟩) z=(i:Int):=by rw [Zht,if_pos rfl,tq]
  refine ⟨u1.put _,Zcy (L.nd.sublist less_sub) nz,λx=>?_,Zhv ?_ ?_,λx m=>?_,λr hr=>?_,λs=>?_⟩
  . rw [mem_append,mem_singleton,Zlg,Zjj L.nd,Zmq,L.mem x]
    exact ⟨λh=>h.elim (λq=>.inr q) λq=>.inl q,λh=>h.elim (λq=>.inr q) λq=>.inl q⟩
  . have p:=L.ord.sublist (less_sub (g:=gone))
    exact p.imp_of_mem λha hb h=>by rw [te _ ha,te _ hb]; exact h
  . intro x m
    rw [te x m,tz]
    exact L.bnd x (less_sub.subset m)
  . rcases List.mem_append.mp m with m | m
    . rw [te x m]
      have:=L.bnd x (less_sub.subset m)
      omega
    . rw [List.mem_singleton.mp m,tz]
      omega
  . rcases Zhu u1 hr with rfl | ⟨h1,h2⟩
    . rw [hu,if_pos rfl]
    . rw [hu,if_neg h2]
      exact L.usn r (ZjP h1)
  . rw [Zbx]
    have hl:Zk sh s (lessO seq gone)=lessO (Zk sh s seq) gone:=by
      cases gone with
      | none=>rfl
      | some g=>exact ZaF sh s g seq
    rw [hl]
    have cs:=L.cap s
    have ll:=Zji (seq:=Zk sh s seq) (g:=gone)
    split
    . rename_i e
      rw [length_append]
      rcases hc with hc | ⟨g,hg',rfl⟩
      . rw [e] at hc
        have:[z].length=1:=rfl
        omega
      . rw [e] at hg'
        have e1:(lessO (Zk sh s seq) (some g)).length=(Zk sh s seq).length - 1:=length_erase_of_mem hg'
        have p0:0<(Zk sh s seq).length:=length_pos_of_mem hg'
        have:[z].length=1:=rfl
        omega
    . omega
theorem Link.found {sh pl:Int} {ru:Str} {S:List Rec} {seq:List Int} {us us':Int->Int} {i:Nat} {z:Int} {r:Rec} (L:Link sh pl ru S seq us i) (hr:recOf S z=some r) (hu:∀ x,us' x=if x=z then us z+1 else us x) :
    Link sh pl ru (putR S ⟨z,r.t0,i,r.n+1⟩) (if ru = "old" then seq.erase z++[z] else seq) us' (i+1):=by
  obtain ⟨rS,rb⟩:=Zfu hr
  subst rb
  have zin:r.b∈seq:=(L.mem _).mpr (List.mem_map.mpr ⟨r,rS,rfl⟩)
  have usr:∀ q∈putR S ⟨r.b,r.t0,i,r.n+1⟩,us' q.b=q.n:=λq hq=>by
    rcases Zhu L.uq hq with rfl | ⟨h1,h2⟩
    . rw [hu,if_pos rfl,L.usn r rS]
    . rw [hu,if_neg h2]
      exact L.usn q h1
  have memS:∀ x,x∈bds (putR S ⟨r.b,r.t0,i,r.n+1⟩)↔x∈bds S:=λx=>by
    rw [Zlg]
    constructor
    . rintro (rfl | h)
      . exact (L.mem _).mp zin
      . exact h
    . exact λh=>.inr h
  by_cases old:ru = "old"
  . rw [if_pos old]
    have nz:r.b∉seq.erase r.b:=λm=>((List.Nodup.mem_erase_iff L.nd).mp m).1 rfl
    have te:∀ x∈seq.erase r.b,tm ru (putR S ⟨r.b,r.t0,i,r.n+1⟩) x=tm ru S x:=λx m=>by
      rw [Zht,if_neg (λe:x=r.b=>nz (e ▸ m))]
    have tz:tm ru (putR S ⟨r.b,r.t0,i,r.n+1⟩) r.b=(i:Int):=by rw [Zht,if_pos rfl,tmR,if_pos old]
    refine ⟨L.uq.put _,Zcy (L.nd.erase _) nz,λx=>?_,Zhv ?_ ?_,λx m=>?_,usr,λs=>?_⟩
    . rw [memS,← L.mem x,mem_append,mem_singleton,List.Nodup.mem_erase_iff L.nd]
      constructor
      . rintro (⟨_,m⟩ | rfl)
        . exact m
        . exact zin
      . intro m
        by_cases e:x=r.b
        . exact .inr e
        . exact .inl ⟨e,m⟩
    . have p:=L.ord.sublist (erase_sublist (a:=r.b))
      exact p.imp_of_mem λha hb h=>by rw [te _ ha,te _ hb]; exact h
    . intro x m
      rw [te x m,tz]
      exact L.bnd x (mem_of_mem_erase m)
    . rcases List.mem_append.mp m with m | m
      . rw [te x m]
        have:=L.bnd x (mem_of_mem_erase m)
        omega
      . rw [List.mem_singleton.mp m,tz]
        omega
    . rw [Zbx,ZaF]
      have cs:=L.cap s
      split
      . rename_i e
        have hin:r.b∈Zk sh s seq:=mem_shelfS.mpr ⟨zin,e⟩
        rw [length_append,length_erase_of_mem hin]
        have p0:0<(Zk sh s seq).length:=length_pos_of_mem hin
        have:[r.b].length=1:=rfl
        omega
      . have:((Zk sh s seq).erase r.b).length<=(Zk sh s seq).length:=length_erase_le
        omega
  . rw [if_neg old]
    have te:∀ x,tm ru (putR S ⟨r.b,r.t0,i,r.n+1⟩) x=tm ru S x:=λx=>by
      rw [Zht]
      by_cases e:x=r.b
      . rw [if_pos e,e,Zhs L.uq rS,tmR,tmR,if_neg old,if_neg old]
      . rw [if_neg e]
    refine ⟨L.uq.put _,L.nd,λx=>by rw [memS,L.mem x],L.ord.imp λh=>by rw [te,te]; exact h,λx m=>?_,usr,L.cap⟩
    rw [te]
    have:=L.bnd x m
    omega
section
variable {P:Program} {w:World} {K:W.Frag} {mg:Str->Option Value} {base:Heap}
def Zhw (K:W.Frag):Sp:=λvs H Q _=>∃ (p dx:Addr) (sh pl:Int) (ru:Str),vs=[.ref p,.int sh,.int pl,.str ru]/\H p=some (.ins (clsOf K "Room") dx [])/\1<=sh/\sh<=64 /\
  ∀ (ls:Addr) (ads:List Addr) (du:Addr) (H':Hp),RoomAt K H' p sh pl ru ls ads du [] (λ_=>0) 0->H ls=none->H du=none->(∀ ad∈ads,H ad=none)->(∀ b o,H b=some o->b≠p->H' b=some o)->Q .non H'
theorem Zhx {f:Addr} {fd:FuncData} (F:Fun K "__init__" "Room.__init__" ZaV f fd) (T:Txt K mg):FnOk P w K mg base CX0 1 f fd ZaW (Zhw K):=by
  refine F.ok sc_Room_init (λvs H Q E h=>?_) (λcdv A outer st H vs Q E hr h=>?_)
  . obtain ⟨p,dx,sh,pl,ru,rfl,_⟩:=h
    rfl
  obtain ⟨p,dx,sh,pl,ru,rfl,hp,hs0,hs1,k⟩:=h
  have nd:=sc_Room_init.nd
  refine ⟨_,(Zh (Zbn (pv 0) (pv 1) rfl)
      (Zh (Zbn (pv 0) (pv 2) rfl)
      (Zh (Zbn (pv 0) (pv 3) rfl)
      (Zh (Zbn (pv 0) (ZbI (Zal (osc:=(Zc ZaV)) (oN:=Zey) (N:=["number"]) (own:=1) (js:=[]) (by decide +kernel) rfl rfl) rfl (Zch rfl T.z_range (pc (pv 1) Ze)) (λ_ _ _ _ _ _=>(pgn 0 (show List.Nodup (["number"]:List Str) by decide +kernel))) (λ_ _ _ _ _ _=>(Zcc Ze))) rfl)
      (Zi (Zbn (pv 0) Zea rfl)))))),?_⟩
  refine ⟨_,rfl,_,rfl,p,_,dx,_,rfl,hp,T.cl_Room,T.n_Room_shelves,(by show 0<1000; decide),?_⟩
  refine ⟨_,rfl,_,rfl,p,_,dx,_,rfl,Za,T.cl_Room,T.n_Room_places,(by show 1<1000; decide),?_⟩
  refine ⟨_,rfl,_,rfl,p,_,dx,_,rfl,Za,T.cl_Room,T.n_Room_rule,(by show 2<1000; decide),?_⟩
  have e3:upd (upd (upd H p (.ins (clsOf K "Room") dx (putF "shelves" (.int sh) []))) p (.ins (clsOf K "Room") dx (putF "places" (.int pl) (putF "shelves" (.int sh) [])))) p (.ins (clsOf K "Room") dx (putF "rule" (.str ru) (putF "places" (.int pl) (putF "shelves" (.int sh) [])))) p=some (.ins (clsOf K "Room") dx (putF "rule" (.str ru) (putF "places" (.int pl) (putF "shelves" (.int sh) [])))):=Za
  have o3:∀ b o,H b=some o->b≠p->upd (upd (upd H p (.ins (clsOf K "Room") dx (putF "shelves" (.int sh) []))) p (.ins (clsOf K "Room") dx (putF "places" (.int pl) (putF "shelves" (.int sh) [])))) p (.ins (clsOf K "Room") dx (putF "rule" (.str ru) (putF "places" (.int pl) (putF "shelves" (.int sh) [])))) b=some o:=λb o e n=>by rw [Zb n,Zb n,Zb n]; exact e
  generalize upd (upd (upd H p (.ins (clsOf K "Room") dx (putF "shelves" (.int sh) []))) p (.ins (clsOf K "Room") dx (putF "places" (.int pl) (putF "shelves" (.int sh) [])))) p (.ins (clsOf K "Room") dx (putF "rule" (.str ru) (putF "places" (.int pl) (putF "shelves" (.int sh) []))))=H3 at *
  have f3:∀ b,H3 b=none->H b=none:=λb e=>by
    cases q:H b with
    | none=>rfl
    | some o =>
      by_cases z:b=p
      . rw [z,e3] at e; cases e
      . rw [o3 b o q z] at e; cases e
  refine ⟨_,rfl,sh,rfl,by omega,by omega,λls hls=>?_⟩
  refine Zck (lo:=0) (n:=sh.toNat) (l:=ls) (λj ys σ G=>∃ (v0:Option V) (ads:List Addr),σ=[v0]/\ys=ads.map V.ref/\ads.length=j/\ads.Nodup/\ls∉ads/\G ls=some (.lst ys)/\(∀ ad∈ads,H3 ad=none/\G ad=some (.lst []))/\Same H3 G)
    ⟨none,[],rfl,rfl,rfl,nodup_nil,by simp,Za,by simp,Zg hls _⟩ ?_ ?_
  . rintro j ys σ G hj hy ⟨v0,ads,rfl,rfl,hlen,hnd,hoff,g1,g2,s1⟩
    refine ⟨(by show 0<=sizeLine; decide),λq hq=>?_⟩
    have nq:ls≠q:=Zd g1 hq
    have niq:q∉ads:=λm=>by rw [(g2 q m).2] at hq; cases hq
    refine CNx.of (Nat.le_trans (by omega:sh.toNat<=64) (by decide)) hj hy (by rw [Zb nq]; exact g1) ⟨_,ads++[q],rfl,by rw [map_append]; rfl,by rw [length_append,hlen]; rfl,Zcy hnd niq,?_,Za,λad m=>?_,?_⟩
    . intro m
      rcases List.mem_append.mp m with m | m
      . exact hoff m
      . exact nq (by simpa using m)
    . rcases List.mem_append.mp m with m | m
      . rw [Zb (λz:ad=ls=>hoff (z ▸ m)),Zb (λz:ad=q=>niq (z ▸ m))]
        exact g2 ad m
      . have e:ad=q:=by simpa using m
        subst e
        rw [Zb (Ne.symm nq)]
        exact ⟨s1.free hq,Za⟩
    . intro e o y
      rw [Zb (Zd y hls),Zb (Zd (s1 _ _ y) hq)]
      exact s1 _ _ y
  rintro ys σ G hy ⟨v0,ads,rfl,rfl,hlen,hnd,hoff,g1,g2,s1⟩
  have gp:=s1 _ _ e3
  refine ⟨_,rfl,p,_,dx,_,rfl,gp,T.cl_Room,T.n_Room_standing,(by show 3<1000; decide),?_⟩
  intro du hdu
  have nls:ls≠p:=λz=>by rw [z,e3] at hls; cases hls
  have nas:∀ ad∈ads,ad≠p:=λad m z=>by have q:=(g2 ad m).1; rw [z,e3] at q; cases q
  have npd:p≠du:=Zd (Za (H:=G) (a:=p) (o:=.ins (clsOf K "Room") dx (putF "standing" (.ref ls) (putF "rule" (.str ru) (putF "places" (.int pl) (putF "shelves" (.int sh) [])))))) hdu
  have gl:ls≠du:=λz=>by rw [← z,Zb nls,g1] at hdu; cases hdu
  have ga:du∉ads:=λm=>by rw [Zb (Ne.symm npd),(g2 du m).2] at hdu; cases hdu
  refine ⟨_,rfl,p,_,dx,_,rfl,(by rw [Zb npd]; exact Za),T.cl_Room,T.n_Room_uses,(by show 4<1000; decide),?_⟩
  have hduH3:H3 du=none:=by
    rw [Zb (Ne.symm npd)] at hdu
    exact s1.free hdu
  refine k ls ads du _ ⟨⟨dx,Za⟩,⟨?_,hlen,hnd,hoff,λi ad e=>?_⟩,⟨[],?_,⟨Nat.le_refl _,KI.nil⟩,λb=>by simp [valV]⟩,nodup_nil,hs0,hs1⟩ (f3 _ hls) (f3 _ hduH3) (λad m=>f3 _ (g2 ad m).1) λb o e n=>?_
  . rw [Zb nls,Zb gl,Zb nls]
    exact g1
  . have m:=mem_of_getElem? e
    rw [Zb (nas ad m),Zb (λz:ad=du=>ga (z ▸ m)),Zb (nas ad m)]
    exact (g2 ad m).2
  . rw [Zb (Ne.symm npd)]
    exact Za
  . have q:=s1 _ _ (o3 b o e n)
    have nb:b≠du:=λz=>by
      rw [← z,Zb n,q] at hdu
      cases hdu
    rw [Zb n,Zb nb,Zb n]
    exact q
def zero (us:Int->Int) (b:Int):Int->Int:=λx=>if x=b then 0 else us x
def ZeI (K:W.Frag):Sp:=λvs H Q _=>∃ (p:Addr) (b sh pl:Int) (ru:Str) (ls:Addr) (ads:List Addr) (du:Addr) (seq:List Int) (us:Int->Int) (n:Nat),vs=[.ref p,.int b]/\RoomAt K H p sh pl ru ls ads du seq us n/\Tb K H/\n<=900/\b∉seq/\1<=pl/\(Zk sh (b % sh) seq).length<64 /\
  ∀ (gone:Option Int) (H':Hp),goneP ru us pl (Zk sh (b % sh) seq) gone->RoomAt K H' p sh pl ru ls ads du (lessO seq gone++[b]) (zero us b) (n+1)->SR ads du H H'->Q (optV gone) H'
def Zec (K:W.Frag):Sp:=λvs H Q _=>∃ (p:Addr) (b sh pl:Int) (ru:Str) (ls:Addr) (ads:List Addr) (du:Addr) (seq:List Int) (us:Int->Int) (n:Nat),vs=[.ref p,.int b]/\RoomAt K H p sh pl ru ls ads du seq us n/\Tb K H/\1<=pl/\(Zk sh (b % sh) seq).length<64 /\
  ∀ (gone:Option Int) (H':Hp),goneP ru us pl (Zk sh (b % sh) seq) gone->Same H H'->Q (optV gone) H'
theorem Zdm {f:Addr} {fd:FuncData} (F:Fun K "leaver_for" "Room.leaver_for" ZI f fd) (T:Txt K mg) (M_Room_mates:MDef P w K mg base (clsOf K "Room") "mates" 2 Zag (Zdw K)) (M_Room_going:MDef P w K mg base (clsOf K "Room") "going" 2 Zbc (Zgc K)):FnOk P w K mg base CX0 3 f fd ZJ (Zec K):=by
  refine F.ok sc_Room_leaver_for (λvs H Q E h=>?_) (λcdv A outer st H vs Q E hr h=>?_)
  . obtain ⟨p,b,sh,pl,ru,ls,ads,du,seq,us,n,rfl,_⟩:=h
    rfl
  obtain ⟨p,b,sh,pl,ru,ls,ads,du,seq,us,n,rfl,R,tb,hpl,h64,k⟩:=h
  have nd:=sc_Room_leaver_for.nd
  have hu:=hu_of hr
  refine ⟨_,(Zh (pst 2 nd (Zl M_Room_mates hr.m T.cl_Room (pv 0) (pc (pv 1) Ze)))
      (Zh (ps_if (ZZ op_lt (Zs (ZS (K:=K) rfl) rfl T.z_len PySem.boot_len (pc (pv 2) Ze)) (Zo (K:=K) rfl (pv 0) rfl) (ZM _)) (Zi (Zw Zmy)) Zz)
      (Zi (Zw (pe_ix (Zu (K:=K) rfl) (Zl M_Room_going hr.m T.cl_Room (pv 0) (pc (pv 2) Ze)) Zj (λ_ _=>rfl)))))),?_⟩
  obtain ⟨dx,h1⟩:=R.ob
  refine ⟨_,rfl,p,dx,_,rfl,h1,fl_no ..,_,rfl,p,b,sh,pl,ru,ls,ads,du,seq,us,n,rfl,R,λs ad es hs had=>?_⟩
  have hnd:(Zk sh (b % sh) seq).Nodup:=R.nd.sublist filter_sublist
  refine ⟨_,rfl,ad,_,rfl,.inl (SqL.of had),_,rfl,p,_,dx,_,_,rfl,h1,T.cl_Room,T.n_Room_places,Zlh ..,_,_,rfl,rfl,_,rfl,?_⟩
  rw [length_map]
  refine Zbo (λc=>?_) (λc=>?_)
  . exact k none H ⟨λ_=>rfl,λz=>absurd z (by omega)⟩ (Same.refl _)
  . refine ⟨_,rfl,p,dx,_,rfl,h1,fl_no ..,_,rfl,p,ad,Zk sh (b % sh) seq,sh,pl,ru,ls,ads,du,seq,us,n,rfl,R,tb,had,h64,hnd,(λx m=>(mem_shelfS.mp m).1),λD H' os hD sm hl po s1 s2=>?_⟩
    have lo:=po.length_eq
    match os,hl,po,s1,s2,lo with
    | [],_,_,_,_,lo=>exact absurd lo (by simp; omega)
    | g :: rest,hl,po,s1,s2,lo =>
      refine ⟨D,_,_,_,rfl,rfl,SqL.of hl,atI0,?_⟩
      exact k (some g) H' ⟨λz=>absurd c (by omega),λ_=>⟨g,rest,rfl,po,s1,s2⟩⟩ sm
theorem Zgf {f:Addr} {fd:FuncData} (F:Fun K "bring" "Room.bring" ZaY f fd) (T:Txt K mg) (M_Room_has:MDef P w K mg base (clsOf K "Room") "has" 1 ZaJ (spHas K)) (M_Room_leaver_for:MDef P w K mg base (clsOf K "Room") "leaver_for" 3 ZJ (Zec K)) (M_Room_mates:MDef P w K mg base (clsOf K "Room") "mates" 2 Zag (Zdw K)) (M_Room_drop:MDef P w K mg base (clsOf K "Room") "drop" 3 Zbr (Zjh K)):FnOk P w K mg base CX0 4 f fd ZaA (ZeI K):=by
  refine F.ok sc_Room_bring (λvs H Q E h=>?_) (λcdv A outer st H vs Q E hr h=>?_)
  . obtain ⟨p,b,sh,pl,ru,ls,ads,du,seq,us,n,rfl,_⟩:=h
    rfl
  obtain ⟨p,b,sh,pl,ru,ls,ads,du,seq,us,n,rfl,R,tb,hn,hb,hpl,h64,k⟩:=h
  have nd:=sc_Room_bring.nd
  have hu:=hu_of hr
  refine ⟨_,(Zh (ps_if (ZbA (Zl M_Room_has hr.m T.cl_Room (pv 0) (pc (pv 1) Ze))) (Zi ps_no) Zz)
      (Zh (pst 2 nd (Zl M_Room_leaver_for hr.m T.cl_Room (pv 0) (pc (pv 1) Ze)))
      (Zh (ps_if (Zgx (ZhK (pv 2))) (Zi (Zv (Zl M_Room_drop hr.m T.cl_Room (pv 0) (pc (pv 2) Ze)))) Zz)
      (Zh (Zv (ZdK (K:=K) rfl (pe_bm PySem.F.plainAttrs_list PySem.F.slot_list_append PySem.F.type_list_append ZbT (Zl M_Room_mates hr.m T.cl_Room (pv 0) (pc (pv 1) Ze)) (pc (pv 1) Ze))))
      (Zh (Zky hu (Zo (K:=K) rfl (pv 0) rfl) (pv 1) Zj rfl)
      (Zi (Zw (pv 2)))))))),?_⟩
  obtain ⟨dx,h1⟩:=R.ob
  refine ⟨_,rfl,p,dx,_,rfl,h1,fl_no ..,_,rfl,p,b,sh,pl,ru,ls,ads,du,seq,us,n,rfl,R,?_⟩
  rw [decide_eq_false hb]
  refine ⟨_,rfl,ifF rfl ?_⟩
  refine ⟨_,rfl,p,dx,_,rfl,h1,fl_no ..,_,rfl,p,b,sh,pl,ru,ls,ads,du,seq,us,n,rfl,R,tb,hpl,h64,λgone H1 gp sm=>?_⟩
  refine gN ?_
  dsimp only
  have R0:=R.same sm
  have hnd:(Zk sh (b % sh) seq).Nodup:=R.nd.sublist filter_sublist
  refine cpI (λσ G=>σ=[some (.ref p),some (.int b),some (optV gone)]/\RoomAt K G p sh pl ru ls ads du (lessO seq gone) us n/\SR ads du H G) (λD' _ k'=>?_) ?_
  . match gone,gp with
    | none,gp=>exact ⟨_,rfl,_,rfl,ifF rfl (k' _ _ ⟨rfl,R0,SR.of sm⟩)⟩
    | some g,gp =>
      have hg:g∈Zk sh (b % sh) seq:=by
        by_cases c:((Zk sh (b % sh) seq).length:Int)<pl
        . exact absurd (gp.1 c) (by simp)
        . obtain ⟨g',rest,e,po,_⟩:=gp.2 c
          injection e with e
          subst e
          exact po.mem_iff.mp mem_cons_self
      obtain ⟨dx',h1'⟩:=R0.ob
      exact ⟨_,rfl,_,rfl,ifT rfl ⟨_,rfl,p,dx',_,rfl,h1',fl_no ..,_,rfl,p,g,sh,pl,ru,ls,ads,du,seq,us,n,rfl,R0,(mem_shelfS.mp hg).1,λH2 R2 s3=>k' _ _ ⟨rfl,R2,(SR.of sm).trans s3⟩⟩⟩
  rintro _ G ⟨rfl,R1,s1⟩
  obtain ⟨dx1,g1⟩:=R1.ob
  obtain ⟨kvs,g2,g3,g4⟩:=R1.dc
  obtain ⟨o1,o2,o3,o4,o5,o6⟩:=R1.off
  refine ⟨_,rfl,p,dx1,_,rfl,g1,fl_no ..,_,rfl,p,b,sh,pl,ru,ls,ads,du,lessO seq gone,us,n,rfl,R1,λs ad es hs had0=>?_⟩
  have mad:ad∈ads:=mem_of_getElem? hs
  have had1:=R1.st.at_ s ad hs
  have ll:(Zk sh s (lessO seq gone)).length<=64:=by
    have q:(Zk sh s (lessO seq gone)).Sublist (Zk sh s seq):=List.Sublist.filter _ (less_sub (g:=gone))
    have q2:=q.length_le
    rw [es] at q2 ⊢
    omega
  refine ⟨.inl ⟨rfl,_,SqL.of had1⟩,_,rfl,ad,_,_,rfl,rfl,had1,Zx (by rw [length_map]; omega),?_⟩
  have nb:b∉lessO seq gone:=λm=>hb (less_sub.subset m)
  have e1:((Zk sh s (lessO seq gone)).map V.int++[V.int b])=(Zk sh s (lessO seq gone)++[b]).map V.int:=by rw [map_append]; rfl
  rw [e1]
  have S2:Shl (upd G ad (.lst ((Zk sh s (lessO seq gone)++[b]).map V.int))) ls ads sh (lessO seq gone++[b]):=by
    refine R1.st.put hs ?_ λs' hs'=>?_
    . rw [Zbx,if_pos es.symm]
    . rw [Zbx,if_neg (by omega)]
  have np:p≠ad:=λz=>o2 (z ▸ mad)
  have ndu:du≠ad:=λz=>o5 (z ▸ mad)
  have g1':upd G ad (.lst ((Zk sh s (lessO seq gone)++[b]).map V.int)) p=some (.ins (clsOf K "Room") dx1 (flds sh pl ru ls du)):=by rw [Zb np]; exact g1
  have g2':upd G ad (.lst ((Zk sh s (lessO seq gone)++[b]).map V.int)) du=some (.dK kvs):=by rw [Zb ndu]; exact g2
  refine ⟨_,rfl,p,_,dx1,_,_,rfl,g1',T.cl_Room,T.n_Room_uses,Zdv ..,_,rfl,du,_,rfl,DPut.k (k:=Sum.inl b) g2' (Zx (by omega)),?_⟩
  refine ⟨_,rfl,k gone _ gp ⟨⟨dx1,by rw [Zb o1]; exact g1'⟩,S2.other _ (Ne.symm o3) o5,⟨_,Za,⟨Nat.le_trans (Zcp ..) (by have:=g3.1; omega),g3.2.put b _⟩,λx=>?_⟩,Zcy R1.nd nb,R.s0,R.s1⟩ λx o e n1 n2=>?_⟩
  . rw [ZdZ]
    unfold zero
    by_cases c:x=b
    . subst c
      rw [if_pos rfl,if_pos (mem_append_right _ (List.mem_singleton.mpr rfl)),if_pos rfl]
    . rw [if_neg (λz=>c (Sum.inl.inj z)),g4 x,if_neg c]
      by_cases m:x∈lessO seq gone
      . rw [if_pos m,if_pos (mem_append_left _ m)]
      . rw [if_neg m,if_neg (λz=>(List.mem_append.mp z).elim m λq=>c (List.mem_singleton.mp q))]
  . rw [Zb n1,Zb (λz:x=ad=>n2 (z ▸ mad))]
    exact s1 _ _ e n1 n2
end
section
variable {P:Program} {w:World} {K:W.Frag} {mg:Str->Option Value} {base:Heap}
def spAsk (K:W.Frag):Sp:=λvs H Q _=>∃ (p:Addr) (b sh pl:Int) (ru:Str) (ls:Addr) (ads:List Addr) (du:Addr) (seq:List Int) (us:Int->Int) (n:Nat),vs=[.ref p,.int b]/\RoomAt K H p sh pl ru ls ads du seq us n/\Tb K H/\n<=900/\seq.length<=900/\1<=pl/\(Zk sh (b % sh) seq).length<64 /\
  (∀ (t:Addr) (H':Hp),b∈seq->H t=none->RoomAt K H' p sh pl ru ls ads du (if ru = "old" then seq.erase b++[b] else seq) (bump us b) (n+1)->SR ads du H H'->H' t=some (.tup [.bl true,.non])->Q (.ref t) H') /\
  ∀ (t:Addr) (gone:Option Int) (H':Hp),b∉seq->H t=none->goneP ru us pl (Zk sh (b % sh) seq) gone->RoomAt K H' p sh pl ru ls ads du (lessO seq gone++[b]) (zero us b) (n+1)->SR ads du H H'->H' t=some (.tup [.bl false,optV gone])->Q (.ref t) H'
theorem SR.free {ads:List Addr} {du:Addr} {H H':Hp} {p:Addr} {sh pl:Int} {ru:Str} {ls:Addr} {seq:List Int} {us:Int->Int} {n:Nat} (s:SR ads du H H') (R':RoomAt K H' p sh pl ru ls ads du seq us n) {t:Addr} (h:H' t=none):H t=none:=by
  cases q:H t with
  | none=>rfl
  | some o =>
    have n1:t≠du:=λz=>by
      obtain ⟨kvs,e,_⟩:=R'.dc
      rw [z,e] at h; cases h
    have n2:t∉ads:=λz=>by
      obtain ⟨xs,e⟩:=R'.st.one z
      rw [e] at h; cases h
    rw [s _ _ q n1 n2] at h
    cases h
theorem ZoD {f:Addr} {fd:FuncData} (F:Fun K "ask" "ask" s_ask f fd) (T:Txt K mg) (M_Room_has:MDef P w K mg base (clsOf K "Room") "has" 1 ZaJ (spHas K)) (M_Room_use:MDef P w K mg base (clsOf K "Room") "use" 3 Zbp (spUse K)) (M_Room_bring:MDef P w K mg base (clsOf K "Room") "bring" 4 ZaA (ZeI K)):FnOk P w K mg base CX0 5 f fd P_ask (spAsk K):=by
  refine F.ok sc_ask (λvs H Q E h=>?_) (λcdv A outer st H vs Q E hr h=>?_)
  . obtain ⟨p,b,sh,pl,ru,ls,ads,du,seq,us,n,rfl,_⟩:=h
    rfl
  obtain ⟨p,b,sh,pl,ru,ls,ads,du,seq,us,n,rfl,R,tb,hn,hsl,hpl,h64,k1,k2⟩:=h
  have nd:=sc_ask.nd
  refine ⟨_,(Zh (ps_if (ZbA (Zl M_Room_has hr.m T.cl_Room (pv 0) (pc (pv 1) Ze))) (Zh (Zv (Zl M_Room_use hr.m T.cl_Room (pv 0) (pc (pv 1) Ze)))
      (Zi (Zw (Zbg (pc pe_bl (pc Zmy Ze)))))) Zz)
      (Zi (Zw (Zbg (pc pe_bl (pc (Zl M_Room_bring hr.m T.cl_Room (pv 0) (pc (pv 1) Ze)) Ze)))))),?_⟩
  obtain ⟨dx,h1⟩:=R.ob
  refine ⟨_,rfl,p,dx,_,rfl,h1,fl_no ..,_,rfl,p,b,sh,pl,ru,ls,ads,du,seq,us,n,rfl,R,_,rfl,?_⟩
  refine Zbo (λc=>?_) (λc=>?_)
  . refine ⟨_,rfl,p,dx,_,rfl,h1,fl_no ..,_,rfl,p,b,sh,pl,ru,ls,ads,du,seq,us,n,rfl,R,hn,c,hsl,λH1 R1 s1=>?_⟩
    exact ⟨(by show 2<=sizeLine; decide),λt ht=>k1 t _ c (s1.free R1 ht) (R1.same (Zg ht _)) (s1.trans (SR.of (Zg ht _))) Za⟩
  . refine ⟨_,rfl,p,dx,_,rfl,h1,fl_no ..,_,rfl,p,b,sh,pl,ru,ls,ads,du,seq,us,n,rfl,R,tb,hn,c,hpl,h64,λgone H1 gp R1 s1=>?_⟩
    exact ⟨(by show 2<=sizeLine; decide),λt ht=>k2 t gone _ c (s1.free R1 ht) gp (R1.same (Zg ht _)) (s1.trans (SR.of (Zg ht _))) Za⟩
end
section
variable {P:Program} {w:World} {K:W.Frag} {mg:Str->Option Value} {base:Heap}
theorem Link.nil (sh pl:Int) (ru:Str) (hpl:1<=pl):Link sh pl ru [] [] (λ_=>0) 0 :=
  ⟨nodup_nil,nodup_nil,λb=>by simp [bds],List.Pairwise.nil,(λb m=>nomatch m),(λr m=>nomatch m),λs=>by show ((0:Nat):Int)<=pl; omega⟩
theorem ZjQ {f:Addr} {fd:FuncData} (F:Fun K "run_row" "run_row" ZbZ f fd) (T:Txt K mg) (K_Room:KDef P w K mg base (clsOf K "Room") "Room" 1 ZaW (Zhw K)) (D_ask:Def P w K mg base "ask" 5 P_ask (spAsk K)):FnOk P w K mg base CX0 7 f fd Zco (spRun K):=by
  refine F.ok sc_run_row (λvs H Q E h=>?_) (λcdv A outer st H vs Q E hr h=>?_)
  . obtain ⟨sh,pl,ru,a,row,rfl,_⟩:=h
    rfl
  obtain ⟨sh,pl,ru,a,row,rfl,hS,hs0,hs1,hp0,hp1,hru,hl,bd,tb,k⟩:=h
  have nd:=sc_run_row.nd
  refine ⟨_,(Zh (pst 4 nd (ZcH K_Room hr.m rfl (pc (pv 0) (pc (pv 1) (pc (pv 2) Ze)))))
      (Zi (Zw (ZbI (Zal (osc:=(Zc ZbZ)) (oN:=Zhk) (N:=["board", "room"]) (own:=1) (js:=[4]) (by decide +kernel) rfl rfl) rfl (Zdb (K:=K) rfl (pv 3)) (λ_ _ _ _ _ _=>(pgn 0 (show List.Nodup (["board", "room"]:List Str) by decide +kernel))) (λ_ _ _ _ _ _=>(Zt D_ask hr.m rfl (pc (pv 1) (pc (pv 0) Ze)))))))),?_⟩
  refine ⟨_,rfl,_,rfl,_,rfl,λx dx nx ndx ne=>?_⟩
  have s0:Same H (upd (upd H dx (.own x)) x (.ins (clsOf K "Room") dx [])):=λb o e=>by
    rw [Zb (Zd e nx),Zb (Zd e ndx)]
    exact e
  refine ⟨x,dx,sh,pl,ru,rfl,Za,hs0,hs1,λls ads du H1 R1 fl fd' fa o1=>⟨rfl,?_⟩⟩
  have s1:Same H H1:=λb o e=>o1 b o (s0 b o e) (Zd e nx)
  have fls:=s0.free fl
  have fdu:=s0.free fd'
  have fads:∀ ad∈ads,H ad=none:=λad m=>s0.free (fa ad m)
  refine gN ?_
  dsimp only
  refine ⟨_,rfl,a,rfl,⟨_,s1.seq hS⟩,λl hl'=>?_⟩
  have hlH:H l=none:=s1.free hl'
  have nll:l≠ls:=λz'=>by rw [z',R1.st.top] at hl'; cases hl'
  have nlx:l∉ads/\l≠du:=by
    refine ⟨λm=>?_,λz=>?_⟩
    . obtain ⟨xs,e⟩:=R1.st.one m
      rw [e] at hl'; cases hl'
    . obtain ⟨kvs,e,_⟩:=R1.dc
      rw [z,e] at hl'; cases hl'
  refine Zcx (K:=K) (a:=a) (xs:=row.map V.int) (l:=l) (λj ys σ' G=>∃ (v0:Option V) (as:List Addr) (seq:List Int) (us:Int->Int),σ'=[v0,some (.ref x)]/\ys=as.map V.ref/\as.length=j/\G l=some (.lst ys)/\RoomAt K G x sh pl ru ls ads du seq us j/\Link sh pl ru (runR sh pl ru row j).1 seq us j/\seq.length<=j /\
      (∀ (m:Nat) (ad:Addr) (f:Bool×Option Int),as[m]?=some ad->(runR sh pl ru row j).2[m]?=some f->G ad=some (.tup [.bl f.1,optV f.2]))/\Same H G)
    ⟨none,[],[],_,rfl,rfl,rfl,Za,R1.same (Zg hl' _),Link.nil sh pl ru hp0,Nat.le_refl _,λm ad f h=>(by simp at h),s1.trans (Zg hl' _)⟩ (λj ys σ' G _ ⟨_,_,_,_,_,_,_,_,_,_,_,_,q⟩=>q.seq hS) ?_ ?_
  . rintro j y ys σ' G hj hy hys ⟨v0,as,seq,us,rfl,rfl,hlen,g1,R,L,lsq,q2,s2⟩
    obtain ⟨z,hz,rfl⟩:=Zga hy
    have hjr:j<row.length:=(List.getElem?_eq_some_iff.mp hz).1
    have eg:row.getD j 0=z:=by rw [getD_eq_getElem?_getD,hz]; rfl
    have c64:(Zk sh (z % sh) seq).length<64:=by have:=L.cap (z % sh); omega
    have tb2:Tb K G:=tb.same s2
    obtain ⟨_,rl1,rl2⟩:=Zle sh pl ru row j
    have e1:(runR sh pl ru row (j+1)).1=(stepR sh pl ru j z (runR sh pl ru row j).1).1:=by rw [← eg]; rfl
    have e2:(runR sh pl ru row (j+1)).2=(runR sh pl ru row j).2++[(stepR sh pl ru j z (runR sh pl ru row j).1).2]:=by rw [← eg]; rfl
    have fin:∀ (t:Addr) (H':Hp) (seq':List Int) (us':Int->Int) (f:Bool×Option Int),G t=none->RoomAt K H' x sh pl ru ls ads du seq' us' (j+1)->SR ads du G H'->H' t=some (.tup [.bl f.1,optV f.2])->(stepR sh pl ru j z (runR sh pl ru row j).1).2=f->Link sh pl ru (runR sh pl ru row (j+1)).1 seq' us' (j+1)->seq'.length<=j+1 ->
        CNx (row.map V.int).length l (λj ys σ' G=>∃ (v0:Option V) (as:List Addr) (seq:List Int) (us:Int->Int),σ'=[v0,some (.ref x)]/\ys=as.map V.ref/\as.length=j/\G l=some (.lst ys)/\RoomAt K G x sh pl ru ls ads du seq us j/\Link sh pl ru (runR sh pl ru row j).1 seq us j/\seq.length<=j /\
          (∀ (m:Nat) (ad:Addr) (f:Bool×Option Int),as[m]?=some ad->(runR sh pl ru row j).2[m]?=some f->G ad=some (.tup [.bl f.1,optV f.2]))/\Same H G) j (as.map V.ref) [some (.int z),some (.ref x)] (.ref t) H':=by
      intro t H' seq' us' f ht R' sr hH' hf L' ls'
      have ntl:l≠t:=Zd g1 ht
      have g1':=sr _ _ g1 nlx.2 nlx.1
      have sG:Same H H':=λb o e=>sr _ _ (s2 _ _ e) (Zd e fdu) λm=>by rw [fads b m] at e; cases e
      refine CNx.of (Nat.le_of_lt (Zx (by rw [length_map]; omega))) hj hys g1' ⟨_,as++[t],seq',us',rfl,by rw [map_append]; rfl,by rw [length_append,hlen]; rfl,Za,?_,L',ls',λm ad f' hm hf'=>?_,?_⟩
      . obtain ⟨o1',o2',o3',o4',o5',o6'⟩:=R'.off
        obtain ⟨dx',w1⟩:=R'.ob
        obtain ⟨kvs,w2,w3⟩:=R'.dc
        have nxl:x≠l:=λz'=>by rw [z',g1'] at w1; cases w1
        exact ⟨⟨dx',by rw [Zb nxl]; exact w1⟩,R'.st.other _ nll nlx.1,⟨kvs,by rw [Zb (Ne.symm nlx.2)]; exact w2,w3⟩,R'.nd,R'.s0,R'.s1⟩
      . rw [e2,hf] at hf'
        by_cases hmj:m<as.length
        . rw [getElem?_append_left hmj] at hm
          rw [getElem?_append_left (by omega)] at hf'
          have q:=q2 m ad f' hm hf'
          have nal:ad≠l:=λe=>by rw [e,g1] at q; cases q
          rw [Zb nal]
          exact sr.keep R q (λ_ e=>by cases e) λ_ e=>by cases e
        . rw [getElem?_append_right (by omega)] at hm
          have em:m=as.length:=by
            have:=(List.getElem?_eq_some_iff.mp hm).1
            simp at this; omega
          subst em
          rw [Nat.sub_self] at hm
          cases hm
          rw [getElem?_append_right (by omega),rl2,hlen,Nat.sub_self] at hf'
          cases hf'
          rw [Zb (Ne.symm ntl)]
          exact hH'
      . intro e o y'
        rw [Zb (Zd y' hlH)]
        exact sG _ _ y'
    refine ⟨_,rfl,_,rfl,x,z,sh,pl,ru,ls,ads,du,seq,us,j,rfl,R,tb2,by omega,by omega,hp0,c64,λt H' hin ht R' sr hH'=>?_,λt gone H' hin ht gp R' sr hH'=>?_⟩
    . have hbS:z∈bds (runR sh pl ru row j).1:=(L.mem z).mp hin
      cases hr':recOf (runR sh pl ru row j).1 z with
      | none=>exact absurd hbS (recOf_none.mp hr')
      | some r =>
        have es:stepR sh pl ru j z (runR sh pl ru row j).1=(putR (runR sh pl ru row j).1 ⟨z,r.t0,j,r.n+1⟩,(true,none)):=by
          unfold stepR
          rw [hr']
        refine fin t H' _ _ (true,none) ht R' sr hH' (by rw [es]) ?_ ?_
        . rw [e1,es]
          exact L.found hr' λx=>rfl
        . split
          . rw [length_append,length_erase_of_mem hin]
            have:0<seq.length:=length_pos_of_mem hin
            have:[z].length=1:=rfl
            omega
          . omega
    . have hbS:z∉bds (runR sh pl ru row j).1:=λm=>hin ((L.mem z).mpr m)
      have hr':=recOf_none.mpr hbS
      have hg:=Zlk L hp0 hru gp
      have es:stepR sh pl ru j z (runR sh pl ru row j).1=(putR (lessR (runR sh pl ru row j).1 gone) ⟨z,j,j,0⟩,(false,gone)):=by
        unfold stepR
        rw [hr',hg]
      refine fin t H' _ _ (false,gone) ht R' sr hH' (by rw [es]) ?_ ?_
      . rw [e1,es]
        refine L.missed hin hg (λx=>rfl) ?_
        by_cases c:((Zk sh (z % sh) seq).length:Int)<pl
        . exact .inl c
        . obtain ⟨g,rest,rfl,pm,_⟩:=gp.2 c
          exact .inr ⟨g,pm.mem_iff.mp mem_cons_self,rfl⟩
      . rw [length_append]
        have:=Zji (seq:=seq) (g:=gone)
        have:[z].length=1:=rfl
        omega
  . rintro ys σ' G hys ⟨v0,as,seq,us,rfl,rfl,hlen,g1,R,L,lsq,q2,s2⟩
    rw [length_map] at hlen
    refine k l G hlH s2 ⟨as,g1,?_,λm ad f h1 h2=>?_⟩
    . rw [Zia,hlen]
    . refine q2 m ad f h1 ?_
      rw [length_map]
      exact h2
end
section
variable {P:Program} {w:World} {K:W.Frag} {mg:Str->Option Value} {base:Heap}
def missF (sh pl:Int) (ru:Str) (row:List Int):Nat:=(rowF sh pl ru row).countP λf=>!f.1
def Zll (K:W.Frag):Sp:=λvs H Q _=>∃ (sh pl:Int) (ru:Str) (a:Addr) (row:List Int),vs=[.int sh,.int pl,.str ru,.ref a]/\SqL K H a (row.map V.int)/\1<=sh/\sh<=64/\1<=pl/\pl<=16/\Rule ru/\row.length<=400/\Bds 9999 row/\Tb K H /\
  ∀ H',Same H H'->Q (.int (missF sh pl ru row)) H'
theorem Zlm {f:Addr} {fd:FuncData} (F:Fun K "misses" "misses" Zcq f fd) (T:Txt K mg) (D_run_row:Def P w K mg base "run_row" 7 Zco (spRun K)):FnOk P w K mg base CX0 8 f fd Zdi (Zll K):=by
  refine F.ok sc_misses (λvs H Q E h=>?_) (λcdv A outer st H vs Q E hr h=>?_)
  . obtain ⟨sh,pl,ru,a,row,rfl,_⟩:=h
    rfl
  obtain ⟨sh,pl,ru,a,row,rfl,hS,hs0,hs1,hp0,hp1,hru,hl,bd,tb,k⟩:=h
  have nd:=sc_misses.nd
  refine ⟨_,(Zi (Zw (Zs (ZS (K:=K) rfl) rfl T.z_len PySem.boot_len (pc (ZlM (Zal (osc:=(Zc Zcq)) (oN:=Zjd) (N:=["found", "out"]) (own:=2) (js:=[]) (by decide +kernel) rfl rfl) rfl (Zdb (K:=K) rfl (Zt D_run_row hr.m rfl (pc (pv 0) (pc (pv 1) (pc (pv 2) (pc (pv 3) Ze)))))) (λ_ _ _ _ _ _=>(Zaz (K:=K) (n:=2) rfl rfl (Zp (pgn 0 (show List.Nodup (["found", "out"]:List Str) by decide +kernel)) (Zp (pgn 1 (show List.Nodup (["found", "out"]:List Str) by decide +kernel)) Zay)))) (λ_ _ _ _ _ _=>(Zfj (ZbA (pv 0)))) (λ_ _ _ _ _ _=>(pv 1))) Ze)))),?_⟩
  refine ⟨_,rfl,_,rfl,_,rfl,_,rfl,sh,pl,ru,a,row,rfl,hS,hs0,hs1,hp0,hp1,hru,hl,bd,tb,λlr H1 hlr s1 told=>?_⟩
  obtain ⟨ads,p1,p2,p3⟩:=told
  have rl:=Zia sh pl ru row
  have hmiss:missF sh pl ru row=(rowF sh pl ru row).countP λf=>!f.1:=rfl
  generalize rowF sh pl ru row=fs at *
  refine ⟨lr,rfl,⟨_,SqL.of p1⟩,λl hl'=>?_⟩
  refine Zcx (K:=K) (a:=lr) (xs:=ads.map V.ref) (l:=l) (λj ys σ' G'=>∃ v0 v1:Option V,σ'=[v0,v1]/\ys.length=(fs.take j).countP (λf=>!f.1)/\G'=upd H1 l (.lst ys))
    ⟨none,none,rfl,rfl,rfl⟩ (λj ys σ' G' _ ⟨_,_,_,_,q⟩=>SqL.of (by rw [q,Zb (Zd p1 hl')]; exact p1)) ?_ ?_
  . rintro j x ys σ' G' hj hxj hys ⟨v0,v1,rfl,hy,rfl⟩
    rw [getElem?_map] at hxj
    cases ea:ads[j]? with
    | none=>rw [ea] at hxj; cases hxj
    | some ad =>
      rw [ea] at hxj
      cases hxj
      have hjf:j<fs.length:=by rw [← p2]; exact (List.getElem?_eq_some_iff.mp ea).1
      have ad1:=p3 j ad fs[j] ea (getElem?_eq_getElem hjf)
      have tk:(fs.take (j+1)).countP (λf=>!f.1)=(fs.take j).countP (λf=>!f.1)+(if (!fs[j].1)=true then 1 else 0):=by
        rw [take_succ,getElem?_eq_getElem hjf,List.countP_append]
        show _+List.countP _ [fs[j]]=_
        rw [List.countP_cons,List.countP_nil,Nat.zero_add]
      refine ⟨ad,_,rfl,SqT.of (by rw [Zb (Zd ad1 hl')]; exact ad1),rfl,_,_,rfl,_,_,rfl,rfl,_,rfl,_,rfl,?_⟩
      refine Zmm (λc'=>?_) (λc'=>?_)
      . rw [if_pos c'] at tk
        exact ⟨_,rfl,CNx.of (Nat.le_of_lt (Zx (by rw [length_map]; omega))) hj hys Za ⟨_,_,rfl,by rw [length_append,hy,tk]; rfl,Zeg⟩⟩
      . rw [if_neg c',Nat.add_zero] at tk
        exact CNo.of hj hys ⟨_,_,rfl,hy.trans tk.symm,rfl⟩
  rintro ys σ' G' _ ⟨v0,v1,rfl,hy,rfl⟩
  rw [length_map,p2,take_length] at hy
  refine ⟨l,_,rfl,.inl (SqL.of Za),?_⟩
  rw [hy]
  have q:=k _ (s1.trans (Zg hl' (.lst ys)))
  rw [hmiss] at q
  exact q
end
section
variable {P:Program} {w:World} {K:W.Frag} {mg:Str->Option Value} {base:Heap}
def Zdn (K:W.Frag):Sp:=λvs H Q _=>∃ (p:Addr) (s sh pl:Int) (ru:Str) (ls:Addr) (ads:List Addr) (du:Addr) (seq:List Int) (us:Int->Int) (n:Nat),vs=[.ref p,.int s]/\RoomAt K H p sh pl ru ls ads du seq us n/\Tb K H/\0<=s/\s<sh/\(Zk sh s seq).length<64 /\
  ∀ (D:Addr) (H':Hp) (os:List Int),H D=none->Same H H'->H' D=some (.lst (os.map V.int))->os.Perm (Zk sh s seq)->(ru = "few" -> os.Pairwise (KLt us (Zk sh s seq)))->(ru ≠ "few" -> os=Zk sh s seq)->Q (.ref D) H'
theorem Zgg {f:Addr} {fd:FuncData} (F:Fun K "shelf" "Room.shelf" ZaZ f fd) (T:Txt K mg) (M_Room_going:MDef P w K mg base (clsOf K "Room") "going" 2 Zbc (Zgc K)):FnOk P w K mg base CX0 3 f fd Zba (Zdn K):=by
  refine F.ok sc_Room_shelf (λvs H Q E h=>?_) (λcdv A outer st H vs Q E hr h=>?_)
  . obtain ⟨p,s,sh,pl,ru,ls,ads,du,seq,us,n,rfl,_⟩:=h
    rfl
  obtain ⟨p,s,sh,pl,ru,ls,ads,du,seq,us,n,rfl,R,tb,s0,s1,h64,k⟩:=h
  have nd:=sc_Room_shelf.nd
  have hu:=hu_of hr
  refine ⟨_,(Zh (ps_if (Zfj (ZiE op_le op_lt Zj (pv 1) (Zo (K:=K) rfl (pv 0) rfl))) (Zi ps_no) Zz)
      (Zi (Zw (Zl M_Room_going hr.m T.cl_Room (pv 0) (pc (pe_ix (Zu (K:=K) rfl) (Zo (K:=K) rfl (pv 0) rfl) (pv 1) (λ_ _=>rfl)) Ze))))),?_⟩
  obtain ⟨dx,h1⟩:=R.ob
  obtain ⟨i,ad,e1,e2,e3,e4⟩:=R.st.get s0 s1
  have hnd:(Zk sh s seq).Nodup:=R.nd.sublist filter_sublist
  refine ⟨_,rfl,_,_,rfl,rfl,_,rfl,ifT (decide_eq_true s0) ⟨_,rfl,p,_,dx,_,_,rfl,h1,T.cl_Room,T.n_Room_shelves,Zfw ..,_,_,rfl,rfl,_,rfl,ifF (by rw [decide_eq_true s1]; rfl) ?_⟩⟩
  refine ⟨_,rfl,p,dx,_,rfl,h1,fl_no ..,_,rfl,p,_,dx,_,_,rfl,h1,T.cl_Room,T.n_Room_standing,ZeH ..,_,rfl,ls,_,_,_,rfl,rfl,SqL.of R.st.top,e3,p,ad,Zk sh s seq,sh,pl,ru,ls,ads,du,seq,us,n,rfl,R,tb,e4,h64,hnd,(λx m=>(mem_shelfS.mp m).1),k⟩
end
section
variable {P:Program} {w:World} {K:W.Frag} {mg:Str->Option Value} {base:Heap}
def spBds (K:W.Frag):Sp:=λvs H Q _=>∃ (p:Addr) (sh pl:Int) (ru:Str) (ls:Addr) (ads:List Addr) (du:Addr) (seq:List Int) (us:Int->Int) (n:Nat),vs=[.ref p]/\RoomAt K H p sh pl ru ls ads du seq us n/\seq.length<64 /\
  ∀ (D:Addr) (os:List Int),H D=none->os.Perm seq->os.Pairwise (·<=·)->Q (.ref D) (upd H D (.lst (os.map V.int)))
theorem Zfd {f:Addr} {fd:FuncData} (F:Fun K "boards" "Room.boards" ZaK f fd) (T:Txt K mg):FnOk P w K mg base CX0 1 f fd ZaL (spBds K):=by
  refine F.ok sc_Room_boards (λvs H Q E h=>?_) (λcdv A outer st H vs Q E hr h=>?_)
  . obtain ⟨p,sh,pl,ru,ls,ads,du,seq,us,n,rfl,_⟩:=h
    rfl
  obtain ⟨p,sh,pl,ru,ls,ads,du,seq,us,n,rfl,R,h64,k⟩:=h
  have nd:=sc_Room_boards.nd
  refine ⟨_,(Zi (Zw (Zs (Zhb rfl) rfl T.z_sorted PyProof.Rows.boot_sorted (pc (Zo (K:=K) rfl (pv 0) rfl) Ze)))),?_⟩
  obtain ⟨dx,h1⟩:=R.ob
  obtain ⟨kvs,h2,⟨h3,ks,h4,h5⟩,h6⟩:=R.dc
  have per:ks.Perm seq:=by
    refine (List.perm_ext_iff_of_nodup h5 R.nd).mpr λb=>?_
    have q:=Zli (kvs:=kvs) (Sum.inl b)
    rw [h6 b,h4] at q
    constructor
    . intro m
      have:=q.mpr (List.mem_map_of_mem m)
      by_cases c:b∈seq
      . exact c
      . rw [if_neg c] at this; cases this
    . intro m
      rw [if_pos m] at q
      obtain ⟨x,hx,e⟩:=List.mem_map.mp (q.mp rfl)
      rw [← Sum.inl.inj e]; exact hx
  exact ⟨_,rfl,p,_,dx,_,_,rfl,h1,T.cl_Room,T.n_Room_uses,Zdv ..,du,kvs,ks,rfl,h2,h4,by rw [per.length_eq]; exact h64,λD os hD po pw=>k D os hD (po.trans per) pw⟩
end
theorem Zln {kvs:List (Key×V)} {seq:List Int} (h:KI kvs) (nd:seq.Nodup) (e:∀ b,(valV kvs (Sum.inl b:Key)).isSome=true↔b∈seq):kvs.length=seq.length:=by
  obtain ⟨ks,h4,h5⟩:=h
  have per:ks.Perm seq:=by
    refine (List.perm_ext_iff_of_nodup h5 nd).mpr λb=>?_
    rw [← e b,Zli,h4,mem_map]
    constructor
    . intro m
      exact ⟨b,m,rfl⟩
    . rintro ⟨x,hx,q⟩
      rw [← Sum.inl.inj q]; exact hx
  have l:=congrArg List.length h4
  rw [length_map,length_map] at l
  rw [l,per.length_eq]
theorem RoomAt.norm {K:W.Frag} {H:Hp} {p:Addr} {sh pl:Int} {ru:Str} {ls:Addr} {ads:List Addr} {du:Addr} {seq:List Int} {us:Int->Int} {n:Nat} (R:RoomAt K H p sh pl ru ls ads du seq us n):RoomAt K H p sh pl ru ls ads du seq us seq.length:=by
  obtain ⟨kvs,h2,⟨h3,h5⟩,h4⟩:=R.dc
  refine ⟨R.ob,R.st,⟨kvs,h2,⟨Nat.le_of_eq (Zln h5 R.nd λb=>?_),h5⟩,h4⟩,R.nd,R.s0,R.s1⟩
  rw [h4 b]
  by_cases c:b∈seq
  . simp [c]
  . simp [c]
structure SA where
  sp:Addr
  rp:Addr
  ls:Addr
  ads:List Addr
  du:Addr
  dh:Addr
  df:Addr
structure Cf where
  sh:Int
  pl:Int
  ru:Str
  late:Bool
def sflds (rp:Addr) (late:Bool) (dh df:Addr):List (Str×V):=putF "fresh" (.ref df) (putF "held" (.ref dh) (putF "late" (.bl late) (putF "room" (.ref rp) [])))
theorem Zmr (rp:Addr) (late:Bool) (dh df:Addr):(sflds rp late dh df).lookup ("fresh" : Str)=some (.ref df):=by
  unfold sflds; rw [Zf,if_pos rfl]
theorem Zii (rp:Addr) (late:Bool) (dh df:Addr):(sflds rp late dh df).lookup ("held" : Str)=some (.ref dh):=by
  unfold sflds; rw [Zf,if_neg (by decide +kernel),Zf,if_pos rfl]
theorem Zcs (rp:Addr) (late:Bool) (dh df:Addr):(sflds rp late dh df).lookup ("room" : Str)=some (.ref rp):=by
  unfold sflds; rw [Zf,if_neg (by decide +kernel),Zf,if_neg (by decide +kernel),Zf,if_neg (by decide +kernel),Zf,if_pos rfl]
theorem sf_no (rp:Addr) (late:Bool) (dh df:Addr) {m:Str} (h1:¬ m = "fresh" := by decide +kernel) (h2:¬ m = "held" := by decide +kernel) (h3:¬ m = "late" := by decide +kernel) (h4:¬ m = "room" := by decide +kernel):(sflds rp late dh df).lookup m=none:=by
  unfold sflds
  rw [Zf,if_neg h1,Zf,if_neg h2,Zf,if_neg h3,Zf,if_neg h4]
  rfl
structure StoreAt (K:W.Frag) (H:Hp) (a:SA) (c:Cf) (zs:List V) (M:Addr->Prop) (seq:List Int) (us:Int->Int):Prop where
  ob:∃ dx,H a.sp=some (.ins (clsOf K "Store") dx (sflds a.rp c.late a.dh a.df))
  room:RoomAt K H a.rp c.sh c.pl c.ru a.ls a.ads a.du seq us seq.length
  held:∃ kvs,H a.dh=some (.dK kvs)/\KI kvs/\(∀ b,b∉seq->valV kvs (Sum.inl b:Key)=none)/\∀ b,b∈seq->∃ l,valV kvs (Sum.inl b:Key)=some (.ref l)/\H l=some (.lst zs)/\¬ M l
  fresh:H a.df=some (.dK [])
  n1:a.du≠a.dh
  n2:a.df≠a.dh
  n3:a.df≠a.du
def SRs (a:SA) (H H':Hp):Prop:=∀ x o,H x=some o->x≠a.du->x≠a.dh->x∉a.ads->H' x=some o
section
variable {K:W.Frag} {H H':Hp} {a:SA} {c:Cf} {zs:List V} {M:Addr->Prop} {seq:List Int} {us:Int->Int}
theorem SRs.room (s:SR a.ads a.du H H'):SRs a H H':=λx o e n1 _ n3=>s x o e n1 n3
theorem StoreAt.same (S:StoreAt K H a c zs M seq us) (s:Same H H'):StoreAt K H' a c zs M seq us:=by
  obtain ⟨dx,h1⟩:=S.ob
  obtain ⟨kvs,h2,h3,h4,h5⟩:=S.held
  exact ⟨⟨dx,s _ _ h1⟩,S.room.same s,⟨kvs,s _ _ h2,h3,h4,λb hb=>by obtain ⟨l,e1,e2,e3⟩:=h5 b hb; exact ⟨l,e1,s _ _ e2,e3⟩⟩,s _ _ S.fresh,S.n1,S.n2,S.n3⟩
theorem StoreAt.mono {M':Addr->Prop} (S:StoreAt K H a c zs M seq us) (h:∀ x xs,H x=some (.lst xs)->M' x->M x):StoreAt K H a c zs M' seq us:=by
  obtain ⟨kvs,h2,h3,h4,h5⟩:=S.held
  exact ⟨S.ob,S.room,⟨kvs,h2,h3,h4,λb hb=>by obtain ⟨l,e1,e2,e3⟩:=h5 b hb; exact ⟨l,e1,e2,λz=>e3 (h _ _ e2 z)⟩⟩,S.fresh,S.n1,S.n2,S.n3⟩
theorem StoreAt.deed {seq':List Int} {us':Int->Int} {n:Nat} (S:StoreAt K H a c zs M seq us) (hM:∀ x∈a.ads,M x) (R:RoomAt K H' a.rp c.sh c.pl c.ru a.ls a.ads a.du seq' us' n) (s:SR a.ads a.du H H') (hs:∀ b,b∈seq'↔b∈seq):StoreAt K H' a c zs M seq' us':=by
  obtain ⟨dx,h1⟩:=S.ob
  obtain ⟨kvs,h2,h3,h4,h5⟩:=S.held
  have df:a.df∉a.ads:=λm=>by obtain ⟨xs,e⟩:=S.room.st.one m; rw [S.fresh] at e; cases e
  have dh:a.dh∉a.ads:=λm=>by obtain ⟨xs,e⟩:=S.room.st.one m; rw [h2] at e; cases e
  refine ⟨⟨dx,s.keep S.room h1 (λ_ z=>by cases z) (λ_ z=>by cases z)⟩,R.norm,⟨kvs,s _ _ h2 (Ne.symm S.n1) dh,h3,λb hb=>h4 b λm=>hb ((hs b).mpr m),λb hb=>?_⟩,s _ _ S.fresh S.n3 df,S.n1,S.n2,S.n3⟩
  obtain ⟨l,e1,e2,e3⟩:=h5 b ((hs b).mp hb)
  refine ⟨l,e1,s _ _ e2 (λz=>?_) (λz=>e3 (hM _ z)),e3⟩
  obtain ⟨kv,g,_⟩:=S.room.dc
  rw [z,g] at e2; cases e2
end
section
variable {P:Program} {w:World} {K:W.Frag} {mg:Str->Option Value} {base:Heap}
def Zij (K:W.Frag):Sp:=λvs H Q _=>∃ (p dx tp:Addr) (sh pl:Int) (ru wr:Str),vs=[.ref p,.ref tp]/\H p=some (.ins (clsOf K "Store") dx [])/\SqT K H tp [.int sh,.int pl,.str ru,.str wr]/\1<=sh/\sh<=64 /\
  ∀ (a:SA) (H':Hp),a.sp=p->(∀ zs M,StoreAt K H' a ⟨sh,pl,ru,decide (wr = "late")⟩ zs M [] (λ_=>0))->H a.rp=none->H a.ls=none->H a.du=none->H a.dh=none->H a.df=none->(∀ ad∈a.ads,H ad=none)->(∀ b o,H b=some o->b≠p->H' b=some o)->Q .non H'
theorem Zgh {f:Addr} {fd:FuncData} (F:Fun K "__init__" "Store.__init__" Zbd f fd) (T:Txt K mg) (K_Room:KDef P w K mg base (clsOf K "Room") "Room" 1 ZaW (Zhw K)):FnOk P w K mg base CX0 3 f fd ZbB (Zij K):=by
  refine F.ok sc_Store_init (λvs H Q E h=>?_) (λcdv A outer st H vs Q E hr h=>?_)
  . obtain ⟨p,dx,tp,sh,pl,ru,wr,rfl,_⟩:=h
    rfl
  obtain ⟨p,dx,tp,sh,pl,ru,wr,rfl,hp,htp,s0,s1,k⟩:=h
  have nd:=sc_Store_init.nd
  refine ⟨_,(Zh (ZbQ (pv 1) (Zaz (K:=K) (n:=4) rfl rfl (Zp (pgn 2 nd) (Zp (pgn 3 nd) (Zp (pgn 4 nd) (Zp (pgn 5 nd) Zay))))))
      (Zh (Zbn (pv 0) (ZcH K_Room hr.m rfl (pc (pv 2) (pc (pv 3) (pc (pv 4) Ze)))) rfl)
      (Zh (Zbn (pv 0) (ZbR op_eq (pv 5) Zbf (ZM _)) rfl)
      (Zh (Zbn (pv 0) Zea rfl)
      (Zi (Zbn (pv 0) Zea rfl)))))),?_⟩
  refine ⟨_,rfl,tp,_,rfl,htp,rfl,_,_,rfl,gN ⟨_,_,rfl,gN ⟨_,_,rfl,gN ⟨_,_,rfl,gN ⟨rfl,?_⟩⟩⟩⟩⟩
  try dsimp only
  refine ⟨_,rfl,_,rfl,_,rfl,λrp rx hrp hrx nrx=>⟨rp,rx,sh,pl,ru,rfl,Za,s0,s1,λls ads du H1 R1 f1 f2 f3 k1=>⟨rfl,?_⟩⟩⟩
  have npr:p≠rp:=Zd hp hrp
  have k1':∀ x o,H x=some o->H1 x=some o:=λx o e=>k1 x o (by rw [Zb (Zd e hrp),Zb (Zd e hrx)]; exact e) (Zd e hrp)
  have fr:∀ x,upd (upd H rx (.own rp)) rp (.ins (clsOf K "Room") rx []) x=none->H x=none:=λx e=>by
    cases q:H x with
    | none=>rfl
    | some o=>rw [Zb (Zd q hrp),Zb (Zd q hrx),q] at e; cases e
  have f1:=fr _ f1
  have f2:=fr _ f2
  have f3:∀ ad∈ads,H ad=none:=λad m=>fr _ (f3 ad m)
  have h1:=k1' _ _ hp
  refine ⟨_,rfl,p,_,dx,_,rfl,h1,T.cl_Store,T.n_Store_room,(by show 0<1000; decide),?_⟩
  obtain ⟨o1,o2,o3,o4,o5,o6⟩:=R1.off
  have q1:p≠ls:=λz=>by rw [z,R1.st.top] at h1; cases h1
  have q2:p≠du:=λz=>by obtain ⟨kv,g,_⟩:=R1.dc; rw [z,g] at h1; cases h1
  have q3:p∉ads:=λz=>by obtain ⟨xs,g⟩:=R1.st.one z; rw [g] at h1; cases h1
  have put:∀ {G:Hp} {o:HO},RoomAt K G rp sh pl ru ls ads du [] (λ_=>0) 0->RoomAt K (upd G p o) rp sh pl ru ls ads du [] (λ_=>0) 0:=λ{G o} R=>by
    obtain ⟨dx',e1⟩:=R.ob
    obtain ⟨kv,e2,e3⟩:=R.dc
    exact ⟨⟨dx',by rw [Zb (Ne.symm npr)]; exact e1⟩,R.st.other o q1 q3,⟨kv,by rw [Zb (Ne.symm q2)]; exact e2,e3⟩,R.nd,R.s0,R.s1⟩
  have R2:=put (o:=.ins (clsOf K "Store") dx (putF "room" (.ref rp) [])) R1
  have e2:upd H1 p (.ins (clsOf K "Store") dx (putF "room" (.ref rp) [])) p=some (.ins (clsOf K "Store") dx (putF "room" (.ref rp) [])):=Za
  have k2:∀ x o,H x=some o->x≠p->upd H1 p (.ins (clsOf K "Store") dx (putF "room" (.ref rp) [])) x=some o:=λx o e n=>by rw [Zb n]; exact k1' x o e
  generalize upd H1 p (.ins (clsOf K "Store") dx (putF "room" (.ref rp) []))=H2 at *
  refine ⟨_,rfl,rfl,_,rfl,p,_,dx,_,rfl,e2,T.cl_Store,T.n_Store_late,(by show 1<1000; decide),?_⟩
  have el:decide (V.str wr=V.str "late")=decide (wr = "late"):=decide_eq_decide.mpr ⟨λe=>by injection e,λe=>by rw [e]⟩
  rw [el]
  have R3:=put (o:=.ins (clsOf K "Store") dx (putF "late" (.bl (decide (wr = "late"))) (putF "room" (.ref rp) []))) R2
  have e3:upd H2 p (.ins (clsOf K "Store") dx (putF "late" (.bl (decide (wr = "late"))) (putF "room" (.ref rp) []))) p=some (.ins (clsOf K "Store") dx (putF "late" (.bl (decide (wr = "late"))) (putF "room" (.ref rp) []))):=Za
  have k3:∀ x o,H x=some o->x≠p->upd H2 p (.ins (clsOf K "Store") dx (putF "late" (.bl (decide (wr = "late"))) (putF "room" (.ref rp) []))) x=some o:=λx o e n=>by rw [Zb n]; exact k2 x o e n
  generalize upd H2 p (.ins (clsOf K "Store") dx (putF "late" (.bl (decide (wr = "late"))) (putF "room" (.ref rp) [])))=H3 at *
  refine λdh hdh=>?_
  have nh:p≠dh:=Zd e3 hdh
  refine ⟨_,rfl,p,_,dx,_,rfl,(by rw [Zb nh]; exact e3),T.cl_Store,T.n_Store_held,(by show 2<1000; decide),?_⟩
  have R4:=put (o:=.ins (clsOf K "Store") dx (putF "held" (.ref dh) (putF "late" (.bl (decide (wr = "late"))) (putF "room" (.ref rp) [])))) (R3.same (Zg hdh (.dK [])))
  have e4:upd (upd H3 dh (.dK [])) p (.ins (clsOf K "Store") dx (putF "held" (.ref dh) (putF "late" (.bl (decide (wr = "late"))) (putF "room" (.ref rp) [])))) p=some (.ins (clsOf K "Store") dx (putF "held" (.ref dh) (putF "late" (.bl (decide (wr = "late"))) (putF "room" (.ref rp) [])))):=Za
  have d4:upd (upd H3 dh (.dK [])) p (.ins (clsOf K "Store") dx (putF "held" (.ref dh) (putF "late" (.bl (decide (wr = "late"))) (putF "room" (.ref rp) [])))) dh=some (.dK []):=by rw [Zb (Ne.symm nh)]; exact Za
  have fdh:H dh=none:=by
    cases q:H dh with
    | none=>rfl
    | some o=>rw [k3 dh o q (Ne.symm nh)] at hdh; cases hdh
  have k4:∀ x o,H x=some o->x≠p->upd (upd H3 dh (.dK [])) p (.ins (clsOf K "Store") dx (putF "held" (.ref dh) (putF "late" (.bl (decide (wr = "late"))) (putF "room" (.ref rp) [])))) x=some o:=λx o e n=>by rw [Zb n,Zb (λz:x=dh=>by rw [z,fdh] at e; cases e)]; exact k3 x o e n
  generalize upd (upd H3 dh (.dK [])) p (.ins (clsOf K "Store") dx (putF "held" (.ref dh) (putF "late" (.bl (decide (wr = "late"))) (putF "room" (.ref rp) []))))=H4 at *
  refine λdf hdf=>?_
  have nf:p≠df:=Zd e4 hdf
  refine ⟨_,rfl,p,_,dx,_,rfl,(by rw [Zb nf]; exact e4),T.cl_Store,T.n_Store_fresh,(by show 3<1000; decide),?_⟩
  have fdf:H df=none:=by
    cases q:H df with
    | none=>rfl
    | some o=>rw [k4 df o q (Ne.symm nf)] at hdf; cases hdf
  have nhf:dh≠df:=λz=>by rw [← z,d4] at hdf; cases hdf
  obtain ⟨kv,g,_⟩:=R3.dc
  obtain ⟨kv4,g4,_⟩:=R4.dc
  have R5:=put (o:=.ins (clsOf K "Store") dx (sflds rp (decide (wr = "late")) dh df)) (R4.same (Zg hdf (.dK [])))
  refine k ⟨p,rp,ls,ads,du,dh,df⟩ _ rfl (λzs M=>⟨⟨dx,Za⟩,R5,⟨[],by rw [Zb (Ne.symm nh),Zb nhf]; exact d4,KI.nil,λ_ _=>rfl,λb m=>absurd m (by simp)⟩,by rw [Zb (Ne.symm nf)]; exact Za,λz=>?_,Ne.symm nhf,λz=>?_⟩) hrp f1 f2 fdh fdf f3 λx o e n=>?_
  . have z:du=dh:=z
    rw [← z,g] at hdh; cases hdh
  . have z:df=du:=z
    rw [z,g4] at hdf; cases hdf
  . rw [Zb n,Zb (λz:x=df=>by rw [z,fdf] at e; cases e)]
    exact k4 x o e n
end
section
variable {P:Program} {w:World} {K:W.Frag} {mg:Str->Option Value} {base:Heap}
def Zjk (K:W.Frag):Sp:=λvs H Q _=>∃ (a:SA) (c:Cf) (zs:List V) (M:Addr->Prop) (seq:List Int) (us:Int->Int) (b:Int),vs=[.ref a.sp,.int b]/\StoreAt K H a c zs M seq us/\Q (.bl (decide (b∈seq))) H
theorem Zhy {f:Addr} {fd:FuncData} (F:Fun K "has" "Store.has" Zbt f fd) (T:Txt K mg) (M_Room_has:MDef P w K mg base (clsOf K "Room") "has" 1 ZaJ (spHas K)):FnOk P w K mg base CX0 2 f fd Zbu (Zjk K):=by
  refine F.ok sc_Store_has (λvs H Q E h=>?_) (λcdv A outer st H vs Q E hr h=>?_)
  . obtain ⟨a,c,zs,M,seq,us,b,rfl,_⟩:=h
    rfl
  obtain ⟨a,c,zs,M,seq,us,b,rfl,S,k⟩:=h
  have nd:=sc_Store_has.nd
  refine ⟨_,(Zi (Zw (Zl M_Room_has hr.m T.cl_Room (Zo (K:=K) rfl (pv 0) rfl) (pc (pv 1) Ze)))),?_⟩
  obtain ⟨dx,h1⟩:=S.ob
  obtain ⟨dr,h2⟩:=S.room.ob
  exact ⟨_,rfl,a.sp,_,dx,_,_,rfl,h1,T.cl_Store,T.n_Store_room,Zcs ..,a.rp,dr,_,rfl,h2,fl_no ..,_,rfl,a.rp,b,c.sh,c.pl,c.ru,a.ls,a.ads,a.du,seq,us,_,rfl,S.room,k⟩
def spLay (K:W.Frag):Sp:=λvs H Q _=>∃ (p dx rp dh df:Addr) (late:Bool) (kvs:List (Key×V)) (b:Int) (lw:Addr) (zs:List V),vs=[.ref p,.int b,.ref lw]/\H p=some (.ins (clsOf K "Store") dx (sflds rp late dh df))/\H dh=some (.dK kvs)/\kvs.length<=900/\H lw=some (.lst zs) /\
  ∀ l,H l=none->Q .non (upd (upd H l (.lst zs)) dh (.dK (putK kvs (Sum.inl b) (.ref l))))
theorem Zhz {f:Addr} {fd:FuncData} (F:Fun K "lay" "Store.lay" Zbv f fd) (T:Txt K mg):FnOk P w K mg base CX0 1 f fd ZbW (spLay K):=by
  refine F.ok sc_Store_lay (λvs H Q E h=>?_) (λcdv A outer st H vs Q E hr h=>?_)
  . obtain ⟨p,dx,rp,dh,df,late,kvs,b,lw,zs,rfl,_⟩:=h
    rfl
  obtain ⟨p,dx,rp,dh,df,late,kvs,b,lw,zs,rfl,hp,hd,hl,hw,k⟩:=h
  have nd:=sc_Store_lay.nd
  have hu:=hu_of hr
  refine ⟨_,(Zi (Zky hu (Zo (K:=K) rfl (pv 0) rfl) (pv 1) (Zap (ZbJ (K:=K) rfl) rfl T.z_list ZaH (pc (pv 2) Ze)) rfl)),?_⟩
  refine ⟨_,rfl,lw,_,rfl,.inl (SqL.of hw),λl hl'=>?_⟩
  have s1:=Zg hl' (.lst zs)
  exact ⟨_,rfl,p,_,dx,_,_,rfl,s1 _ _ hp,T.cl_Store,T.n_Store_held,Zii ..,_,rfl,dh,_,rfl,DPut.k (k:=Sum.inl b) (s1 _ _ hd) (Zx (by omega)),k l hl'⟩
def Zgi (K:W.Frag):Sp:=λvs H Q _=>∃ (a:SA) (c:Cf) (zs:List V) (M:Addr->Prop) (seq:List Int) (us:Int->Int) (b:Int) (lw:Addr),vs=[.ref a.sp,.int b,.ref lw]/\StoreAt K H a c zs M seq us/\Tb K H/\(∀ x∈a.ads,M x)/\(∀ x,M x->H x≠none)/\H lw=some (.lst zs)/\¬ M lw/\b∉seq/\seq.length<=800/\1<=c.pl/\c.pl<=16/\((Zk c.sh (b % c.sh) seq).length:Int)<c.pl /\
  ∀ H',StoreAt K H' a c zs M (seq++[b]) (zero us b)->SRs a H H'->Q .non H'
theorem ZdU {f:Addr} {fd:FuncData} (F:Fun K "take_in" "Store.take_in" Zab f fd) (T:Txt K mg) (M_Room_bring:MDef P w K mg base (clsOf K "Room") "bring" 4 ZaA (ZeI K)) (M_Store_lay:MDef P w K mg base (clsOf K "Store") "lay" 1 ZbW (spLay K)):FnOk P w K mg base CX0 5 f fd ZaB (Zgi K):=by
  refine F.ok sc_Store_take_in (λvs H Q E h=>?_) (λcdv A outer st H vs Q E hr h=>?_)
  . obtain ⟨a,c,zs,M,seq,us,b,lw,rfl,_⟩:=h
    rfl
  obtain ⟨a,c,zs,M,seq,us,b,lw,rfl,S,tb,hM,hME,hlw,hMl,hb,hsl,hpl,hpl2,hsh,k⟩:=h
  have nd:=sc_Store_take_in.nd
  refine ⟨_,(Zh (Zv (Zl M_Room_bring hr.m T.cl_Room (Zo (K:=K) rfl (pv 0) rfl) (pc (pv 1) Ze)))
      (Zi (Zv (Zl M_Store_lay hr.m T.cl_Store (pv 0) (pc (pv 1) (pc (pv 2) Ze)))))),?_⟩
  obtain ⟨dx,h1⟩:=S.ob
  obtain ⟨dr,h2⟩:=S.room.ob
  refine ⟨_,rfl,a.sp,_,dx,_,_,rfl,h1,T.cl_Store,T.n_Store_room,Zcs ..,a.rp,dr,_,rfl,h2,fl_no ..,_,rfl,a.rp,b,c.sh,c.pl,c.ru,a.ls,a.ads,a.du,seq,us,_,rfl,S.room,tb,by omega,hb,hpl,by omega,λgone G gp R1 s1=>?_⟩
  have gn:gone=none:=gp.1 hsh
  subst gn
  obtain ⟨kvs,g2,g3,g4,g5⟩:=S.held
  obtain ⟨kd,gd,_⟩:=S.room.dc
  have ndh:a.dh∉a.ads:=λm=>by obtain ⟨xs,e⟩:=S.room.st.one m; rw [g2] at e; cases e
  have ndf:a.df∉a.ads:=λm=>by obtain ⟨xs,e⟩:=S.room.st.one m; rw [S.fresh] at e; cases e
  have h1':=s1.keep S.room h1 (λ_ z=>by cases z) (λ_ z=>by cases z)
  have g2':=s1 _ _ g2 (Ne.symm S.n1) ndh
  have nl:∀ {x xs},H x=some (.lst xs)->x≠a.du:=λ{x xs} e z=>by rw [z,gd] at e; cases e
  have hlw':=s1 _ _ hlw (nl hlw) λm=>hMl (hM _ m)
  have kl:kvs.length<=900:=by
    have:=Zln g3 S.room.nd λx=>?_
    . omega
    . constructor
      . intro q
        by_cases m:x∈seq
        . exact m
        . rw [g4 x m] at q; cases q
      . intro m
        obtain ⟨l,e,_⟩:=g5 x m
        rw [e]; rfl
  refine ⟨_,rfl,a.sp,dx,_,rfl,h1',sf_no ..,_,rfl,_,rfl,a.sp,dx,a.rp,a.dh,a.df,c.late,kvs,b,lw,zs,rfl,h1',g2',kl,hlw',λl hl=>?_⟩
  have ME:∀ x,M x->G x≠none:=λx hx z=>by
    by_cases m:x∈a.ads
    . obtain ⟨xs,e⟩:=R1.st.one m; rw [e] at z; cases z
    . by_cases d:x=a.du
      . obtain ⟨kv,e,_⟩:=R1.dc; rw [d,e] at z; cases z
      . cases e:H x with
        | none=>exact hME x hx e
        | some o=>rw [s1 _ _ e d m] at z; cases z
  have sl:=Zg hl (.lst zs)
  have R2:=R1.same sl
  have nlh:l≠a.dh:=λz=>by rw [z,g2'] at hl; cases hl
  obtain ⟨o1,o2,o3,o4,o5,o6⟩:=R2.off
  obtain ⟨dr',hr'⟩:=R2.ob
  have npd:a.dh≠a.rp:=λz=>by rw [← z,sl _ _ g2'] at hr'; cases hr'
  have nls:a.dh≠a.ls:=λz=>by have q:=R2.st.top; rw [← z,sl _ _ g2'] at q; cases q
  have R3:RoomAt K (upd (upd G l (.lst zs)) a.dh (.dK (putK kvs (Sum.inl b) (.ref l)))) a.rp c.sh c.pl c.ru a.ls a.ads a.du (seq++[b]) (zero us b) (seq.length+1):=by
    obtain ⟨kv,e2,e3⟩:=R2.dc
    exact ⟨⟨dr',by rw [Zb (Ne.symm npd)]; exact hr'⟩,R2.st.other _ nls ndh,⟨kv,by rw [Zb S.n1]; exact e2,e3⟩,R2.nd,R2.s0,R2.s1⟩
  have nsp:a.dh≠a.sp:=λz=>by rw [z,h1'] at g2'; cases g2'
  refine k _ ⟨⟨dx,by rw [Zb (Ne.symm nsp)]; exact sl _ _ h1'⟩,R3.norm,⟨_,Za,g3.put b _,λx hx=>?_,λx hx=>?_⟩,by rw [Zb S.n2]; exact sl _ _ (s1 _ _ S.fresh S.n3 ndf),S.n1,S.n2,S.n3⟩ λx o e n1 n2 n3=>?_
  . have nx:x≠b:=λz=>hx (by rw [z]; exact mem_append_right _ (List.mem_singleton.mpr rfl))
    rw [ZdZ,if_neg (λz=>nx (Sum.inl.inj z))]
    exact g4 x λm=>hx (mem_append_left _ m)
  . rw [ZdZ]
    by_cases z:x=b
    . subst z
      exact ⟨l,by rw [if_pos rfl],by rw [Zb nlh]; exact Za,λm=>ME l m hl⟩
    . rw [if_neg (λq=>z (Sum.inl.inj q))]
      have m:x∈seq:=(List.mem_append.mp hx).resolve_right λq=>z (List.mem_singleton.mp q)
      obtain ⟨l',e1,e2,e3⟩:=g5 x m
      have e4:=s1 _ _ e2 (nl e2) λq=>e3 (hM _ q)
      exact ⟨l',e1,by rw [Zb (λq=>by rw [q,g2'] at e4; cases e4)]; exact sl _ _ e4,e3⟩
  . rw [Zb n2]
    exact sl _ _ (s1 _ _ e n1 n3)
def ZeJ (K:W.Frag):Sp:=λvs H Q _=>∃ (a:SA) (c:Cf) (zs:List V) (M:Addr->Prop) (seq:List Int) (us:Int->Int) (b:Int),vs=[.ref a.sp,.int b]/\StoreAt K H a c zs M seq us/\(∀ x∈a.ads,M x)/\b∈seq /\
  ∀ (t l:Addr) (H':Hp),H' t=some (.tup [.ref l,.bl false])->H' l=some (.lst zs)->¬ M l->StoreAt K H' a c zs M (seq.erase b) us->SRs a H H'->Q (.ref t) H'
theorem Zdx {f:Addr} {fd:FuncData} (F:Fun K "give_out" "Store.give_out" ZN f fd) (T:Txt K mg) (M_Room_drop:MDef P w K mg base (clsOf K "Room") "drop" 3 Zbr (Zjh K)):FnOk P w K mg base CX0 4 f fd Zam (ZeJ K):=by
  refine F.ok sc_Store_give_out (λvs H Q E h=>?_) (λcdv A outer st H vs Q E hr h=>?_)
  . obtain ⟨a,c,zs,M,seq,us,b,rfl,_⟩:=h
    rfl
  obtain ⟨a,c,zs,M,seq,us,b,rfl,S,hM,hb,k⟩:=h
  have nd:=sc_Store_give_out.nd
  refine ⟨_,(Zh (Zv (Zl M_Room_drop hr.m T.cl_Room (Zo (K:=K) rfl (pv 0) rfl) (pc (pv 1) Ze)))
      (Zi (Zw (Zbg (pc (ZiU (Zo (K:=K) rfl (pv 0) rfl) (pv 1) ⟨rfl,rfl,rfl,rfl⟩) (pc (ZlU (Zo (K:=K) rfl (pv 0) rfl) (pv 1) pe_bl ⟨rfl,rfl,rfl,rfl⟩) Ze)))))),?_⟩
  obtain ⟨dx,h1⟩:=S.ob
  obtain ⟨dr,h2⟩:=S.room.ob
  refine ⟨_,rfl,a.sp,_,dx,_,_,rfl,h1,T.cl_Store,T.n_Store_room,Zcs ..,a.rp,dr,_,rfl,h2,fl_no ..,_,rfl,a.rp,b,c.sh,c.pl,c.ru,a.ls,a.ads,a.du,seq,us,_,rfl,S.room,hb,λG R1 s1=>?_⟩
  obtain ⟨kvs,g2,g3,g4,g5⟩:=S.held
  obtain ⟨kd,gd,_⟩:=S.room.dc
  have ndh:a.dh∉a.ads:=λm=>by obtain ⟨xs,e⟩:=S.room.st.one m; rw [g2] at e; cases e
  have ndf:a.df∉a.ads:=λm=>by obtain ⟨xs,e⟩:=S.room.st.one m; rw [S.fresh] at e; cases e
  have h1':=s1.keep S.room h1 (λ_ z=>by cases z) (λ_ z=>by cases z)
  have g2':=s1 _ _ g2 (Ne.symm S.n1) ndh
  have gf':=s1 _ _ S.fresh S.n3 ndf
  have nl:∀ {x xs},H x=some (.lst xs)->x≠a.du:=λ{x xs} e z=>by rw [z,gd] at e; cases e
  obtain ⟨l,e1,e2,e3⟩:=g5 b hb
  have e4:=s1 _ _ e2 (nl e2) λq=>e3 (hM _ q)
  obtain ⟨o1,o2,o3,o4,o5,o6⟩:=R1.off
  obtain ⟨dr',hr'⟩:=R1.ob
  have npd:a.dh≠a.rp:=λz=>by rw [← z,g2'] at hr'; cases hr'
  have nls:a.dh≠a.ls:=λz=>by have q:=R1.st.top; rw [← z,g2'] at q; cases q
  have nsp:a.dh≠a.sp:=λz=>by rw [z,h1'] at g2'; cases g2'
  have nlh:∀ {x xs},G x=some (.lst xs)->x≠a.dh:=λ{x xs} e z=>by rw [z,g2'] at e; cases e
  refine ⟨_,rfl,a.sp,_,dx,_,_,rfl,h1',T.cl_Store,T.n_Store_held,Zii ..,a.dh,rfl,.inl ⟨_,.inl g2'⟩,_,rfl,kvs,Sum.inl b,_,g2',rfl,e1,?_⟩
  have R2:RoomAt K (upd G a.dh (.dK (dropK kvs (Sum.inl b)))) a.rp c.sh c.pl c.ru a.ls a.ads a.du (seq.erase b) us seq.length:=by
    obtain ⟨kv,q2,q3⟩:=R1.dc
    exact ⟨⟨dr',by rw [Zb (Ne.symm npd)]; exact hr'⟩,R1.st.other _ nls ndh,⟨kv,by rw [Zb S.n1]; exact q2,q3⟩,R1.nd,R1.s0,R1.s1⟩
  have h1'':upd G a.dh (.dK (dropK kvs (Sum.inl b))) a.sp=some (.ins (clsOf K "Store") dx (sflds a.rp c.late a.dh a.df)):=by rw [Zb (Ne.symm nsp)]; exact h1'
  have gf'':upd G a.dh (.dK (dropK kvs (Sum.inl b))) a.df=some (.dK []):=by rw [Zb S.n2]; exact gf'
  refine ⟨_,rfl,a.sp,_,dx,_,_,rfl,h1'',T.cl_Store,T.n_Store_fresh,Zmr ..,a.df,rfl,.inl ⟨_,.inl gf''⟩,_,rfl,[],Sum.inl b,gf'',rfl,(λv z=>by cases z),λ_=>?_⟩
  refine ⟨(by show 2<=sizeLine; decide),λt ht=>?_⟩
  have st':=Zg ht (.tup [.ref l,.bl false])
  refine k t l _ Za (st' _ _ (by rw [Zb (nlh e4)]; exact e4)) e3 (StoreAt.same ⟨⟨dx,h1''⟩,R2.norm,⟨_,Za,g3.drop b,λx hx=>?_,λx hx=>?_⟩,gf'',S.n1,S.n2,S.n3⟩ st') λx o e n1 n2 n3=>?_
  . rw [Zge]
    by_cases z:x=b
    . rw [if_pos (by rw [z])]
    . rw [if_neg (λq=>z (Sum.inl.inj q))]
      exact g4 x λm=>hx ((List.Nodup.mem_erase_iff S.room.nd).mpr ⟨z,m⟩)
  . obtain ⟨z,m⟩:=(List.Nodup.mem_erase_iff S.room.nd).mp hx
    obtain ⟨l',q1,q2,q3⟩:=g5 x m
    have q4:=s1 _ _ q2 (nl q2) λq=>q3 (hM _ q)
    exact ⟨l',by rw [Zge,if_neg (λq=>z (Sum.inl.inj q))]; exact q1,by rw [Zb (nlh q4)]; exact q4,q3⟩
  . exact st' _ _ (by rw [Zb n2]; exact s1 _ _ e n1 n3)
def Zdo (K:W.Frag):Sp:=λvs H Q _=>∃ (a:SA) (c:Cf) (zs:List V) (M:Addr->Prop) (seq:List Int) (us:Int->Int) (b:Int),vs=[.ref a.sp,.int b]/\StoreAt K H a c zs M seq us/\b∈seq/\∀ l,H l=none->Q (.ref l) (upd H l (.lst zs))
theorem Zdy {f:Addr} {fd:FuncData} (F:Fun K "words_of" "Store.words_of" ZO f fd) (T:Txt K mg) (M_Room_need:MDef P w K mg base (clsOf K "Room") "need" 2 ZaX (Zhp K)):FnOk P w K mg base CX0 3 f fd ZP (Zdo K):=by
  refine F.ok sc_Store_words_of (λvs H Q E h=>?_) (λcdv A outer st H vs Q E hr h=>?_)
  . obtain ⟨a,c,zs,M,seq,us,b,rfl,_⟩:=h
    rfl
  obtain ⟨a,c,zs,M,seq,us,b,rfl,S,hb,k⟩:=h
  have nd:=sc_Store_words_of.nd
  have hu:=hu_of hr
  refine ⟨_,(Zh (Zv (Zl M_Room_need hr.m T.cl_Room (Zo (K:=K) rfl (pv 0) rfl) (pc (pv 1) Ze)))
      (Zi (Zw (Zap (ZbJ (K:=K) rfl) rfl T.z_list ZaH (pc (Zkx hu (Zo (K:=K) rfl (pv 0) rfl) (pv 1) (λ_ _=>rfl)) Ze))))),?_⟩
  obtain ⟨dx,h1⟩:=S.ob
  obtain ⟨dr,h2⟩:=S.room.ob
  obtain ⟨kvs,g2,g3,g4,g5⟩:=S.held
  obtain ⟨l0,e1,e2,e3⟩:=g5 b hb
  refine ⟨_,rfl,a.sp,_,dx,_,_,rfl,h1,T.cl_Store,T.n_Store_room,Zcs ..,a.rp,dr,_,rfl,h2,fl_no ..,_,rfl,a.rp,b,c.sh,c.pl,c.ru,a.ls,a.ads,a.du,seq,us,_,rfl,S.room,hb,?_⟩
  exact ⟨_,rfl,a.sp,_,dx,_,_,rfl,h1,T.cl_Store,T.n_Store_held,Zii ..,_,rfl,a.dh,_,rfl,(by have q:=DGet.k (k:=Sum.inl b) g2; rw [e1] at q; exact q),l0,_,rfl,.inl (SqL.of e2),k⟩
end
section
variable {P:Program} {w:World} {K:W.Frag} {mg:Str->Option Value} {base:Heap}
def Zgj:Sp:=λvs H Q _=>∃ s p:Int,vs=[.int s,.int p]/\0<s/\s<1073741824/\Q (.int (p / s)) H
theorem Zik {f:Addr} {fd:FuncData} (F:Fun K "board_of" "board_of" ZbK f fd) (T:Txt K mg):FnOk P w K mg base CX0 1 f fd ZbL Zgj:=by
  refine F.ok sc_board_of (λvs H Q E h=>?_) (λcdv A outer s H vs Q E hr h=>?_)
  . obtain ⟨s,p,rfl,_⟩:=h
    rfl
  obtain ⟨s,p,rfl,h0,h1,k⟩:=h
  have nd:=sc_board_of.nd
  refine ⟨_,(Zi (Zw (pe_op Zdt (pv 1) (pv 0)))),?_⟩
  exact ⟨_,rfl,_,rfl,_,_,rfl,rfl,⟨h0,h1⟩,k⟩
def spots (s b:Int):List V:=(List.range s.toNat).map λk=>V.int (b * s+(k:Nat))
def Zil:Sp:=λvs H Q _=>∃ s b:Int,vs=[.int s,.int b]/\0<s/\s<=1000/\0<=b/\b<=1000000/\∀ (r:Addr) (H':Hp),H r=none->Same H H'->H' r=some (.lst (spots s b))->Q (.ref r) H'
theorem ZoE {b s:Int} (h0:0<=b) (h1:b<=1000000) (s0:0<s) (s1:s<=1000):0<=b * s/\b * s<=1000000000:=by
  refine ⟨Int.mul_nonneg h0 (by omega),?_⟩
  exact Int.le_trans (Int.mul_le_mul_of_nonneg_right h1 (by omega)) (Int.mul_le_mul_of_nonneg_left s1 (by decide))
theorem Zim {f:Addr} {fd:FuncData} (F:Fun K "spots_of" "spots_of" ZbM f fd) (T:Txt K mg):FnOk P w K mg base CX0 1 f fd Zcl Zil:=by
  refine F.ok sc_spots_of (λvs H Q E h=>?_) (λcdv A outer s H vs Q E hr h=>?_)
  . obtain ⟨s,p,rfl,_⟩:=h
    rfl
  obtain ⟨s,b,rfl,s0,s1,b0,b1,k⟩:=h
  have nd:=sc_spots_of.nd
  refine ⟨_,(Zh (pst 2 nd (pe_op Zct (pv 1) (pv 0)))
      (Zi (Zw (ZgP rfl rfl T.z_list rfl T.z_range (pc (pv 2) (pc (pe_op Zaw (pv 2) (pv 0)) Ze)))))),?_⟩
  obtain ⟨m0,m1⟩:=ZoE b0 b1 s0 s1
  have e:(b * s+s - b * s).toNat=s.toNat:=by omega
  refine ⟨_,rfl,_,rfl,_,_,rfl,rfl,.inl ⟨by omega,by omega⟩,?_⟩
  refine ⟨_,rfl,_,rfl,_,rfl,_,_,rfl,rfl,_,_,rfl,⟨by omega,by omega,by omega,by omega⟩,?_⟩
  rw [e]
  refine ⟨Nat.le_of_lt (Zx (by omega)),λp hp=>?_⟩
  exact k p _ hp (Zg hp _) Za
def mflds (size:Int) (dk:Addr):List (Str×V):=putF "kept" (.ref dk) (putF "size" (.int size) [])
theorem ZnB (size:Int) (dk:Addr):(mflds size dk).lookup ("kept" : Str)=some (.ref dk):=by
  unfold mflds; rw [Zf,if_pos rfl]
theorem ZnC (size:Int) (dk:Addr):(mflds size dk).lookup ("size" : Str)=some (.int size):=by
  unfold mflds; rw [Zf,if_neg (by decide +kernel),Zf,if_pos rfl]
theorem mf_no (size:Int) (dk:Addr) {m:Str} (h1:¬ m = "kept" := by decide +kernel) (h2:¬ m = "size" := by decide +kernel):(mflds size dk).lookup m=none:=by
  unfold mflds
  rw [Zf,if_neg h1,Zf,if_neg h2]
  rfl
structure MemAt (K:W.Frag) (H:Hp) (bm dk:Addr) (size:Int):Prop where
  ob:∃ dx,H bm=some (.ins (clsOf K "Memory") dx (mflds size dk))
  kept:H dk=some (.dK [])
theorem MemAt.same {H H':Hp} {bm dk:Addr} {size:Int} (m:MemAt K H bm dk size) (s:Same H H'):MemAt K H' bm dk size:=by
  obtain ⟨dx,e⟩:=m.ob
  exact ⟨⟨dx,s _ _ e⟩,s _ _ m.kept⟩
def spMem (K:W.Frag):Sp:=λvs H Q _=>∃ (p dx:Addr) (size:Int),vs=[.ref p,.int size]/\H p=some (.ins (clsOf K "Memory") dx []) /\
  ∀ (dk:Addr) (H':Hp),MemAt K H' p dk size->H dk=none->(∀ b o,H b=some o->b≠p->H' b=some o)->Q .non H'
theorem Zfe {f:Addr} {fd:FuncData} (F:Fun K "__init__" "Memory.__init__" ZaM f fd) (T:Txt K mg):FnOk P w K mg base CX0 1 f fd Zbi (spMem K):=by
  refine F.ok sc_Memory_init (λvs H Q E h=>?_) (λcdv A outer st H vs Q E hr h=>?_)
  . obtain ⟨p,dx,size,rfl,_⟩:=h
    rfl
  obtain ⟨p,dx,size,rfl,hp,k⟩:=h
  have nd:=sc_Memory_init.nd
  refine ⟨_,(Zh (Zbn (pv 0) (pv 1) rfl)
      (Zi (Zbn (pv 0) Zea rfl))),?_⟩
  refine ⟨_,rfl,_,rfl,p,_,dx,_,rfl,hp,T.cl_Memory,T.n_Memory_size,(by show 0<1000; decide),λdk hdk=>?_⟩
  have np:p≠dk:=Zd (Za (H:=H) (a:=p) (o:=.ins (clsOf K "Memory") dx (putF "size" (.int size) []))) hdk
  refine ⟨_,rfl,p,_,dx,_,rfl,(by rw [Zb np]; exact Za),T.cl_Memory,T.n_Memory_kept,(by show 1<1000; decide),?_⟩
  rw [Zb (Ne.symm np)] at hdk
  refine k dk _ ⟨⟨dx,Za⟩,by rw [Zb (Ne.symm np)]; exact Za⟩ hdk λx o e n=>?_
  rw [Zb n,Zb (Zd e hdk),Zb n]
  exact e
def Zce (size:Int):List V:=List.replicate size.toNat (V.int 0)
def Zgk (K:W.Frag):Sp:=λvs H Q _=>∃ (bm dk:Addr) (size b:Int),vs=[.ref bm,.int b]/\MemAt K H bm dk size/\0<size/\size<=1000/\0<=b/\b<=1000000/\∀ l H',H l=none->Same H H'->H' l=some (.lst (Zce size))->Q (.ref l) H'
theorem Zdp {f:Addr} {fd:FuncData} (F:Fun K "words_of" "Memory.words_of" ZA f fd) (T:Txt K mg) (D_spots_of:Def P w K mg base "spots_of" 1 Zcl Zil):FnOk P w K mg base CX0 2 f fd Zac (Zgk K):=by
  refine F.ok sc_Memory_words_of (λvs H Q E h=>?_) (λcdv A outer st H vs Q E hr h=>?_)
  . obtain ⟨bm,dk,size,b,rfl,_⟩:=h
    rfl
  obtain ⟨bm,dk,size,b,rfl,M,z0,z1,b0,b1,k⟩:=h
  have nd:=sc_Memory_words_of.nd
  have hu:=hu_of hr
  refine ⟨_,(Zi (Zw (ZbI (Zal (osc:=(Zc ZA)) (oN:=Zcn) (N:=["spot", "self"]) (own:=1) (js:=[0]) (by decide +kernel) rfl rfl) rfl (Zdb (K:=K) rfl (Zt D_spots_of hr.m rfl (pc (Zo (K:=K) rfl (pv 0) rfl) (pc (pv 1) Ze)))) (λ_ _ _ _ _ _=>(pgn 0 (show List.Nodup (["spot", "self"]:List Str) by decide +kernel))) (λ_ _ _ _ _ _=>(ZlT hu (Zo (K:=K) rfl (pv 1) rfl) (pv 0) Zj ⟨rfl,rfl,rfl,rfl⟩))))),?_⟩
  obtain ⟨dx,h1⟩:=M.ob
  refine ⟨_,rfl,bm,_,dx,_,_,rfl,h1,T.cl_Memory,T.n_Memory_size,ZnC ..,_,rfl,size,b,rfl,z0,z1,b0,b1,λr H1 hr1 s1 e1=>⟨r,rfl,⟨_,SqL.of e1⟩,λl hl=>?_⟩⟩
  have h1':=s1 _ _ h1
  have hk:=s1 _ _ M.kept
  have lsp:(spots size b).length=size.toNat:=by unfold spots; rw [length_map,List.length_range]
  refine Zcx (K:=K) (a:=r) (xs:=spots size b) (l:=l) (λi ys σ' G'=>∃ v0:Option V,σ'=[v0,some (.ref bm)]/\ys=List.replicate i (V.int 0)/\G'=upd H1 l (.lst ys)) ⟨none,rfl,rfl,rfl⟩ (λi ys σ' G' _ ⟨_,_,_,q⟩=>SqL.of (by rw [q,Zb (Zd e1 hl)]; exact e1)) ?_ ?_
  . rintro i x ys σ' G' hi hxi hys ⟨v0,rfl,rfl,rfl⟩
    obtain ⟨z,rfl⟩:∃ z,x=V.int z:=by
      have m:=mem_of_getElem? hxi
      unfold spots at m
      obtain ⟨j,_,e⟩:=List.mem_map.mp m
      exact ⟨_,e.symm⟩
    have sl:=Zg hl (.lst (List.replicate i (V.int 0)))
    refine ⟨_,rfl,bm,_,dx,_,_,rfl,sl _ _ h1',T.cl_Memory,T.n_Memory_kept,ZnB ..,dk,rfl,.inl ⟨_,.inl (sl _ _ hk)⟩,_,rfl,none,(by have q:=DGet.k (k:=Sum.inl z) (sl _ _ hk); exact q),?_⟩
    exact CNx.of (Nat.le_of_lt (Zx (by omega))) hi hys Za ⟨_,rfl,by rw [replicate_succ']; rfl,Zeg⟩
  . rintro ys σ' G' _ ⟨v0,rfl,rfl,rfl⟩
    rw [lsp]
    exact k l _ (s1.free hl) (s1.trans (Zg hl _)) Za
end
theorem Zfy:∀ {a b:List Int},a.Nodup->(∀ x∈a,x∈b)->a.length<=b.length
  | [],_,_,_=>Nat.zero_le _
  | x :: a,b,nd,h=>by
    have nd':=List.nodup_cons.mp nd
    have mx:=h x mem_cons_self
    have q:=Zfy (b:=b.erase x) nd'.2 λy hy=>(List.mem_erase_of_ne (λz:y=x=>nd'.1 (by rw [← z]; exact hy))).mpr (h y (mem_cons_of_mem _ hy))
    rw [length_erase_of_mem mx] at q
    have:=length_pos_of_mem mx
    show a.length+1<=b.length
    omega
theorem ZoF {K:W.Frag} {G:Hp} {x:Addr} {xs:List V} {o:HO} (t:Tb K G) (h:G x=some (.lst xs)):Tb K (upd G x o):=by
  unfold Tb at t ⊢
  rw [Zb (λz=>by rw [z,h] at t; cases t)]
  exact t
abbrev RS:=List Int×(Int->Int)
structure TA where
  p:Addr
  ss:Addr
  bm:Addr
  dk:Addr
  ev:Addr
  as:List SA
  out:List Addr
structure Pln where
  size:Int
  kind:Str
  cfs:List Cf
def MutL (A:TA) (x:Addr):Prop:=x=A.ev\/(∃ a∈A.as,x∈a.ads)\/x∈A.out
structure Sep (a b:SA):Prop where
  ads:∀ x∈a.ads,x∉b.ads
  ls:b.ls∉a.ads
  d1:b.du≠a.du
  d2:b.du≠a.dh
  d3:b.dh≠a.du
  d4:b.dh≠a.dh
  d5:b.df≠a.du
  d6:b.df≠a.dh
def tflds (size:Int) (ss bm:Addr) (last:Nat) (ev:Addr) (kind:Str):List (Str×V):=putF "kind" (.str kind) (putF "events" (.ref ev) (putF "last" (.int last) (putF "bottom" (.ref bm) (putF "stores" (.ref ss) (putF "size" (.int size) [])))))
section
variable (size:Int) (ss bm:Addr) (last:Nat) (ev:Addr) (kind:Str)
theorem Zgl:(tflds size ss bm last ev kind).lookup ("kind" : Str)=some (.str kind):=by
  unfold tflds; rw [Zf,if_pos rfl]
theorem Zdq:(tflds size ss bm last ev kind).lookup ("events" : Str)=some (.ref ev):=by
  unfold tflds; rw [Zf,if_neg (by decide +kernel),Zf,if_pos rfl]
theorem ZcU:(tflds size ss bm last ev kind).lookup ("last" : Str)=some (.int last):=by
  unfold tflds; rw [Zf,if_neg (by decide +kernel),Zf,if_neg (by decide +kernel),Zf,if_pos rfl]
theorem Zlo:(tflds size ss bm last ev kind).lookup ("bottom" : Str)=some (.ref bm):=by
  unfold tflds; rw [Zf,if_neg (by decide +kernel),Zf,if_neg (by decide +kernel),Zf,if_neg (by decide +kernel),Zf,if_pos rfl]
theorem ZbE:(tflds size ss bm last ev kind).lookup ("stores" : Str)=some (.ref ss):=by
  unfold tflds; rw [Zf,if_neg (by decide +kernel),Zf,if_neg (by decide +kernel),Zf,if_neg (by decide +kernel),Zf,if_neg (by decide +kernel),Zf,if_pos rfl]
theorem Zin:(tflds size ss bm last ev kind).lookup ("size" : Str)=some (.int size):=by
  unfold tflds; rw [Zf,if_neg (by decide +kernel),Zf,if_neg (by decide +kernel),Zf,if_neg (by decide +kernel),Zf,if_neg (by decide +kernel),Zf,if_neg (by decide +kernel),Zf,if_pos rfl]
theorem tf_no {m:Str} (h1:¬ m = "kind" := by decide +kernel) (h2:¬ m = "events" := by decide +kernel) (h3:¬ m = "last" := by decide +kernel) (h4:¬ m = "bottom" := by decide +kernel) (h5:¬ m = "stores" := by decide +kernel) (h6:¬ m = "size" := by decide +kernel):(tflds size ss bm last ev kind).lookup m=none:=by
  unfold tflds
  rw [Zf,if_neg h1,Zf,if_neg h2,Zf,if_neg h3,Zf,if_neg h4,Zf,if_neg h5,Zf,if_neg h6]
  rfl
theorem Zak {f g:Str} {v x:V} {r:List (Str×V)} (h:¬ g=f):putF f v ((g,x) :: r)=(g,x) :: putF f v r:=by
  show (if g=f then _ else _)=_; rw [if_neg h]
theorem ZnD {f:Str} {v x:V} {r:List (Str×V)}:putF f v ((f,x) :: r)=(f,v) :: r:=by
  show (if f=f then _ else _)=_; rw [if_pos rfl]
theorem ZcJ {f:Str} {v:V}:putF f v []=[(f,v)]:=rfl
theorem Zdz:tflds size ss bm last ev kind=([(("size" : Str),V.int size),(("stores" : Str),V.ref ss),(("bottom" : Str),V.ref bm),(("last" : Str),V.int last),(("events" : Str),V.ref ev),(("kind" : Str),V.str kind)]:List (Str×V)):=by
  unfold tflds
  have a1:¬ ("size" : Str) = "stores" := by decide +kernel
  have a2:¬ ("size" : Str) = "bottom" := by decide +kernel
  have a3:¬ ("size" : Str) = "last" := by decide +kernel
  have a4:¬ ("size" : Str) = "events" := by decide +kernel
  have a5:¬ ("size" : Str) = "kind" := by decide +kernel
  have b2:¬ ("stores" : Str) = "bottom" := by decide +kernel
  have b3:¬ ("stores" : Str) = "last" := by decide +kernel
  have b4:¬ ("stores" : Str) = "events" := by decide +kernel
  have b5:¬ ("stores" : Str) = "kind" := by decide +kernel
  have c3:¬ ("bottom" : Str) = "last" := by decide +kernel
  have c4:¬ ("bottom" : Str) = "events" := by decide +kernel
  have c5:¬ ("bottom" : Str) = "kind" := by decide +kernel
  have d4:¬ ("last" : Str) = "events" := by decide +kernel
  have d5:¬ ("last" : Str) = "kind" := by decide +kernel
  have e5:¬ ("events" : Str) = "kind" := by decide +kernel
  rw [ZcJ,Zak a1,ZcJ,Zak a2,Zak b2,ZcJ,Zak a3,Zak b3,Zak c3,ZcJ,Zak a4,Zak b4,Zak c4,Zak d4,ZcJ,Zak a5,Zak b5,Zak c5,Zak d5,Zak e5,ZcJ]
theorem ZoG (ev':Addr):putF "events" (.ref ev') (tflds size ss bm last ev kind)=tflds size ss bm last ev' kind:=by
  rw [Zdz,Zdz]
  have a4:¬ ("size" : Str) = "events" := by decide +kernel
  have b4:¬ ("stores" : Str) = "events" := by decide +kernel
  have c4:¬ ("bottom" : Str) = "events" := by decide +kernel
  have d4:¬ ("last" : Str) = "events" := by decide +kernel
  rw [Zak a4,Zak b4,Zak c4,Zak d4,ZnD]
end
structure StairsAt (K:W.Frag) (H:Hp) (A:TA) (g:Pln) (S:List RS) (xs:List V) (U:List Int):Prop where
  ob:∃ dx,H A.p=some (.ins (clsOf K "Stairs") dx (tflds g.size A.ss A.bm A.as.length A.ev g.kind))
  ss:H A.ss=some (.lst (A.as.map λa=>V.ref a.sp))
  mem:MemAt K H A.bm A.dk g.size
  ev:H A.ev=some (.lst xs)
  lc:g.cfs.length=A.as.length
  lS:S.length=A.as.length
  st:∀ (k:Nat) (a:SA) (c:Cf) (s:RS),A.as[k]?=some a->g.cfs[k]?=some c->S[k]?=some s->StoreAt K H a c (Zce g.size) (MutL A) s.1 s.2
  sep:∀ (i j:Nat) (a b:SA),A.as[i]?=some a->A.as[j]?=some b->i≠j->Sep a b
  off:∀ a∈A.as,A.ss∉a.ads/\A.ev∉a.ads/\A.ev≠a.ls/\A.dk≠a.du/\A.dk≠a.dh
  nse:A.ss≠A.ev
  oex:∀ x∈A.out,∃ ys,H x=some (.lst ys)
  on:∀ x∈A.out,x≠A.ss/\x≠A.ev/\∀ a∈A.as,x≠a.ls/\x∉a.ads
  uni:∀ s∈S,∀ b∈s.1,b∈U
  full:∀ (k:Nat) (c:Cf) (s:RS),g.cfs[k]?=some c->S[k]?=some s->∀ t,((Zk c.sh t s.1).length:Int)<=c.pl
  cf:∀ c∈g.cfs,1<=c.pl/\c.pl<=16
  z0:1<=g.size
  z1:g.size<=1000
  lU:U.length<=800
  l4:A.as.length<=4
  tb:Tb K H
def Foot (A:TA) (x:Addr):Prop:=x=A.p\/x=A.ev\/∃ a∈A.as,x=a.du\/x=a.dh\/x∈a.ads
def SF (A:TA) (H H':Hp):Prop:=∀ x o,H x=some o->¬ Foot A x->H' x=some o
theorem SF.of {A:TA} {H H':Hp} (s:Same H H'):SF A H H':=λx o e _=>s x o e
theorem SF.trans {A:TA} {H H1 H2:Hp} (s:SF A H H1) (t:SF A H1 H2):SF A H H2:=λx o e n=>t x o (s x o e n) n
section
variable {K:W.Frag} {H H':Hp} {A:TA} {g:Pln} {S:List RS} {xs:List V} {U:List Int} {a:SA} {c:Cf} {zs:List V} {M:Addr->Prop} {seq:List Int} {us:Int->Int}
theorem StoreAt.kinds (T:StoreAt K H a c zs M seq us) {x:Addr} {o:HO} (h:H x=some o) (n1:∀ kvs,o≠.dK kvs):x≠a.du/\x≠a.dh:=by
  obtain ⟨kv,e,_⟩:=T.room.dc
  obtain ⟨kv',e',_⟩:=T.held
  exact ⟨(λz=>by rw [z,e] at h; exact n1 kv (Option.some.inj h).symm),(λz=>by rw [z,e'] at h; exact n1 kv' (Option.some.inj h).symm)⟩
theorem StoreAt.nads (T:StoreAt K H a c zs M seq us) {x:Addr} {o:HO} (h:H x=some o) (n2:∀ xs,o≠.lst xs):x∉a.ads:=λz=>by
  obtain ⟨xs,e⟩:=T.room.st.one z
  rw [e] at h; exact n2 xs (Option.some.inj h).symm
theorem SRs.keep (s:SRs a H H') (T:StoreAt K H a c zs M seq us) {x:Addr} {o:HO} (h:H x=some o) (n1:∀ kvs,o≠.dK kvs) (n2:∀ xs,o≠.lst xs):H' x=some o :=
  s x o h (T.kinds h n1).1 (T.kinds h n1).2 (T.nads h n2)
theorem StoreAt.beside {b:SA} {cb:Cf} {sb:List Int} {ub:Int->Int} (B:StoreAt K H b cb zs M sb ub) (T:StoreAt K H a c zs M seq us) (p:Sep a b) (hM:∀ x∈a.ads,M x) (s:SRs a H H'):StoreAt K H' b cb zs M sb ub:=by
  obtain ⟨dx,h1⟩:=B.ob
  obtain ⟨dr,h2⟩:=B.room.ob
  obtain ⟨kr,h3,h4⟩:=B.room.dc
  obtain ⟨kv,h5,h6,h7,h8⟩:=B.held
  have l:∀ {x ys},H x=some (.lst ys)->x∉a.ads->H' x=some (.lst ys):=λ{x ys} e n=>s x _ e (T.kinds e (λ_ z=>by cases z)).1 (T.kinds e (λ_ z=>by cases z)).2 n
  have d:∀ {x kvs},H x=some (.dK kvs)->x≠a.du->x≠a.dh->H' x=some (.dK kvs):=λ{x kvs} e n1 n2=>s x _ e n1 n2 (T.nads e (λ_ z=>by cases z))
  refine ⟨⟨dx,s.keep T h1 (λ_ z=>by cases z) (λ_ z=>by cases z)⟩,⟨⟨dr,s.keep T h2 (λ_ z=>by cases z) (λ_ z=>by cases z)⟩,⟨l B.room.st.top p.ls,B.room.st.len,B.room.st.nd,B.room.st.off,λi ad e=>l (B.room.st.at_ i ad e) λm=>p.ads _ m (mem_of_getElem? e)⟩,⟨kr,d h3 p.d1 p.d2,h4⟩,B.room.nd,B.room.s0,B.room.s1⟩,⟨kv,d h5 p.d3 p.d4,h6,h7,λx hx=>?_⟩,d B.fresh p.d5 p.d6,B.n1,B.n2,B.n3⟩
  obtain ⟨y,e1,e2,e3⟩:=h8 x hx
  exact ⟨y,e1,l e2 λm=>e3 (hM _ m),e3⟩
theorem StoreAt.put (T:StoreAt K H a c zs M seq us) {x:Addr} {ys:List V} (u:HO) (hx:H x=some (.lst ys)) (n1:x≠a.ls) (n2:x∉a.ads) (n3:M x):StoreAt K (upd H x u) a c zs M seq us:=by
  obtain ⟨dx,h1⟩:=T.ob
  obtain ⟨dr,h2⟩:=T.room.ob
  obtain ⟨kr,h3,h4⟩:=T.room.dc
  obtain ⟨kv,h5,h6,h7,h8⟩:=T.held
  have ne:∀ {y o},H y=some o->(∀ xs,o≠.lst xs)->y≠x:=λ{y o} e n z=>by rw [z,hx] at e; exact n ys (Option.some.inj e).symm
  refine ⟨⟨dx,by rw [Zb (ne h1 (λ_ z=>by cases z))]; exact h1⟩,⟨⟨dr,by rw [Zb (ne h2 (λ_ z=>by cases z))]; exact h2⟩,T.room.st.other u n1 n2,⟨kr,by rw [Zb (ne h3 (λ_ z=>by cases z))]; exact h3,h4⟩,T.room.nd,T.room.s0,T.room.s1⟩,⟨kv,by rw [Zb (ne h5 (λ_ z=>by cases z))]; exact h5,h6,h7,λy hy=>?_⟩,by rw [Zb (ne T.fresh (λ_ z=>by cases z))]; exact T.fresh,T.n1,T.n2,T.n3⟩
  obtain ⟨l,e1,e2,e3⟩:=h8 y hy
  exact ⟨l,e1,by rw [Zb (λz:l=x=>e3 (z ▸ n3))]; exact e2,e3⟩
theorem ZdA {x:Addr} {o u:HO} (t:Tb K H) (h:H x=some o) (n:∀ p q,o≠.tbl p q):Tb K (upd H x u):=by
  unfold Tb at t ⊢
  rw [Zb (λz=>by rw [z,h] at t; exact n _ _ (Option.some.inj t))]
  exact t
theorem StairsAt.same (T:StairsAt K H A g S xs U) (s:Same H H'):StairsAt K H' A g S xs U:=by
  obtain ⟨dx,h1⟩:=T.ob
  exact ⟨⟨dx,s _ _ h1⟩,s _ _ T.ss,T.mem.same s,s _ _ T.ev,T.lc,T.lS,λk a c r h1 h2 h3=>(T.st k a c r h1 h2 h3).same s,T.sep,T.off,T.nse,(λx hx=>by obtain ⟨ys,e⟩:=T.oex x hx; exact ⟨ys,s _ _ e⟩),T.on,T.uni,T.full,T.cf,T.z0,T.z1,T.lU,T.l4,T.tb.same s⟩
theorem StairsAt.at_ (T:StairsAt K H A g S xs U) {k:Nat} (hk:k<A.as.length):∃ a c s,A.as[k]?=some a/\g.cfs[k]?=some c/\S[k]?=some s/\StoreAt K H a c (Zce g.size) (MutL A) s.1 s.2:=by
  have h1:A.as[k]?=some A.as[k]:=getElem?_eq_getElem hk
  have h2:g.cfs[k]?=some (g.cfs[k]'(by rw [T.lc]; exact hk)):=getElem?_eq_getElem _
  have h3:S[k]?=some (S[k]'(by rw [T.lS]; exact hk)):=getElem?_eq_getElem _
  exact ⟨_,_,_,h1,h2,h3,T.st _ _ _ _ h1 h2 h3⟩
theorem StairsAt.len (T:StairsAt K H A g S xs U) {k:Nat} {s:RS} (hs:S[k]?=some s):s.1.length<=800:=by
  have hk:k<A.as.length:=by rw [← T.lS]; exact (List.getElem?_eq_some_iff.mp hs).1
  obtain ⟨a,c,s',h1,h2,h3,R⟩:=T.at_ hk
  rw [hs] at h3; cases h3
  exact Nat.le_trans (Zfy R.room.nd (T.uni s (mem_of_getElem? hs))) T.lU
theorem Zgm {a:SA} (h:a∈A.as):∀ x∈a.ads,MutL A x:=λx hx=>.inr (.inl ⟨a,h,hx⟩)
theorem StairsAt.mex (T:StairsAt K H A g S xs U):∀ x,MutL A x->H x≠none:=λx hx e=>by
  rcases hx with rfl | ⟨a,ha,hx⟩ | hx
  . rw [T.ev] at e; cases e
  . obtain ⟨k,hk⟩:=getElem?_of_mem ha
    obtain ⟨a',c,s,h1,h2,h3,R⟩:=T.at_ (List.getElem?_eq_some_iff.mp hk).1
    rw [hk] at h1; cases h1
    obtain ⟨ys,q⟩:=R.room.st.one hx
    rw [q] at e; cases e
  . obtain ⟨ys,q⟩:=T.oex x hx
    rw [q] at e; cases e
theorem StairsAt.deed (T:StairsAt K H A g S xs U) {k:Nat} {seq':List Int} {us':Int->Int} (ha:A.as[k]?=some a) (hc:g.cfs[k]?=some c) (R:StoreAt K H' a c (Zce g.size) (MutL A) seq' us') (s:SRs a H H') (hu:∀ b∈seq',b∈U) (hf:∀ t,((Zk c.sh t seq').length:Int)<=c.pl) :
    StairsAt K H' A g (S.set k (seq',us')) xs U/\SF A H H':=by
  have hk:k<A.as.length:=(List.getElem?_eq_some_iff.mp ha).1
  obtain ⟨a',c',r,h1,h2,h3,B⟩:=T.at_ hk
  rw [ha] at h1; cases h1
  rw [hc] at h2; cases h2
  have hm:=Zgm (A:=A) (mem_of_getElem? ha)
  obtain ⟨dx,e1⟩:=T.ob
  obtain ⟨dm,e2⟩:=T.mem.ob
  obtain ⟨o1,o2,o3,o4,o5⟩:=T.off a (mem_of_getElem? ha)
  have l:∀ {x ys},H x=some (.lst ys)->x∉a.ads->H' x=some (.lst ys):=λ{x ys} e n=>s x _ e (B.kinds e (λ_ z=>by cases z)).1 (B.kinds e (λ_ z=>by cases z)).2 n
  have t:=T.tb
  unfold Tb at t
  refine ⟨⟨⟨dx,s.keep B e1 (λ_ z=>by cases z) (λ_ z=>by cases z)⟩,l T.ss o1,⟨⟨dm,s.keep B e2 (λ_ z=>by cases z) (λ_ z=>by cases z)⟩,s _ _ T.mem.kept o4 o5 (B.nads T.mem.kept (λ_ z=>by cases z))⟩,l T.ev o2,T.lc,by rw [length_set]; exact T.lS,λj b cb sb hb hcb hsb=>?_,T.sep,T.off,T.nse,(λx hx=>by obtain ⟨ys,e⟩:=T.oex x hx; exact ⟨ys,l e ((T.on x hx).2.2 a (mem_of_getElem? ha)).2⟩),T.on,λq hq b hb=>?_,λj cb sb hcb hsb=>?_,T.cf,T.z0,T.z1,T.lU,T.l4,s.keep B t (λ_ z=>by cases z) (λ_ z=>by cases z)⟩,λx o e n=>s x o e (λz=>n (.inr (.inr ⟨a,mem_of_getElem? ha,.inl z⟩))) (λz=>n (.inr (.inr ⟨a,mem_of_getElem? ha,.inr (.inl z)⟩))) (λz=>n (.inr (.inr ⟨a,mem_of_getElem? ha,.inr (.inr z)⟩)))⟩
  . by_cases e:j=k
    . subst e
      rw [ha] at hb; cases hb
      rw [hc] at hcb; cases hcb
      rw [getElem?_set_self (by rw [T.lS]; exact hk)] at hsb
      cases hsb
      exact R
    . rw [getElem?_set_ne (λz=>e z.symm)] at hsb
      exact (T.st j b cb sb hb hcb hsb).beside B (T.sep k j a b ha hb λz=>e z.symm) hm s
  . rcases List.mem_or_eq_of_mem_set hq with hq | rfl
    . exact T.uni q hq b hb
    . exact hu b hb
  . by_cases e:j=k
    . subst e
      rw [hc] at hcb; cases hcb
      rw [getElem?_set_self (by rw [T.lS]; exact hk)] at hsb
      cases hsb
      exact hf
    . rw [getElem?_set_ne (λz=>e z.symm)] at hsb
      exact T.full j cb sb hcb hsb
theorem StairsAt.event (T:StairsAt K H A g S xs U) (v:V):StairsAt K (upd H A.ev (.lst (xs++[v]))) A g S (xs++[v]) U/\SF A H (upd H A.ev (.lst (xs++[v]))):=by
  obtain ⟨dx,e1⟩:=T.ob
  obtain ⟨dm,e2⟩:=T.mem.ob
  have ne:∀ {y o},H y=some o->(∀ xs,o≠.lst xs)->y≠A.ev:=λ{y o} e n z=>by rw [z,T.ev] at e; exact n xs (Option.some.inj e).symm
  refine ⟨⟨⟨dx,by rw [Zb (ne e1 (λ_ z=>by cases z))]; exact e1⟩,by rw [Zb T.nse]; exact T.ss,⟨⟨dm,by rw [Zb (ne e2 (λ_ z=>by cases z))]; exact e2⟩,by rw [Zb (ne T.mem.kept (λ_ z=>by cases z))]; exact T.mem.kept⟩,Za,T.lc,T.lS,λj b cb sb hb hcb hsb=>?_,T.sep,T.off,T.nse,(λx hx=>by obtain ⟨ys,e⟩:=T.oex x hx; exact ⟨ys,by rw [Zb (T.on x hx).2.1]; exact e⟩),T.on,T.uni,T.full,T.cf,T.z0,T.z1,T.lU,T.l4,ZoF T.tb T.ev⟩,λx o e n=>by rw [Zb (λz=>n (.inr (.inl z)))]; exact e⟩
  obtain ⟨o1,o2,o3,o4,o5⟩:=T.off b (mem_of_getElem? hb)
  exact (T.st j b cb sb hb hcb hsb).put _ T.ev o3 o2 (.inl rfl)
theorem StoreAt.putI (T:StoreAt K H a c zs M seq us) {x C d:Addr} {fs:List (Str×V)} {v:V} (hx:H x=some (.ins C d fs)) (hk:fs.lookup ("kind" : Str)=some v) (u:HO):StoreAt K (upd H x u) a c zs M seq us:=by
  obtain ⟨dx,h1⟩:=T.ob
  obtain ⟨dr,h2⟩:=T.room.ob
  obtain ⟨kr,h3,h4⟩:=T.room.dc
  obtain ⟨kv,h5,h6,h7,h8⟩:=T.held
  have ne:∀ {y o},H y=some o->(∀ C d fs,o=.ins C d fs->fs.lookup ("kind" : Str)=none)->y≠x:=λ{y o} e n z=>by
    rw [z,hx] at e
    have q:=n _ _ _ (Option.some.inj e).symm
    rw [hk] at q; cases q
  have n1:=ne h1 (λ_ _ _ z=>by cases z; exact sf_no ..)
  have n2:=ne h2 (λ_ _ _ z=>by cases z; exact fl_no ..)
  refine ⟨⟨dx,by rw [Zb n1]; exact h1⟩,⟨⟨dr,by rw [Zb n2]; exact h2⟩,⟨by rw [Zb (ne T.room.st.top (λ_ _ _ z=>by cases z))]; exact T.room.st.top,T.room.st.len,T.room.st.nd,T.room.st.off,λi ad e=>by have q:=T.room.st.at_ i ad e; rw [Zb (ne q (λ_ _ _ z=>by cases z))]; exact q⟩,⟨kr,by rw [Zb (ne h3 (λ_ _ _ z=>by cases z))]; exact h3,h4⟩,T.room.nd,T.room.s0,T.room.s1⟩,⟨kv,by rw [Zb (ne h5 (λ_ _ _ z=>by cases z))]; exact h5,h6,h7,λy hy=>?_⟩,by rw [Zb (ne T.fresh (λ_ _ _ z=>by cases z))]; exact T.fresh,T.n1,T.n2,T.n3⟩
  obtain ⟨l,e1,e2,e3⟩:=h8 y hy
  exact ⟨l,e1,by rw [Zb (ne e2 (λ_ _ _ z=>by cases z))]; exact e2,e3⟩
theorem StairsAt.told (T:StairsAt K H A g S xs U) {e' dx:Addr} (he:H e'=none):StairsAt K (upd (upd H e' (.lst [])) A.p (.ins (clsOf K "Stairs") dx (tflds g.size A.ss A.bm A.as.length e' g.kind))) { A with ev:=e' } g S [] U:=by
  obtain ⟨dx0,e1⟩:=T.ob
  obtain ⟨dm,e2⟩:=T.mem.ob
  have s:=Zg he (.lst [])
  have e1':=s _ _ e1
  have npe:A.p≠e':=Zd e1 he
  have ne:∀ {y o},upd H e' (.lst []) y=some o->(∀ C d fs,o=.ins C d fs->fs.lookup ("kind" : Str)=none)->y≠A.p:=λ{y o} e n z=>by
    rw [z,e1'] at e
    have q:=n _ _ _ (Option.some.inj e).symm
    rw [Zgl] at q; cases q
  have nads:∀ a∈A.as,e'∉a.ads:=λa ha m=>T.mex e' (.inr (.inl ⟨a,ha,m⟩)) he
  have nls:∀ a∈A.as,e'≠a.ls:=λa ha z=>by
    obtain ⟨k,hk⟩:=getElem?_of_mem ha
    obtain ⟨a',c,r,h1,h2,h3,R⟩:=T.at_ (List.getElem?_eq_some_iff.mp hk).1
    rw [hk] at h1; cases h1
    have q:=R.room.st.top
    rw [← z,he] at q; cases q
  have t:=T.tb.same s
  refine ⟨⟨dx,Za⟩,by rw [Zb (ne (s _ _ T.ss) (λ_ _ _ z=>by cases z))]; exact s _ _ T.ss,⟨⟨dm,by rw [Zb (ne (s _ _ e2) (λ_ _ _ z=>by cases z; exact mf_no ..))]; exact s _ _ e2⟩,by rw [Zb (ne (s _ _ T.mem.kept) (λ_ _ _ z=>by cases z))]; exact s _ _ T.mem.kept⟩,by rw [Zb (Ne.symm npe)]; exact Za,T.lc,T.lS,λj b cb sb hb hcb hsb=>?_,T.sep,λb hb=>?_,λz=>?_,(λx hx=>by obtain ⟨ys,e⟩:=T.oex x hx; exact ⟨ys,by rw [Zb (ne (s _ _ e) (λ_ _ _ z=>by cases z))]; exact s _ _ e⟩),(λx hx=>⟨(T.on x hx).1,(λz=>by obtain ⟨ys,e⟩:=T.oex x hx; have z:x=e':=z; rw [z,he] at e; cases e),(T.on x hx).2.2⟩),T.uni,T.full,T.cf,T.z0,T.z1,T.lU,T.l4,ZdA t e1' (λ_ _ z=>by cases z)⟩
  . have B:=T.st j b cb sb hb hcb hsb
    have B':StoreAt K H b cb (Zce g.size) (MutL { A with ev:=e' }) sb.1 sb.2:=B.mono λx ys hx hm=>by
      rcases hm with z | m
      . have z:x=e':=z
        rw [z,he] at hx; cases hx
      . exact .inr m
    exact (B'.same s).putI e1' (Zgl ..) _
  . obtain ⟨o1,o2,o3,o4,o5⟩:=T.off b hb
    exact ⟨o1,nads b hb,nls b hb,o4,o5⟩
  . have z:A.ss=e':=z
    have q:=T.ss
    rw [z,he] at q; cases q
end
def EvAt (G:Hp) (ys:List V) (es:List (List V)):Prop:=ys.length=es.length/\∀ (i:Nat) (v:V) (e:List V),ys[i]?=some v->es[i]?=some e->∃ t,v=.ref t/\G t=some (.tup e)
theorem EvAt.keep {G G':Hp} {ys:List V} {es:List (List V)} (h:EvAt G ys es) (k:∀ t e,G t=some (.tup e)->G' t=some (.tup e)):EvAt G' ys es :=
  ⟨h.1,λi v e h1 h2=>let ⟨t,e1,e2⟩:=h.2 i v e h1 h2; ⟨t,e1,k t e e2⟩⟩
theorem EvAt.nil {G:Hp}:EvAt G [] []:=⟨rfl,λi v e h _=>by simp at h⟩
theorem EvAt.one {G:Hp} {t:Addr} {e:List V} (h:G t=some (.tup e)):EvAt G [.ref t] [e]:=⟨rfl,λi v f h1 h2=>by
  match i,h1,h2 with
  | 0,h1,h2=>cases h1; cases h2; exact ⟨t,rfl,h⟩
  | n+1,h1,h2=>simp at h1⟩
theorem EvAt.app {G:Hp} {xs ys:List V} {es fs:List (List V)} (h:EvAt G xs es) (h':EvAt G ys fs):EvAt G (xs++ys) (es++fs):=by
  refine ⟨by rw [length_append,length_append,h.1,h'.1],λi v e h1 h2=>?_⟩
  by_cases c:i<xs.length
  . rw [getElem?_append_left c] at h1
    rw [getElem?_append_left (by rw [← h.1]; exact c)] at h2
    exact h.2 i v e h1 h2
  . rw [getElem?_append_right (by omega)] at h1
    rw [getElem?_append_right (by rw [← h.1]; omega),← h.1] at h2
    exact h'.2 _ v e h1 h2
def evOut (k:Nat):Option Int->List (List V)
  | none=>[]
  | some g=>[[.str "out",.int (k:Int),.int g]]
def evIn (k:Nat) (b:Int):List (List V):=[[.str "in",.int (k:Int),.int b]]
def useR (c:Cf) (s:RS) (b:Int):RS:=(if c.ru = "old" then s.1.erase b++[b] else s.1,bump s.2 b)
def outR (s:RS) (b:Int):RS:=(s.1.erase b,s.2)
def inR (s:RS) (b:Int):RS:=(s.1++[b],zero s.2 b)
theorem Zio {R:Int->Int->Prop} (anti:∀ a b,R a b->R b a->a=b):∀ {l1 l2:List Int},l1.Perm l2->l1.Pairwise R->l2.Pairwise R->l1=l2
  | [],l2,p,_,_=>(List.nil_perm.mp p).symm
  | a :: l1,l2,p,h1,h2=>by
    match l2,p,h2 with
    | [],p,_=>exact absurd p.length_eq (by simp)
    | b :: l2,p,h2 =>
      have e:a=b:=by
        by_cases c:a=b
        . exact c
        . have ma:a∈l2:=(List.mem_cons.mp (p.mem_iff.mp mem_cons_self)).resolve_left c
          have mb:b∈l1:=(List.mem_cons.mp (p.mem_iff.mpr mem_cons_self)).resolve_left (λz=>c z.symm)
          exact anti a b ((List.pairwise_cons.mp h1).1 b mb) ((List.pairwise_cons.mp h2).1 a ma)
      subst e
      rw [Zio anti (List.Perm.cons_inv p) (List.pairwise_cons.mp h1).2 (List.pairwise_cons.mp h2).2]
theorem Zjl {us:Int->Int} {ms:List Int} (a b:Int) (h1:KLt us ms a b) (h2:KLt us ms b a):a=b:=by
  rcases h1 with h1 | ⟨h1,h3⟩ <;> rcases h2 with h2 | ⟨h2,h4⟩ <;> omega
theorem Zlp {ru:Str} {us:Int->Int} {pl:Int} {ms:List Int} {g g':Option Int} (h:goneP ru us pl ms g) (h':goneP ru us pl ms g'):g=g':=by
  by_cases c:(ms.length:Int)<pl
  . rw [h.1 c,h'.1 c]
  . obtain ⟨x,r,rfl,p,f,n⟩:=h.2 c
    obtain ⟨x',r',rfl,p',f',n'⟩:=h'.2 c
    have e:x :: r=x' :: r':=by
      by_cases q:ru = "few"
      . exact Zio Zjl (p.trans p'.symm) (f q) (f' q)
      . rw [n q,n' q]
    injection e with e1 _
    rw [e1]
open Classical in
noncomputable def goneF (c:Cf) (s:RS) (b:Int):Option Int:=if h:∃ g,goneP c.ru s.2 c.pl (Zk c.sh (b % c.sh) s.1) g then Classical.choose h else none
theorem Zjm {c:Cf} {s:RS} {b:Int} {g:Option Int} (h:goneP c.ru s.2 c.pl (Zk c.sh (b % c.sh) s.1) g):goneF c s b=g:=by
  unfold goneF
  have e:∃ g,goneP c.ru s.2 c.pl (Zk c.sh (b % c.sh) s.1) g:=⟨g,h⟩
  rw [dif_pos e]
  exact Zlp (Classical.choose_spec e) h
theorem Zlq {sh pl:Int} {seq seq':List Int} (h:∀ s,((Zk sh s seq).length:Int)<=pl) (hs:seq'.Sublist seq):∀ s,((Zk sh s seq').length:Int)<=pl:=λs=>by
  have q:(Zk sh s seq').Sublist (Zk sh s seq):=List.Sublist.filter _ hs
  have:=q.length_le
  have:=h s
  omega
theorem Zlr {sh pl:Int} {seq seq':List Int} (h:∀ s,((Zk sh s seq).length:Int)<=pl) (hs:seq'.Perm seq):∀ s,((Zk sh s seq').length:Int)<=pl:=λs=>by
  have q:(Zk sh s seq').Perm (Zk sh s seq):=List.Perm.filter _ hs
  rw [q.length_eq]
  exact h s
theorem ZnE {sh pl b:Int} {seq:List Int} (h:∀ s,((Zk sh s seq).length:Int)<=pl) (hb:((Zk sh (b % sh) seq).length:Int)<pl):∀ s,((Zk sh s (seq++[b])).length:Int)<=pl:=λs=>by
  rw [Zbx]
  split
  . rename_i e
    rw [← e,length_append]
    show ((_+1:Nat):Int)<=pl
    omega
  . exact h s
theorem ZeK {c:Cf} {s:RS} {b x:Int} (hb:b∈s.1) (nd:s.1.Nodup):x∈(useR c s b).1↔x∈s.1:=by
  unfold useR
  by_cases e:c.ru = "old"
  . rw [if_pos e,mem_append,mem_singleton,List.Nodup.mem_erase_iff nd]
    constructor
    . rintro (⟨_,m⟩ | rfl)
      . exact m
      . exact hb
    . intro m
      by_cases z:x=b
      . exact .inr z
      . exact .inl ⟨z,m⟩
  . rw [if_neg e]
theorem Zms {c:Cf} {s:RS} {b:Int} (hb:b∈s.1):(useR c s b).1.Perm s.1:=by
  unfold useR
  by_cases e:c.ru = "old"
  . rw [if_pos e]; exact (List.perm_append_comm).trans (List.perm_cons_erase hb).symm
  . rw [if_neg e]
section
variable {K:W.Frag} {H H':Hp} {A:TA} {g:Pln} {S:List RS} {xs:List V} {U:List Int}
theorem StairsAt.ix {k:Nat} {a:SA} (ha:A.as[k]?=some a):atI (A.as.map λa=>V.ref a.sp) (k:Int)=some (.ref a.sp):=ZbS (by rw [getElem?_map,ha]; rfl)
theorem StairsAt.nfoot (T:StairsAt K H A g S xs U) {l:Addr} {ys:List V} (h:H l=some (.lst ys)) (n:¬ MutL A l):¬ Foot A l:=λz=>by
  rcases z with rfl | rfl | ⟨a,ha,z⟩
  . obtain ⟨dx,e⟩:=T.ob; rw [e] at h; cases h
  . exact n (.inl rfl)
  . obtain ⟨k,hk⟩:=getElem?_of_mem ha
    obtain ⟨a',c,s,h1,h2,h3,R⟩:=T.at_ (List.getElem?_eq_some_iff.mp hk).1
    rw [hk] at h1; cases h1
    obtain ⟨q1,q2⟩:=R.kinds h (λ_ z=>by cases z)
    rcases z with z | z | z
    . exact q1 z
    . exact q2 z
    . exact n (.inr (.inl ⟨a,ha,z⟩))
theorem StairsAt.sfp (T:StairsAt K H A g S xs U) {o:HO} {x:Addr} (h:H x=some o) (n1:∀ xs,o≠.lst xs) (n2:∀ kvs,o≠.dK kvs) (n3:∀ C d fs,o≠.ins C d fs):¬ Foot A x:=λz=>by
  rcases z with rfl | rfl | ⟨a,ha,z⟩
  . obtain ⟨dx,e⟩:=T.ob; rw [e] at h; exact n3 _ _ _ (Option.some.inj h).symm
  . rw [T.ev] at h; exact n1 _ (Option.some.inj h).symm
  . obtain ⟨k,hk⟩:=getElem?_of_mem ha
    obtain ⟨a',c,s,h1,h2,h3,R⟩:=T.at_ (List.getElem?_eq_some_iff.mp hk).1
    rw [hk] at h1; cases h1
    obtain ⟨q1,q2⟩:=R.kinds h n2
    rcases z with z | z | z
    . exact q1 z
    . exact q2 z
    . exact R.nads h n1 z
end
noncomputable def evL (g:Pln) (S:List RS) (b:Int):List (List V):=match g.cfs[0]?,S[0]? with
  | some c,some s=>evOut 0 (goneF c s b)++evIn 0 b
  | _,_=>[]
theorem Zjn {g:Pln} {S:List RS} {b:Int} {c:Cf} {s:RS} (hc:g.cfs[0]?=some c) (hs:S[0]?=some s):evL g S b=evOut 0 (goneF c s b)++evIn 0 b:=by
  unfold evL
  rw [hc,hs]
theorem EvAt.sf {K:W.Frag} {G G':Hp} {A:TA} {g:Pln} {S:List RS} {xs:List V} {U:List Int} {ys:List V} {es:List (List V)} (h:EvAt G ys es) (R:StairsAt K G A g S xs U) (f:SF A G G'):EvAt G' ys es :=
  h.keep λt e q=>f _ _ q (R.sfp q (λ_ z=>by cases z) (λ_ z=>by cases z) (λ_ _ _ z=>by cases z))
section
variable {P:Program} {w:World} {K:W.Frag} {mg:Str->Option Value} {base:Heap}
def Zdr (K:W.Frag):Sp:=λvs H Q _=>∃ (A:TA) (g:Pln) (S:List RS) (xs:List V) (U:List Int) (k:Nat) (a:SA),vs=[.ref A.p,.int (k:Int)]/\StairsAt K H A g S xs U/\A.as[k]?=some a/\Q (.ref a.sp) H
theorem Zff {f:Addr} {fd:FuncData} (F:Fun K "store" "Steps.store" ZaP f fd) (T:Txt K mg):FnOk P w K mg base CX0 1 f fd Zah (Zdr K):=by
  refine F.ok sc_Steps_store (λvs H Q E h=>?_) (λcdv A outer st H vs Q E hr h=>?_)
  . obtain ⟨A,g,S,xs,U,k,a,rfl,_⟩:=h
    rfl
  obtain ⟨A,g,S,xs,U,k,a,rfl,R,ha,q⟩:=h
  have nd:=sc_Steps_store.nd
  refine ⟨_,(Zh (ps_if (Zfj (ZiE op_le op_lt Zj (pv 1) (Zo (K:=K) rfl (pv 0) rfl))) (Zi ps_no) Zz)
      (Zi (Zw (pe_ix (Zu (K:=K) rfl) (Zo (K:=K) rfl (pv 0) rfl) (pv 1) (λ_ _=>rfl))))),?_⟩
  obtain ⟨dx,h1⟩:=R.ob
  have hk:k<A.as.length:=(List.getElem?_eq_some_iff.mp ha).1
  refine ⟨_,rfl,_,_,rfl,rfl,_,rfl,ifT (decide_eq_true (by omega)) ⟨_,rfl,A.p,_,dx,_,_,rfl,h1,T.cl_Stairs,T.n_Stairs_last,ZcU ..,_,_,rfl,rfl,_,rfl,ifF (by rw [decide_eq_true (by omega)]; rfl) ?_⟩⟩
  exact ⟨_,rfl,A.p,_,dx,_,_,rfl,h1,T.cl_Stairs,T.n_Stairs_stores,ZbE ..,_,rfl,A.ss,_,_,_,rfl,rfl,SqL.of R.ss,StairsAt.ix ha,q⟩
def Zed (K:W.Frag):Sp:=λvs H Q _=>∃ (A:TA) (g:Pln) (S:List RS) (xs:List V) (U:List Int) (k:Nat) (b:Int),vs=[.ref A.p,.int (k:Int),.int b]/\StairsAt K H A g S xs U/\k<=A.as.length/\(∀ s,S[k]?=some s->b∈s.1)/\0<=b/\b<=1000000/\∀ l H',H l=none->Same H H'->H' l=some (.lst (Zce g.size))->Q (.ref l) H'
theorem Zfg {f:Addr} {fd:FuncData} (F:Fun K "words" "Steps.words" ZaN f fd) (T:Txt K mg) (M_Memory_words_of:MDef P w K mg base (clsOf K "Memory") "words_of" 2 Zac (Zgk K)) (M_Steps_store:MDef P w K mg base (clsOf K "Stairs") "store" 1 Zah (Zdr K)) (M_Store_words_of:MDef P w K mg base (clsOf K "Store") "words_of" 3 ZP (Zdo K)):FnOk P w K mg base CX0 4 f fd ZaO (Zed K):=by
  refine F.ok sc_Steps_words (λvs H Q E h=>?_) (λcdv A outer st H vs Q E hr h=>?_)
  . obtain ⟨A,g,S,xs,U,k,b,rfl,_⟩:=h
    rfl
  obtain ⟨A,g,S,xs,U,k,b,rfl,R,hk,hb,b0,b1,q⟩:=h
  have nd:=sc_Steps_words.nd
  refine ⟨_,(Zh (ps_if (ZZ op_eq (pv 1) (Zo (K:=K) rfl (pv 0) rfl) (ZM _)) (Zi (Zw (Zl M_Memory_words_of hr.m T.cl_Memory (Zo (K:=K) rfl (pv 0) rfl) (pc (pv 2) Ze)))) Zz)
      (Zi (Zw (Zl M_Store_words_of hr.m T.cl_Store (Zl M_Steps_store hr.m T.cl_Stairs (pv 0) (pc (pv 1) Ze)) (pc (pv 2) Ze))))),?_⟩
  obtain ⟨dx,h1⟩:=R.ob
  obtain ⟨dm,h2⟩:=R.mem.ob
  refine ⟨_,rfl,_,rfl,A.p,_,dx,_,_,rfl,h1,T.cl_Stairs,T.n_Stairs_last,ZcU ..,rfl,_,rfl,ZeF (λe=>?_) (λe=>?_)⟩
  . exact ⟨_,rfl,A.p,_,dx,_,_,rfl,h1,T.cl_Stairs,T.n_Stairs_bottom,Zlo ..,A.bm,dm,_,rfl,h2,mf_no ..,_,rfl,A.bm,A.dk,g.size,b,rfl,R.mem,by have:=R.z0; omega,R.z1,b0,b1,q⟩
  . obtain ⟨a,c,s,e1,e2,e3,B⟩:=R.at_ (k:=k) (by omega)
    obtain ⟨ds,h3⟩:=B.ob
    exact ⟨_,rfl,A.p,dx,_,rfl,h1,tf_no ..,_,rfl,A,g,S,xs,U,k,a,rfl,R,e1,a.sp,ds,_,rfl,h3,sf_no ..,_,rfl,a,c,_,_,s.1,s.2,b,rfl,B,hb s e3,λl hl=>q l _ hl (Zg hl _) Za⟩
def ZdB (K:W.Frag):Sp:=λvs H Q _=>∃ (A:TA) (g:Pln) (S:List RS) (xs:List V) (U:List Int),vs=[.ref A.p]/\StairsAt K H A g S xs U/\∀ e' H',H e'=none->StairsAt K H' { A with ev:=e' } g S [] U->(∀ x o,H x=some o->x≠A.p->H' x=some o)->Q (.ref A.ev) H'
theorem ZdC {f:Addr} {fd:FuncData} (F:Fun K "happened" "Steps.happened" ZQ f fd) (T:Txt K mg):FnOk P w K mg base CX0 1 f fd Zan (ZdB K):=by
  refine F.ok sc_Steps_happened (λvs H Q E h=>?_) (λcdv A outer st H vs Q E hr h=>?_)
  . obtain ⟨A,g,S,xs,U,rfl,_⟩:=h
    rfl
  obtain ⟨A,g,S,xs,U,rfl,R,q⟩:=h
  have nd:=sc_Steps_happened.nd
  refine ⟨_,(Zh (pst 1 nd (Zo (K:=K) rfl (pv 0) rfl))
      (Zh (Zbn (pv 0) (Zcc Ze) rfl)
      (Zi (Zw (pv 1))))),?_⟩
  obtain ⟨dx,h1⟩:=R.ob
  refine ⟨_,rfl,A.p,_,dx,_,_,rfl,h1,T.cl_Stairs,T.n_Stairs_events,Zdq ..,gN ?_⟩
  try dsimp only
  refine ⟨(by show 0<=sizeLine; decide),λe' he=>⟨_,rfl,A.p,_,dx,_,rfl,Zg he _ _ _ h1,T.cl_Stairs,T.n_Stairs_events,(by rw [Zdz]; show 6<1000; decide),?_⟩⟩
  rw [ZoG]
  refine ⟨_,rfl,q e' _ he (R.told he) λx o e n=>?_⟩
  rw [Zb n]
  exact Zg he _ _ _ e
def ZhA (K:W.Frag):Sp:=λvs H Q _=>∃ (A:TA) (g:Pln) (S:List RS) (xs:List V) (U:List Int) (k:Nat) (b:Int) (c:Cf) (s:RS),vs=[.ref A.p,.int (k:Int),.int b]/\StairsAt K H A g S xs U/\g.cfs[k]?=some c/\S[k]?=some s/\∀ H',Same H H'->goneP c.ru s.2 c.pl (Zk c.sh (b % c.sh) s.1) (goneF c s b)->Q (optV (goneF c s b)) H'
theorem ZeL {f:Addr} {fd:FuncData} (F:Fun K "leaver" "Steps.leaver" Zaq f fd) (T:Txt K mg) (M_Room_leaver_for:MDef P w K mg base (clsOf K "Room") "leaver_for" 3 ZJ (Zec K)):FnOk P w K mg base CX0 4 f fd Zaa (ZhA K):=by
  refine F.ok sc_Steps_leaver (λvs H Q E h=>?_) (λcdv A outer st H vs Q E hr h=>?_)
  . obtain ⟨A,g,S,xs,U,k,b,c,s,rfl,_⟩:=h
    rfl
  obtain ⟨A,g,S,xs,U,k,b,c,s,rfl,R,hc,hs,q⟩:=h
  have nd:=sc_Steps_leaver.nd
  refine ⟨_,(Zi (Zw (Zl M_Room_leaver_for hr.m T.cl_Room (Zo (K:=K) rfl (pe_ix (Zu (K:=K) rfl) (Zo (K:=K) rfl (pv 0) rfl) (pv 1) (λ_ _=>rfl)) rfl) (pc (pv 2) Ze)))),?_⟩
  obtain ⟨dx,h1⟩:=R.ob
  obtain ⟨a,c',s',e1,e2,e3,B⟩:=R.at_ (k:=k) (by rw [← R.lS]; exact (List.getElem?_eq_some_iff.mp hs).1)
  rw [hc] at e2; cases e2
  rw [hs] at e3; cases e3
  obtain ⟨ds,h3⟩:=B.ob
  obtain ⟨dr,h4⟩:=B.room.ob
  have cb:=R.cf c (mem_of_getElem? hc)
  have fl:=R.full k c s hc hs (b % c.sh)
  refine ⟨_,rfl,A.p,_,dx,_,_,rfl,h1,T.cl_Stairs,T.n_Stairs_stores,ZbE ..,_,rfl,A.ss,_,_,_,rfl,rfl,SqL.of R.ss,StairsAt.ix e1,a.sp,_,ds,_,_,rfl,h3,T.cl_Store,T.n_Store_room,Zcs ..,a.rp,dr,_,rfl,h4,fl_no ..,_,rfl,a.rp,b,c.sh,c.pl,c.ru,a.ls,a.ads,a.du,s.1,s.2,_,rfl,B.room,R.tb,cb.1,by omega,λgone H' gp sm=>?_⟩
  have e:=Zjm gp
  have q':=q H' sm (by rw [e]; exact gp)
  rw [e] at q'
  exact q'
def Zls (K:W.Frag):Sp:=λvs H Q _=>∃ (A:TA) (g:Pln) (S:List RS) (xs:List V) (U:List Int) (k:Nat),vs=[.ref A.p,.int (k:Int)]/\StairsAt K H A g S xs U/\xs.length<=500/\∀ t H',H t=none->H' t=some (.tup [.str "found",.int (k:Int)])->StairsAt K H' A g S (xs++[.ref t]) U->SF A H H'->Q .non H'
theorem ZcV {f:Addr} {fd:FuncData} (F:Fun K "tell_found" "Steps.tell_found" ZE f fd) (T:Txt K mg):FnOk P w K mg base CX0 1 f fd ZU (Zls K):=by
  refine F.ok sc_Steps_tell_found (λvs H Q E h=>?_) (λcdv A outer st H vs Q E hr h=>?_)
  . obtain ⟨A,g,S,xs,U,k,rfl,_⟩:=h
    rfl
  obtain ⟨A,g,S,xs,U,k,rfl,R,hl,q⟩:=h
  have nd:=sc_Steps_tell_found.nd
  refine ⟨_,(Zi (Zv (ZdK (K:=K) rfl (pe_bm PySem.F.plainAttrs_list PySem.F.slot_list_append PySem.F.type_list_append ZbT (Zo (K:=K) rfl (pv 0) rfl) (pc (Zbg (pc Zbf (pc (pv 1) Ze))) Ze))))),?_⟩
  obtain ⟨dx,h1⟩:=R.ob
  refine ⟨_,rfl,A.p,_,dx,_,_,rfl,h1,T.cl_Stairs,T.n_Stairs_events,Zdq ..,.inl ⟨rfl,_,SqL.of R.ev⟩,_,rfl,(by show 2<=sizeLine; decide),λt ht=>?_⟩
  have s1:=Zg ht (.tup [.str "found",.int (k:Int)])
  have R1:=R.same s1
  have et:upd H t (.tup [.str "found",.int (k:Int)]) t=some (.tup [.str "found",.int (k:Int)]):=Za
  generalize upd H t (.tup [.str "found",.int (k:Int)])=H1 at *
  obtain ⟨R2,f2⟩:=R1.event (.ref t)
  exact ⟨A.ev,_,_,rfl,rfl,R1.ev,Zx (by omega),q t _ ht (by rw [Zb (λz=>by rw [z,R1.ev] at et; cases et)]; exact et) R2 ((SF.of s1).trans f2)⟩
def Zgn (K:W.Frag):Sp:=λvs H Q _=>∃ (A:TA) (g:Pln) (S:List RS) (xs:List V) (U:List Int) (k:Nat) (b:Int) (c:Cf) (s:RS),vs=[.ref A.p,.int (k:Int),.int b]/\StairsAt K H A g S xs U/\g.cfs[k]?=some c/\S[k]?=some s/\b∈s.1/\∀ H',StairsAt K H' A g (S.set k (useR c s b)) xs U->SF A H H'->Q .non H'
theorem ZeM {f:Addr} {fd:FuncData} (F:Fun K "use_in" "Steps.use_in" Zar f fd) (T:Txt K mg) (M_Room_use:MDef P w K mg base (clsOf K "Room") "use" 3 Zbp (spUse K)):FnOk P w K mg base CX0 4 f fd Zas (Zgn K):=by
  refine F.ok sc_Steps_use_in (λvs H Q E h=>?_) (λcdv A outer st H vs Q E hr h=>?_)
  . obtain ⟨A,g,S,xs,U,k,b,c,s,rfl,_⟩:=h
    rfl
  obtain ⟨A,g,S,xs,U,k,b,c,s,rfl,R,hc,hs,hb,q⟩:=h
  have nd:=sc_Steps_use_in.nd
  refine ⟨_,(Zi (Zv (Zl M_Room_use hr.m T.cl_Room (Zo (K:=K) rfl (pe_ix (Zu (K:=K) rfl) (Zo (K:=K) rfl (pv 0) rfl) (pv 1) (λ_ _=>rfl)) rfl) (pc (pv 2) Ze)))),?_⟩
  obtain ⟨dx,h1⟩:=R.ob
  obtain ⟨a,c',s',e1,e2,e3,B⟩:=R.at_ (k:=k) (by rw [← R.lS]; exact (List.getElem?_eq_some_iff.mp hs).1)
  rw [hc] at e2; cases e2
  rw [hs] at e3; cases e3
  obtain ⟨ds,h3⟩:=B.ob
  obtain ⟨dr,h4⟩:=B.room.ob
  have ln:=R.len hs
  refine ⟨_,rfl,A.p,_,dx,_,_,rfl,h1,T.cl_Stairs,T.n_Stairs_stores,ZbE ..,_,rfl,A.ss,_,_,_,rfl,rfl,SqL.of R.ss,StairsAt.ix e1,a.sp,_,ds,_,_,rfl,h3,T.cl_Store,T.n_Store_room,Zcs ..,a.rp,dr,_,rfl,h4,fl_no ..,_,rfl,a.rp,b,c.sh,c.pl,c.ru,a.ls,a.ads,a.du,s.1,s.2,_,rfl,B.room,by omega,hb,by omega,λH' R1 s1=>?_⟩
  have B':=B.deed (Zgm (mem_of_getElem? e1)) R1 s1 (λx=>ZeK (c:=c) (s:=s) hb B.room.nd)
  obtain ⟨R2,f2⟩:=R.deed e1 hc B' (SRs.room s1) (λx hx=>R.uni s (mem_of_getElem? hs) x ((ZeK (c:=c) hb B.room.nd).mp hx)) (Zlr (R.full k c s hc hs) (Zms (c:=c) hb))
  exact q H' R2 f2
def Zee (K:W.Frag):Sp:=λvs H Q _=>∃ (A:TA) (g:Pln) (S:List RS) (xs:List V) (U:List Int) (k:Nat) (b:Int) (lw:Addr) (c:Cf) (s:RS),vs=[.ref A.p,.int (k:Int),.int b,.ref lw]/\StairsAt K H A g S xs U/\g.cfs[k]?=some c/\S[k]?=some s/\b∉s.1/\b∈U/\((Zk c.sh (b % c.sh) s.1).length:Int)<c.pl/\H lw=some (.lst (Zce g.size))/\¬ MutL A lw/\xs.length<=500 /\
  ∀ H' t,H' t=some (.tup [.str "in",.int (k:Int),.int b])->StairsAt K H' A g (S.set k (inR s b)) (xs++[.ref t]) U->SF A H H'->Q .non H'
theorem ZdV {f:Addr} {fd:FuncData} (F:Fun K "come_in" "Steps.come_in" Zad f fd) (T:Txt K mg) (M_Store_take_in:MDef P w K mg base (clsOf K "Store") "take_in" 5 ZaB (Zgi K)):FnOk P w K mg base CX0 6 f fd Zae (Zee K):=by
  refine F.ok sc_Steps_come_in (λvs H Q E h=>?_) (λcdv A outer st H vs Q E hr h=>?_)
  . obtain ⟨A,g,S,xs,U,k,b,lw,c,s,rfl,_⟩:=h
    rfl
  obtain ⟨A,g,S,xs,U,k,b,lw,c,s,rfl,R,hc,hs,hb,hbU,hsh,hlw,hml,hl,q⟩:=h
  have nd:=sc_Steps_come_in.nd
  refine ⟨_,(Zh (Zv (Zl M_Store_take_in hr.m T.cl_Store (pe_ix (Zu (K:=K) rfl) (Zo (K:=K) rfl (pv 0) rfl) (pv 1) (λ_ _=>rfl)) (pc (pv 2) (pc (pv 3) Ze))))
      (Zi (Zv (ZdK (K:=K) rfl (pe_bm PySem.F.plainAttrs_list PySem.F.slot_list_append PySem.F.type_list_append ZbT (Zo (K:=K) rfl (pv 0) rfl) (pc (Zbg (pc Zbf (pc (pv 1) (pc (pv 2) Ze)))) Ze)))))),?_⟩
  obtain ⟨dx,h1⟩:=R.ob
  obtain ⟨a,c',s',e1,e2,e3,B⟩:=R.at_ (k:=k) (by rw [← R.lS]; exact (List.getElem?_eq_some_iff.mp hs).1)
  rw [hc] at e2; cases e2
  rw [hs] at e3; cases e3
  obtain ⟨ds,h3⟩:=B.ob
  have ln:=R.len hs
  have cb:=R.cf c (mem_of_getElem? hc)
  refine ⟨_,rfl,A.p,_,dx,_,_,rfl,h1,T.cl_Stairs,T.n_Stairs_stores,ZbE ..,_,rfl,A.ss,_,_,_,rfl,rfl,SqL.of R.ss,StairsAt.ix e1,a.sp,ds,_,rfl,h3,sf_no ..,_,rfl,_,rfl,a,c,_,_,s.1,s.2,b,lw,rfl,B,R.tb,Zgm (mem_of_getElem? e1),R.mex,hlw,hml,hb,ln,cb.1,cb.2,hsh,λH1 B' s1=>?_⟩
  obtain ⟨R2,f2⟩:=R.deed e1 hc B' s1 (λx hx=>(List.mem_append.mp hx).elim (R.uni s (mem_of_getElem? hs) x) λm=>by rw [List.mem_singleton.mp m]; exact hbU) (ZnE (R.full k c s hc hs) hsh)
  obtain ⟨dx2,g2⟩:=R2.ob
  refine ⟨_,rfl,A.p,_,dx2,_,_,rfl,g2,T.cl_Stairs,T.n_Stairs_events,Zdq ..,.inl ⟨rfl,_,SqL.of R2.ev⟩,_,rfl,_,rfl,(by show 3<=sizeLine; decide),λt ht=>?_⟩
  have s3:=Zg ht (.tup [.str "in",.int (k:Int),.int b])
  have R3:=R2.same s3
  obtain ⟨R4,f4⟩:=R3.event (.ref t)
  have et:upd H1 t (.tup [.str "in",.int (k:Int),.int b]) t=some (.tup [.str "in",.int (k:Int),.int b]):=Za
  exact ⟨A.ev,_,_,rfl,rfl,R3.ev,Zx (by omega),q _ t (by rw [Zb (ne_of et R3.ev (by intro z; cases z))]; exact et) R4 ((f2.trans (SF.of s3)).trans f4)⟩
def ZdD (K:W.Frag):Sp:=λvs H Q _=>∃ (A:TA) (g:Pln) (S:List RS) (xs:List V) (U:List Int) (k:Nat) (b:Int) (s:RS),vs=[.ref A.p,.int (k:Int),.int b]/\StairsAt K H A g S xs U/\S[k]?=some s/\b∈s.1/\xs.length<=500 /\
  ∀ H' t l v,H' t=some (.tup [.ref l,.bl false])->H' l=some (.lst (Zce g.size))->¬ MutL A l->H' v=some (.tup [.str "out",.int (k:Int),.int b])->StairsAt K H' A g (S.set k (outR s b)) (xs++[.ref v]) U->SF A H H'->Q (.ref t) H'
theorem ZeN {f:Addr} {fd:FuncData} (F:Fun K "go_out" "Steps.go_out" Zat f fd) (T:Txt K mg) (M_Store_give_out:MDef P w K mg base (clsOf K "Store") "give_out" 4 Zam (ZeJ K)):FnOk P w K mg base CX0 5 f fd ZH (ZdD K):=by
  refine F.ok sc_Steps_go_out (λvs H Q E h=>?_) (λcdv A outer st H vs Q E hr h=>?_)
  . obtain ⟨A,g,S,xs,U,k,b,s,rfl,_⟩:=h
    rfl
  obtain ⟨A,g,S,xs,U,k,b,s,rfl,R,hs,hb,hl,q⟩:=h
  have nd:=sc_Steps_go_out.nd
  refine ⟨_,(Zh (Zv (ZdK (K:=K) rfl (pe_bm PySem.F.plainAttrs_list PySem.F.slot_list_append PySem.F.type_list_append ZbT (Zo (K:=K) rfl (pv 0) rfl) (pc (Zbg (pc Zbf (pc (pv 1) (pc (pv 2) Ze)))) Ze))))
      (Zi (Zw (Zl M_Store_give_out hr.m T.cl_Store (pe_ix (Zu (K:=K) rfl) (Zo (K:=K) rfl (pv 0) rfl) (pv 1) (λ_ _=>rfl)) (pc (pv 2) Ze))))),?_⟩
  obtain ⟨dx,h1⟩:=R.ob
  refine ⟨_,rfl,A.p,_,dx,_,_,rfl,h1,T.cl_Stairs,T.n_Stairs_events,Zdq ..,.inl ⟨rfl,_,SqL.of R.ev⟩,_,rfl,_,rfl,(by show 3<=sizeLine; decide),λt ht=>?_⟩
  have s3:=Zg ht (.tup [.str "out",.int (k:Int),.int b])
  have R3:=R.same s3
  have et0:upd H t (.tup [.str "out",.int (k:Int),.int b]) t=some (.tup [.str "out",.int (k:Int),.int b]):=Za
  have et4:upd (upd H t (.tup [.str "out",.int (k:Int),.int b])) A.ev (.lst (xs++[.ref t])) t=some (.tup [.str "out",.int (k:Int),.int b]):=by rw [Zb (ne_of et0 R3.ev (by intro z; cases z))]; exact et0
  obtain ⟨R4,f4⟩:=R3.event (.ref t)
  refine ⟨A.ev,_,_,rfl,rfl,R3.ev,Zx (by omega),?_⟩
  generalize upd (upd H t (.tup [.str "out",.int (k:Int),.int b])) A.ev (.lst (xs++[.ref t]))=H4 at *
  obtain ⟨dx4,g4⟩:=R4.ob
  obtain ⟨a,c,s',e1,e2,e3,B⟩:=R4.at_ (k:=k) (by rw [← R.lS]; exact (List.getElem?_eq_some_iff.mp hs).1)
  rw [hs] at e3; cases e3
  obtain ⟨ds,h3⟩:=B.ob
  refine ⟨_,rfl,A.p,_,dx4,_,_,rfl,g4,T.cl_Stairs,T.n_Stairs_stores,ZbE ..,_,rfl,A.ss,_,_,_,rfl,rfl,SqL.of R4.ss,StairsAt.ix e1,a.sp,ds,_,rfl,h3,sf_no ..,_,rfl,a,c,_,_,s.1,s.2,b,rfl,B,Zgm (mem_of_getElem? e1),hb,λt2 l H5 et el nl B' s5=>?_⟩
  obtain ⟨R5,f5⟩:=R4.deed e1 e2 B' s5 (λx hx=>R.uni s (mem_of_getElem? hs) x (mem_of_mem_erase hx)) (Zlq (R.full k c s e2 hs) erase_sublist)
  exact q H5 t2 l t et el nl (f5 _ _ et4 (R4.sfp et4 (λ_ z=>by cases z) (λ_ z=>by cases z) (λ_ _ _ z=>by cases z))) R5 (((SF.of s3).trans f4).trans f5)
def Zgo (K:W.Frag):Sp:=λvs H Q _=>∃ (A:TA) (g:Pln) (S:List RS) (xs:List V) (U:List Int) (k:Nat) (sp b:Int) (s:RS),vs=[.ref A.p,.int (k:Int),.int sp]/\StairsAt K H A g S xs U/\S[k]?=some s/\b∈s.1/\sp / g.size=b/\∀ H',Same H H'->Q (.int 0) H'
theorem ZdW {f:Addr} {fd:FuncData} (F:Fun K "word_in" "Steps.word_in" Zaf f fd) (T:Txt K mg) (M_Store_words_of:MDef P w K mg base (clsOf K "Store") "words_of" 3 ZP (Zdo K)) (D_board_of:Def P w K mg base "board_of" 1 ZbL Zgj):FnOk P w K mg base CX0 4 f fd ZaD (Zgo K):=by
  refine F.ok sc_Steps_word_in (λvs H Q E h=>?_) (λcdv A outer st H vs Q E hr h=>?_)
  . obtain ⟨A,g,S,xs,U,k,sp,b,s,rfl,_⟩:=h
    rfl
  obtain ⟨A,g,S,xs,U,k,sp,b,s,rfl,R,hs,hb,e,q⟩:=h
  have nd:=sc_Steps_word_in.nd
  refine ⟨_,(Zi (Zw (pe_ix (Zu (K:=K) rfl) (Zl M_Store_words_of hr.m T.cl_Store (pe_ix (Zu (K:=K) rfl) (Zo (K:=K) rfl (pv 0) rfl) (pv 1) (λ_ _=>rfl)) (pc (Zt D_board_of hr.m rfl (pc (Zo (K:=K) rfl (pv 0) rfl) (pc (pv 2) Ze))) Ze)) (pe_op Zci (pv 2) (Zo (K:=K) rfl (pv 0) rfl)) (λ_ _=>rfl)))),?_⟩
  obtain ⟨dx,h1⟩:=R.ob
  obtain ⟨a,c,s',e1,e2,e3,B⟩:=R.at_ (k:=k) (by rw [← R.lS]; exact (List.getElem?_eq_some_iff.mp hs).1)
  rw [hs] at e3; cases e3
  obtain ⟨ds,h3⟩:=B.ob
  have z0:=R.z0
  have z1:=R.z1
  refine ⟨_,rfl,A.p,_,dx,_,_,rfl,h1,T.cl_Stairs,T.n_Stairs_stores,ZbE ..,_,rfl,A.ss,_,_,_,rfl,rfl,SqL.of R.ss,StairsAt.ix e1,a.sp,ds,_,rfl,h3,sf_no ..,_,rfl,A.p,_,dx,_,_,rfl,h1,T.cl_Stairs,T.n_Stairs_size,Zin ..,_,rfl,g.size,sp,rfl,by omega,by omega,a,c,_,_,s.1,s.2,_,rfl,B,by rw [e]; exact hb,λl hl=>?_⟩
  have s1:=Zg hl (.lst (Zce g.size))
  have m0:0<=sp % g.size:=Int.emod_nonneg _ (by omega)
  have m1:sp % g.size<g.size:=Int.emod_lt_of_pos _ (by omega)
  have at0:atI (Zce g.size) (sp % g.size)=some (.int 0):=by
    have e:((sp % g.size).toNat:Int)=sp % g.size:=by omega
    rw [← e]
    refine ZbS ?_
    unfold Zce
    rw [List.getElem?_replicate,if_pos (by omega)]
  exact ⟨_,rfl,_,rfl,A.p,_,dx,_,_,rfl,s1 _ _ h1,T.cl_Stairs,T.n_Stairs_size,Zin ..,_,_,rfl,rfl,(by show 0<g.size; omega),l,_,_,_,rfl,rfl,SqL.of Za,at0,q _ s1⟩
end
structure PlanAt (K:W.Frag) (H:Hp) (tp:Addr) (ts:List Addr) (cfs:List Cf):Prop where
  top:H tp=some (.tup (ts.map V.ref))
  len:ts.length=cfs.length
  at_:∀ (i:Nat) (t:Addr) (c:Cf),ts[i]?=some t->cfs[i]?=some c->∃ wr:Str,H t=some (.tup [.int c.sh,.int c.pl,.str c.ru,.str wr])/\c.late=decide (wr = "late")
  cf:∀ c∈cfs,1<=c.sh/\c.sh<=64/\1<=c.pl/\c.pl<=16
def tf0 (size:Int) (ss bm:Addr) (last:Nat) (ev:Addr):List (Str×V):=putF "events" (.ref ev) (putF "last" (.int last) (putF "bottom" (.ref bm) (putF "stores" (.ref ss) (putF "size" (.int size) []))))
structure Mks (K:W.Frag) (G:Hp) (as:List SA) (cfs:List Cf):Prop where
  at_:∀ (i:Nat) (a:SA) (c:Cf),as[i]?=some a->cfs[i]?=some c->∀ zs M,StoreAt K G a c zs M [] (λ_=>0)
  sep:∀ (i j:Nat) (a b:SA),as[i]?=some a->as[j]?=some b->i≠j->Sep a b
theorem Zgp {K:W.Frag} {G:Hp} {a:SA} {c:Cf} (S:∀ zs M,StoreAt K G a c zs M [] (λ_=>0)):G a.du≠none/\G a.dh≠none/\G a.df≠none/\G a.ls≠none/\∀ x∈a.ads,G x≠none:=by
  have T:=S [] λ_=>True
  obtain ⟨kv,e1,_⟩:=T.room.dc
  obtain ⟨kv',e2,_⟩:=T.held
  refine ⟨(λz=>by rw [e1] at z; cases z),(λz=>by rw [e2] at z; cases z),(λz=>by rw [T.fresh] at z; cases z),(λz=>by rw [T.room.st.top] at z; cases z),λx hx z=>?_⟩
  obtain ⟨ys,e⟩:=T.room.st.one hx
  rw [e] at z; cases z
section
variable {P:Program} {w:World} {K:W.Frag} {mg:Str->Option Value} {base:Heap}
def Zip (K:W.Frag):Sp:=λvs H Q _=>∃ (p dx tp:Addr) (size:Int) (ts:List Addr) (cfs:List Cf),vs=[.ref p,.int size,.ref tp]/\H p=some (.ins (clsOf K "Stairs") dx [])/\PlanAt K H tp ts cfs/\1<=size/\size<=1000/\cfs.length<=4/\Tb K H /\
  ∀ (A:TA) (H':Hp),A.p=p->A.as.length=cfs.length->H' p=some (.ins (clsOf K "Stairs") dx (tf0 size A.ss A.bm A.as.length A.ev))->(∀ kind U,U.length<=800->StairsAt K (upd H' p (.ins (clsOf K "Stairs") dx (tflds size A.ss A.bm A.as.length A.ev kind))) A ⟨size,kind,cfs⟩ (List.replicate cfs.length ([],λ_=>0)) [] U) ->
    (∀ x,Foot A x->x≠p->H x=none)->(∀ b o,H b=some o->b≠p->H' b=some o)->Q .non H'
theorem Zgq {f:Addr} {fd:FuncData} (F:Fun K "__init__" "Steps.__init__" ZaC f fd) (T:Txt K mg) (K_Store:KDef P w K mg base (clsOf K "Store") "Store" 3 ZbB (Zij K)) (K_Memory:KDef P w K mg base (clsOf K "Memory") "Memory" 1 Zbi (spMem K)):FnOk P w K mg base CX0 5 f fd ZbC (Zip K):=by
  refine F.ok sc_Steps_init (λvs H Q E h=>?_) (λcdv A outer st H vs Q E hr h=>?_)
  . obtain ⟨p,dx,tp,size,ts,cfs,rfl,_⟩:=h
    rfl
  obtain ⟨p,dx,tp,size,ts,cfs,rfl,hp,pa,z0,z1,l4,tb,k⟩:=h
  have nd:=sc_Steps_init.nd
  refine ⟨_,(Zh (Zbn (pv 0) (pv 1) rfl)
      (Zh (Zbn (pv 0) (ZbI (Zal (osc:=(Zc ZaC)) (oN:=ZdN) (N:=["room_plan"]) (own:=1) (js:=[]) (by decide +kernel) rfl rfl) rfl (Znn (K:=K) rfl (pv 2)) (λ_ _ _ _ _ _=>(pgn 0 (show List.Nodup (["room_plan"]:List Str) by decide +kernel))) (λ_ _ _ _ _ _=>(ZcH K_Store hr.m rfl (pc (pv 0) Ze)))) rfl)
      (Zh (Zbn (pv 0) (ZcH K_Memory hr.m rfl (pc (pv 1) Ze)) rfl)
      (Zh (Zbn (pv 0) (Zs (ZS (K:=K) rfl) rfl T.z_len PySem.boot_len (pc (Zo (K:=K) rfl (pv 0) rfl) Ze)) rfl)
      (Zi (Zbn (pv 0) (Zcc Ze) rfl)))))),?_⟩
  refine ⟨_,rfl,_,rfl,p,_,dx,_,rfl,hp,T.cl_Stairs,T.n_Stairs_size,(by show 0<1000; decide),?_⟩
  have e1:upd H p (.ins (clsOf K "Stairs") dx (putF "size" (.int size) [])) p=some (.ins (clsOf K "Stairs") dx (putF "size" (.int size) [])):=Za
  have nt:∀ {x o},H x=some o->(∀ C d fs,o≠.ins C d fs)->x≠p:=λ{x o} e n z=>by rw [z,hp] at e; exact n _ _ _ (Option.some.inj e).symm
  have pa1:PlanAt K (upd H p (.ins (clsOf K "Stairs") dx (putF "size" (.int size) []))) tp ts cfs:=⟨by rw [Zb (nt pa.top (λ_ _ _ z=>by cases z))]; exact pa.top,pa.len,λi t c h1 h2=>by obtain ⟨wr,q1,q2⟩:=pa.at_ i t c h1 h2; exact ⟨wr,by rw [Zb (nt q1 (λ_ _ _ z=>by cases z))]; exact q1,q2⟩,pa.cf⟩
  have tb1:Tb K (upd H p (.ins (clsOf K "Stairs") dx (putF "size" (.int size) []))):=ZdA tb hp (λ_ _ z=>by cases z)
  have k1:∀ x o,H x=some o->x≠p->upd H p (.ins (clsOf K "Stairs") dx (putF "size" (.int size) [])) x=some o:=λx o e n=>by rw [Zb n]; exact e
  have f1:∀ x,upd H p (.ins (clsOf K "Stairs") dx (putF "size" (.int size) [])) x=none->H x=none:=λx e=>by
    by_cases z:x=p
    . rw [z,Za] at e; cases e
    . rw [Zb z] at e; exact e
  generalize upd H p (.ins (clsOf K "Stairs") dx (putF "size" (.int size) []))=H1 at *
  refine ⟨_,rfl,tp,rfl,⟨_,SqT.of pa1.top⟩,λss hss=>?_⟩
  refine ZlQ (K:=K) (a:=tp) (xs:=ts.map V.ref) (l:=ss) (λj ys σ G=>∃ (v0:Option V) (as:List SA),σ=[v0]/\ys=as.map (λa=>V.ref a.sp)/\as.length=j/\G ss=some (.lst ys)/\Same H1 G/\Mks K G as cfs/\∀ a∈as,H1 a.du=none/\H1 a.dh=none/\(∀ x∈a.ads,H1 x=none)/\ss∉a.ads)
    ⟨none,[],rfl,rfl,rfl,Za,Zg hss _,⟨λi a c h=>by simp at h,λi j a b h=>by simp at h⟩,by simp⟩ (λj ys σ G _ ⟨_,_,_,_,_,_,s,_⟩=>SqT.of (s _ _ pa1.top)) ?_ ?_
  . rintro j x ys σ G hj hxj hys ⟨v0,as,rfl,rfl,hlen,g1,s1,mk,fr⟩
    rw [length_map] at hj
    rw [getElem?_map] at hxj
    obtain ⟨t,et,rfl⟩:∃ t,ts[j]?=some t/\V.ref t=x:=by
      cases e:ts[j]? with
      | none=>rw [e] at hxj; cases hxj
      | some t=>rw [e] at hxj; exact ⟨t,rfl,Option.some.inj hxj⟩
    have hjc:j<cfs.length:=by rw [← pa.len]; exact hj
    have ec:cfs[j]?=some cfs[j]:=getElem?_eq_getElem hjc
    obtain ⟨wr,q1,q2⟩:=pa1.at_ j t _ et ec
    have cb:=pa.cf _ (getElem_mem hjc)
    have q1':=s1 _ _ q1
    refine ⟨_,rfl,λx dx' hx hdx ne=>⟨x,dx',t,cfs[j].sh,cfs[j].pl,cfs[j].ru,wr,rfl,Za,SqT.of ?_,cb.1,cb.2.1,λa G1 ea S1 f_rp f_ls f_du f_dh f_df f_ads k2=>⟨rfl,?_⟩⟩⟩
    . rw [Zb (Zd q1' hx),Zb (Zd q1' hdx)]; exact q1'
    have frG:∀ y,upd (upd G dx' (.own x)) x (.ins (clsOf K "Store") dx' []) y=none->G y=none:=λy e=>by
      cases q:G y with
      | none=>rfl
      | some o=>rw [Zb (Zd q hx),Zb (Zd q hdx),q] at e; cases e
    have sG:Same G G1:=λy o e=>k2 y o (by rw [Zb (Zd e hx),Zb (Zd e hdx)]; exact e) (Zd e hx)
    have n_du:=frG _ f_du
    have n_dh:=frG _ f_dh
    have n_df:=frG _ f_df
    have n_ls:=frG _ f_ls
    have n_ads:∀ y∈a.ads,G y=none:=λy hy=>frG _ (f_ads y hy)
    have g1':=sG _ _ g1
    have nss:ss∉a.ads:=λm=>by rw [n_ads ss m] at g1; cases g1
    have ecf:(⟨cfs[j].sh,cfs[j].pl,cfs[j].ru,decide (wr = "late")⟩:Cf)=cfs[j]:=by rw [← q2]
    rw [ecf] at S1
    have lst_put:∀ {b:SA} {c:Cf},(∀ zs M,StoreAt K G1 b c zs M [] (λ_=>0))->ss∉b.ads->ss≠b.ls->∀ u zs M,StoreAt K (upd G1 ss u) b c zs M [] (λ_=>0):=λ{b c} S h1 h2 u zs M=>((S zs λ_=>True).put u g1' h2 h1 trivial).mono λ_ _ _ _=>trivial
    have nls:ss≠a.ls:=λz=>by rw [← z,g1] at n_ls; cases n_ls
    have ea':V.ref x=V.ref a.sp:=by rw [ea]
    rw [ea']
    have olds:∀ {i:Nat} {b:SA},as[i]?=some b->G b.du≠none/\G b.dh≠none/\G b.df≠none/\G b.ls≠none/\∀ y∈b.ads,G y≠none:=λ{i b} hb=>by
      have hi:i<cfs.length:=by have:=(List.getElem?_eq_some_iff.mp hb).1; omega
      exact Zgp (mk.at_ i b _ hb (getElem?_eq_getElem hi))
    refine CNx.of (Nat.le_of_lt (Zx (by rw [length_map,pa.len]; omega))) (by rw [length_map]; exact hj) hys g1' ⟨_,as++[a],rfl,by rw [map_append]; rfl,by rw [length_append,hlen]; rfl,Za,λy o e=>?_,⟨λi b c hb hc zs M=>?_,λi i' b b' hb hb' nn=>?_⟩,λb hb=>?_⟩
    . rw [Zb (Zd e hss)]; exact sG _ _ (s1 _ _ e)
    . by_cases hi:i<as.length
      . rw [getElem?_append_left hi] at hb
        have o:=fr b (mem_of_getElem? hb)
        refine lst_put (λzs M=>(mk.at_ i b c hb hc zs M).same sG) o.2.2.2 (λz=>?_) _ zs M
        have T0:=mk.at_ i b c hb hc [] λ_=>True
        have q:=T0.room.st.top
        rw [← z,g1] at q
        have q':=(Option.some.inj q)
        injection q' with q'
        have T1:=T0.room.st.len
        have s0:=T0.room.s0
        have lnz:0<b.ads.length:=by rw [T1]; omega
        match hb':b.ads,lnz with
        | y :: _,_ =>
          rw [hb'] at q'
          cases as with
          | nil=>simp at hi
          | cons a0 r =>
            simp only [map_cons,List.cons.injEq] at q'
            have e0:a0.sp=y:=by have:=q'.1; injection this
            have T2:=mk.at_ 0 a0 _ rfl (getElem?_eq_getElem (by have:=hjc; omega)) [] λ_=>True
            obtain ⟨d0,o0⟩:=T2.ob
            obtain ⟨ys,oy⟩:=T0.room.st.one (ad:=y) (by rw [hb']; exact mem_cons_self)
            rw [e0,oy] at o0; cases o0
      . have hi2:i=j:=by
          have:=(List.getElem?_eq_some_iff.mp hb).1
          rw [length_append,length_singleton] at this
          omega
        subst hi2
        rw [getElem?_append_right (by omega),show i - as.length=0 by omega] at hb
        cases hb
        rw [ec] at hc; cases hc
        exact lst_put S1 nss nls _ zs M
    . have two:∀ {i:Nat} {b:SA},as[i]?=some b->Sep b a/\Sep a b:=λ{i b} hb=>by
        obtain ⟨o1,o2,o3,o4,o5⟩:=olds hb
        exact ⟨⟨λy h1 h2=>o5 y h1 (n_ads y h2),λm=>o5 _ m n_ls,(λz=>o1 (z ▸ n_du)),(λz=>o2 (z ▸ n_du)),(λz=>o1 (z ▸ n_dh)),(λz=>o2 (z ▸ n_dh)),(λz=>o1 (z ▸ n_df)),(λz=>o2 (z ▸ n_df))⟩,
          ⟨λy h1 h2=>o5 y h2 (n_ads y h1),λm=>o4 (n_ads _ m),(λz=>o1 (z ▸ n_du)),(λz=>o1 (z ▸ n_dh)),(λz=>o2 (z ▸ n_du)),(λz=>o2 (z ▸ n_dh)),(λz=>o3 (z ▸ n_du)),(λz=>o3 (z ▸ n_dh))⟩⟩
      have lastA:∀ {i:Nat} {b:SA},(as++[a])[i]?=some b->as[i]?=some b\/(i=as.length/\b=a):=λ{i b} hb=>by
        by_cases hi:i<as.length
        . rw [getElem?_append_left hi] at hb; exact .inl hb
        . have:=(List.getElem?_eq_some_iff.mp hb).1
          rw [length_append,length_singleton] at this
          have hi2:i=as.length:=by omega
          subst hi2
          rw [getElem?_append_right (Nat.le_refl _),Nat.sub_self] at hb
          cases hb
          exact .inr ⟨rfl,rfl⟩
      rcases lastA hb with h1 | ⟨h1,rfl⟩
      . rcases lastA hb' with h2 | ⟨h2,rfl⟩
        . exact mk.sep i i' b b' h1 h2 nn
        . exact (two h1).1
      . rcases lastA hb' with h2 | ⟨h2,rfl⟩
        . exact (two h2).2
        . exact absurd (h1.trans h2.symm) nn
    . rcases List.mem_append.mp hb with hb | hb
      . exact fr b hb
      . rw [List.mem_singleton.mp hb]
        exact ⟨s1.free n_du,s1.free n_dh,λy hy=>s1.free (n_ads y hy),nss⟩
  rintro ys σ G hys ⟨v0,as,rfl,rfl,hlen,g1,s1,mk,fr⟩
  rw [length_map,pa.len] at hlen
  have hp2:=s1 _ _ e1
  refine ⟨_,rfl,p,_,dx,_,rfl,hp2,T.cl_Stairs,T.n_Stairs_stores,(by show 1<1000; decide),?_⟩
  have npS:∀ {G:Hp} {d:Addr} {fs:List (Str×V)},G p=some (.ins (clsOf K "Stairs") d fs)->∀ {x xs},G x=some (.lst xs)->x≠p:=λ{G d fs} h {x xs} e z=>by rw [z,h] at e; cases e
  have fld:∀ {G:Hp} {fs:List (Str×V)} (u:HO),Mks K G as cfs->G p=some (.ins (clsOf K "Stairs") dx fs)->fs.lookup ("room" : Str)=none->fs.lookup ("rule" : Str)=none->Mks K (upd G p u) as cfs:=λ{G fs} u mk hG h1 h2=>by
    refine ⟨λi b c hb hc zs M=>?_,mk.sep⟩
    have B:=mk.at_ i b c hb hc zs M
    obtain ⟨ds,g1⟩:=B.ob
    obtain ⟨dr,g2⟩:=B.room.ob
    obtain ⟨kr,g3,g4⟩:=B.room.dc
    obtain ⟨kv,g5,g6,g7,g8⟩:=B.held
    have ne:∀ {y o},G y=some o->(∀ C d fs,o≠.ins C d fs)->y≠p:=λ{y o} e n z=>by rw [z,hG] at e; exact n _ _ _ (Option.some.inj e).symm
    have n1:b.sp≠p:=λz=>by
      rw [z,hG] at g1
      have q:=Option.some.inj g1
      injection q with _ _ q
      rw [q,Zcs] at h1; cases h1
    have n2:b.rp≠p:=λz=>by
      rw [z,hG] at g2
      have q:=Option.some.inj g2
      injection q with _ _ q
      rw [q,Zic] at h2; cases h2
    exact ⟨⟨ds,by rw [Zb n1]; exact g1⟩,⟨⟨dr,by rw [Zb n2]; exact g2⟩,⟨by rw [Zb (ne B.room.st.top (λ_ _ _ z=>by cases z))]; exact B.room.st.top,B.room.st.len,B.room.st.nd,B.room.st.off,λi ad e=>by have q:=B.room.st.at_ i ad e; rw [Zb (ne q (λ_ _ _ z=>by cases z))]; exact q⟩,⟨kr,by rw [Zb (ne g3 (λ_ _ _ z=>by cases z))]; exact g3,g4⟩,B.room.nd,B.room.s0,B.room.s1⟩,⟨kv,by rw [Zb (ne g5 (λ_ _ _ z=>by cases z))]; exact g5,g6,g7,λy hy=>by simp at hy⟩,by rw [Zb (ne B.fresh (λ_ _ _ z=>by cases z))]; exact B.fresh,B.n1,B.n2,B.n3⟩
  have mkS:∀ {G G':Hp},Mks K G as cfs->Same G G'->Mks K G' as cfs:=λ{G G'} m s=>⟨λi b c hb hc zs M=>(m.at_ i b c hb hc zs M).same s,m.sep⟩
  have lk1:(putF "size" (.int size) []:List (Str×V)).lookup ("room" : Str)=none:=by rw [Zf,if_neg (by decide +kernel)]; rfl
  have lk2:(putF "size" (.int size) []:List (Str×V)).lookup ("rule" : Str)=none:=by rw [Zf,if_neg (by decide +kernel)]; rfl
  have mk2:=fld (.ins (clsOf K "Stairs") dx (putF "stores" (.ref ss) (putF "size" (.int size) []))) mk hp2 lk1 lk2
  have e2:upd G p (.ins (clsOf K "Stairs") dx (putF "stores" (.ref ss) (putF "size" (.int size) []))) p=some (.ins (clsOf K "Stairs") dx (putF "stores" (.ref ss) (putF "size" (.int size) []))):=Za
  have g2:upd G p (.ins (clsOf K "Stairs") dx (putF "stores" (.ref ss) (putF "size" (.int size) []))) ss=some (.lst (as.map λa=>V.ref a.sp)):=by rw [Zb (npS hp2 g1)]; exact g1
  have k2:∀ x o,H x=some o->x≠p->upd G p (.ins (clsOf K "Stairs") dx (putF "stores" (.ref ss) (putF "size" (.int size) []))) x=some o:=λx o e n=>by rw [Zb n]; exact s1 _ _ (k1 x o e n)
  have tb2:Tb K (upd G p (.ins (clsOf K "Stairs") dx (putF "stores" (.ref ss) (putF "size" (.int size) [])))):=ZdA (tb1.same s1) hp2 (λ_ _ z=>by cases z)
  generalize upd G p (.ins (clsOf K "Stairs") dx (putF "stores" (.ref ss) (putF "size" (.int size) [])))=H2 at *
  refine ⟨_,rfl,λbm bx hbm hbx nbx=>⟨bm,bx,size,rfl,Za,λdk H3 M3 fdk k3=>⟨rfl,?_⟩⟩⟩
  have s3:Same H2 H3:=λy o e=>k3 y o (by rw [Zb (Zd e hbm),Zb (Zd e hbx)]; exact e) (Zd e hbm)
  have ndk:H2 dk=none:=by
    cases q:H2 dk with
    | none=>rfl
    | some o=>rw [Zb (Zd q hbm),Zb (Zd q hbx),q] at fdk; cases fdk
  have e3:=s3 _ _ e2
  have npb:p≠bm:=Zd e2 hbm
  refine ⟨_,rfl,p,_,dx,_,rfl,e3,T.cl_Stairs,T.n_Stairs_bottom,(by show 2<1000; decide),?_⟩
  have lk3:(putF "stores" (.ref ss) (putF "size" (.int size) []):List (Str×V)).lookup ("room" : Str)=none:=by rw [Zf,if_neg (by decide +kernel)]; exact lk1
  have lk4:(putF "stores" (.ref ss) (putF "size" (.int size) []):List (Str×V)).lookup ("rule" : Str)=none:=by rw [Zf,if_neg (by decide +kernel)]; exact lk2
  have mk4:=fld (.ins (clsOf K "Stairs") dx (putF "bottom" (.ref bm) (putF "stores" (.ref ss) (putF "size" (.int size) [])))) (mkS mk2 s3) e3 lk3 lk4
  have e4:upd H3 p (.ins (clsOf K "Stairs") dx (putF "bottom" (.ref bm) (putF "stores" (.ref ss) (putF "size" (.int size) [])))) p=some (.ins (clsOf K "Stairs") dx (putF "bottom" (.ref bm) (putF "stores" (.ref ss) (putF "size" (.int size) [])))):=Za
  have g4:upd H3 p (.ins (clsOf K "Stairs") dx (putF "bottom" (.ref bm) (putF "stores" (.ref ss) (putF "size" (.int size) [])))) ss=some (.lst (as.map λa=>V.ref a.sp)):=by rw [Zb (npS e2 g2)]; exact s3 _ _ g2
  have k4:∀ x o,H x=some o->x≠p->upd H3 p (.ins (clsOf K "Stairs") dx (putF "bottom" (.ref bm) (putF "stores" (.ref ss) (putF "size" (.int size) [])))) x=some o:=λx o e n=>by rw [Zb n]; exact s3 _ _ (k2 x o e n)
  have tb4:Tb K (upd H3 p (.ins (clsOf K "Stairs") dx (putF "bottom" (.ref bm) (putF "stores" (.ref ss) (putF "size" (.int size) []))))):=ZdA (tb2.same s3) e3 (λ_ _ z=>by cases z)
  have M4:MemAt K (upd H3 p (.ins (clsOf K "Stairs") dx (putF "bottom" (.ref bm) (putF "stores" (.ref ss) (putF "size" (.int size) []))))) bm dk size:=by
    obtain ⟨dm,q⟩:=M3.ob
    exact ⟨⟨dm,by rw [Zb (Ne.symm npb)]; exact q⟩,by rw [Zb (λz:dk=p=>by rw [z,e2] at ndk; cases ndk)]; exact M3.kept⟩
  have dkn:∀ a∈as,dk≠a.du/\dk≠a.dh:=λa ha=>by
    obtain ⟨i,hi⟩:=getElem?_of_mem ha
    have:=(List.getElem?_eq_some_iff.mp hi).1
    obtain ⟨o1,o2,_⟩:=Zgp (mk2.at_ i a _ hi (getElem?_eq_getElem (by omega)))
    exact ⟨(λz=>o1 (z ▸ ndk)),(λz=>o2 (z ▸ ndk))⟩
  generalize upd H3 p (.ins (clsOf K "Stairs") dx (putF "bottom" (.ref bm) (putF "stores" (.ref ss) (putF "size" (.int size) []))))=H4 at *
  have lks:(putF "bottom" (.ref bm) (putF "stores" (.ref ss) (putF "size" (.int size) [])):List (Str×V)).lookup ("stores" : Str)=some (.ref ss):=by rw [Zf,if_neg (by decide +kernel),Zf,if_pos rfl]
  refine ⟨_,rfl,p,_,dx,_,_,rfl,e4,T.cl_Stairs,T.n_Stairs_stores,lks,ss,_,rfl,.inl (SqL.of g4),_,rfl,p,_,dx,_,rfl,e4,T.cl_Stairs,T.n_Stairs_last,(by show 3<1000; decide),?_⟩
  rw [length_map]
  have lk5:(putF "bottom" (.ref bm) (putF "stores" (.ref ss) (putF "size" (.int size) [])):List (Str×V)).lookup ("room" : Str)=none:=by rw [Zf,if_neg (by decide +kernel)]; exact lk3
  have lk6:(putF "bottom" (.ref bm) (putF "stores" (.ref ss) (putF "size" (.int size) [])):List (Str×V)).lookup ("rule" : Str)=none:=by rw [Zf,if_neg (by decide +kernel)]; exact lk4
  have mk5:=fld (.ins (clsOf K "Stairs") dx (putF "last" (.int (as.length:Int)) (putF "bottom" (.ref bm) (putF "stores" (.ref ss) (putF "size" (.int size) []))))) mk4 e4 lk5 lk6
  have e5:upd H4 p (.ins (clsOf K "Stairs") dx (putF "last" (.int (as.length:Int)) (putF "bottom" (.ref bm) (putF "stores" (.ref ss) (putF "size" (.int size) []))))) p=some (.ins (clsOf K "Stairs") dx (putF "last" (.int (as.length:Int)) (putF "bottom" (.ref bm) (putF "stores" (.ref ss) (putF "size" (.int size) []))))):=Za
  have g5:upd H4 p (.ins (clsOf K "Stairs") dx (putF "last" (.int (as.length:Int)) (putF "bottom" (.ref bm) (putF "stores" (.ref ss) (putF "size" (.int size) []))))) ss=some (.lst (as.map λa=>V.ref a.sp)):=by rw [Zb (npS e4 g4)]; exact g4
  have k5:∀ x o,H x=some o->x≠p->upd H4 p (.ins (clsOf K "Stairs") dx (putF "last" (.int (as.length:Int)) (putF "bottom" (.ref bm) (putF "stores" (.ref ss) (putF "size" (.int size) []))))) x=some o:=λx o e n=>by rw [Zb n]; exact k4 x o e n
  have tb5:Tb K (upd H4 p (.ins (clsOf K "Stairs") dx (putF "last" (.int (as.length:Int)) (putF "bottom" (.ref bm) (putF "stores" (.ref ss) (putF "size" (.int size) [])))))):=ZdA tb4 e4 (λ_ _ z=>by cases z)
  have M5:MemAt K (upd H4 p (.ins (clsOf K "Stairs") dx (putF "last" (.int (as.length:Int)) (putF "bottom" (.ref bm) (putF "stores" (.ref ss) (putF "size" (.int size) [])))))) bm dk size:=by
    obtain ⟨dm,q⟩:=M4.ob
    exact ⟨⟨dm,by rw [Zb (Ne.symm npb)]; exact q⟩,by have q:=M4.kept; rw [Zb (λz:dk=p=>by rw [z,e4] at q; cases q)]; exact q⟩
  generalize upd H4 p (.ins (clsOf K "Stairs") dx (putF "last" (.int (as.length:Int)) (putF "bottom" (.ref bm) (putF "stores" (.ref ss) (putF "size" (.int size) [])))))=H5 at *
  refine ⟨(by show 0<=sizeLine; decide),λev hev=>⟨_,rfl,p,_,dx,_,rfl,Zg hev _ _ _ e5,T.cl_Stairs,T.n_Stairs_events,(by show 4<1000; decide),?_⟩⟩
  have s6:=Zg hev (.lst [])
  have nev:ev≠p:=λz=>by rw [z,e5] at hev; cases hev
  have nss:ss≠ev:=Zd g5 hev
  have lk7:(putF "last" (.int (as.length:Int)) (putF "bottom" (.ref bm) (putF "stores" (.ref ss) (putF "size" (.int size) []))):List (Str×V)).lookup ("room" : Str)=none:=by rw [Zf,if_neg (by decide +kernel)]; exact lk5
  have lk8:(putF "last" (.int (as.length:Int)) (putF "bottom" (.ref bm) (putF "stores" (.ref ss) (putF "size" (.int size) []))):List (Str×V)).lookup ("rule" : Str)=none:=by rw [Zf,if_neg (by decide +kernel)]; exact lk6
  have e6:=s6 _ _ e5
  have g6:=s6 _ _ g5
  have olds:∀ a∈as,ev∉a.ads/\ev≠a.ls:=λa ha=>by
    obtain ⟨i,hi⟩:=getElem?_of_mem ha
    have:=(List.getElem?_eq_some_iff.mp hi).1
    obtain ⟨o1,o2,o3,o4,o5⟩:=Zgp (mk5.at_ i a _ hi (getElem?_eq_getElem (by omega)))
    exact ⟨λm=>o5 _ m hev,(λz=>o4 (z ▸ hev))⟩
  refine k ⟨p,ss,bm,dk,ev,as,[]⟩ _ rfl hlen Za (λkind U hU=>?_) (λx hx n=>?_) λx o e n=>?_
  . rw [Zeg]
    have mk6:=fld (.ins (clsOf K "Stairs") dx (tflds size ss bm as.length ev kind)) (mkS mk5 s6) e6 lk7 lk8
    have M6:=M5.same s6
    obtain ⟨dm,q⟩:=M6.ob
    refine ⟨⟨dx,Za⟩,by show upd _ p _ ss=_; rw [Zb (npS e6 g6)]; exact g6,⟨⟨dm,by show upd _ p _ bm=_; rw [Zb (Ne.symm npb)]; exact q⟩,by show upd _ p _ dk=_; have q:=M6.kept; rw [Zb (λz:dk=p=>by rw [z,e6] at q; cases q)]; exact q⟩,by show upd _ p _ ev=_; rw [Zb nev]; exact Za,hlen.symm,by rw [List.length_replicate]; exact hlen.symm,λj b c s hb hc hs=>?_,mk6.sep,λb hb=>?_,nss,(λx hx=>by simp at hx),(λx hx=>by simp at hx),λs hs b hb=>?_,λj c s hc hs t=>?_,λc hc=>(pa.cf c hc).2.2,z0,z1,hU,by show as.length<=4; omega,ZdA (tb5.same s6) e6 (λ_ _ z=>by cases z)⟩
    . have es:=mem_of_getElem? hs
      rw [(List.mem_replicate.mp es).2]
      exact mk6.at_ j b c hb hc _ _
    . obtain ⟨o1,o2⟩:=olds b hb
      obtain ⟨o3,o4⟩:=dkn b hb
      exact ⟨(fr b hb).2.2.2,o1,o2,o3,o4⟩
    . rw [(List.mem_replicate.mp hs).2] at hb
      exact absurd hb (by simp)
    . rw [(List.mem_replicate.mp (mem_of_getElem? hs)).2]
      show ((0:Nat):Int)<=c.pl
      have:=(pa.cf c (mem_of_getElem? hc)).2.2.1
      omega
  . rcases hx with z | z | ⟨a,ha,z⟩
    . exact absurd z n
    . have z:x=ev:=z
      subst z
      cases q:H x with
      | none=>rfl
      | some o=>rw [k5 x o q n] at hev; cases hev
    . obtain ⟨o1,o2,o3,_⟩:=fr a ha
      rcases z with rfl | rfl | z
      . exact f1 _ o1
      . exact f1 _ o2
      . exact f1 _ (o3 x z)
  . rw [Zb n]
    exact s6 _ _ (k5 x o e n)
end
def nearF (S:List RS) (b:Int):Nat:=S.findIdx λs=>decide (b∈s.1)
def dS (S:List RS) (k:Nat) (g:Int) (i:Nat):List RS:=S.mapIdx λj s=>if j=k\/(k - i<=j/\j<k) then outR s g else s
def Zcf (kind:Str) (S:List RS) (k:Nat) (g:Int):List RS:=if kind = "within" then dS S k g k else dS S k g 0
theorem Zds (S:List RS) (k:Nat) (g:Int) (i j:Nat):(dS S k g i)[j]?=(S[j]?).map λs=>if j=k\/(k - i<=j/\j<k) then outR s g else s:=by
  unfold dS
  rw [List.getElem?_mapIdx]
theorem ZnF {S:List RS} {k:Nat} {g:Int} {s:RS} (hs:S[k]?=some s):dS S k g 0=S.set k (outR s g):=by
  apply List.ext_getElem?
  intro j
  rw [Zds]
  by_cases e:j=k
  . subst e
    rw [hs,getElem?_set_self (List.getElem?_eq_some_iff.mp hs).1]
    show some (if _ then _ else _)=_
    rw [if_pos (.inl rfl)]
  . rw [getElem?_set_ne (λz=>e z.symm)]
    cases q:S[j]? with
    | none=>rfl
    | some r=>show some (if _ then _ else _)=_; rw [if_neg (by omega)]
theorem ZoH {s:RS} {g:Int} (h:g∉s.1):outR s g=s:=by
  unfold outR
  rw [List.erase_of_not_mem h]
theorem ZnG {S:List RS} {k:Nat} {g:Int} {i:Nat} {s:RS} (hi:i<k) (hs:S[k - 1 - i]?=some s) (hg:g∉s.1):dS S k g (i+1)=dS S k g i:=by
  apply List.ext_getElem?
  intro j
  rw [Zds,Zds]
  cases q:S[j]? with
  | none=>rfl
  | some r =>
    show some (if _ then _ else _)=some (if _ then _ else _)
    by_cases e:j=k - 1 - i
    . subst e
      rw [hs] at q; cases q
      rw [if_pos (by omega),if_neg (by omega),ZoH hg]
    . by_cases c:j=k\/(k - i<=j/\j<k)
      . rw [if_pos c,if_pos (by omega)]
      . rw [if_neg c,if_neg (by omega)]
theorem dS_go {S:List RS} {k:Nat} {g:Int} {i:Nat} {s:RS} (hi:i<k) (hs:S[k - 1 - i]?=some s):dS S k g (i+1)=(dS S k g i).set (k - 1 - i) (outR s g):=by
  apply List.ext_getElem?
  intro j
  by_cases e:j=k - 1 - i
  . subst e
    have hl:k - 1 - i<(dS S k g i).length:=by unfold dS; rw [List.length_mapIdx]; exact (List.getElem?_eq_some_iff.mp hs).1
    rw [getElem?_set_self hl,Zds,hs]
    show some (if _ then _ else _)=_
    rw [if_pos (by omega)]
  . rw [getElem?_set_ne (λz=>e z.symm),Zds,Zds]
    cases q:S[j]? with
    | none=>rfl
    | some r =>
      show some (if _ then _ else _)=some (if _ then _ else _)
      by_cases c:j=k\/(k - i<=j/\j<k)
      . rw [if_pos c,if_pos (by omega)]
      . rw [if_neg c,if_neg (by omega)]
theorem Zlt {S:List RS} {k:Nat} {g:Int} {i:Nat} (hi:i<k):(dS S k g i)[k - 1 - i]?=S[k - 1 - i]?:=by
  rw [Zds]
  cases q:S[k - 1 - i]? with
  | none=>rfl
  | some r=>show some (if _ then _ else _)=_; rw [if_neg (by omega)]
theorem Zfz (kind:Str) (S:List RS) (k:Nat) (g:Int) (j:Nat):∃ p:Bool,(Zcf kind S k g)[j]?=(S[j]?).map (λs=>if p then outR s g else s)/\(j=k->p=true):=by
  unfold Zcf
  split
  . refine ⟨decide (j=k\/(k - k<=j/\j<k)),?_,λe=>by simp [e]⟩
    rw [Zds]
    congr 1
    funext s
    by_cases c:j=k\/(k - k<=j/\j<k)
    . rw [if_pos c,if_pos (decide_eq_true c)]
    . rw [if_neg c,if_neg (by simpa using c)]
  . refine ⟨decide (j=k\/(k - 0<=j/\j<k)),?_,λe=>by simp [e]⟩
    rw [Zds]
    congr 1
    funext s
    by_cases c:j=k\/(k - 0<=j/\j<k)
    . rw [if_pos c,if_pos (decide_eq_true c)]
    . rw [if_neg c,if_neg (by simpa using c)]
theorem Ziq {kind:Str} {S:List RS} {k:Nat} {g:Int} {s:RS} (h:S[k]?=some s):(Zcf kind S k g)[k]?=some (outR s g):=by
  obtain ⟨p,e,hp⟩:=Zfz kind S k g k
  rw [e,h,hp rfl]
  rfl
theorem ZjR {kind:Str} {S:List RS} {k:Nat} {g:Int} {j:Nat} {r:RS} (h:(Zcf kind S k g)[j]?=some r):∃ s,S[j]?=some s/\∀ x∈r.1,x∈s.1:=by
  obtain ⟨p,e,_⟩:=Zfz kind S k g j
  rw [e] at h
  cases q:S[j]? with
  | none=>rw [q] at h; cases h
  | some s =>
    rw [q] at h
    refine ⟨s,rfl,λx hx=>?_⟩
    have h:(if p then outR s g else s)=r:=Option.some.inj h
    rw [← h] at hx
    cases p with
    | true=>exact mem_of_mem_erase hx
    | false=>exact hx
noncomputable def downS (kind:Str) (cfs:List Cf) (S:List RS) (near:Nat) (b:Int):List RS :=
  match cfs[near]?,S[near]? with
  | some c,some s=>(match goneF c s b with
    | none=>S.set near (inR s b)
    | some g=>(Zcf kind S near g).set near (inR (outR s g) b))
  | _,_=>S
noncomputable def ZcA (kind:Str) (cfs:List Cf) (b:Int):Nat->List RS->List RS
  | 0,S=>S
  | k+1,S=>ZcA kind cfs b k (downS kind cfs S k b)
noncomputable def pushS (cfs:List Cf):Nat->List RS->Nat->Int->List RS
  | 0,S,_,_=>S
  | n+1,S,k,b=>match cfs[k]?,S[k]? with
    | some c,some s=>(match goneF c s b with
      | none=>S.set k (inR s b)
      | some g=>pushS cfs n (S.set k (inR (outR s g) b)) (k+1) g)
    | _,_=>S
theorem ZdE {S:List RS} {b:Int} (h:nearF S b<S.length):∃ s,S[nearF S b]?=some s/\b∈s.1:=by
  refine ⟨_,getElem?_eq_getElem h,?_⟩
  have:=List.findIdx_getElem (w:=h)
  rw [decide_eq_true_eq] at this
  exact this
theorem Zgr {S:List RS} {b:Int} {j:Nat} (h:j<nearF S b) {s:RS} (hs:S[j]?=some s):b∉s.1:=by
  obtain ⟨hj,e⟩:=List.getElem?_eq_some_iff.mp hs
  have:=List.not_of_lt_findIdx h
  rw [e] at this
  simpa using this
theorem Zgs (S:List RS) (b:Int):nearF S b<=S.length:=List.findIdx_le_length
section
variable {P:Program} {w:World} {K:W.Frag} {mg:Str->Option Value} {base:Heap}
def Zcb:Sp:=λ_ _ _ _=>False
theorem ZhB {f:Addr} {fd:FuncData} (F:Fun K "put" "Steps.put" ZbX f fd) (T:Txt K mg):FnOk P w K mg base CX0 1 f fd ZbY Zcb:=⟨λ_ _ _ _ h=>h.elim,λ_ _ _ _ _ _ _ _ _ _ _ _ _ h=>h.elim⟩
theorem ZeO {f:Addr} {fd:FuncData} (F:Fun K "go_on" "Stairs.go_on" ZaU f fd) (T:Txt K mg):FnOk P w K mg base CX0 1 f fd Zbz Zcb:=⟨λ_ _ _ _ h=>h.elim,λ_ _ _ _ _ _ _ _ _ _ _ _ _ h=>h.elim⟩
theorem ZdX {f:Addr} {fd:FuncData} (F:Fun K "change" "Stairs.change" ZaE f fd) (T:Txt K mg):FnOk P w K mg base CX0 1 f fd Zbl Zcb:=⟨λ_ _ _ _ h=>h.elim,λ_ _ _ _ _ _ _ _ _ _ _ _ _ h=>h.elim⟩
def ZeP (K:W.Frag):Sp:=λvs H Q _=>∃ (A:TA) (g:Pln) (S:List RS) (xs:List V) (U:List Int) (b:Int),vs=[.ref A.p,.int b]/\StairsAt K H A g S xs U/\∀ H',Same H H'->Q (.int (nearF S b:Nat)) H'
theorem ZdF {f:Addr} {fd:FuncData} (F:Fun K "nearest" "Stairs.nearest" ZR f fd) (T:Txt K mg) (M_Store_has:MDef P w K mg base (clsOf K "Store") "has" 2 Zbu (Zjk K)):FnOk P w K mg base CX0 3 f fd Zao (ZeP K):=by
  refine F.ok sc_Stairs_nearest (λvs H Q E h=>?_) (λcdv A outer st H vs Q E hr h=>?_)
  . obtain ⟨A,g,S,xs,U,b,rfl,_⟩:=h
    rfl
  obtain ⟨A,g,S,xs,U,b,rfl,R,q⟩:=h
  have nd:=sc_Stairs_nearest.nd
  refine ⟨_,(Zh (Zfl PassesOwn.never rfl (Zkv rfl T.z_enumerate (pc (Zo (K:=K) rfl (pv 0) rfl) Ze)) (Zaz (K:=K) (n:=2) rfl rfl (Zp (pgn 2 nd) (Zp (pgn 3 nd) Zay))) (Zi (ps_if (ZbA (Zl M_Store_has hr.m T.cl_Store (pv 3) (pc (pv 1) Ze))) (Zi (Zw (pv 2))) Zz)))
      (Zi (Zw (Zo (K:=K) rfl (pv 0) rfl)))),?_⟩
  obtain ⟨dx,h1⟩:=R.ob
  refine ⟨_,rfl,A.p,_,dx,_,_,rfl,h1,T.cl_Stairs,T.n_Stairs_stores,ZbE ..,A.ss,rfl,⟨_,SqL.of R.ss⟩,ZiQ (K:=K) (a:=A.ss) (xs:=A.as.map λa=>V.ref a.sp) (λi σ G=>∃ v2 v3:Option V,σ=[some (.ref A.p),some (.int b),v2,v3]/\Same H G/\i<=nearF S b) ⟨_,_,rfl,Same.refl _,Nat.zero_le _⟩ (λi σ G _ ⟨_,_,_,s,_⟩=>SqL.of (s _ _ R.ss)) ?_ ?_⟩
  . rintro i x t σ G hi ⟨v2,v3,rfl,s,hle⟩ ht
    rw [getElem?_map] at hi
    obtain ⟨a,ea,rfl⟩:∃ a,A.as[i]?=some a/\V.ref a.sp=x:=by
      cases e:A.as[i]? with
      | none=>rw [e] at hi; cases hi
      | some a=>rw [e] at hi; exact ⟨a,rfl,Option.some.inj hi⟩
    obtain ⟨a',c,r,e1,e2,e3,B⟩:=R.at_ (List.getElem?_eq_some_iff.mp ea).1
    rw [ea] at e1; cases e1
    refine ⟨t,_,rfl,SqT.of Za,rfl,_,_,rfl,gN ⟨_,_,rfl,gN ⟨rfl,?_⟩⟩⟩
    try dsimp only
    have s2:=s.trans (Zg ht (.tup [.int (i:Int),.ref a.sp]))
    have B':=B.same s2
    obtain ⟨ds,h3⟩:=B'.ob
    refine ⟨_,rfl,a.sp,ds,_,rfl,h3,sf_no ..,_,rfl,a,c,_,_,r.1,r.2,b,rfl,B',_,rfl,?_⟩
    by_cases m:b∈r.1
    . refine ifT (decide_eq_true m) ⟨_,rfl,?_⟩
      have e:nearF S b=i:=by
        by_cases z:i<nearF S b
        . exact absurd m (Zgr z e3)
        . omega
      have q':=q _ s2
      rw [e] at q'
      exact q'
    . refine ifF (decide_eq_false m) ⟨_,_,rfl,s2,?_⟩
      by_cases z:i=nearF S b
      . exfalso
        obtain ⟨s',h1',h2'⟩:=ZdE (S:=S) (b:=b) (by rw [← z]; exact (List.getElem?_eq_some_iff.mp e3).1)
        rw [← z,e3] at h1'; cases h1'
        exact m h2'
      . omega
  . rintro σ G ⟨v2,v3,rfl,s,hle⟩
    rw [length_map] at hle
    have e:nearF S b=A.as.length:=by have:=Zgs S b; rw [R.lS] at this; omega
    have q':=q _ s
    rw [e] at q'
    exact ⟨_,rfl,A.p,_,dx,_,_,rfl,s _ _ h1,T.cl_Stairs,T.n_Stairs_last,ZcU ..,q'⟩
def Zir (K:W.Frag):Sp:=λvs H Q _=>∃ (A:TA) (g:Pln) (S:List RS) (xs:List V) (U:List Int) (k:Nat) (b:Int) (s:RS),vs=[.ref A.p,.int (k:Int),.int b]/\StairsAt K H A g S xs U/\S[k]?=some s/\b∈s.1/\xs.length<=400 /\
  ∀ H' ys,ys.length<=5->(k=0->EvAt H' ys (evOut 0 (some b)))->StairsAt K H' A g (Zcf g.kind S k b) (xs++ys) U->SF A H H'->Q .non H'
theorem ZcW {f:Addr} {fd:FuncData} (F:Fun K "drive_out" "Stairs.drive_out" ZF f fd) (T:Txt K mg) (M_Steps_go_out:MDef P w K mg base (clsOf K "Stairs") "go_out" 5 ZH (ZdD K)) (M_Store_has:MDef P w K mg base (clsOf K "Store") "has" 2 Zbu (Zjk K)) (M_Stairs_go_on:MDef P w K mg base (clsOf K "Stairs") "go_on" 1 Zbz Zcb):FnOk P w K mg base CX0 6 f fd ZV (Zir K):=by
  refine F.ok sc_Stairs_drive_out (λvs H Q E h=>?_) (λcdv A outer st H vs Q E hr h=>?_)
  . obtain ⟨A,g,S,xs,U,k,b,s,rfl,_⟩:=h
    rfl
  obtain ⟨A,g,S,xs,U,k,b,s,rfl,R,hs,hb,hl,q⟩:=h
  have nd:=sc_Stairs_drive_out.nd
  refine ⟨_,(Zh (ZbQ (Zl M_Steps_go_out hr.m T.cl_Stairs (pv 0) (pc (pv 1) (pc (pv 2) Ze))) (Zaz (K:=K) (n:=2) rfl rfl (Zp (pgn 3 nd) (Zp (pgn 4 nd) Zay))))
      (Zh (ps_if (ZZ op_eq (Zo (K:=K) rfl (pv 0) rfl) Zbf (ZM _)) (Zi (Zfl PassesOwn.never rfl (Zha rfl T.z_range (pc (pe_op ZdH (pv 1) Zj) (pc (pe_un Zgz Zj) (pc (pe_un Zgz Zj) Ze)))) (pgn 5 nd) (Zi (ps_if (ZbA (Zl M_Store_has hr.m T.cl_Store (pe_ix (Zu (K:=K) rfl) (Zo (K:=K) rfl (pv 0) rfl) (pv 5) (λ_ _=>rfl)) (pc (pv 2) Ze))) (Zh (ZbQ (Zl M_Steps_go_out hr.m T.cl_Stairs (pv 0) (pc (pv 5) (pc (pv 2) Ze))) (Zaz (K:=K) (n:=2) rfl rfl (Zp (pgn 3 nd) (Zp (pgn 6 nd) Zay))))
      (Zi (pst 4 nd (pe_or (pv 4) (ZiC (pv 6)))))) Zz)))) Zz)
      (Zi (ps_if (ZbA (pv 4)) (Zi (Zv (Zl M_Stairs_go_on hr.m T.cl_Stairs (pv 0) (pc (pe_op Zaw (pv 1) Zj) (pc (pv 2) (pc (pv 3) Ze)))))) Zz)))),?_⟩
  obtain ⟨dx,h1⟩:=R.ob
  have hk4:k<4:=by have:=(List.getElem?_eq_some_iff.mp hs).1; have:=R.l4; have:=R.lS; omega
  refine hide λu1 e1=>?_
  refine ⟨_,rfl,A.p,dx,_,rfl,h1,tf_no ..,_,rfl,_,rfl,A,g,S,xs,U,k,b,s,rfl,R,hs,hb,by omega,λH1 t l v et el nl ev R1 f1=>⟨t,_,rfl,SqT.of et,rfl,_,_,rfl,gN ⟨_,_,rfl,gN ⟨rfl,?_⟩⟩⟩⟩
  subst e1
  try dsimp only
  rw [← ZnF hs] at R1
  have ev1:k=0->EvAt H1 [.ref v] (evOut 0 (some b)):=λz=>by subst z; exact EvAt.one ev
  refine cpI (λσ G=>∃ (v3 v5 v6:Option V) (ys:List V),σ=[some (.ref A.p),some (.int (k:Int)),some (.int b),v3,some (.bl false),v5,v6]/\ys.length<=5/\(k=0->EvAt G ys (evOut 0 (some b)))/\StairsAt K G A g (Zcf g.kind S k b) (xs++ys) U/\SF A H G) (λD' _ k'=>?_) ?_
  . obtain ⟨dx1,g1⟩:=R1.ob
    refine ⟨_,rfl,A.p,_,dx1,_,_,rfl,g1,T.cl_Stairs,T.n_Stairs_kind,Zgl ..,rfl,_,rfl,Zbo (λc=>?_) (λc=>?_)⟩
    . have c':g.kind = "within" := by injection c
      refine ⟨_,rfl,_,_,rfl,rfl,_,rfl,_,rfl,_,_,rfl,⟨by omega,by omega,by omega,by omega⟩,ZiV (hi:=(k:Int) - 1) (n:=((k:Int) - 1 - -1).toNat) (λi σ G=>∃ (v3 v5 v6:Option V) (ys:List V),σ=[some (.ref A.p),some (.int (k:Int)),some (.int b),v3,some (.bl false),v5,v6]/\i<=k/\ys.length<=i+1/\(k=0->EvAt G ys (evOut 0 (some b)))/\StairsAt K G A g (dS S k b i) (xs++ys) U/\SF A H G) ⟨_,_,_,[.ref v],rfl,Nat.zero_le _,Nat.le_refl _,ev1,R1,f1⟩ ?_ ?_⟩
      . rintro i σ G hi ⟨v3,v5,v6,ys,rfl,hik,hy,hev,R2,f2⟩
        have hi':i<k:=by omega
        have en:((k:Int) - 1 - (i:Int))=((k - 1 - i:Nat):Int):=by omega
        rw [en]
        refine gN ?_
        try dsimp only
        have hlt:k - 1 - i<A.as.length:=by have:=(List.getElem?_eq_some_iff.mp hs).1; have:=R.lS; omega
        obtain ⟨a,c2,r,q1,q2,q3,B⟩:=R2.at_ hlt
        rw [Zlt hi'] at q3
        obtain ⟨ds,h3⟩:=B.ob
        obtain ⟨dx2,g2⟩:=R2.ob
        refine ⟨_,rfl,A.p,_,dx2,_,_,rfl,g2,T.cl_Stairs,T.n_Stairs_stores,ZbE ..,_,rfl,A.ss,_,_,_,rfl,rfl,SqL.of R2.ss,StairsAt.ix q1,a.sp,ds,_,rfl,h3,sf_no ..,_,rfl,a,c2,_,_,r.1,r.2,b,rfl,B,_,rfl,?_⟩
        by_cases m:b∈r.1
        . refine ifT (decide_eq_true m) ⟨_,rfl,A.p,dx2,_,rfl,g2,tf_no ..,_,rfl,_,rfl,A,g,_,_,U,k - 1 - i,b,r,rfl,R2,by rw [Zlt hi']; exact q3,m,by rw [length_append]; omega,λH3 t3 l3 v' et3 el3 nl3 ev3 R3 f3=>⟨t3,_,rfl,SqT.of et3,rfl,_,_,rfl,gN ⟨_,_,rfl,gN ⟨rfl,?_⟩⟩⟩⟩
          try dsimp only
          rw [← dS_go hi' q3] at R3
          refine ⟨_,rfl,_,rfl,ifF rfl ⟨_,rfl,gN ⟨_,_,_,ys++[.ref v'],rfl,by omega,by rw [length_append]; show ys.length+1<=_; omega,(λz=>absurd hi' (by omega)),by rw [← append_assoc]; exact R3,f2.trans f3⟩⟩⟩
        . refine ifF (decide_eq_false m) ⟨_,_,_,ys,rfl,by omega,by omega,(λz=>absurd hi' (by omega)),by rw [ZnG hi' q3 m]; exact R2,f2⟩
      . rintro σ G ⟨v3,v5,v6,ys,rfl,hik,hy,hev,R2,f2⟩
        have en:((k:Int) - 1 - -1).toNat=k:=by omega
        rw [en] at R2 hy
        exact k' _ _ ⟨_,_,_,ys,rfl,by omega,hev,by unfold Zcf; rw [if_pos c']; exact R2,f2⟩
    . have c':¬ g.kind = "within" := λz=>c (by rw [z])
      exact k' _ _ ⟨_,_,_,[.ref v],rfl,by show 1<=5; decide,ev1,by unfold Zcf; rw [if_neg c']; exact R1,f1⟩
  rintro _ G ⟨v3,v5,v6,ys,rfl,hy,hev,R2,f2⟩
  exact ⟨_,rfl,_,rfl,ifF rfl (q G ys hy hev R2 f2)⟩
end
def useAt (cfs:List Cf) (S:List RS) (k:Nat) (b:Int):List RS:=match cfs[k]?,S[k]? with
  | some c,some s=>S.set k (useR c s b)
  | _,_=>S
theorem Zlu {cfs:List Cf} {S:List RS} {k:Nat} {b:Int} {j:Nat} (h:j≠k):(useAt cfs S k b)[j]?=S[j]?:=by
  unfold useAt
  split
  . exact getElem?_set_ne (λz=>h z.symm)
  . rfl
theorem ZeQ {c:Cf} {s:RS} {b g:Int} (h:goneF c s b=some g):g∈s.1/\g % c.sh=b % c.sh/\goneP c.ru s.2 c.pl (Zk c.sh (b % c.sh) s.1) (some g):=by
  unfold goneF at h
  split at h
  . rename_i e
    have q:=Classical.choose_spec e
    rw [h] at q
    by_cases l:((Zk c.sh (b % c.sh) s.1).length:Int)<c.pl
    . exact absurd (q.1 l) (by simp)
    . obtain ⟨g',r,e',p,_⟩:=q.2 l
      cases e'
      have m:=mem_shelfS.mp (p.mem_iff.mp mem_cons_self)
      exact ⟨m.1,m.2,q⟩
  . cases h
theorem ZjS {kind:Str} {cfs:List Cf} {S:List RS} {k:Nat} {b:Int} {c:Cf} {s:RS} (hc:cfs[k]?=some c) (hs:S[k]?=some s) (hg:goneF c s b=none):downS kind cfs S k b=S.set k (inR s b):=by
  unfold downS
  rw [hc,hs]
  dsimp only
  rw [hg]
theorem ZjT {kind:Str} {cfs:List Cf} {S:List RS} {k:Nat} {b g:Int} {c:Cf} {s:RS} (hc:cfs[k]?=some c) (hs:S[k]?=some s) (hg:goneF c s b=some g):downS kind cfs S k b=(Zcf kind S k g).set k (inR (outR s g) b):=by
  unfold downS
  rw [hc,hs]
  dsimp only
  rw [hg]
theorem Zlv {c:Cf} {s:RS} {b:Int} (h:goneP c.ru s.2 c.pl (Zk c.sh (b % c.sh) s.1) none):((Zk c.sh (b % c.sh) s.1).length:Int)<c.pl:=by
  by_cases l:((Zk c.sh (b % c.sh) s.1).length:Int)<c.pl
  . exact l
  . obtain ⟨_,_,z,_⟩:=h.2 l
    cases z
theorem Zjo {c:Cf} {s:RS} {b g:Int} (hf:∀ t,((Zk c.sh t s.1).length:Int)<=c.pl) (h:g∈s.1) (e:g % c.sh=b % c.sh):((Zk c.sh (b % c.sh) (outR s g).1).length:Int)<c.pl:=by
  have m:g∈Zk c.sh (b % c.sh) s.1:=mem_shelfS.mpr ⟨h,e⟩
  show ((Zk c.sh (b % c.sh) (s.1.erase g)).length:Int)<c.pl
  rw [ZaF,length_erase_of_mem m]
  have:=length_pos_of_mem m
  have:=hf (b % c.sh)
  omega
section
variable {P:Program} {w:World} {K:W.Frag} {mg:Str->Option Value} {base:Heap}
def Zlw (K:W.Frag):Sp:=λvs H Q _=>∃ (A:TA) (g:Pln) (S:List RS) (xs:List V) (U:List Int) (k:Nat) (b:Int),vs=[.ref A.p,.int (k:Int),.int b]/\StairsAt K H A g S xs U/\k=nearF S b/\0<=b/\b<=1000000/\b∈U/\xs.length<=100 /\
  ∀ H' ys,ys.length<=30->(A.as.length=1->EvAt H' ys (if k=0 then [] else evL g S b))->StairsAt K H' A g (ZcA g.kind g.cfs b k (useAt g.cfs S k b)) (xs++ys) U->(∀ s,(ZcA g.kind g.cfs b k (useAt g.cfs S k b))[0]?=some s->b∈s.1)->SF A H H'->Q .non H'
theorem ZcL {f:Addr} {fd:FuncData} (F:Fun K "fetch_down" "Stairs.fetch_down" ZB f fd) (T:Txt K mg) (M_Steps_use_in:MDef P w K mg base (clsOf K "Stairs") "use_in" 4 Zas (Zgn K)) (M_Steps_words:MDef P w K mg base (clsOf K "Stairs") "words" 4 ZaO (Zed K)) (M_Steps_leaver:MDef P w K mg base (clsOf K "Stairs") "leaver" 4 Zaa (ZhA K)) (M_Stairs_drive_out:MDef P w K mg base (clsOf K "Stairs") "drive_out" 6 ZV (Zir K)) (M_Steps_come_in:MDef P w K mg base (clsOf K "Stairs") "come_in" 6 Zae (Zee K)):FnOk P w K mg base CX0 7 f fd ZK (Zlw K):=by
  refine F.ok sc_Stairs_fetch_down (λvs H Q E h=>?_) (λcdv A outer st H vs Q E hr h=>?_)
  . obtain ⟨A,g,S,xs,U,k,b,rfl,_⟩:=h
    rfl
  obtain ⟨A,g,S,xs,U,k,b,rfl,R,hk,b0,b1,hU,hl,q⟩:=h
  have nd:=sc_Stairs_fetch_down.nd
  refine ⟨_,(Zh (ps_if (ZZ op_lt (pv 1) (Zo (K:=K) rfl (pv 0) rfl) (ZM _)) (Zi (Zv (Zl M_Steps_use_in hr.m T.cl_Stairs (pv 0) (pc (pv 1) (pc (pv 2) Ze))))) Zz)
      (Zh (pst 3 nd (Zl M_Steps_words hr.m T.cl_Stairs (pv 0) (pc (pv 1) (pc (pv 2) Ze))))
      (Zi (Zfl PassesOwn.never rfl (Zha rfl T.z_range (pc (pe_op ZdH (pv 1) Zj) (pc (pe_un Zgz Zj) (pc (pe_un Zgz Zj) Ze)))) (pgn 4 nd) (Zh (pst 5 nd (Zl M_Steps_leaver hr.m T.cl_Stairs (pv 0) (pc (pv 4) (pc (pv 2) Ze))))
      (Zh (ps_if (Zgx (ZhK (pv 5))) (Zi (Zv (Zl M_Stairs_drive_out hr.m T.cl_Stairs (pv 0) (pc (pv 4) (pc (pv 5) Ze))))) Zz)
      (Zi (Zv (Zl M_Steps_come_in hr.m T.cl_Stairs (pv 0) (pc (pv 4) (pc (pv 2) (pc (pv 3) Ze)))))))))))),?_⟩
  have hkl:k<=A.as.length:=by rw [hk,← R.lS]; exact Zgs S b
  have l4:=R.l4
  refine cpI (λσ G=>σ=[some (.ref A.p),some (.int (k:Int)),some (.int b),none,none,none]/\StairsAt K G A g (useAt g.cfs S k b) xs U/\SF A H G) (λD' _ k'=>?_) ?_
  . obtain ⟨dx,h1⟩:=R.ob
    refine ⟨_,rfl,_,rfl,A.p,_,dx,_,_,rfl,h1,T.cl_Stairs,T.n_Stairs_last,ZcU ..,_,_,rfl,rfl,_,rfl,?_⟩
    by_cases c:k<A.as.length
    . obtain ⟨a,cc,s,e1,e2,e3,B⟩:=R.at_ c
      have hb:b∈s.1:=by
        obtain ⟨s',q1,q2⟩:=ZdE (S:=S) (b:=b) (by rw [← hk,R.lS]; exact c)
        rw [← hk,e3] at q1; cases q1
        exact q2
      refine ifT (decide_eq_true (by omega)) ⟨_,rfl,A.p,dx,_,rfl,h1,tf_no ..,_,rfl,_,rfl,A,g,S,xs,U,k,b,cc,s,rfl,R,e2,e3,hb,λH1 R1 f1=>k' _ _ ⟨rfl,?_,f1⟩⟩
      unfold useAt
      rw [e2,e3]
      exact R1
    . refine ifF (decide_eq_false (by omega)) (k' _ _ ⟨rfl,?_,SF.of (Same.refl _)⟩)
      have e:S[k]?=none:=getElem?_eq_none (by rw [R.lS]; omega)
      unfold useAt
      rw [e]
      cases g.cfs[k]? <;> exact R
  rintro _ G ⟨rfl,R0,f0⟩
  have nb:∀ j,j<k->∀ s,(useAt g.cfs S k b)[j]?=some s->b∉s.1:=λj hj s hs=>by
    rw [Zlu (by omega)] at hs
    exact Zgr (by rw [← hk]; exact hj) hs
  have hb0:∀ s,(useAt g.cfs S k b)[k]?=some s->b∈s.1:=λs hs=>by
    have c:k<A.as.length:=by rw [← R0.lS]; exact (List.getElem?_eq_some_iff.mp hs).1
    obtain ⟨a,cc,r,e1,e2,e3,B⟩:=R.at_ c
    have hb:b∈r.1:=by
      obtain ⟨s',q1,q2⟩:=ZdE (S:=S) (b:=b) (by rw [← hk,R.lS]; exact c)
      rw [← hk,e3] at q1; cases q1
      exact q2
    unfold useAt at hs
    rw [e2,e3] at hs
    dsimp only at hs
    rw [getElem?_set_self (by rw [R.lS]; exact c)] at hs
    cases hs
    exact (ZeK hb B.room.nd).mpr hb
  have e00:A.as.length=1->k=1->useAt g.cfs S k b=S:=λz1 z2=>by
    have e:S[k]?=none:=getElem?_eq_none (by rw [R.lS]; omega)
    unfold useAt
    rw [e]
    cases g.cfs[k]? <;> rfl
  generalize useAt g.cfs S k b=S0 at *
  obtain ⟨dx,h1⟩:=R0.ob
  refine hide λu1 e1=>?_
  refine ⟨_,rfl,A.p,dx,_,rfl,h1,tf_no ..,_,rfl,_,rfl,A,g,S0,xs,U,k,b,rfl,R0,hkl,hb0,b0,b1,λlw H1 hlw s1 ew=>gN ?_⟩
  subst e1
  try dsimp only
  have nm:¬ MutL A lw:=λz=>R0.mex lw z hlw
  have R1:=R0.same s1
  refine ⟨_,rfl,_,_,rfl,rfl,_,rfl,_,rfl,_,_,rfl,⟨by omega,by omega,by omega,by omega⟩,ZiV (hi:=(k:Int) - 1) (n:=((k:Int) - 1 - -1).toNat) (λi σ G'=>∃ (v4 v5:Option V) (S':List RS) (ys:List V),σ=[some (.ref A.p),some (.int (k:Int)),some (.int b),some (.ref lw),v4,v5]/\i<=k/\ys.length<=6 * i/\(A.as.length=1->EvAt G' ys (if i=0 then [] else evL g S b))/\(i=0->S'=S0)/\StairsAt K G' A g S' (xs++ys) U/\SF A H G'/\ZcA g.kind g.cfs b (k - i) S'=ZcA g.kind g.cfs b k S0/\(∀ j,j<k - i->∀ s,S'[j]?=some s->b∉s.1)/\(∀ s,S'[k - i]?=some s->b∈s.1)/\G' lw=some (.lst (Zce g.size)))
    ⟨_,_,S0,[],rfl,Nat.zero_le _,Nat.zero_le _,(λ_=>EvAt.nil),(λ_=>rfl),by rw [append_nil]; exact R1,f0.trans (SF.of s1),rfl,nb,hb0,ew⟩ ?_ ?_⟩
  . rintro i σ G' hi ⟨v4,v5,S',ys,rfl,hik,hy,hev,hS0,R2,f2,ed,nb2,hb2,ew2⟩
    have hi':i<k:=by omega
    have en:((k:Int) - 1 - (i:Int))=((k - 1 - i:Nat):Int):=by omega
    rw [en]
    refine gN ?_
    try dsimp only
    have hlt:k - 1 - i<A.as.length:=by omega
    obtain ⟨a,cc,s,q1,q2,q3,B⟩:=R2.at_ hlt
    have hbn:b∉s.1:=nb2 (k - 1 - i) (by omega) s q3
    obtain ⟨dx2,g2⟩:=R2.ob
    have edn:k - i=(k - 1 - i)+1:=by omega
    rw [edn] at ed
    refine hide λu1 e1=>?_
    refine ⟨_,rfl,A.p,dx2,_,rfl,g2,tf_no ..,_,rfl,_,rfl,A,g,S',xs++ys,U,k - 1 - i,b,cc,s,rfl,R2,q2,q3,λH3 s3 gp=>gN ?_⟩
    subst e1
    try dsimp only
    have R3:=R2.same s3
    have ew3:=s3 _ _ ew2
    obtain ⟨dx3,g3⟩:=R3.ob
    refine cpI (λσ' G3=>∃ (S1:List RS) (zs:List V) (r:RS),σ'=[some (.ref A.p),some (.int (k:Int)),some (.int b),some (.ref lw),some (.int ((k - 1 - i:Nat):Int)),some (optV (goneF cc s b))]/\zs.length<=5/\(k - 1 - i=0->EvAt G3 zs (evOut 0 (goneF cc s b)))/\StairsAt K G3 A g S1 (xs++ys++zs) U/\SF A H3 G3/\S1[k - 1 - i]?=some r/\b∉r.1/\((Zk cc.sh (b % cc.sh) r.1).length:Int)<cc.pl/\S1.set (k - 1 - i) (inR r b)=downS g.kind g.cfs S' (k - 1 - i) b/\∀ j,j<k - 1 - i->∀ s,S1[j]?=some s->b∉s.1) (λD' _ k'=>?_) ?_
    . cases eg:goneF cc s b with
      | none =>
        rw [eg] at gp k'
        refine ⟨_,rfl,_,rfl,ifF rfl (k' _ _ ⟨S',[],s,rfl,Nat.zero_le _,(λ_=>EvAt.nil),by rw [append_nil]; exact R3,SF.of (Same.refl _),q3,hbn,Zlv gp,(ZjS q2 q3 eg).symm,λj hj=>nb2 j (by omega)⟩)⟩
      | some go =>
        rw [eg] at gp k'
        obtain ⟨m1,m2,m3⟩:=ZeQ eg
        refine ⟨_,rfl,_,rfl,ifT rfl ⟨_,rfl,A.p,dx3,_,rfl,g3,tf_no ..,_,rfl,_,rfl,A,g,S',xs++ys,U,k - 1 - i,go,s,rfl,R3,q3,m1,by rw [length_append]; omega,λH4 zs hz hev4 R4 f4=>k' _ _ ⟨_,zs,outR s go,rfl,hz,hev4,R4,f4,Ziq q3,λm=>hbn (mem_of_mem_erase m),Zjo (R2.full _ cc s q2 q3) m1 m2,(ZjT q2 q3 eg).symm,λj hj r hr=>?_⟩⟩⟩
        obtain ⟨s',z1,z2⟩:=ZjR hr
        exact λm=>nb2 j (by omega) s' z1 (z2 b m)
    rintro _ G3 ⟨S1,zs,r,rfl,hz,hez,R4,f4,q4,hbr,hsh,eS,nb3⟩
    have ew4:=f4 _ _ ew3 (R3.nfoot ew3 nm)
    obtain ⟨dx4,g4⟩:=R4.ob
    refine ⟨_,rfl,A.p,dx4,_,rfl,g4,tf_no ..,_,rfl,_,rfl,_,rfl,A,g,S1,xs++ys++zs,U,k - 1 - i,b,lw,cc,r,rfl,R4,q2,q4,hbr,hU,hsh,ew4,nm,by rw [length_append,length_append]; omega,λH5 v evv R5 f5=>?_⟩
    have ew5:=f5 _ _ ew4 (R4.nfoot ew4 nm)
    refine ⟨_,_,S1.set (k - 1 - i) (inR r b),ys++zs++[.ref v],rfl,by omega,by rw [length_append,length_append]; show ys.length+zs.length+1<=_; omega,(λz1=>?_),(λz=>absurd z (by omega)),by rw [← append_assoc,← append_assoc]; exact R5,((f2.trans (SF.of s3)).trans f4).trans f5,?_,λj hj s' hs'=>?_,λs' hs'=>?_,ew5⟩
    . have i0:i=0:=by omega
      have k1:k - 1 - i=0:=by omega
      have h0:=hev z1
      rw [if_pos i0] at h0
      rw [hS0 i0,e00 z1 (by omega),k1] at q3
      rw [k1] at q2 evv
      rw [if_neg (by omega),Zjn q2 q3]
      have h1:=(h0.sf R2 (((SF.of s3).trans f4).trans f5)).app ((hez k1).sf R4 f5)
      exact h1.app (EvAt.one evv)
    . rw [eS,show k - (i+1)=k - 1 - i by omega]
      exact ed
    . rw [getElem?_set_ne (by omega)] at hs'
      exact nb3 j (by omega) s' hs'
    . rw [show k - (i+1)=k - 1 - i by omega,getElem?_set_self (List.getElem?_eq_some_iff.mp q4).1] at hs'
      cases hs'
      exact mem_append_right _ (List.mem_singleton.mpr rfl)
  . rintro σ G' ⟨v4,v5,S',ys,rfl,hik,hy,hev,hS0,R2,f2,ed,nb2,hb2,ew2⟩
    have en:((k:Int) - 1 - -1).toNat=k:=by omega
    rw [en,Nat.sub_self] at ed hb2
    rw [en] at hy hev
    have ed:S'=ZcA g.kind g.cfs b k S0:=ed
    subst ed
    exact q G' ys (by omega) hev R2 hb2 f2
def Zgt (K:W.Frag):Sp:=λvs H Q _=>∃ (A:TA) (g:Pln) (S:List RS) (xs:List V) (U:List Int) (k:Nat) (b:Int) (lw:Addr) (c:Cf) (s:RS),vs=[.ref A.p,.int (k:Int),.int b,.ref lw,.bl false]/\StairsAt K H A g S xs U/\g.cfs[k]?=some c/\S[k]?=some s/\b∉s.1/\b∈U/\((Zk c.sh (b % c.sh) s.1).length:Int)<c.pl/\H lw=some (.lst (Zce g.size))/\¬ MutL A lw/\xs.length<=500 /\
  ∀ H' v,H' v=some (.tup [.str "in",.int (k:Int),.int b])->StairsAt K H' A g (S.set k (inR s b)) (xs++[.ref v]) U->SF A H H'->Q .non H'
theorem ZcM {f:Addr} {fd:FuncData} (F:Fun K "come_apart" "Stairs.come_apart" ZC f fd) (T:Txt K mg) (M_Steps_come_in:MDef P w K mg base (clsOf K "Stairs") "come_in" 6 Zae (Zee K)) (M_Stairs_change:MDef P w K mg base (clsOf K "Stairs") "change" 1 Zbl Zcb):FnOk P w K mg base CX0 7 f fd ZD (Zgt K):=by
  refine F.ok sc_Stairs_come_apart (λvs H Q E h=>?_) (λcdv A outer st H vs Q E hr h=>?_)
  . obtain ⟨A,g,S,xs,U,k,b,lw,c,s,rfl,_⟩:=h
    rfl
  obtain ⟨A,g,S,xs,U,k,b,lw,c,s,rfl,R,hc,hs,hb,hU,hsh,hlw,nm,hl,q⟩:=h
  have nd:=sc_Stairs_come_apart.nd
  refine ⟨_,(Zh (Zv (Zl M_Steps_come_in hr.m T.cl_Stairs (pv 0) (pc (pv 1) (pc (pv 2) (pc (pv 3) Ze)))))
      (Zi (ps_if (ZbA (pv 4)) (Zi (Zv (Zl M_Stairs_change hr.m T.cl_Stairs (pv 0) (pc (pv 1) (pc (pv 2) Ze))))) Zz))),?_⟩
  obtain ⟨dx,h1⟩:=R.ob
  exact ⟨_,rfl,A.p,dx,_,rfl,h1,tf_no ..,_,rfl,_,rfl,_,rfl,A,g,S,xs,U,k,b,lw,c,s,rfl,R,hc,hs,hb,hU,hsh,hlw,nm,hl,λH' v ev R1 f1=>⟨_,rfl,_,rfl,ifF rfl (q H' v ev R1 f1)⟩⟩
def DisjF (k:Nat) (S:List RS):Prop:=∀ (i j:Nat) (s t:RS),k<=i->k<=j->S[i]?=some s->S[j]?=some t->i≠j->∀ x∈s.1,x∉t.1
def Zjp (K:W.Frag) (n:Nat):Sp:=λvs H Q _=>∃ (A:TA) (g:Pln) (S:List RS) (xs:List V) (U:List Int) (k:Nat) (b:Int) (lw:Addr),vs=[.ref A.p,.int (k:Int),.int b,.ref lw,.bl false]/\StairsAt K H A g S xs U/\k+n=A.as.length/\(∀ j s,k<=j->S[j]?=some s->b∉s.1)/\DisjF k S/\b∈U/\H lw=some (.lst (Zce g.size))/\¬ MutL A lw/\xs.length+2 * n<=400 /\
  ∀ H' ys,ys.length<=2 * n->(n=0->ys=[])->(A.as.length=1->n=1->EvAt H' ys (evL g S b))->StairsAt K H' A g (pushS g.cfs n S k b) (xs++ys) U->SF A H H'->Q .non H'
theorem ZcO {n:Nat} {sp0:Sp} (hsp:∀ m,n=m+1->sp0=Zjp K m) {f:Addr} {fd:FuncData} (F:Fun K "push" "Stairs.push" Zai f fd) (T:Txt K mg) (M_Steps_put:MDef P w K mg base (clsOf K "Stairs") "put" 1 ZbY Zcb) (M_Steps_leaver:MDef P w K mg base (clsOf K "Stairs") "leaver" 4 Zaa (ZhA K)) (M_Stairs_come_apart:MDef P w K mg base (clsOf K "Stairs") "come_apart" 7 ZD (Zgt K)) (M_Steps_go_out:MDef P w K mg base (clsOf K "Stairs") "go_out" 5 ZH (ZdD K)) (M_Stairs_push:MDef P w K mg base (clsOf K "Stairs") "push" (n+7) ZW sp0):FnOk P w K mg base CX0 (n+8) f fd ZW (Zjp K n):=by
  refine F.ok sc_Stairs_push (λvs H Q E h=>?_) (λcdv A outer st H vs Q E hr h=>?_)
  . obtain ⟨A,g,S,xs,U,k,b,lw,rfl,_⟩:=h
    rfl
  obtain ⟨A,g,S,xs,U,k,b,lw,rfl,R,hk,hb,dj,hU,hlw,nm,hl,q⟩:=h
  have nd:=sc_Stairs_push.nd
  refine ⟨_,(Zh (ps_if (ZZ op_eq (pv 1) (Zo (K:=K) rfl (pv 0) rfl) (ZM _)) (Zh (ps_if (ZbA (pv 4)) (Zi (Zv (Zl M_Steps_put hr.m T.cl_Stairs (pv 0) (pc (pv 1) (pc (pv 2) (pc (pv 3) Ze)))))) Zz)
      (Zi ZjZ)) Zz)
      (Zh (pst 5 nd (Zl M_Steps_leaver hr.m T.cl_Stairs (pv 0) (pc (pv 1) (pc (pv 2) Ze))))
      (Zh (ps_if (Zgx (Zmz (pv 5))) (Zh (Zv (Zl M_Stairs_come_apart hr.m T.cl_Stairs (pv 0) (pc (pv 1) (pc (pv 2) (pc (pv 3) (pc (pv 4) Ze))))))
      (Zi ZjZ)) Zz)
      (Zh (ZbQ (Zl M_Steps_go_out hr.m T.cl_Stairs (pv 0) (pc (pv 1) (pc (pv 5) Ze))) (Zaz (K:=K) (n:=2) rfl rfl (Zp (pgn 6 nd) (Zp (pgn 7 nd) Zay))))
      (Zh (Zv (Zl M_Stairs_come_apart hr.m T.cl_Stairs (pv 0) (pc (pv 1) (pc (pv 2) (pc (pv 3) (pc (pv 4) Ze))))))
      (Zi (Zv (Zl M_Stairs_push hr.m T.cl_Stairs (pv 0) (pc (pe_op Zaw (pv 1) Zj) (pc (pv 5) (pc (pv 6) (pc (pv 7) Ze)))))))))))),?_⟩
  obtain ⟨dx,h1⟩:=R.ob
  cases n with
  | zero =>
    refine ⟨_,rfl,_,rfl,A.p,_,dx,_,_,rfl,h1,T.cl_Stairs,T.n_Stairs_last,ZcU ..,rfl,_,rfl,ZeF (λe=>?_) (λe=>absurd (show (k:Int)=(A.as.length:Int) by omega) e)⟩
    exact ⟨_,rfl,_,rfl,ifF rfl (q H [] (Nat.le_refl _) (λ_=>rfl) (λ_ z=>absurd z (by decide)) (by rw [append_nil]; exact R) (SF.of (Same.refl _)))⟩
  | succ n =>
    have hkl:k<A.as.length:=by omega
    obtain ⟨a,c,s,e1,e2,e3,B⟩:=R.at_ hkl
    refine ⟨_,rfl,_,rfl,A.p,_,dx,_,_,rfl,h1,T.cl_Stairs,T.n_Stairs_last,ZcU ..,rfl,_,rfl,ZeF (λe=>absurd e (by omega)) (λe=>?_)⟩
    dsimp only [tNext]
    refine hide λu1 eu=>?_
    refine ⟨_,rfl,A.p,dx,_,rfl,h1,tf_no ..,_,rfl,_,rfl,A,g,S,xs,U,k,b,c,s,rfl,R,e2,e3,λH1 s1 gp=>gN ?_⟩
    subst eu
    try dsimp only
    have R1:=R.same s1
    have hlw1:=s1 _ _ hlw
    obtain ⟨dx1,h2⟩:=R1.ob
    have hbs:=hb k s (Nat.le_refl _) e3
    cases eg:goneF c s b with
    | none =>
      rw [eg] at gp
      refine ⟨_,rfl,_,rfl,ifT rfl ⟨_,rfl,A.p,dx1,_,rfl,h2,tf_no ..,_,rfl,_,rfl,_,rfl,_,rfl,A,g,S,xs,U,k,b,lw,c,s,rfl,R1,e2,e3,hbs,hU,Zlv gp,hlw1,nm,by omega,λH2 v ev R2 f2=>q H2 [.ref v] (by show 1<=_; omega) (λz=>absurd z (by omega)) (λz1 z2=>?_) ?_ ((SF.of s1).trans f2)⟩⟩
      . have k0:k=0:=by omega
        subst k0
        rw [Zjn e2 e3,eg]
        exact EvAt.one ev
      . unfold pushS
        rw [e2,e3]
        dsimp only
        rw [eg]
        exact R2
    | some go =>
      rw [eg] at gp
      obtain ⟨m1,m2,m3⟩:=ZeQ eg
      refine ⟨_,rfl,_,rfl,ifF rfl ?_⟩
      dsimp only [tNext]
      refine hide λu1 eu=>?_
      refine ⟨_,rfl,A.p,dx1,_,rfl,h2,tf_no ..,_,rfl,_,rfl,A,g,S,xs,U,k,go,s,rfl,R1,e3,m1,by omega,λH2 t l v et el nl ev R2 f2=>⟨t,_,rfl,SqT.of et,rfl,_,_,rfl,gN ⟨_,_,rfl,gN ⟨rfl,?_⟩⟩⟩⟩
      subst eu
      try dsimp only
      have hlw2:=f2 _ _ hlw1 (R1.nfoot hlw1 nm)
      obtain ⟨dx2,h3⟩:=R2.ob
      have e3':(S.set k (outR s go))[k]?=some (outR s go):=getElem?_set_self (List.getElem?_eq_some_iff.mp e3).1
      refine ⟨_,rfl,A.p,dx2,_,rfl,h3,tf_no ..,_,rfl,_,rfl,_,rfl,_,rfl,A,g,_,_,U,k,b,lw,c,outR s go,rfl,R2,e2,e3',λm=>hbs (mem_of_mem_erase m),hU,Zjo (R.full k c s e2 e3) m1 m2,hlw2,nm,by rw [length_append]; show xs.length+1<=500; omega,λH3 v' ev' R3 f3=>?_⟩
      rw [List.set_set] at R3
      have el3:=f3 _ _ el (R2.nfoot el nl)
      obtain ⟨dx3,h4⟩:=R3.ob
      have e0:=hsp n rfl
      subst e0
      have eS:pushS g.cfs (n+1) S k b=pushS g.cfs n (S.set k (inR (outR s go) b)) (k+1) go:=by
        rw [pushS,e2,e3]
        dsimp only
        rw [eg]
      refine ⟨_,rfl,A.p,dx3,_,rfl,h4,tf_no ..,_,rfl,_,_,rfl,rfl,_,rfl,_,rfl,_,rfl,A,g,_,_,U,k+1,go,l,rfl,R3,by omega,λj r hj hr=>?_,λi j r r' hi hj hr hr' ne x hx=>?_,R.uni s (mem_of_getElem? e3) go m1,el3,nl,by rw [length_append,length_append]; show xs.length+1+1+2 * n<=400; omega,λH4 ys hy hy0 hye R4 f4=>q H4 ([.ref v]++[.ref v']++ys) (by rw [length_append,length_append]; show 1+1+ys.length<=_; omega) (λz=>absurd z (by omega)) (λz1 z2=>?_) ?_ ((((SF.of s1).trans f2).trans f3).trans f4)⟩
      . rw [getElem?_set_ne (by omega)] at hr
        exact dj k j s r (Nat.le_refl _) (by omega) e3 hr (by omega) go m1
      . rw [getElem?_set_ne (by omega)] at hr hr'
        exact dj i j r r' (by omega) (by omega) hr hr' ne x hx
      . have k0:k=0:=by omega
        subst k0
        have y0:ys=[]:=hy0 (by omega)
        subst y0
        rw [Zjn e2 e3,eg,append_nil]
        exact ((EvAt.one (e:=[.str "out",.int ((0:Nat):Int),.int go]) ev).sf R2 (f3.trans f4)).app ((EvAt.one (e:=[.str "in",.int ((0:Nat):Int),.int b]) ev').sf R3 f4)
      . rw [eS,← append_assoc,← append_assoc]
        exact R4
theorem ZcB {f:Addr} {fd:FuncData} (F:Fun K "push" "Stairs.push" Zai f fd) (bi:Binds K fd ZW []) (m:Meth K (clsOf K "Stairs") "push" f) (T:Txt K mg) (M_Steps_put:MDef P w K mg base (clsOf K "Stairs") "put" 1 ZbY Zcb) (M_Steps_leaver:MDef P w K mg base (clsOf K "Stairs") "leaver" 4 Zaa (ZhA K)) (M_Stairs_come_apart:MDef P w K mg base (clsOf K "Stairs") "come_apart" 7 ZD (Zgt K)) (M_Steps_go_out:MDef P w K mg base (clsOf K "Stairs") "go_out" 5 ZH (ZdD K)):∀ n,MDef P w K mg base (clsOf K "Stairs") "push" (n+8) ZW (Zjp K n)
  | 0=>by
    have M0:MDef P w K mg base (clsOf K "Stairs") "push" 7 ZW Zcb:=⟨f,fd,⟨λ_ _ _ _ h=>h.elim,λ_ _ _ _ _ _ _ _ _ _ _ _ _ h=>h.elim⟩,m,bi⟩
    exact ⟨f,fd,ZcO (n:=0) (λ_ h=>by omega) F T M_Steps_put M_Steps_leaver M_Stairs_come_apart M_Steps_go_out M0,m,bi⟩
  | n+1=>⟨f,fd,ZcO (n:=n+1) (λj h=>by cases (show j=n by omega); rfl) F T M_Steps_put M_Steps_leaver M_Stairs_come_apart M_Steps_go_out (ZcB F bi m T M_Steps_put M_Steps_leaver M_Stairs_come_apart M_Steps_go_out n),m,bi⟩
end
def Disj (S:List RS):Prop:=DisjF 0 S
def NDs (S:List RS):Prop:=∀ s∈S,s.1.Nodup
theorem Zef {S:List RS} {k:Nat} {r:RS} (d:Disj S) (h:∀ (j:Nat) (t:RS),j≠k->S[j]?=some t->(∀ x∈r.1,x∉t.1)):Disj (S.set k r):=λi j s t _ _ hs ht ne x hx hx'=>by
  by_cases ei:i=k
  . subst ei
    have hl:i<S.length:=by have:=(List.getElem?_eq_some_iff.mp hs).1; rwa [length_set] at this
    rw [getElem?_set_self hl] at hs
    cases hs
    rw [getElem?_set_ne ne] at ht
    exact h j t (λz=>ne z.symm) ht x hx hx'
  . rw [getElem?_set_ne (λz=>ei z.symm)] at hs
    by_cases ej:j=k
    . subst ej
      have hl:j<S.length:=by have:=(List.getElem?_eq_some_iff.mp ht).1; rwa [length_set] at this
      rw [getElem?_set_self hl] at ht
      cases ht
      exact h i s ei hs x hx' hx
    . rw [getElem?_set_ne (λz=>ej z.symm)] at ht
      exact d i j s t (Nat.zero_le _) (Nat.zero_le _) hs ht ne x hx hx'
theorem Zlx {S:List RS} {k:Nat} {r:RS} (d:NDs S) (h:r.1.Nodup):NDs (S.set k r):=λs hs=>by
  rcases List.mem_or_eq_of_mem_set hs with hs | rfl
  . exact d s hs
  . exact h
theorem nd_in {s:RS} {b:Int} (h:s.1.Nodup) (hb:b∉s.1):(inR s b).1.Nodup:=Zcy h hb
theorem ZdG {cfs:List Cf}:∀ (n:Nat) (S:List RS) (k:Nat) (b:Int),Disj S->NDs S->(∀ s∈S,b∉s.1)->Disj (pushS cfs n S k b)
  | 0,S,k,b,d,_,_=>d
  | n+1,S,k,b,d,nds,hb=>by
    unfold pushS
    split
    . rename_i c s hc hs
      have hbs:=hb s (mem_of_getElem? hs)
      have ns:=nds s (mem_of_getElem? hs)
      have dj:∀ (j:Nat) (t:RS),j≠k->S[j]?=some t->∀ x∈s.1,x∉t.1:=λj t ne ht x hx=>d k j s t (Nat.zero_le _) (Nat.zero_le _) hs ht (λz=>ne z.symm) x hx
      split
      . refine Zef d λj t ne ht x hx=>?_
        rcases List.mem_append.mp hx with hx | hx
        . exact dj j t ne ht x hx
        . rw [List.mem_singleton.mp hx]; exact hb t (mem_of_getElem? ht)
      . rename_i g hg
        obtain ⟨m1,_⟩:=ZeQ hg
        have dS':Disj (S.set k (inR (outR s g) b)):=Zef d λj t ne ht x hx=>by
          rcases List.mem_append.mp hx with hx | hx
          . exact dj j t ne ht x (mem_of_mem_erase hx)
          . rw [List.mem_singleton.mp hx]; exact hb t (mem_of_getElem? ht)
        refine ZdG n _ (k+1) g dS' (Zlx nds (nd_in (ns.erase g) λm=>hbs (mem_of_mem_erase m))) λr hr=>?_
        obtain ⟨j,hj⟩:=getElem?_of_mem hr
        by_cases e:j=k
        . subst e
          rw [getElem?_set_self (List.getElem?_eq_some_iff.mp hs).1] at hj
          cases hj
          intro m
          rcases List.mem_append.mp m with m | m
          . exact ((List.Nodup.mem_erase_iff ns).mp m).1 rfl
          . exact hbs (by rw [← List.mem_singleton.mp m]; exact m1)
        . rw [getElem?_set_ne (λz=>e z.symm)] at hj
          exact dj j r e hj g m1
    . exact d
theorem Zjq {cfs:List Cf}:∀ (n:Nat) (S:List RS) (k:Nat) (b:Int) (j:Nat),j<k->(pushS cfs n S k b)[j]?=S[j]?
  | 0,_,_,_,_,_=>rfl
  | n+1,S,k,b,j,hj=>by
    unfold pushS
    split
    . split
      . rw [getElem?_set_ne (by omega)]
      . rw [Zjq n _ _ _ j (by omega),getElem?_set_ne (by omega)]
    . rfl
theorem Zmt {cfs:List Cf} {n:Nat} {S:List RS} {k:Nat} {b:Int} {c:Cf} {s:RS} (hc:cfs[k]?=some c) (hs:S[k]?=some s):∃ r,(pushS cfs (n+1) S k b)[k]?=some r/\b∈r.1:=by
  unfold pushS
  rw [hc,hs]
  dsimp only
  have hl:=(List.getElem?_eq_some_iff.mp hs).1
  split
  . exact ⟨_,getElem?_set_self hl,mem_append_right _ (List.mem_singleton.mpr rfl)⟩
  . rw [Zjq n _ _ _ k (Nat.lt_succ_self k),getElem?_set_self hl]
    exact ⟨_,rfl,mem_append_right _ (List.mem_singleton.mpr rfl)⟩
noncomputable def Zcv (cfs:List Cf) (S:List RS) (k:Nat) (b:Int):List RS :=
  if k=S.length then pushS cfs S.length S 0 b else (match cfs[k]?,S[k]? with
    | some c,some s=>if k=0 then S.set 0 (useR c s b) else pushS cfs S.length (S.set k (outR s b)) 0 b
    | _,_=>S)
theorem ZhC {S:List RS} {b:Int} (h:nearF S b=S.length):∀ s∈S,b∉s.1:=λs hs=>by
  obtain ⟨j,hj⟩:=getElem?_of_mem hs
  exact Zgr (by rw [h]; exact (List.getElem?_eq_some_iff.mp hj).1) hj
theorem ZhD {S:List RS} {b:Int} {k:Nat} {s:RS} (d:Disj S) (nds:NDs S) (hs:S[k]?=some s) (hb:b∈s.1):Disj (S.set k (outR s b))/\NDs (S.set k (outR s b))/\∀ r∈S.set k (outR s b),b∉r.1:=by
  have dj:∀ (j:Nat) (t:RS),j≠k->S[j]?=some t->∀ x∈s.1,x∉t.1:=λj t ne ht x hx=>d k j s t (Nat.zero_le _) (Nat.zero_le _) hs ht (λz=>ne z.symm) x hx
  have ns:=nds s (mem_of_getElem? hs)
  refine ⟨Zef d λj t ne ht x hx=>dj j t ne ht x (mem_of_mem_erase hx),Zlx nds (ns.erase b),λr hr=>?_⟩
  obtain ⟨j,hj⟩:=getElem?_of_mem hr
  by_cases e:j=k
  . subst e
    rw [getElem?_set_self (List.getElem?_eq_some_iff.mp hs).1] at hj
    cases hj
    exact λm=>((List.Nodup.mem_erase_iff ns).mp m).1 rfl
  . rw [getElem?_set_ne (λz=>e z.symm)] at hj
    exact dj j r e hj b hb
theorem Zis {cfs:List Cf} {S:List RS} {b:Int} (d:Disj S) (nds:NDs S):Disj (Zcv cfs S (nearF S b) b):=by
  unfold Zcv
  split
  . rename_i e
    exact ZdG _ _ _ _ d nds (ZhC e)
  . rename_i e
    split
    . rename_i c s hc hs
      obtain ⟨s',q1,q2⟩:=ZdE (S:=S) (b:=b) (by have:=Zgs S b; omega)
      rw [hs] at q1; cases q1
      split
      . rename_i e0
        refine Zef d λj t ne ht x hx=>?_
        rw [e0] at hs
        exact d 0 j s t (Nat.zero_le _) (Nat.zero_le _) hs ht (λz=>ne z.symm) x ((ZeK q2 (nds s (mem_of_getElem? hs))).mp hx)
      . obtain ⟨d1,d2,d3⟩:=ZhD d nds hs q2
        exact ZdG _ _ _ _ d1 d2 d3
    . exact d
section
variable {K:W.Frag} {H:Hp} {A:TA} {g:Pln} {S:List RS} {xs:List V} {U:List Int}
theorem StairsAt.nds (T:StairsAt K H A g S xs U):NDs S:=λs hs=>by
  obtain ⟨k,hk⟩:=getElem?_of_mem hs
  obtain ⟨a,c,s',h1,h2,h3,B⟩:=T.at_ (k:=k) (by rw [← T.lS]; exact (List.getElem?_eq_some_iff.mp hk).1)
  rw [hk] at h3; cases h3
  exact B.room.nd
end
section
variable {P:Program} {w:World} {K:W.Frag} {mg:Str->Option Value} {base:Heap}
def Zit (K:W.Frag):Sp:=λvs H Q _=>∃ (A:TA) (g:Pln) (S:List RS) (xs:List V) (U:List Int) (b:Int),vs=[.ref A.p,.int (nearF S b:Nat),.int b]/\StairsAt K H A g S xs U/\Disj S/\0<=b/\b<=1000000/\b∈U/\xs.length<=100/\1<=A.as.length /\
  ∀ H' ys,ys.length<=30->(A.as.length=1->EvAt H' ys (if nearF S b=0 then [] else evL g S b))->StairsAt K H' A g (Zcv g.cfs S (nearF S b) b) (xs++ys) U->(∀ s,(Zcv g.cfs S (nearF S b) b)[0]?=some s->b∈s.1)->SF A H H'->Q .non H'
theorem ZcC {f:Addr} {fd:FuncData} (F:Fun K "fetch_apart" "Stairs.fetch_apart" Zy f fd) (T:Txt K mg) (M_Steps_use_in:MDef P w K mg base (clsOf K "Stairs") "use_in" 4 Zas (Zgn K)) (M_Steps_words:MDef P w K mg base (clsOf K "Stairs") "words" 4 ZaO (Zed K)) (M_Steps_go_out:MDef P w K mg base (clsOf K "Stairs") "go_out" 5 ZH (ZdD K)) (M_Stairs_push':∀ n,MDef P w K mg base (clsOf K "Stairs") "push" (n+8) ZW (Zjp K n)):FnOk P w K mg base CX0 13 f fd ZG (Zit K):=by
  refine F.ok sc_Stairs_fetch_apart (λvs H Q E h=>?_) (λcdv A outer st H vs Q E hr h=>?_)
  . obtain ⟨A,g,S,xs,U,b,rfl,_⟩:=h
    rfl
  obtain ⟨A,g,S,xs,U,b,rfl,R,dj,b0,b1,hU,hl,l1,q⟩:=h
  have nd:=sc_Stairs_fetch_apart.nd
  have l4:=R.l4
  have M_Stairs_push:=M_Stairs_push' A.as.length
  refine ⟨_,(Zi (ps_if (ZZ op_eq (pv 1) Zj (ZM _)) (Zi (Zv (Zl M_Steps_use_in hr.m T.cl_Stairs (pv 0) (pc (pv 1) (pc (pv 2) Ze))))) (Zi (ps_if (ZZ op_eq (pv 1) (Zo (K:=K) rfl (pv 0) rfl) (ZM _)) (Zi (Zv (Zl M_Stairs_push hr.m T.cl_Stairs (pv 0) (pc Zj (pc (pv 2) (pc (Zl M_Steps_words hr.m T.cl_Stairs (pv 0) (pc (pv 1) (pc (pv 2) Ze))) (pc pe_bl Ze))))))) (Zh (ZbQ (Zl M_Steps_go_out hr.m T.cl_Stairs (pv 0) (pc (pv 1) (pc (pv 2) Ze))) (Zaz (K:=K) (n:=2) rfl rfl (Zp (pgn 3 nd) (Zp (pgn 4 nd) Zay))))
      (Zi (Zv (Zl M_Stairs_push hr.m T.cl_Stairs (pv 0) (pc Zj (pc (pv 2) (pc (pv 3) (pc (pv 4) Ze)))))))))))),?_⟩
  obtain ⟨dx,h1⟩:=R.ob
  have nle:=Zgs S b
  have lS:=R.lS
  generalize hk:nearF S b=k at *
  have fst:∀ {S':List RS},S'.length=A.as.length->∀ s,(pushS g.cfs A.as.length S' 0 b)[0]?=some s->b∈s.1:=λ{S'} hS s hs=>by
    obtain ⟨n,hn⟩:∃ n,A.as.length=n+1:=⟨A.as.length - 1,by omega⟩
    rw [hn] at hs
    have hc:g.cfs[0]?=some (g.cfs[0]'(by rw [R.lc]; omega)):=getElem?_eq_getElem _
    have hs0:S'[0]?=some (S'[0]'(by omega)):=getElem?_eq_getElem _
    obtain ⟨r,q1,q2⟩:=Zmt (n:=n) (b:=b) hc hs0
    rw [q1] at hs; cases hs
    exact q2
  refine ⟨_,rfl,rfl,_,rfl,ZeF (λe=>?_) (λe=>?_)⟩
  . have e0:k=0:=by omega
    subst e0
    obtain ⟨a,c,s,e1,e2,e3,B⟩:=R.at_ (k:=0) (by omega)
    have hb:b∈s.1:=by
      obtain ⟨s',q1,q2⟩:=ZdE (S:=S) (b:=b) (by rw [hk]; omega)
      rw [hk,e3] at q1; cases q1
      exact q2
    have eA:Zcv g.cfs S 0 b=S.set 0 (useR c s b):=by
      unfold Zcv
      rw [if_neg (by omega),e2,e3]
      dsimp only
      rw [if_pos rfl]
    refine ⟨_,rfl,A.p,dx,_,rfl,h1,tf_no ..,_,rfl,_,rfl,A,g,S,xs,U,0,b,c,s,rfl,R,e2,e3,hb,λH1 R1 f1=>q H1 [] (Nat.zero_le _) (λ_=>by rw [if_pos rfl]; exact EvAt.nil) (by rw [eA,append_nil]; exact R1) (λs' hs'=>?_) f1⟩
    rw [eA,getElem?_set_self (by omega)] at hs'
    cases hs'
    exact (ZeK hb B.room.nd).mpr hb
  . refine ⟨_,rfl,_,rfl,A.p,_,dx,_,_,rfl,h1,T.cl_Stairs,T.n_Stairs_last,ZcU ..,rfl,_,rfl,ZeF (λe'=>?_) (λe'=>?_)⟩
    . have ek:k=A.as.length:=by omega
      have no:∀ s,S[k]?=some s->b∈s.1:=λs hs=>by have:=(List.getElem?_eq_some_iff.mp hs).1; omega
      have nb:=ZhC (S:=S) (b:=b) (by omega)
      refine ⟨_,rfl,A.p,dx,_,rfl,h1,tf_no ..,_,rfl,_,rfl,A.p,dx,_,rfl,h1,tf_no ..,_,rfl,_,rfl,A,g,S,xs,U,k,b,rfl,R,by omega,no,b0,b1,λlw H1 hlw s1 ew=>?_⟩
      have R1:=R.same s1
      have eA:Zcv g.cfs S k b=pushS g.cfs A.as.length S 0 b:=by
        unfold Zcv
        rw [if_pos (by omega),lS]
      refine ⟨A,g,S,xs,U,0,b,lw,rfl,R1,by omega,λj s _ hs=>nb s (mem_of_getElem? hs),dj,hU,ew,λz=>R.mex lw z hlw,by omega,λH2 ys hy _ hye R2 f2=>q H2 ys (by omega) (λz=>by rw [if_neg (by omega)]; exact hye z z) (by rw [eA]; exact R2) (λs hs=>?_) ((SF.of s1).trans f2)⟩
      rw [eA] at hs
      exact fst lS s hs
    . have hkl:k<A.as.length:=by omega
      obtain ⟨a,c,s,e1,e2,e3,B⟩:=R.at_ hkl
      have hb:b∈s.1:=by
        obtain ⟨s',q1,q2⟩:=ZdE (S:=S) (b:=b) (by rw [hk]; omega)
        rw [hk,e3] at q1; cases q1
        exact q2
      obtain ⟨d1,d2,d3⟩:=ZhD dj R.nds e3 hb
      have eA:Zcv g.cfs S k b=pushS g.cfs A.as.length (S.set k (outR s b)) 0 b:=by
        unfold Zcv
        rw [if_neg (by omega),e2,e3]
        dsimp only
        rw [if_neg (by omega),lS]
      refine ⟨_,rfl,A.p,dx,_,rfl,h1,tf_no ..,_,rfl,_,rfl,A,g,S,xs,U,k,b,s,rfl,R,e3,hb,by omega,λH2 t l v et el nl ev R2 f2=>⟨t,_,rfl,SqT.of et,rfl,_,_,rfl,gN ⟨_,_,rfl,gN ⟨rfl,?_⟩⟩⟩⟩
      try dsimp only
      obtain ⟨dx2,h2⟩:=R2.ob
      refine ⟨_,rfl,A.p,dx2,_,rfl,h2,tf_no ..,_,rfl,_,rfl,_,rfl,A,g,_,_,U,0,b,l,rfl,R2,by omega,λj r _ hr=>d3 r (mem_of_getElem? hr),d1,hU,el,nl,by rw [length_append]; show xs.length+1+2 * A.as.length<=400; omega,λH3 ys hy _ _ R3 f3=>q H3 ([.ref v]++ys) (by rw [length_append]; show 1+ys.length<=30; omega) (λz=>absurd hkl (by omega)) (by rw [eA,← append_assoc]; exact R3) (λs' hs'=>?_) (f2.trans f3)⟩
      rw [eA] at hs'
      exact fst (by rw [length_set]; exact lS) s' hs'
noncomputable def fetS (g:Pln) (S:List RS) (b:Int):List RS:=if g.kind = "apart" then Zcv g.cfs S (nearF S b) b else ZcA g.kind g.cfs b (nearF S b) (useAt g.cfs S (nearF S b) b)
def Ziu (K:W.Frag):Sp:=λvs H Q _=>∃ (A:TA) (g:Pln) (S:List RS) (U:List Int) (b:Int),vs=[.ref A.p,.int b]/\StairsAt K H A g S [] U/\(g.kind = "apart" -> Disj S)/\0<=b/\b<=1000000/\b∈U/\1<=A.as.length /\
  ∀ H' t ys,H' t=some (.tup [.str "found",.int (nearF S b:Nat)])->(A.as.length=1->EvAt H' ys (if nearF S b=0 then [] else evL g S b))->StairsAt K H' A g (fetS g S b) (.ref t :: ys) U->(∀ s,(fetS g S b)[0]?=some s->b∈s.1)->SF A H H'->Q .non H'
theorem ZeR {f:Addr} {fd:FuncData} (F:Fun K "fetch" "Stairs.fetch" Zav f fd) (T:Txt K mg) (M_Stairs_nearest:MDef P w K mg base (clsOf K "Stairs") "nearest" 3 Zao (ZeP K)) (M_Steps_tell_found:MDef P w K mg base (clsOf K "Stairs") "tell_found" 1 ZU (Zls K)) (M_Stairs_fetch_apart:MDef P w K mg base (clsOf K "Stairs") "fetch_apart" 13 ZG (Zit K)) (M_Stairs_fetch_down:MDef P w K mg base (clsOf K "Stairs") "fetch_down" 7 ZK (Zlw K)):FnOk P w K mg base CX0 14 f fd ZaT (Ziu K):=by
  refine F.ok sc_Stairs_fetch (λvs H Q E h=>?_) (λcdv A outer st H vs Q E hr h=>?_)
  . obtain ⟨A,g,S,U,b,rfl,_⟩:=h
    rfl
  obtain ⟨A,g,S,U,b,rfl,R,dj,b0,b1,hU,l1,q⟩:=h
  have nd:=sc_Stairs_fetch.nd
  refine ⟨_,(Zh (pst 2 nd (Zl M_Stairs_nearest hr.m T.cl_Stairs (pv 0) (pc (pv 1) Ze)))
      (Zh (Zv (Zl M_Steps_tell_found hr.m T.cl_Stairs (pv 0) (pc (pv 2) Ze)))
      (Zi (ps_if (ZZ op_eq (Zo (K:=K) rfl (pv 0) rfl) Zbf (ZM _)) (Zi (Zv (Zl M_Stairs_fetch_apart hr.m T.cl_Stairs (pv 0) (pc (pv 2) (pc (pv 1) Ze))))) (Zi (Zv (Zl M_Stairs_fetch_down hr.m T.cl_Stairs (pv 0) (pc (pv 2) (pc (pv 1) Ze))))))))),?_⟩
  obtain ⟨dx,h1⟩:=R.ob
  refine ⟨_,rfl,A.p,dx,_,rfl,h1,tf_no ..,_,rfl,A,g,S,[],U,b,rfl,R,λH1 s1=>gN ?_⟩
  try dsimp only
  have R1:=R.same s1
  refine ⟨_,rfl,A.p,dx,_,rfl,s1 _ _ h1,tf_no ..,_,rfl,A,g,S,[],U,nearF S b,rfl,R1,Nat.zero_le _,λt H2 ht et R2 f2=>?_⟩
  obtain ⟨dx2,h2⟩:=R2.ob
  have nt:=R2.sfp et (λ_ z=>by cases z) (λ_ z=>by cases z) (λ_ _ _ z=>by cases z)
  refine ⟨_,rfl,A.p,_,dx2,_,_,rfl,h2,T.cl_Stairs,T.n_Stairs_kind,Zgl ..,rfl,_,rfl,Zbo (λc=>?_) (λc=>?_)⟩
  . have c':g.kind = "apart" := by injection c
    have eF:fetS g S b=Zcv g.cfs S (nearF S b) b:=by unfold fetS; rw [if_pos c']
    rw [eF] at q
    exact ⟨_,rfl,A.p,dx2,_,rfl,h2,tf_no ..,_,rfl,_,rfl,A,g,S,[.ref t],U,b,rfl,R2,dj c',b0,b1,hU,by show 1<=100; decide,l1,λH3 ys hy hye R3 fs f3=>q H3 t ys (f3 _ _ et nt) hye R3 fs (((SF.of s1).trans f2).trans f3)⟩
  . have c':¬ g.kind = "apart" := λz=>c (by rw [z])
    have eF:fetS g S b=ZcA g.kind g.cfs b (nearF S b) (useAt g.cfs S (nearF S b) b):=by unfold fetS; rw [if_neg c']
    rw [eF] at q
    exact ⟨_,rfl,A.p,dx2,_,rfl,h2,tf_no ..,_,rfl,_,rfl,A,g,S,[.ref t],U,nearF S b,b,rfl,R2,rfl,b0,b1,hU,by show 1<=100; decide,λH3 ys hy hye R3 fs f3=>q H3 t ys (f3 _ _ et nt) hye R3 fs (((SF.of s1).trans f2).trans f3)⟩
def Zly (K:W.Frag):Sp:=λvs H Q _=>∃ (A:TA) (g:Pln) (S:List RS) (U:List Int) (sp b:Int),vs=[.ref A.p,.int sp]/\StairsAt K H A g S [] U/\(g.kind = "apart" -> Disj S)/\sp / g.size=b/\0<=b/\b<=1000000/\b∈U/\1<=A.as.length /\
  ∀ H' tp t e' ys,H' tp=some (.tup [.int 0,.ref A.ev])->H' A.ev=some (.lst (.ref t :: ys))->H' t=some (.tup [.str "found",.int (nearF S b:Nat)])->(A.as.length=1->EvAt H' ys (if nearF S b=0 then [] else evL g S b))->StairsAt K H' { A with ev:=e' } g (fetS g S b) [] U->(g.kind = "apart" -> Disj (fetS g S b))->(∀ x,H' x=none->H x=none\/Foot A x)->H e'=none\/Foot A e'->SF A H H'->Q (.ref tp) H'
theorem Zfh {f:Addr} {fd:FuncData} (F:Fun K "read" "Stairs.read" ZaR f fd) (T:Txt K mg) (D_board_of:Def P w K mg base "board_of" 1 ZbL Zgj) (M_Stairs_fetch:MDef P w K mg base (clsOf K "Stairs") "fetch" 14 ZaT (Ziu K)) (M_Steps_word_in:MDef P w K mg base (clsOf K "Stairs") "word_in" 4 ZaD (Zgo K)) (M_Steps_happened:MDef P w K mg base (clsOf K "Stairs") "happened" 1 Zan (ZdB K)):FnOk P w K mg base CX0 15 f fd Zbk (Zly K):=by
  refine F.ok sc_Stairs_read (λvs H Q E h=>?_) (λcdv A outer st H vs Q E hr h=>?_)
  . obtain ⟨A,g,S,U,sp,b,rfl,_⟩:=h
    rfl
  obtain ⟨A,g,S,U,sp,b,rfl,R,dj,eb,b0,b1,hU,l1,q⟩:=h
  have nd:=sc_Stairs_read.nd
  refine ⟨_,(Zh (pst 2 nd (Zt D_board_of hr.m rfl (pc (Zo (K:=K) rfl (pv 0) rfl) (pc (pv 1) Ze))))
      (Zh (Zv (Zl M_Stairs_fetch hr.m T.cl_Stairs (pv 0) (pc (pv 2) Ze)))
      (Zi (Zw (Zbg (pc (Zl M_Steps_word_in hr.m T.cl_Stairs (pv 0) (pc Zj (pc (pv 1) Ze))) (pc (Zex M_Steps_happened hr.m T.cl_Stairs (pv 0)) Ze))))))),?_⟩
  obtain ⟨dx,h1⟩:=R.ob
  have z0:=R.z0
  have z1:=R.z1
  refine ⟨_,rfl,A.p,_,dx,_,_,rfl,h1,T.cl_Stairs,T.n_Stairs_size,Zin ..,_,rfl,g.size,sp,rfl,by omega,by omega,gN ?_⟩
  try dsimp only
  rw [eb]
  refine ⟨_,rfl,A.p,dx,_,rfl,h1,tf_no ..,_,rfl,A,g,S,U,b,rfl,R,dj,b0,b1,hU,l1,λH1 t ys et hye R1 fs f1=>?_⟩
  obtain ⟨dx1,h2⟩:=R1.ob
  obtain ⟨a,c,s,e1,e2,e3,B⟩:=R1.at_ (k:=0) (by omega)
  refine ⟨_,rfl,A.p,dx1,_,rfl,h2,tf_no ..,_,rfl,A,g,_,_,U,0,sp,b,s,rfl,R1,e3,fs s e3,eb,λH2 s2=>?_⟩
  have R2:=R1.same s2
  refine ⟨_,rfl,A.p,dx1,_,rfl,s2 _ _ h2,tf_no ..,A,g,_,_,U,rfl,R2,λe' H3 he R3 k3=>⟨(by show 2<=sizeLine; decide),λtp htp=>?_⟩⟩
  have s4:=Zg htp (.tup [.int 0,.ref A.ev])
  have nep:A.ev≠A.p:=λz=>by have q:=R2.ev; rw [z,s2 _ _ h2] at q; cases q
  have ntp:t≠A.p:=λz=>by rw [z,h2] at et; cases et
  refine q _ tp t e' ys Za (s4 _ _ (k3 _ _ R2.ev nep)) (s4 _ _ (k3 _ _ (s2 _ _ et) ntp)) (λz=>(hye z).keep λt' e q'=>s4 _ _ (k3 _ _ (s2 _ _ q') (λy=>by rw [y,h2] at q'; cases q'))) (R3.same s4) (λc'=>?_) (λx hx=>?_) ?_ λx o e n=>?_
  . unfold fetS
    rw [if_pos c']
    exact Zis (dj c') R.nds
  . by_cases z:Foot A x
    . exact .inr z
    . refine .inl ?_
      cases e:H x with
      | none=>rfl
      | some o=>rw [s4 _ _ (k3 _ _ (s2 _ _ (f1 _ _ e z)) (λy=>z (.inl y)))] at hx; cases hx
  . by_cases z:Foot A e'
    . exact .inr z
    . refine .inl ?_
      cases e:H e' with
      | none=>rfl
      | some o=>rw [s2 _ _ (f1 _ _ e z)] at he; cases he
  . exact s4 _ _ (k3 _ _ (s2 _ _ (f1 _ _ e n)) λz=>n (.inl z))
def Zgu (K:W.Frag):Sp:=λvs H Q _=>∃ (p dx pp tp:Addr) (size:Int) (kind:Str) (ts:List Addr) (cfs:List Cf),vs=[.ref p,.ref pp]/\H p=some (.ins (clsOf K "Stairs") dx [])/\H pp=some (.tup [.int size,.str kind,.ref tp])/\PlanAt K H tp ts cfs/\1<=size/\size<=1000/\cfs.length<=4/\Tb K H /\
  ∀ (A:TA) (H':Hp),A.p=p->A.as.length=cfs.length->(∀ U,U.length<=800->StairsAt K H' A ⟨size,kind,cfs⟩ (List.replicate cfs.length ([],λ_=>0)) [] U)->(∀ x,Foot A x->x≠p->H x=none)->(∀ b o,H b=some o->b≠p->H' b=some o)->Q .non H'
theorem Zfi {f:Addr} {fd:FuncData} (F:Fun K "__init__" "Stairs.__init__" ZaQ f fd) (T:Txt K mg) (C_Steps_init:CDef P w K mg base "Steps" "__init__" 5 ZbC (Zip K)):FnOk P w K mg base CX0 6 f fd Zbj (Zgu K):=by
  refine F.ok sc_Stairs_init (λvs H Q E h=>?_) (λcdv A outer st H vs Q E hr h=>?_)
  . obtain ⟨p,dx,pp,tp,size,kind,ts,cfs,rfl,_⟩:=h
    rfl
  obtain ⟨p,dx,pp,tp,size,kind,ts,cfs,rfl,hp,hpp,pa,z0,z1,l4,tb,q⟩:=h
  have nd:=sc_Stairs_init.nd
  refine ⟨_,(Zh (ZbQ (pv 1) (Zaz (K:=K) (n:=3) rfl rfl (Zp (pgn 2 nd) (Zp (pgn 3 nd) (Zp (pgn 4 nd) Zay)))))
      (Zh (Zv (Znt C_Steps_init hr.m rfl (pc (pv 0) (pc (pv 2) (pc (pv 4) Ze)))))
      (Zi (Zbn (pv 0) (pv 3) rfl)))),?_⟩
  refine ⟨_,rfl,pp,_,rfl,SqT.of hpp,rfl,_,_,rfl,gN ⟨_,_,rfl,gN ⟨_,_,rfl,gN ⟨rfl,?_⟩⟩⟩⟩
  try dsimp only
  refine ⟨_,rfl,_,rfl,_,rfl,p,dx,tp,size,ts,cfs,rfl,hp,pa,z0,z1,l4,tb,λA H1 ep el h1 RS f1 k1=>?_⟩
  refine ⟨_,rfl,_,rfl,p,_,dx,_,rfl,h1,T.cl_Stairs,T.n_Stairs_kind,(by show 5<1000; decide),?_⟩
  exact q A _ ep el (λU hU=>RS kind U hU) f1 λx o e n=>by rw [Zb n]; exact k1 x o e n
end
section
variable {P:Program} {w:World} {K:W.Frag} {mg:Str->Option Value} {base:Heap}
theorem ZoI (x y:Str) (r:Int) (h0:0<=r) (h1:r<2):∃ z:Str,atI [V.str x,V.str y] r=some (.str z):=by
  have h:r=0\/r=1:=by omega
  rcases h with rfl | rfl
  . exact ⟨x,atI0⟩
  . exact ⟨y,atI1⟩
def Zlz:Sp:=λvs H Q _=>∃ (b:Addr) (a q c:Int),vs=[.ref b]/\BoxAt H b a q c/\c<400000000 /\
  ∀ (p:Addr) (sh pl:Int) (r wr:Str) (a' c':Int) (H':Hp),H' p=some (.tup [.int sh,.int pl,.str r,.str wr])->1<=sh->sh<=64->1<=pl->pl<=16->Rule r->BoxAt H' b a' q c'->c'<=c+6->SB b H H'->Q (.ref p) H'
theorem ZhE {f:Addr} {fd:FuncData} (F:Fun K "_law_room_plan" "_law_room_plan" Zbw f fd) (T:Txt K mg) (D_take:Def P w K mg base "_law_take" 1 Zdj ZeE):FnOk P w K mg base CX0 2 f fd Zca Zlz:=by
  refine F.ok sc_room_plan (λvs H Q E h=>?_) (λcdv A outer st H vs Q E hr h=>?_)
  . obtain ⟨b,a,q,c,rfl,_⟩:=h
    rfl
  obtain ⟨b,a,q,c,rfl,B,hc,k⟩:=h
  have nd:=sc_room_plan.nd
  refine ⟨_,(Zh (pst 1 nd (ZbR op_eq (Zt D_take hr.m rfl (pc (pv 0) (pc Zj Ze))) Zj (ZM _)))
      (Zh (pst 2 nd (ZcD (ZbA (pv 1)) (pe_op Zaw Zj (Zt D_take hr.m rfl (pc (pv 0) (pc Zj Ze)))) (pe_ix (Zu (K:=K) rfl) (Zcc (pc Zj (pc Zj (pc Zj (pc Zj (pc Zj Ze)))))) (Zt D_take hr.m rfl (pc (pv 0) (pc Zj Ze))) (λ_ _=>rfl))))
      (Zh (pst 3 nd (pe_op Zaw Zj (Zt D_take hr.m rfl (pc (pv 0) (pc (ZcD (ZbA (pv 1)) Zj Zj) Ze)))))
      (Zh (pst 4 nd (pe_ix (Zu (K:=K) rfl) (Zcc (pc Zbf (pc Zbf (pc Zbf Ze)))) (Zt D_take hr.m rfl (pc (pv 0) (pc Zj Ze))) (λ_ _=>rfl)))
      (Zi (Zw (Zbg (pc (pv 2) (pc (pv 3) (pc (pv 4) (pc (pe_ix (Zu (K:=K) rfl) (Zcc (pc Zbf (pc Zbf Ze))) (Zt D_take hr.m rfl (pc (pv 0) (pc Zj Ze))) (λ_ _=>rfl)) Ze))))))))))),?_⟩
  refine ⟨_,rfl,b,a,q,c,6,rfl,B,by omega,by decide,by decide,λr1 a1 c1 H1 r10 r11 B1 hc1 s1=>⟨rfl,?_⟩⟩
  generalize decide (V.int r1=V.int 0)=far
  try dsimp only
  refine cpA (λv G=>∃ z a' c',v=.int z/\1<=z/\z<=64/\BoxAt G b a' q c'/\c'<=c1+1/\SB b H G) (λQ' k'=>?_) ?_
  . refine ⟨_,rfl,_,rfl,?_⟩
    cases far with
    | true=>exact ifT rfl ⟨_,rfl,b,a1,q,c1,64,rfl,B1,by omega,by decide,by decide,λr2 a2 c2 H2 r20 r21 B2 hc2 s2=>⟨_,_,rfl,rfl,k' _ _ ⟨_,a2,c2,rfl,by omega,by omega,B2,by omega,s1.trans s2⟩⟩⟩
    | false =>
      refine ifF rfl ⟨(by show 5<=sizeLine; decide),λp0 hp0=>⟨_,rfl,b,a1,q,c1,5,rfl,B1.same (Zg hp0 _),by omega,by decide,by decide,λr2 a2 c2 H2 r20 r21 B2 hc2 s2=>?_⟩⟩
      have q0:b≠p0:=Zd B1.at' hp0
      obtain ⟨sh,hsh,sh0,sh1⟩:=pick5 r2 r20 r21
      exact ⟨p0,_,_,_,rfl,rfl,SqL.of (s2 _ _ (Ne.symm q0) Za),hsh,k' _ _ ⟨_,a2,c2,rfl,sh0,sh1,B2,by omega,s1.trans (((Zg hp0 _).sb b).trans s2)⟩⟩
  rintro _ H2 ⟨sh,a2,c2,rfl,sh0,sh1,B2,hc2,u2⟩
  refine gN ?_
  try dsimp only
  refine cpA (λv G=>∃ z a' c',v=.int z/\1<=z/\z<=16/\BoxAt G b a' q c'/\c'<=c2+1/\SB b H G) (λQ' k'=>?_) ?_
  . refine ⟨_,rfl,_,rfl,_,rfl,?_⟩
    cases far with
    | true=>exact ifT rfl ⟨b,a2,q,c2,16,rfl,B2,by omega,by decide,by decide,λr3 a3 c3 H3 r30 r31 B3 hc3 s3=>⟨_,_,rfl,rfl,k' _ _ ⟨_,a3,c3,rfl,by omega,by omega,B3,by omega,u2.trans s3⟩⟩⟩
    | false=>exact ifF rfl ⟨b,a2,q,c2,4,rfl,B2,by omega,by decide,by decide,λr3 a3 c3 H3 r30 r31 B3 hc3 s3=>⟨_,_,rfl,rfl,k' _ _ ⟨_,a3,c3,rfl,by omega,by omega,B3,by omega,u2.trans s3⟩⟩⟩
  rintro _ H3 ⟨pl,a3,c3,rfl,pl0,pl1,B3,hc3,u3⟩
  refine gN ?_
  try dsimp only
  refine ⟨(by show 3<=sizeLine; decide),λp3 hp3=>⟨_,rfl,b,a3,q,c3,3,rfl,B3.same (Zg hp3 _),by omega,by decide,by decide,λr4 a4 c4 H4 r40 r41 B4 hc4 s4=>?_⟩⟩
  have q3:b≠p3:=Zd B3.at' hp3
  obtain ⟨ru,hru,iru⟩:=pickR r4 r40 r41
  refine ⟨p3,_,_,_,rfl,rfl,SqL.of (s4 _ _ (Ne.symm q3) Za),hru,?_⟩
  have u4:SB b H H4:=u3.trans (((Zg hp3 _).sb b).trans s4)
  refine ⟨_,rfl,_,rfl,_,rfl,(by show 2<=sizeLine; decide),λp5 hp5=>⟨_,rfl,b,a4,q,c4,2,rfl,B4.same (Zg hp5 _),by omega,by decide,by decide,λr5 a5 c5 H5 r50 r51 B5 hc5 s5=>?_⟩⟩
  have q5:b≠p5:=Zd B4.at' hp5
  obtain ⟨wr,hwr⟩:=ZoI "late" "through" r5 r50 r51
  refine ⟨p5,_,_,_,rfl,rfl,SqL.of (s5 _ _ (Ne.symm q5) Za),hwr,(by show 4<=sizeLine; decide),λpp hpp=>?_⟩
  exact k pp sh pl ru wr a5 c5 _ Za sh0 sh1 pl0 pl1 iru (B5.same (Zg hpp _)) (by omega)
    ((u4.trans (((Zg hp5 _).sb b).trans s5)).trans ((Zg hpp _).sb b))
end
theorem ZoJ (r:Int) (h0:0<=r) (h1:r<3):∃ z:Str,atI [V.str "within",V.str "apart",V.str "free"] r=some (.str z):=by
  have h:r=0\/r=1\/r=2:=by omega
  rcases h with rfl | rfl | rfl
  . exact ⟨_,atI0⟩
  . exact ⟨_,atI1⟩
  . exact ⟨_,atI2⟩
section
variable {P:Program} {w:World} {K:W.Frag} {mg:Str->Option Value} {base:Heap}
def Ziv (K:W.Frag):Sp:=λvs H Q _=>∃ (b:Addr) (a q c:Int),vs=[.ref b]/\BoxAt H b a q c/\c<300000000 /\
  ∀ (pp tp:Addr) (ts:List Addr) (g:Pln) (a' c':Int) (H':Hp),H' pp=some (.tup [.int g.size,.str g.kind,.ref tp])->PlanAt K H' tp ts g.cfs->(∀ c∈g.cfs,Rule c.ru)->1<=g.size->g.size<=16->1<=g.cfs.length->g.cfs.length<=4->BoxAt H' b a' q c'->c'<=c+40->SB b H H'->Q (.ref pp) H'
theorem ZnH {f:Addr} {fd:FuncData} (F:Fun K "_law_plan" "_law_plan" ZeC f fd) (T:Txt K mg) (D_take:Def P w K mg base "_law_take" 1 Zdj ZeE) (D_room_plan:Def P w K mg base "_law_room_plan" 2 Zca Zlz):FnOk P w K mg base CX0 3 f fd Zhl (Ziv K):=by
  refine F.ok sc_plan (λvs H Q E h=>?_) (λcdv A outer st H vs Q E hr h=>?_)
  . obtain ⟨b,a,q,c,rfl,_⟩:=h
    rfl
  obtain ⟨b,a,q,c,rfl,B,hc,k⟩:=h
  have nd:=sc_plan.nd
  refine ⟨_,(Zh (pst 1 nd (pe_ix (Zu (K:=K) rfl) (Zcc (pc Zbf (pc Zbf (pc Zbf Ze)))) (Zt D_take hr.m rfl (pc (pv 0) (pc Zj Ze))) (λ_ _=>rfl)))
      (Zh (pst 2 nd (pe_op Zaw Zj (Zt D_take hr.m rfl (pc (pv 0) (pc (pe_ix (Zu (K:=K) rfl) (Zcc (pc Zj (pc Zj Ze))) (Zap Zcw rfl T.z_int Zcj (pc (ZbR op_eq (Zt D_take hr.m rfl (pc (pv 0) (pc Zj Ze))) Zj (ZM _)) Ze)) (λ_ _=>rfl)) Ze)))))
      (Zi (Zw (Zbg (pc (pv 2) (pc (pv 1) (pc (Zap (ZeU (K:=K) rfl) rfl T.z_tuple ZcQ (pc (ZbI (Zal (osc:=(Zc ZeC)) (oN:=ZmN) (N:=["_law_k", "_law_box_here"]) (own:=1) (js:=[0]) (by decide +kernel) rfl rfl) rfl (Zch rfl T.z_range (pc (pe_op Zaw Zj (Zt D_take hr.m rfl (pc (pv 0) (pc Zj Ze)))) Ze)) (λ_ _ _ _ _ _=>(pgn 0 (show List.Nodup (["_law_k", "_law_box_here"]:List Str) by decide +kernel))) (λ_ _ _ _ _ _=>(Zt D_room_plan hr.m rfl (pc (pv 1) Ze)))) Ze)) Ze)))))))),?_⟩
  refine ⟨(by show 3<=sizeLine; decide),λp1 hp1=>⟨_,rfl,b,a,q,c,3,rfl,B.same (Zg hp1 _),by omega,by decide,by decide,λr1 a1 c1 H1 r10 r11 B1 hc1 s1=>?_⟩⟩
  have q1:b≠p1:=Zd B.at' hp1
  obtain ⟨kd,hkd⟩:=ZoJ r1 r10 r11
  refine ⟨p1,_,_,_,rfl,rfl,SqL.of (s1 _ _ (Ne.symm q1) Za),hkd,gN ?_⟩
  try dsimp only
  have u1:SB b H H1:=((Zg hp1 _).sb b).trans s1
  refine ⟨_,rfl,(by show 2<=sizeLine; decide),λp2 hp2=>⟨_,rfl,b,a1,q,c1,8,rfl,B1.same (Zg hp2 _),by omega,by decide,by decide,λr2 a2 c2 H2 r20 r21 B2 hc2 s2=>⟨rfl,.inr ⟨_,rfl,?_⟩⟩⟩⟩
  have q2:b≠p2:=Zd B1.at' hp2
  obtain ⟨n,hn,hn'⟩:=ZmO 4 16 (decide (V.int r2=V.int 0))
  refine ⟨p2,_,_,_,rfl,rfl,SqL.of (s2 _ _ (Ne.symm q2) Za),hn,b,a2,q,c2,n,rfl,B2,by omega,by omega,by omega,λr3 a3 c3 H3 r30 r31 B3 hc3 s3=>⟨_,_,rfl,rfl,gN ?_⟩⟩
  try dsimp only
  have u3:SB b H H3:=(((u1.trans ((Zg hp2 _).sb b)).trans s2)).trans s3
  refine ⟨_,rfl,_,rfl,_,rfl,b,a3,q,c3,4,rfl,B3,by omega,by decide,by decide,λr4 a4 c4 H4 r40 r41 B4 hc4 s4=>⟨_,_,rfl,rfl,_,rfl,by omega,by omega,λl hl=>?_⟩⟩
  have nlb:l≠b:=Ne.symm (Zd B4.at' hl)
  have u4:=u3.trans s4
  refine Zck (lo:=0) (n:=(1+r4).toNat) (l:=l) (λj ys σ G=>∃ (v0:Option V) (ts:List Addr) (cfs:List Cf) (a' c':Int),σ=[v0,some (.ref b)]/\ys=ts.map V.ref/\ts.length=j/\cfs.length=j/\(∀ (i:Nat) (t:Addr) (c:Cf),ts[i]?=some t->cfs[i]?=some c->∃ wr:Str,G t=some (.tup [.int c.sh,.int c.pl,.str c.ru,.str wr])/\c.late=decide (wr = "late"))/\(∀ c∈cfs,(1<=c.sh/\c.sh<=64/\1<=c.pl/\c.pl<=16)/\Rule c.ru)/\G l=some (.lst ys)/\BoxAt G b a' q c'/\c'<=c4+6 * (j:Int)/\SB b H G)
    ⟨none,[],[],a4,c4,rfl,rfl,rfl,rfl,(λi t c h=>by simp at h),(λc h=>by simp at h),Za,B4.same (Zg hl _),by omega,u4.trans ((Zg hl _).sb b)⟩ ?_ ?_
  . rintro j ys σ G hj hys ⟨v0,ts,cfs,a',c',rfl,rfl,hl1,hl2,hat,hcf,g1,B',hc',u'⟩
    refine ⟨_,rfl,b,a',q,c',rfl,B',by omega,λp sh pl r wr a5 c5 G5 ep sh0 sh1 pl0 pl1 hr B5 hc5 s5=>?_⟩
    have g5:=s5 _ _ nlb g1
    have npl:p≠l:=λz=>by rw [z,g5] at ep; cases ep
    refine CNx.of (Nat.le_trans (by omega:(1+r4).toNat<=4) (by decide)) hj hys g5 ⟨_,ts++[p],cfs++[⟨sh,pl,r,decide (wr = "late")⟩],a5,c5,rfl,by rw [map_append]; rfl,by rw [length_append,hl1]; rfl,by rw [length_append,hl2]; rfl,λi t c h1 h2=>?_,λc hc=>?_,Za,B5.sb (Zeu l _ _) (Ne.symm nlb),by omega,λx o nx e=>?_⟩
    . by_cases hi:i<j
      . rw [getElem?_append_left (by omega)] at h1 h2
        obtain ⟨wr',e1,e2⟩:=hat i t c h1 h2
        refine ⟨wr',?_,e2⟩
        have ntb:t≠b:=λz=>by rw [z,B'.at'] at e1; cases e1
        have e1':=s5 _ _ ntb e1
        rw [Zb (λz=>by rw [z,g5] at e1'; cases e1')]
        exact e1'
      . have hi2:i=j:=by have:=(List.getElem?_eq_some_iff.mp h1).1; rw [length_append,length_singleton] at this; omega
        subst hi2
        rw [getElem?_append_right (by omega),show i - ts.length=0 by omega] at h1
        rw [getElem?_append_right (by omega),show i - cfs.length=0 by omega] at h2
        cases h1; cases h2
        exact ⟨wr,by rw [Zb npl]; exact ep,rfl⟩
    . rcases List.mem_append.mp hc with hc | hc
      . exact hcf c hc
      . rw [List.mem_singleton.mp hc]; exact ⟨⟨sh0,sh1,pl0,pl1⟩,hr⟩
    . have nx2:x≠l:=λz=>by
        rw [z] at e
        have:=u4 _ _ nlb e
        rw [this] at hl; cases hl
      rw [Zb nx2]
      exact s5 _ _ nx (u' _ _ nx e)
  rintro ys σ G _ ⟨v0,ts,cfs,a',c',rfl,rfl,hl1,hl2,hat,hcf,g1,B',hc',u'⟩
  refine ⟨l,_,rfl,.inl ⟨SqL.of g1,λtp htp=>⟨(by show 3<=sizeLine; decide),λpp hpp=>?_⟩⟩⟩
  have s5:=Zg htp (.tup (ts.map V.ref))
  have s6:=s5.trans (Zg hpp (.tup [.int (1+r3),.str kd,.ref tp]))
  refine k pp tp ts ⟨1+r3,kd,cfs⟩ a' c' _ Za ⟨Zg hpp _ _ _ Za,by show ts.length=cfs.length; omega,λi t c h1 h2=>by obtain ⟨wr,e1,e2⟩:=hat i t c h1 h2; exact ⟨wr,s6 _ _ e1,e2⟩,λc hc=>(hcf c hc).1⟩ (λc hc=>(hcf c hc).2) (by show 1<=1+r3; omega) (by show 1+r3<=16; omega) (by show 1<=cfs.length; omega) (by show cfs.length<=4; omega) (B'.same s6) (by omega) (u'.trans (s6.sb b))
def ZlA:Sp:=λvs H Q _=>∃ (b:Addr) (a q c fw mt:Int),vs=[.ref b,.int fw,.int mt]/\BoxAt H b a q c/\c<400000000/\1<=fw/\fw<=mt/\mt<=1000 /\
  ∀ (r a' c':Int) (H':Hp),1<=r->r<=mt->BoxAt H' b a' q c'->c'<=c+2->SB b H H'->Q (.int r) H'
theorem ZnI {f:Addr} {fd:FuncData} (F:Fun K "_law_many" "_law_many" Zft f fd) (T:Txt K mg) (D_take:Def P w K mg base "_law_take" 1 Zdj ZeE):FnOk P w K mg base CX0 2 f fd Zhm ZlA:=by
  refine F.ok sc_many (λvs H Q E h=>?_) (λcdv A outer st H vs Q E hr h=>?_)
  . obtain ⟨b,a,q,c,fw,mt,rfl,_⟩:=h
    rfl
  obtain ⟨b,a,q,c,fw,mt,rfl,B,hc,f1,f2,m1,k⟩:=h
  have nd:=sc_many.nd
  refine ⟨_,(Zh (pst 3 nd (ZbR op_eq (Zt D_take hr.m rfl (pc (pv 0) (pc Zj Ze))) Zj (ZM _)))
      (Zi (Zw (pe_op Zaw Zj (Zt D_take hr.m rfl (pc (pv 0) (pc (ZcD (ZbA (pv 3)) (pv 2) (pv 1)) Ze))))))),?_⟩
  refine ⟨_,rfl,b,a,q,c,8,rfl,B,by omega,by decide,by decide,λr1 a1 c1 H1 r10 r11 B1 hc1 s1=>⟨rfl,gN ?_⟩⟩
  generalize decide (V.int r1=V.int 0)=gr
  try dsimp only
  refine ⟨_,rfl,_,rfl,_,rfl,?_⟩
  cases gr with
  | true=>exact ifT rfl ⟨_,rfl,b,a1,q,c1,mt,rfl,B1,by omega,by omega,by omega,λr2 a2 c2 H2 r20 r21 B2 hc2 s2=>⟨_,_,rfl,rfl,k _ a2 c2 H2 (by omega) (by omega) B2 (by omega) (s1.trans s2)⟩⟩
  | false=>exact ifF rfl ⟨_,rfl,b,a1,q,c1,fw,rfl,B1,by omega,by omega,by omega,λr2 a2 c2 H2 r20 r21 B2 hc2 s2=>⟨_,_,rfl,rfl,k _ a2 c2 H2 (by omega) (by omega) B2 (by omega) (s1.trans s2)⟩⟩
end
section
variable {K:W.Frag} {H H':Hp} {A:TA} {g:Pln} {S:List RS} {xs:List V} {U:List Int}
theorem StairsAt.foot (T:StairsAt K H A g S xs U) {x:Addr} (h:Foot A x):H x≠none:=λe=>by
  rcases h with rfl | rfl | ⟨a,ha,z⟩
  . obtain ⟨dx,q⟩:=T.ob; rw [q] at e; cases e
  . rw [T.ev] at e; cases e
  . obtain ⟨k,hk⟩:=getElem?_of_mem ha
    obtain ⟨a',c,s,h1,h2,h3,R⟩:=T.at_ (List.getElem?_eq_some_iff.mp hk).1
    rw [hk] at h1; cases h1
    rcases z with rfl | rfl | z
    . obtain ⟨kv,q,_⟩:=R.room.dc; rw [q] at e; cases e
    . obtain ⟨kv,q,_⟩:=R.held; rw [q] at e; cases e
    . obtain ⟨ys,q⟩:=R.room.st.one z; rw [q] at e; cases e
theorem StairsAt.keepO {d:Addr} {kv:List (Key×V)} (T:StairsAt K H A g S xs U) (hd:H d=some (.dK kv)) (nd0:d≠A.dk) (nd1:∀ a∈A.as,d≠a.du/\d≠a.dh/\d≠a.df) (k:∀ x o,H x=some o->x≠d->x∉A.out->H' x=some o) (ox:∀ x∈A.out,∃ ys,H' x=some (.lst ys)):StairsAt K H' A g S xs U:=by
  have nl:∀ {x:Addr} {o:HO},H x=some o->(∀ ys,o≠.lst ys)->x∉A.out:=λ{x o} e n m=>by
    obtain ⟨ys,q⟩:=T.oex _ m
    rw [e] at q
    exact n ys (Option.some.inj q)
  have ndk:∀ {x:Addr} {o:HO},H x=some o->(∀ kvs,o≠.dK kvs)->x≠d:=λ{x o} e n z=>by
    rw [z,hd] at e
    exact n _ (Option.some.inj e).symm
  have kl:∀ {x:Addr} {ys:List V},H x=some (.lst ys)->x∉A.out->H' x=some (.lst ys):=λe n=>k _ _ e (ndk e (λ_ z=>by cases z)) n
  have ki:∀ {x C dd:Addr} {fs:List (Str×V)},H x=some (.ins C dd fs)->H' x=some (.ins C dd fs):=λe=>k _ _ e (ndk e (λ_ z=>by cases z)) (nl e (λ_ z=>by cases z))
  have kd:∀ {x:Addr} {kvs:List (Key×V)},H x=some (.dK kvs)->x≠d->H' x=some (.dK kvs):=λe n=>k _ _ e n (nl e (λ_ z=>by cases z))
  obtain ⟨dx,h1⟩:=T.ob
  obtain ⟨dm,h2⟩:=T.mem.ob
  refine ⟨⟨dx,ki h1⟩,kl T.ss (λm=>(T.on _ m).1 rfl),⟨⟨dm,ki h2⟩,kd T.mem.kept (Ne.symm nd0)⟩,kl T.ev (λm=>(T.on _ m).2.1 rfl),T.lc,T.lS,λj a c s e1 e2 e3=>?_,T.sep,T.off,T.nse,ox,T.on,T.uni,T.full,T.cf,T.z0,T.z1,T.lU,T.l4,k _ _ T.tb (ndk T.tb (λ_ z=>by cases z)) (nl T.tb (λ_ z=>by cases z))⟩
  have B:=T.st j a c s e1 e2 e3
  have am:=mem_of_getElem? e1
  obtain ⟨ds,o1⟩:=B.ob
  obtain ⟨dr,o2⟩:=B.room.ob
  obtain ⟨kvr,o3,o4⟩:=B.room.dc
  obtain ⟨kvh,g1,g2,g3,g4⟩:=B.held
  obtain ⟨d1,d2,d3⟩:=nd1 a am
  refine ⟨⟨ds,ki o1⟩,⟨⟨dr,ki o2⟩,⟨kl B.room.st.top (λm=>((T.on _ m).2.2 a am).1 rfl),B.room.st.len,B.room.st.nd,B.room.st.off,λi ad e=>kl (B.room.st.at_ i ad e) (λm=>((T.on _ m).2.2 a am).2 (mem_of_getElem? e))⟩,⟨kvr,kd o3 (Ne.symm d1),o4⟩,B.room.nd,B.room.s0,B.room.s1⟩,⟨kvh,kd g1 (Ne.symm d2),g2,g3,λb hb=>?_⟩,kd B.fresh (Ne.symm d3),B.n1,B.n2,B.n3⟩
  obtain ⟨l,q1,q2,q3⟩:=g4 b hb
  exact ⟨l,q1,kl q2 (λm=>q3 (.inr (.inr m))),q3⟩
theorem StairsAt.grow (T:StairsAt K H A g S xs U) (s:Same H H') {L:List Addr} (hL:∀ x∈L,H x=none/\∃ ys,H' x=some (.lst ys)):StairsAt K H' { A with out:=L++A.out } g S xs U:=by
  have T':=T.same s
  refine ⟨T'.ob,T'.ss,T'.mem,T'.ev,T.lc,T.lS,λj a c r e1 e2 e3=>((T.st j a c r e1 e2 e3).mono λx ys e m=>?_).same s,T.sep,T.off,T.nse,λx hx=>?_,λx hx=>?_,T.uni,T.full,T.cf,T.z0,T.z1,T.lU,T.l4,T'.tb⟩
  . rcases m with m | m | m
    . exact .inl m
    . exact .inr (.inl m)
    . rcases List.mem_append.mp m with m | m
      . rw [(hL x m).1] at e; cases e
      . exact .inr (.inr m)
  . rcases List.mem_append.mp hx with m | m
    . exact (hL x m).2
    . exact T'.oex x m
  . rcases List.mem_append.mp hx with m | m
    . have hn:=(hL x m).1
      refine ⟨λz=>?_,λz=>?_,λa ha=>?_⟩
      . have e:=T.ss; rw [← z,hn] at e; cases e
      . have e:=T.ev; rw [← z,hn] at e; cases e
      . obtain ⟨j,hj⟩:=getElem?_of_mem ha
        obtain ⟨a',c,r,h1,h2,h3,B⟩:=T.at_ (List.getElem?_eq_some_iff.mp hj).1
        rw [hj] at h1; cases h1
        refine ⟨λz=>?_,λz=>?_⟩
        . have e:=B.room.st.top; rw [← z,hn] at e; cases e
        . obtain ⟨ys,e⟩:=B.room.st.one z; rw [hn] at e; cases e
    . exact T.on x m
theorem StairsAt.add0 {b:Addr} {x y z:Int} (T:StairsAt K H A g S xs U) (h0:∀ s∈S,s.1=[]) (hb:H b=some (.lst [.int x,.int y,.int z])) (nf:¬ Foot A b):StairsAt K H { A with out:=b :: A.out } g S xs U:=by
  refine ⟨T.ob,T.ss,T.mem,T.ev,T.lc,T.lS,λj a c r e1 e2 e3=>?_,T.sep,T.off,T.nse,λw hw=>?_,λw hw=>?_,T.uni,T.full,T.cf,T.z0,T.z1,T.lU,T.l4,T.tb⟩
  . have B:=T.st j a c r e1 e2 e3
    have r0:=h0 r (mem_of_getElem? e3)
    obtain ⟨kvh,g1,g2,g3,g4⟩:=B.held
    exact ⟨B.ob,B.room,⟨kvh,g1,g2,g3,λd hd=>by rw [r0] at hd; cases hd⟩,B.fresh,B.n1,B.n2,B.n3⟩
  . rcases List.mem_cons.mp hw with rfl | hw
    . exact ⟨_,hb⟩
    . exact T.oex w hw
  . rcases List.mem_cons.mp hw with rfl | hw
    . have rf:∀ {l:Addr} {as:List Addr},H l=some (.lst (as.map V.ref))->w≠l:=λ{l as} e q=>by
        rw [← q,hb] at e
        exact no3 as x y z (Option.some.inj e).symm
      refine ⟨λq=>?_,λq=>nf (.inr (.inl q)),λa ha=>⟨λq=>?_,λq=>nf (.inr (.inr ⟨a,ha,.inr (.inr q)⟩))⟩⟩
      . have e:=T.ss
        have e2:A.as.map (λa=>V.ref a.sp)=(A.as.map λa=>a.sp).map V.ref:=by rw [map_map]; rfl
        rw [e2] at e
        exact rf e q
      . obtain ⟨j,hj⟩:=getElem?_of_mem ha
        obtain ⟨a',c,r,h1,h2,h3,B⟩:=T.at_ (List.getElem?_eq_some_iff.mp hj).1
        rw [hj] at h1; cases h1
        exact rf B.room.st.top q
    . exact T.on w hw
end
theorem RoomAt.sfN {K:W.Frag} {G G1:Hp} {A:TA} {p:Addr} {sh pl:Int} {ru:Str} {ls:Addr} {ads:List Addr} {du:Addr} {seq:List Int} {us:Int->Int} {n:Nat} (R:RoomAt K G p sh pl ru ls ads du seq us n) (s:SF A G G1) (h1:¬ Foot A p) (h2:¬ Foot A ls) (h3:∀ x∈ads,¬ Foot A x) (h4:¬ Foot A du):RoomAt K G1 p sh pl ru ls ads du seq us n:=by
  obtain ⟨dx,g1⟩:=R.ob
  obtain ⟨kvs,g2,g3⟩:=R.dc
  exact ⟨⟨dx,s _ _ g1 h1⟩,⟨s _ _ R.st.top h2,R.st.len,R.st.nd,R.st.off,λi ad e=>s _ _ (R.st.at_ i ad e) (h3 ad (mem_of_getElem? e))⟩,⟨kvs,s _ _ g2 h4,g3⟩,R.nd,R.s0,R.s1⟩
theorem RoomAt.sb {K:W.Frag} {G G1:Hp} {p:Addr} {sh pl:Int} {ru:Str} {ls:Addr} {ads:List Addr} {du:Addr} {seq:List Int} {us:Int->Int} {n:Nat} (R:RoomAt K G p sh pl ru ls ads du seq us n) {x:Addr} (s:SB x G G1) (h1:x≠p) (h2:x≠ls) (h3:x∉ads) (h4:x≠du):RoomAt K G1 p sh pl ru ls ads du seq us n:=by
  obtain ⟨dx,g1⟩:=R.ob
  obtain ⟨kvs,g2,g3⟩:=R.dc
  exact ⟨⟨dx,s _ _ (Ne.symm h1) g1⟩,⟨s _ _ (Ne.symm h2) R.st.top,R.st.len,R.st.nd,R.st.off,λi ad e=>s _ _ (λz=>h3 (z ▸ mem_of_getElem? e)) (R.st.at_ i ad e)⟩,⟨kvs,s _ _ (Ne.symm h4) g2,g3⟩,R.nd,R.s0,R.s1⟩
theorem SR.lst {K:W.Frag} {H H':Hp} {p:Addr} {sh pl:Int} {ru:Str} {ls:Addr} {ads:List Addr} {du:Addr} {seq:List Int} {us:Int->Int} {n:Nat} {x:Addr} {xs:List V} (s:SR ads du H H') (R:RoomAt K H p sh pl ru ls ads du seq us n) (e:H x=some (.lst xs)) (nl:x∉ads):H' x=some (.lst xs):=by
  obtain ⟨kvs,g2,_⟩:=R.dc
  exact s _ _ e (λz=>by rw [z,g2] at e; cases e) nl
noncomputable def stepS (c:Cf) (s:RS) (b:Int):RS:=if b∈s.1 then useR c s b else match goneF c s b with
  | none=>inR s b
  | some x=>inR (outR s x) b
theorem near1 (s:RS) (b:Int):nearF [s] b=if b∈s.1 then 0 else 1:=by
  unfold nearF
  rw [List.findIdx_cons]
  by_cases c:b∈s.1
  . rw [if_pos c,decide_eq_true c]; rfl
  . rw [if_neg c,decide_eq_false c]; rfl
theorem fet1 {g:Pln} {c:Cf} {s:RS} {b:Int} (hg:g.cfs=[c]):fetS g [s] b=[stepS c s b]:=by
  unfold fetS stepS
  rw [near1,hg]
  by_cases m:b∈s.1
  . rw [if_pos m,if_pos m]
    by_cases k:g.kind = "apart"
    . rw [if_pos k]; rfl
    . rw [if_neg k]; rfl
  . rw [if_neg m,if_neg m]
    have dr:∀ x,Zcf g.kind [s] 0 x=[outR s x]:=λx=>by
      unfold Zcf
      split <;> rfl
    by_cases k:g.kind = "apart"
    . rw [if_pos k]
      show pushS [c] 1 [s] 0 b=_
      unfold pushS
      show (match goneF c s b with | none=>[s].set 0 (inR s b) | some x=>pushS [c] 0 ([s].set 0 (inR (outR s x) b)) (0+1) x)=_
      cases goneF c s b <;> rfl
    . rw [if_neg k]
      show downS g.kind [c] [s] 0 b=_
      unfold downS
      show (match goneF c s b with | none=>[s].set 0 (inR s b) | some x=>(Zcf g.kind [s] 0 x).set 0 (inR (outR s x) b))=_
      cases goneF c s b with
      | none=>rfl
      | some x=>show (Zcf g.kind [s] 0 x).set 0 (inR (outR s x) b)=_; rw [dr]; rfl
theorem disj1 (s:RS):Disj [s]:=λi j r t _ _ h1 h2 ne=>by
  have a1:=(List.getElem?_eq_some_iff.mp h1).1
  have a2:=(List.getElem?_eq_some_iff.mp h2).1
  rw [length_singleton] at a1 a2
  omega
theorem Zmu {sh pl:Int} {ru:Str} {S:List Rec} {seq:List Int} {us:Int->Int} {i:Nat} {z:Int} (L:Link sh pl ru S seq us i) (hz:z∈seq):(stepR sh pl ru i z S).2=(true,none)/\Link sh pl ru (stepR sh pl ru i z S).1 (if ru = "old" then seq.erase z++[z] else seq) (bump us z) (i+1):=by
  unfold stepR
  cases e:recOf S z with
  | some r=>exact ⟨rfl,L.found e λx=>rfl⟩
  | none=>exact absurd ((L.mem z).mp hz) (recOf_none.mp e)
theorem ZlB {sh pl:Int} {ru:Str} {S:List Rec} {seq:List Int} {us:Int->Int} {i:Nat} {z:Int} {gone:Option Int} (L:Link sh pl ru S seq us i) (hp:1<=pl) (hr:Rule ru) (hz:z∉seq) (G:goneP ru us pl (Zk sh (z % sh) seq) gone):(stepR sh pl ru i z S).2=(false,gone)/\Link sh pl ru (stepR sh pl ru i z S).1 (lessO seq gone++[z]) (zero us z) (i+1):=by
  have eg:=Zlk L hp hr G
  unfold stepR
  cases e:recOf S z with
  | some r=>exact absurd ((L.mem z).mpr (by
      by_cases c:z∈bds S
      . exact c
      . rw [recOf_none.mpr c] at e; cases e)) hz
  | none =>
    rw [eg]
    refine ⟨rfl,L.missed hz eg (λx=>rfl) ?_⟩
    by_cases c:((Zk sh (z % sh) seq).length:Int)<pl
    . exact .inl c
    . obtain ⟨x,r,e1,po,_⟩:=G.2 c
      exact .inr ⟨x,po.mem_iff.mp mem_cons_self,e1⟩
section
variable {P:Program} {w:World} {K:W.Frag} {mg:Str->Option Value} {base:Heap}
def ZlC (K:W.Frag):Sp:=λvs H Q _=>∃ (A:TA) (g:Pln) (S:List RS) (xs:List V) (U:List Int) (k:Nat) (s:RS),vs=[.ref A.p,.int (k:Int)]/\StairsAt K H A g S xs U/\S[k]?=some s/\s.1.length<64/\∀ (D:Addr) (os:List Int),H D=none->os.Perm s.1->os.Pairwise (·<=·)->Q (.ref D) (upd H D (.lst (os.map V.int)))
theorem Zgv {f:Addr} {fd:FuncData} (F:Fun K "lies" "Steps.lies" Zbe f fd) (T:Txt K mg) (M_Steps_store:MDef P w K mg base (clsOf K "Stairs") "store" 1 Zah (Zdr K)) (M_Room_boards:MDef P w K mg base (clsOf K "Room") "boards" 1 ZaL (spBds K)):FnOk P w K mg base CX0 2 f fd ZbD (ZlC K):=by
  refine F.ok sc_Steps_lies (λvs H Q E h=>?_) (λcdv A outer st H vs Q E hr h=>?_)
  . obtain ⟨A,g,S,xs,U,k,s,rfl,_⟩:=h
    rfl
  obtain ⟨A,g,S,xs,U,k,s,rfl,R,hs,h64,q⟩:=h
  have nd:=sc_Steps_lies.nd
  refine ⟨_,(Zi (Zw (Zex M_Room_boards hr.m T.cl_Room (Zo (K:=K) rfl (Zl M_Steps_store hr.m T.cl_Stairs (pv 0) (pc (pv 1) Ze)) rfl)))),?_⟩
  obtain ⟨dx,h1⟩:=R.ob
  obtain ⟨a,c,s',e1,e2,e3,B⟩:=R.at_ (k:=k) (by rw [← R.lS]; exact (List.getElem?_eq_some_iff.mp hs).1)
  rw [hs] at e3; cases e3
  obtain ⟨ds,h3⟩:=B.ob
  obtain ⟨dr,h4⟩:=B.room.ob
  exact ⟨_,rfl,A.p,dx,_,rfl,h1,tf_no ..,_,rfl,A,g,S,xs,U,k,a,rfl,R,e1,a.sp,_,ds,_,_,rfl,h3,T.cl_Store,T.n_Store_room,Zcs ..,a.rp,dr,_,rfl,h4,fl_no ..,a.rp,c.sh,c.pl,c.ru,a.ls,a.ads,a.du,s.1,s.2,_,rfl,B.room,h64,q⟩
def Ziw (K:W.Frag):Sp:=λvs H Q _=>∃ (A:TA) (g:Pln) (S:List RS) (xs:List V) (U:List Int) (k:Nat) (n:Int) (c:Cf) (s:RS),vs=[.ref A.p,.int (k:Int),.int n]/\StairsAt K H A g S xs U/\g.cfs[k]?=some c/\S[k]?=some s/\0<=n/\n<c.sh /\
  ∀ (D:Addr) (H':Hp) (os:List Int),H D=none->Same H H'->H' D=some (.lst (os.map V.int))->os.Perm (Zk c.sh n s.1)->(c.ru = "few" -> os.Pairwise (KLt s.2 (Zk c.sh n s.1)))->(c.ru ≠ "few" -> os=Zk c.sh n s.1)->Q (.ref D) H'
theorem ZeS {f:Addr} {fd:FuncData} (F:Fun K "order" "Stairs.order" Zau f fd) (T:Txt K mg) (M_Steps_store:MDef P w K mg base (clsOf K "Stairs") "store" 1 Zah (Zdr K)) (M_Room_shelf:MDef P w K mg base (clsOf K "Room") "shelf" 3 Zba (Zdn K)):FnOk P w K mg base CX0 4 f fd ZaS (Ziw K):=by
  refine F.ok sc_Stairs_order (λvs H Q E h=>?_) (λcdv A outer st H vs Q E hr h=>?_)
  . obtain ⟨A,g,S,xs,U,k,n,c,s,rfl,_⟩:=h
    rfl
  obtain ⟨A,g,S,xs,U,k,n,c,s,rfl,R,hc,hs,n0,n1,q⟩:=h
  have nd:=sc_Stairs_order.nd
  refine ⟨_,(Zi (Zw (Zl M_Room_shelf hr.m T.cl_Room (Zo (K:=K) rfl (Zl M_Steps_store hr.m T.cl_Stairs (pv 0) (pc (pv 1) Ze)) rfl) (pc (pv 2) Ze)))),?_⟩
  obtain ⟨dx,h1⟩:=R.ob
  obtain ⟨a,c',s',e1,e2,e3,B⟩:=R.at_ (k:=k) (by rw [← R.lS]; exact (List.getElem?_eq_some_iff.mp hs).1)
  rw [hs] at e3; cases e3
  rw [hc] at e2; cases e2
  obtain ⟨ds,h3⟩:=B.ob
  obtain ⟨dr,h4⟩:=B.room.ob
  have fl:=R.full k c s hc hs n
  have cb:=R.cf c (mem_of_getElem? hc)
  exact ⟨_,rfl,A.p,dx,_,rfl,h1,tf_no ..,_,rfl,A,g,S,xs,U,k,a,rfl,R,e1,a.sp,_,ds,_,_,rfl,h3,T.cl_Store,T.n_Store_room,Zcs ..,a.rp,dr,_,rfl,h4,fl_no ..,_,rfl,a.rp,n,c.sh,c.pl,c.ru,a.ls,a.ads,a.du,s.1,s.2,_,rfl,B.room,R.tb,n0,n1,by omega,q⟩
def spDuE (K:W.Frag):Sp:=λvs H Q _=>∃ (ad:Addr) (b:Int) (fo:Bool) (o:Option Int),vs=[.ref ad,.int b]/\H ad=some (.tup [.bl fo,optV o]) /\
  ∀ (l:Addr) (H':Hp) (ys:List V),H l=none->Same H H'->H' l=some (.lst ys)->EvAt H' ys ([[.str "found",.int (if fo then 0 else 1)]]++evOut 0 o++(if fo then [] else evIn 0 b))->Q (.ref l) H'
theorem ZoK {f:Addr} {fd:FuncData} (F:Fun K "_law_due" "_law_due" s_due f fd) (T:Txt K mg):FnOk P w K mg base CX0 1 f fd P_due (spDuE K):=by
  refine F.ok sc_due (λvs H Q E h=>?_) (λcdv A outer st H vs Q E hr h=>?_)
  . obtain ⟨ad,b,fo,o,rfl,_⟩:=h
    rfl
  obtain ⟨ad,b,fo,o,rfl,ha,k⟩:=h
  have nd:=sc_due.nd
  refine ⟨_,(Zh (pst 2 nd (Zcc (pc (Zbg (pc Zbf (pc (pe_op ZdH Zj (Zap Zcw rfl T.z_int Zcj (pc (pe_ix (Zev (K:=K) rfl) (pv 0) Zj (λ_ _=>rfl)) Ze))) Ze))) Ze)))
      (Zh (ps_if (Zgx (ZhK (pe_ix (Zev (K:=K) rfl) (pv 0) Zj (λ_ _=>rfl)))) (Zi (Zv (ZdK (K:=K) rfl (pe_bm PySem.F.plainAttrs_list PySem.F.slot_list_append PySem.F.type_list_append ZbT (pv 2) (pc (Zbg (pc Zbf (pc Zj (pc (pe_ix (Zev (K:=K) rfl) (pv 0) Zj (λ_ _=>rfl)) Ze)))) Ze))))) Zz)
      (Zi (Zw (pe_op Zod (pv 2) (pe_op Zoe (Zcc (pc (Zbg (pc Zbf (pc Zj (pc (pv 1) Ze)))) Ze)) (pe_op ZdH Zj (Zap Zcw rfl T.z_int Zcj (pc (pe_ix (Zev (K:=K) rfl) (pv 0) Zj (λ_ _=>rfl)) Ze))))))))),?_⟩
  have one:(1:Int) - (if fo then 1 else 0)=if fo then 0 else 1:=by cases fo <;> rfl
  refine hide λu1 e1=>?_
  refine ⟨_,rfl,ad,_,_,_,rfl,rfl,SqT.of ha,atI0,.inr ⟨fo,rfl,_,_,rfl,rfl,(by show 2<=sizeLine; decide),λt1 ht1=>⟨(by show 1<=sizeLine; decide),λl hl=>gN ?_⟩⟩⟩
  subst e1
  try dsimp only
  dsimp only at hl
  rw [one] at hl ⊢
  have s1:=Zg ht1 (.tup [.str "found",.int (if fo then 0 else 1)])
  have hlH:=s1.free hl
  have s2:=s1.trans (Zg hl (.lst [V.ref t1]))
  have ev1:EvAt (upd (upd H t1 (.tup [.str "found",.int (if fo then 0 else 1)])) l (.lst [V.ref t1])) [V.ref t1] [[.str "found",.int (if fo then 0 else 1)]]:=EvAt.one (Zg hl _ _ _ Za)
  have el:upd (upd H t1 (.tup [.str "found",.int (if fo then 0 else 1)])) l (.lst [V.ref t1]) l=some (.lst [V.ref t1]):=Za
  generalize upd (upd H t1 (.tup [.str "found",.int (if fo then 0 else 1)])) l (.lst [V.ref t1])=G1 at *
  refine cpI (λσ G=>∃ ys:List V,σ=[some (.ref ad),some (.int b),some (.ref l)]/\Same H G/\G l=some (.lst ys)/\ys.length<=2/\EvAt G ys ([[.str "found",.int (if fo then 0 else 1)]]++evOut 0 o)) (λD' _ k'=>?_) ?_
  . refine ⟨_,rfl,ad,_,_,_,rfl,rfl,SqT.of (s2 _ _ ha),atI1,_,rfl,?_⟩
    cases o with
    | none=>exact ifF rfl (k' _ _ ⟨_,rfl,s2,el,(by show 1<=2; decide),by rw [show evOut 0 none=[] from rfl,append_nil]; exact ev1⟩)
    | some x =>
      refine ifT rfl ⟨_,rfl,.inl ⟨rfl,_,SqL.of el⟩,_,rfl,ad,_,_,_,rfl,rfl,SqT.of (s2 _ _ ha),atI1,(by show 3<=sizeLine; decide),λt2 ht2=>?_⟩
      have s3:=Zg ht2 (.tup [.str "out",.int 0,optV (some x)])
      have et2:upd G1 t2 (.tup [.str "out",.int 0,optV (some x)]) t2=some (.tup [.str "out",.int 0,optV (some x)]):=Za
      have el3:=s3 _ _ el
      refine ⟨l,_,_,rfl,rfl,el3,Zx (by show 1<=1000; decide),k' _ _ ⟨_,rfl,λy o' e=>?_,Za,(by show 2<=2; decide),?_⟩⟩
      . rw [Zb (Zd e hlH)]
        exact s3 _ _ (s2 _ _ e)
      . have kt:∀ t e,upd G1 t2 (.tup [.str "out",.int 0,optV (some x)]) t=some (.tup e)->upd (upd G1 t2 (.tup [.str "out",.int 0,optV (some x)])) l (.lst ([V.ref t1]++[V.ref t2])) t=some (.tup e):=λt e q=>by
          rw [Zb (ne_of q el3 (by intro z; cases z))]; exact q
        exact ((ev1.keep λt e q=>s3 _ _ q).keep kt).app ((EvAt.one et2).keep kt)
  rintro _ G ⟨ys,rfl,s4,el4,ly,ev4⟩
  refine ⟨_,rfl,_,rfl,(by show 3<=sizeLine; decide),λt3 ht3=>⟨(by show 1<=sizeLine; decide),λl3 hl3=>⟨_,rfl,ad,_,_,_,rfl,rfl,SqT.of (Zg hl3 _ _ _ (Zg ht3 _ _ _ (s4 _ _ ha))),atI0,.inr ⟨fo,rfl,_,_,rfl,rfl,?_⟩⟩⟩⟩
  have s5:=(Zg ht3 (.tup [.str "in",.int 0,.int b])).trans (Zg hl3 (.lst [V.ref t3]))
  have et3:=Zg hl3 (.lst [V.ref t3]) _ _ (Za (H:=G) (a:=t3) (o:=.tup [.str "in",.int 0,.int b]))
  have el3:upd (upd G t3 (.tup [.str "in",.int 0,.int b])) l3 (.lst [V.ref t3]) l3=some (.lst [V.ref t3]):=Za
  generalize upd (upd G t3 (.tup [.str "in",.int 0,.int b])) l3 (.lst [V.ref t3])=G5 at *
  have sH:=s4.trans s5
  cases fo with
  | true =>
    refine ⟨l3,_,_,rfl,rfl,el3,by decide,by decide,by show 1 * 0<=sizeLine; decide,λl4 hl4=>?_⟩
    have s6:=Zg hl4 (.lst (List.replicate ((1:Int) - (if true=true then 1 else 0)).toNat [V.ref t3]).flatten)
    refine ⟨l,l4,_,_,rfl,rfl,s6 _ _ (s5 _ _ el4),Za,Nat.le_of_lt (Zx (by show ys.length+0<=1000; omega)),λl5 hl5=>?_⟩
    have s7:=s6.trans (Zg hl5 (.lst (ys++(List.replicate ((1:Int) - (if true=true then 1 else 0)).toNat [V.ref t3]).flatten)))
    refine k l5 _ ys ((sH.trans s6).free hl5) (sH.trans s7) (by rw [Za]; show some (HO.lst (ys++[]))=_; rw [append_nil]) ?_
    have z:([[V.str "found",.int (if true=true then 0 else 1)]]++evOut 0 o++if true=true then [] else evIn 0 b)=[[V.str "found",.int (if true=true then 0 else 1)]]++evOut 0 o:=by
      show _++[]=_
      rw [append_nil]
    rw [z]
    exact ev4.keep λt e q=>s7 _ _ (s5 _ _ q)
  | false =>
    refine ⟨l3,_,_,rfl,rfl,el3,by decide,by decide,by show 1 * 1<=sizeLine; decide,λl4 hl4=>?_⟩
    have s6:=Zg hl4 (.lst (List.replicate ((1:Int) - (if false=true then 1 else 0)).toNat [V.ref t3]).flatten)
    refine ⟨l,l4,_,_,rfl,rfl,s6 _ _ (s5 _ _ el4),Za,Nat.le_of_lt (Zx (by show ys.length+1<=1000; omega)),λl5 hl5=>?_⟩
    have s7:=s6.trans (Zg hl5 (.lst (ys++(List.replicate ((1:Int) - (if false=true then 1 else 0)).toNat [V.ref t3]).flatten)))
    refine k l5 _ (ys++[V.ref t3]) ((sH.trans s6).free hl5) (sH.trans s7) (by rw [Za]; rfl) ?_
    exact (ev4.keep λt e q=>s7 _ _ (s5 _ _ q)).app (EvAt.one (s7 _ _ et3))
end
theorem ZnJ {K:W.Frag} {G H4:Hp} {p dx ls du:Addr} {ads:List Addr} (hp:G p=none) (hdx:G dx=none) (npd:dx≠p) (f1:upd (upd G dx (.own p)) p (.ins (clsOf K "Room") dx []) ls=none) (f2:upd (upd G dx (.own p)) p (.ins (clsOf K "Room") dx []) du=none) (f3:∀ x∈ads,upd (upd G dx (.own p)) p (.ins (clsOf K "Room") dx []) x=none)
    (k4:∀ x o,upd (upd G dx (.own p)) p (.ins (clsOf K "Room") dx []) x=some o->x≠p->H4 x=some o):Same G H4/\∀ x,x=ls\/x=du\/x∈ads->G x=none:=by
  refine ⟨λx o e=>?_,λx hx=>?_⟩
  . have n1:=Zd e hp
    have n2:=Zd e hdx
    exact k4 x o (by rw [Zb n1,Zb n2]; exact e) n1
  . have q:upd (upd G dx (.own p)) p (.ins (clsOf K "Room") dx []) x=none:=by
      rcases hx with rfl | rfl | hx
      . exact f1
      . exact f2
      . exact f3 x hx
    have n1:x≠p:=λz=>by rw [z,Za] at q; cases q
    have n2:x≠dx:=λz=>by rw [z,Zb npd,Za] at q; cases q
    rw [Zb n1,Zb n2] at q
    exact q
theorem Zmv {ru:Str} {us:Int->Int} {pl:Int} {ms:List Int} (nd:ms.Nodup) (hp:1<=pl):∃ g,goneP ru us pl ms g:=by
  by_cases c:(ms.length:Int)<pl
  . exact ⟨none,λ_=>rfl,λn=>absurd c n⟩
  . by_cases r:ru = "few"
    . have tr:∀ a b d:Int,decide (us a<us b\/(us a=us b/\ms.idxOf a<=ms.idxOf b))=true->decide (us b<us d\/(us b=us d/\ms.idxOf b<=ms.idxOf d))=true->decide (us a<us d\/(us a=us d/\ms.idxOf a<=ms.idxOf d))=true:=λa b d h1 h2=>by
        have h1:=of_decide_eq_true h1
        have h2:=of_decide_eq_true h2
        exact decide_eq_true (by omega)
      have to:∀ a b:Int,(decide (us a<us b\/(us a=us b/\ms.idxOf a<=ms.idxOf b)) || decide (us b<us a\/(us b=us a/\ms.idxOf b<=ms.idxOf a)))=true:=λa b=>by
        rw [Bool.or_eq_true,decide_eq_true_eq,decide_eq_true_eq]
        omega
      have pm:=List.mergeSort_perm ms λa b=>decide (us a<us b\/(us a=us b/\ms.idxOf a<=ms.idxOf b))
      have so:=List.pairwise_mergeSort tr to ms
      generalize ms.mergeSort (λa b=>decide (us a<us b\/(us a=us b/\ms.idxOf a<=ms.idxOf b)))=os at *
      have ndo:os.Nodup:=pm.nodup_iff.mpr nd
      have pw:os.Pairwise (KLt us ms):=by
        have h2:=List.nodup_iff_pairwise_ne.mp ndo
        refine (so.and h2).imp_of_mem λ{a b} ha hb ⟨q1,q2⟩=>?_
        have q1:=of_decide_eq_true q1
        have ne:ms.idxOf a≠ms.idxOf b:=λz=>q2 (by
          have e1:=getElem_idxOf (List.idxOf_lt_length_of_mem (pm.mem_iff.mp ha))
          have e2:=getElem_idxOf (List.idxOf_lt_length_of_mem (pm.mem_iff.mp hb))
          rw [← e1,← e2]
          congr 1)
        unfold KLt
        omega
      cases os with
      | nil=>have:=pm.length_eq; simp at this; omega
      | cons g rest=>exact ⟨some g,λn=>absurd n c,λ_=>⟨g,rest,rfl,pm,λ_=>pw,λn=>absurd r n⟩⟩
    . cases ms with
      | nil=>simp at c; omega
      | cons g rest=>exact ⟨some g,λn=>absurd n c,λ_=>⟨g,rest,rfl,List.Perm.refl _,λn=>absurd n r,λ_=>rfl⟩⟩
theorem Zmw {c:Cf} {s:RS} {b:Int} (nd:s.1.Nodup) (hp:1<=c.pl):goneP c.ru s.2 c.pl (Zk c.sh (b % c.sh) s.1) (goneF c s b):=by
  have e:=Zmv (ru:=c.ru) (us:=s.2) (pl:=c.pl) (ms:=Zk c.sh (b % c.sh) s.1) (nd.sublist filter_sublist) hp
  unfold goneF
  rw [dif_pos e]
  exact Classical.choose_spec e
theorem ZhF {c:Cf} {s:RS} {b:Int} (h:b∈s.1):stepS c s b=(if c.ru = "old" then s.1.erase b++[b] else s.1,bump s.2 b):=by unfold stepS; rw [if_pos h]; rfl
theorem ZhG {c:Cf} {s:RS} {b:Int} (h:b∉s.1):stepS c s b=(lessO s.1 (goneF c s b)++[b],zero s.2 b):=by
  unfold stepS
  rw [if_neg h]
  cases goneF c s b <;> rfl
theorem EvAt.eqv {G:Hp} {xs ys:List V} {es:List (List V)} {a b:Addr} (h1:EvAt G xs es) (h2:EvAt G ys es) (ha:G a=some (.lst xs)) (hb:G b=some (.lst ys)) (hs:∀ e∈es,e.length<=1000/\∀ v∈e,Sc v) (hl:es.length<=1000):Eqv 2 G (.ref a) (.ref b):=by
  refine .inr ⟨a,b,xs,ys,rfl,rfl,.inl ⟨ha,hb⟩,by rw [h1.1,h2.1],by rw [h1.1]; exact hl,λi u v e1 e2=>?_⟩
  have hi:i<es.length:=by rw [← h1.1]; exact (List.getElem?_eq_some_iff.mp e1).1
  have ei:es[i]?=some es[i]:=getElem?_eq_getElem hi
  obtain ⟨t1,rfl,q1⟩:=h1.2 i u _ e1 ei
  obtain ⟨t2,rfl,q2⟩:=h2.2 i v _ e2 ei
  obtain ⟨l1,l2⟩:=hs _ (getElem_mem hi)
  exact Eqv.flatTN 0 q1 q2 l1 l2
structure E27 (K:W.Frag) (H G:Hp) (A:TA) (g:Pln) (c:Cf) (s:RS) (ns row:List Int) (fs:List (Bool×Option Int)) (b lr lp lso rp ls du:Addr) (ads:List Addr) (i:Nat):Prop where
  R:StairsAt K G A g [s] [] ns
  rm:RoomAt K G rp c.sh c.pl c.ru ls ads du s.1 s.2 i
  ob:b∈A.out
  oa:∀ x∈ads,x∈A.out
  nf:∀ x,(x=b\/x=lr\/x=lp\/x=lso\/x=rp\/x=ls\/x=du\/x∈ads\/H x≠none)->¬ Foot A x
  dn:du≠A.dk/\∀ a∈A.as,du≠a.du/\du≠a.dh/\du≠a.df
  er:G lr=some (.lst (row.map V.int))
  ep:Told G lp fs
  es:G lso=some (.lst (ns.map V.int))
  sb:SB b H G
structure F27 (H:Hp) (b lr lp lso rp ls du:Addr) (ads:List Addr):Prop where
  a1:lr∉ads
  a2:lp∉ads
  a3:lso∉ads
  a4:b∉ads
  b1:b≠lr
  b2:b≠lp
  b3:b≠lso
  b4:b≠rp
  b5:b≠ls
  b6:b≠du
  h1:H du=none
  h2:∀ x∈ads,H x=none
theorem Told.sb {G G1:Hp} {b l:Addr} {xs:List V} {fs:List (Bool×Option Int)} (h:Told G l fs) (s:SB b G G1) (hb:G b=some (.lst xs)) (n:b≠l):Told G1 l fs:=by
  obtain ⟨ads,h1,h2,h3⟩:=h
  refine ⟨ads,s _ _ (Ne.symm n) h1,h2,λm ad f e1 e2=>?_⟩
  have q:=h3 m ad f e1 e2
  exact s _ _ (λz=>by rw [z,hb] at q; cases q) q
section
variable {K:W.Frag} {H G G1:Hp} {A:TA} {g:Pln} {c:Cf} {s:RS} {ns row:List Int} {fs:List (Bool×Option Int)} {b lr lp lso rp ls du:Addr} {ads:List Addr} {i:Nat}
theorem E27.same (e:E27 K H G A g c s ns row fs b lr lp lso rp ls du ads i) (q:Same G G1):E27 K H G1 A g c s ns row fs b lr lp lso rp ls du ads i :=
  ⟨e.R.same q,e.rm.same q,e.ob,e.oa,e.nf,e.dn,q _ _ e.er,e.ep.same q,q _ _ e.es,λx o nx y=>q _ _ (e.sb x o nx y)⟩
theorem E27.take {xs ys:List V} (e:E27 K H G A g c s ns row fs b lr lp lso rp ls du ads i) (F:F27 H b lr lp lso rp ls du ads) (hb:G b=some (.lst xs)) (hb':G1 b=some (.lst ys)) (q:SB b G G1):E27 K H G1 A g c s ns row fs b lr lp lso rp ls du ads i:=by
  obtain ⟨kvs,g2,_⟩:=e.rm.dc
  refine ⟨e.R.keepO g2 e.dn.1 e.dn.2 (λx o ex _ no=>q _ _ (λz=>no (z ▸ e.ob)) ex) (λx hx=>?_),e.rm.sb q F.b4 F.b5 F.a4 F.b6,e.ob,e.oa,e.nf,e.dn,q _ _ (Ne.symm F.b1) e.er,e.ep.sb q hb F.b2,q _ _ (Ne.symm F.b3) e.es,e.sb.trans q⟩
  by_cases z:x=b
  . rw [z]; exact ⟨_,hb'⟩
  . obtain ⟨zs,ex⟩:=e.R.oex x hx
    exact ⟨zs,q _ _ z ex⟩
theorem E27.read {e':Addr} {s':RS} (e:E27 K H G A g c s ns row fs b lr lp lso rp ls du ads i) (f:SF A G G1) (R1:StairsAt K G1 { A with ev:=e' } g [s'] [] ns) (he:G e'=none\/Foot A e'):StairsAt K G1 { A with ev:=e' } g [s'] [] ns/\RoomAt K G1 rp c.sh c.pl c.ru ls ads du s.1 s.2 i /\
    (∀ x,(x=b\/x=lr\/x=lp\/x=lso\/x=rp\/x=ls\/x=du\/x∈ads\/H x≠none)->(∃ o,G x=some o)->¬ Foot { A with ev:=e' } x)/\G1 lr=some (.lst (row.map V.int))/\Told G1 lp fs/\G1 lso=some (.lst (ns.map V.int))/\SF A G G1:=by
  have nf:=e.nf
  refine ⟨R1,e.rm.sfN f (nf _ (by simp)) (nf _ (by simp)) (λx hx=>nf x (by simp [hx])) (nf _ (by simp)),λx hx ⟨o,ex⟩ z=>?_,f _ _ e.er (nf _ (by simp)),?_,f _ _ e.es (nf _ (by simp)),f⟩
  . rcases z with z | z | z
    . exact nf x hx (.inl z)
    . rcases he with he | he
      . have z:x=e':=z
        rw [z,he] at ex; cases ex
      . have z:x=e':=z
        exact nf x hx (z ▸ he)
    . exact nf x hx (.inr (.inr z))
  . obtain ⟨tas,h1,h2,h3⟩:=e.ep
    exact ⟨tas,f _ _ h1 (nf _ (by simp)),h2,λm ad w e1 e2=>by
      have q:=h3 m ad w e1 e2
      exact f _ _ q (e.R.sfp q (λ_ z=>by cases z) (λ_ z=>by cases z) (λ_ _ _ z=>by cases z))⟩
end
theorem ZmQ (sh pl:Int) (ru:Str) (row:List Int):∀ {n i:Nat},i<n->(runR sh pl ru row n).2[i]?=some (stepR sh pl ru i (row.getD i 0) (runR sh pl ru row i).1).2
  | 0,i,h=>absurd h (Nat.not_lt_zero _)
  | n+1,i,h=>by
    have len:=(Zle sh pl ru row n).2.2
    show ((runR sh pl ru row n).2++[_])[i]?=_
    by_cases c:i<n
    . rw [getElem?_append_left (by rw [len]; exact c)]
      exact ZmQ sh pl ru row c
    . have e:i=n:=by omega
      subst e
      rw [getElem?_append_right (by rw [len]; exact Nat.le_refl _),len,Nat.sub_self]
      rfl
section
variable {P:Program} {w:World} {K:W.Frag} {mg:Str->Option Value} {base:Heap}
theorem ZnK (t:Addr) (ts:List Addr):cutV ((t :: ts).map V.ref) none (some 1)=[V.ref t]:=by
  unfold cutV
  rw [HT.sIx_none]
  have e:HT.sIx ((t :: ts).map V.ref).length ((t :: ts).map V.ref).length (some 1)=min 1 ((t :: ts).map V.ref).length:=HT.sIx_nat (n:=((t :: ts).map V.ref).length) (d:=((t :: ts).map V.ref).length) 1
  rw [e,List.drop_zero,length_map,length_cons,Nat.min_eq_left (by omega)]
  rfl
theorem ZjU {z s r:Int} (h0:0<=z) (h1:z<=9999 / s) (s0:1<=s) (r0:0<=r) (r1:r<s):(if z * s+r<9999 then z * s+r else 9999) / s=z:=by
  have m1:z * s<=9999:=by
    have:=Int.mul_le_mul_of_nonneg_right h1 (by omega:0<=s)
    have d:=Int.ediv_mul_le 9999 (by omega:s≠0)
    omega
  have key:∀ y:Int,z * s<=y->y<z * s+s->y / s=z:=λy a b=>by
    have e:y=(y - z * s)+z * s:=by omega
    rw [e,Int.add_mul_ediv_right _ _ (by omega:s≠0),Int.ediv_eq_zero_of_lt (by omega) (by omega)]
    omega
  split
  . exact key _ (by omega) (by omega)
  . exact key _ (by omega) (by omega)
def Zix (K:W.Frag):Sp:=λvs H Q _=>∃ (b:Addr) (a q c:Int),vs=[.ref b]/\BoxAt H b a q c/\c<100000000/\Tb K H/\∀ H',SB b H H'->Q (.bl true) H'
theorem Zmx {f:Addr} {fd:FuncData} (F:Fun K "_law_right" "_law_right" Zcr f fd) (T:Txt K mg) (D_take:Def P w K mg base "_law_take" 1 Zdj ZeE) (D_plan:Def P w K mg base "_law_plan" 3 Zhl (Ziv K)) (D_some_boards:Def P w K mg base "_law_some_boards" 2 Zbm ZfY) (D_many:Def P w K mg base "_law_many" 2 Zhm ZlA) (K_Stairs:KDef P w K mg base (clsOf K "Stairs") "Stairs" 6 Zbj (Zgu K)) (K_Room:KDef P w K mg base (clsOf K "Room") "Room" 1 ZaW (Zhw K)) (D_run_row:Def P w K mg base "run_row" 7 Zco (spRun K)) (M_Stairs_read:MDef P w K mg base (clsOf K "Stairs") "read" 15 Zbk (Zly K)) (D_due:Def P w K mg base "_law_due" 1 P_due (spDuE K))
    (D_same':∀ n,Def P w K mg base "_law_same" (n+1) ZdP (ZfZ n)) (M_Room_has:MDef P w K mg base (clsOf K "Room") "has" 1 ZaJ (spHas K)) (M_Room_use:MDef P w K mg base (clsOf K "Room") "use" 3 Zbp (spUse K)) (M_Room_bring:MDef P w K mg base (clsOf K "Room") "bring" 4 ZaA (ZeI K)) (D_misses:Def P w K mg base "misses" 8 Zdi (Zll K)) (M_Steps_lies:MDef P w K mg base (clsOf K "Stairs") "lies" 2 ZbD (ZlC K)) (M_Room_boards:MDef P w K mg base (clsOf K "Room") "boards" 1 ZaL (spBds K)) (M_Stairs_order:MDef P w K mg base (clsOf K "Stairs") "order" 4 ZaS (Ziw K)) (M_Room_shelf:MDef P w K mg base (clsOf K "Room") "shelf" 3 Zba (Zdn K)):FnOk P w K mg base CX0 16 f fd ZeD (Zix K):=by
  refine F.ok sc_right (λvs H Q E h=>?_) (λcdv A outer st H vs Q E hr h=>?_)
  . obtain ⟨b,a,q,c,rfl,_⟩:=h
    rfl
  obtain ⟨b,a,q,c,rfl,B,hc,tb,k⟩:=h
  have ntb:tabOf K "Room" "going" ≠ b:=ne_of tb B.1 (by intro z; cases z)
  have nd:=sc_right.nd
  have hu:=hu_of hr
  have D_same:=D_same' 3
  refine ⟨_,(Zh (ZbQ (Zt D_plan hr.m rfl (pc (pv 0) Ze)) (Zaz (K:=K) (n:=3) rfl rfl (Zp (pgn 1 nd) (Zp (pgn 2 nd) (Zp (pgn 3 nd) Zay)))))
      (Zh (ZbQ (pe_ix (Zev (K:=K) rfl) (pv 3) Zj (λ_ _=>rfl)) (Zaz (K:=K) (n:=4) rfl rfl (Zp (pgn 4 nd) (Zp (pgn 5 nd) (Zp (pgn 6 nd) (Zp (pgn 7 nd) Zay))))))
      (Zh (pst 8 nd (Zt D_some_boards hr.m rfl (pc (pv 0) (pc (pv 1) Ze))))
      (Zh (ZiK 9 (Zal (osc:=(Zc Zcr)) (oN:=ZfV) (N:=["_law_turn", "_law_some", "_law_box_here"]) (own:=1) (js:=[8,0]) (by decide +kernel) rfl rfl) rfl nd rfl rfl (Zch rfl T.z_range (pc (Zt D_many hr.m rfl (pc (pv 0) (pc Zj (pc Zj Ze)))) Ze)) (λ_ _ _ _ _ _=>(pgn 0 (show List.Nodup (["_law_turn", "_law_some", "_law_box_here"]:List Str) by decide +kernel))) (λ_ _ _ _ _ _=>(pe_ix (Zu (K:=K) rfl) (pv 1) (Zt D_take hr.m rfl (pc (pv 2) (pc (Zs (ZS (K:=K) rfl) rfl T.z_len PySem.boot_len (pc (pv 1) Ze)) Ze))) (λ_ _=>rfl))))
      (Zh (ZbQ (Zbg (pc (ZcH K_Stairs hr.m rfl (pc (Zbg (pc (pv 1) (pc (pv 2) (pc (ZfD Zni (pv 3) Zkn (ZfC Zj)) Ze)))) Ze)) (pc (ZcH K_Room hr.m rfl (pc (pv 4) (pc (pv 5) (pc (pv 6) Ze)))) (pc Zj Ze)))) (Zaz (K:=K) (n:=3) rfl rfl (Zp (pgn 10 nd) (Zp (pgn 11 nd) (Zp (pgn 12 nd) Zay)))))
      (Zh (Zfl PassesOwn.never rfl (Zof rfl T.z_zip (pc (pv 9) (pc (Zt D_run_row hr.m rfl (pc (pv 4) (pc (pv 5) (pc (pv 6) (pc (pv 9) Ze))))) Ze))) (Zaz (K:=K) (n:=2) rfl rfl (Zp (pgn 13 nd) (Zp (pgn 14 nd) Zay))) (Zh (pst 15 nd (Zl M_Stairs_read hr.m T.cl_Stairs (pv 10) (pc (Zs (Zkg rfl) rfl T.z_min ZlO (pc Zj (pc (pe_op Zaw (pe_op Zct (pv 13) (pv 1)) (Zt D_take hr.m rfl (pc (pv 0) (pc (pv 1) Ze)))) Ze))) Ze)))
      (Zh (ps_if (Zfj (ZbA (Zt D_same hr.m rfl (pc (pv 15) (pc (Zbg (pc Zj (pc (Zt D_due hr.m rfl (pc (pv 14) (pc (pv 13) Ze))) Ze))) Ze))))) (Zi (Zw pe_bl)) Zz)
      (Zi (ps_if (ZbA (Zl M_Room_has hr.m T.cl_Room (pv 11) (pc (pv 13) Ze))) (Zi (Zv (Zl M_Room_use hr.m T.cl_Room (pv 11) (pc (pv 13) Ze)))) (Zh (pst 12 nd (pe_op Zaw (pv 12) Zj))
      (Zi (Zv (Zl M_Room_bring hr.m T.cl_Room (pv 11) (pc (pv 13) Ze))))))))))
      (Zh (ps_if (PW.pt (pw_or (ZZ op_ne (pv 12) (Zt D_misses hr.m rfl (pc (pv 4) (pc (pv 5) (pc (pv 6) (pc (pv 9) Ze))))) (ZM _)) (ZiB (ZZ (Zoi (K:=K) (Nat.lt_of_succ_lt hu) rfl) (Zl M_Steps_lies hr.m T.cl_Stairs (pv 10) (pc Zj Ze)) (Zex M_Room_boards hr.m T.cl_Room (pv 11)) (ZM _))))) (Zi (Zw pe_bl)) Zz)
      (Zh (pst 16 nd (Znx rfl rfl T.z_sorted rfl T.z_set (pc (ZbI (Zal (osc:=(Zc Zcr)) (oN:=ZfV) (N:=["_law_board", "_law_shelves"]) (own:=1) (js:=[4]) (by decide +kernel) rfl rfl) rfl (Zdb (K:=K) rfl (pv 8)) (λ_ _ _ _ _ _=>(pgn 0 (show List.Nodup (["_law_board", "_law_shelves"]:List Str) by decide +kernel))) (λ_ _ _ _ _ _=>(pe_op Zci (pv 0) (pv 1)))) Ze)))
      (Zi (Zw (Zs (Zet rfl) rfl T.z_all ZfH (pc (ZbI (Zal (osc:=(Zc Zcr)) (oN:=ZfV) (N:=["_law_number", "_law_stairs", "_law_room"]) (own:=1) (js:=[10,11]) (by decide +kernel) rfl rfl) rfl (Zdb (K:=K) rfl (pv 16)) (λ_ _ _ _ _ _=>(pgn 0 (show List.Nodup (["_law_number", "_law_stairs", "_law_room"]:List Str) by decide +kernel))) (λ_ _ _ _ _ _=>(Zt D_same hr.m rfl (pc (Zl M_Stairs_order hr.m T.cl_Stairs (pv 1) (pc Zj (pc (pv 0) Ze))) (pc (Zl M_Room_shelf hr.m T.cl_Room (pv 2) (pc (pv 0) Ze)) Ze))))) Ze)))))))))))),?_⟩
  refine hide λu1 ee=>?_
  refine ⟨_,rfl,b,a,q,c,rfl,B,by omega,λpp tp ts g a1 c1 H1 epp pa hru z0 z1 l1 l4 B1 hc1 s1=>⟨pp,_,rfl,SqT.of epp,rfl,_,_,rfl,gN ⟨_,_,rfl,gN ⟨_,_,rfl,gN ⟨rfl,?_⟩⟩⟩⟩⟩
  subst ee
  try dsimp only
  obtain ⟨t0,tr,rfl⟩:∃ t0 tr,ts=t0 :: tr:=by
    cases ts with
    | nil=>have:=pa.len; simp at this; omega
    | cons x y=>exact ⟨x,y,rfl⟩
  obtain ⟨size,kind,cfs⟩:=g
  obtain ⟨cf,cr,rfl⟩:∃ cf cr,cfs=cf :: cr:=by
    cases cfs with
    | nil=>simp at l1
    | cons x y=>exact ⟨x,y,rfl⟩
  dsimp only at *
  obtain ⟨wr,et0,elate⟩:=pa.at_ 0 t0 cf rfl rfl
  obtain ⟨sh0,sh1,pl0,pl1⟩:=pa.cf cf mem_cons_self
  have hruc:=hru cf mem_cons_self
  have etp:=pa.top
  refine hide λu1 ee=>?_
  refine ⟨_,rfl,tp,_,_,_,rfl,rfl,SqT.of etp,ZbS (j:=0) rfl,t0,_,rfl,SqT.of et0,rfl,_,_,rfl,gN ⟨_,_,rfl,gN ⟨_,_,rfl,gN ⟨_,_,rfl,gN ⟨rfl,?_⟩⟩⟩⟩⟩
  subst ee
  try dsimp only
  refine hide λu1 ee=>?_
  refine ⟨_,rfl,_,rfl,b,a1,q,c1,size,rfl,B1,by omega,z0,z1,λlso ns a2 c2 H2 hlso eso n3 n20 bds low B2 hc2 s2=>gN ?_⟩
  subst ee
  try dsimp only
  have nso:lso≠b:=λz=>by rw [z,B1.at'] at hlso; cases hlso
  have ntp:tp≠b:=λz=>by rw [z,B1.at'] at etp; cases etp
  have nt0:t0≠b:=λz=>by rw [z,B1.at'] at et0; cases et0
  have etp2:=s2 _ _ ntp etp
  have et02:=s2 _ _ nt0 et0
  have u2:=s1.trans s2
  refine hide λu1 ee=>?_
  refine ⟨_,rfl,b,a2,q,c2,40,200,rfl,B2,by omega,by decide,by decide,by decide,λrm a3 c3 H3 rm0 rm1 B3 hc3 s3=>⟨_,rfl,by omega,by omega,λlr hlr=>?_⟩⟩
  have u3:=u2.trans s3
  have hlrH:H lr=none:=Zjf u3 B3.at' hlr
  have nlr:lr≠b:=Ne.symm (Zd B3.at' hlr)
  have eso3:=s3 _ _ nso eso
  have nls:lso≠lr:=Zd eso3 hlr
  refine Zck (lo:=0) (n:=rm.toNat) (l:=lr) (λj ys σ G=>∃ (v0:Option V) (row:List Int) (a' c':Int),σ=[v0,some (.ref lso),some (.ref b)]/\ys=row.map V.int/\row.length=j/\(∀ x∈row,x∈ns)/\G lr=some (.lst ys)/\G lso=some (.lst (ns.map V.int))/\BoxAt G b a' q c'/\c'<=c3+(j:Int)/\SB b H3 G)
    ⟨none,[],a3,c3,rfl,rfl,rfl,(λx hx=>nomatch hx),Za,by rw [Zb nls]; exact eso3,B3.same (Zg hlr _),by omega,(Zg hlr _).sb b⟩ ?_ ?_
  . rintro j ys σ G hj hys ⟨v0,row,a',c',rfl,rfl,hlj,hsub,g1,g2,B',hc',u'⟩
    refine ⟨_,rfl,_,rfl,_,rfl,lso,_,rfl,.inl (SqL.of g2),b,a',q,c',_,rfl,B',by omega,by rw [length_map]; omega,by rw [length_map]; omega,λr5 a5 c5 G5 r50 r51 B5 hc5 s5=>?_⟩
    rw [length_map] at r51
    obtain ⟨bo,hbo,bom⟩:=ZoA r50 r51
    have g25:=s5 _ _ nso g2
    have g15:=s5 _ _ nlr g1
    refine ⟨lso,_,_,_,rfl,rfl,SqL.of g25,hbo,CNx.of (Nat.le_of_lt (Zx (by omega))) hj hys g15 ⟨_,row++[bo],a5,c5,rfl,by rw [map_append]; rfl,by rw [length_append,hlj]; rfl,λx hx=>?_,Za,by rw [Zb nls]; exact g25,B5.sb (Zeu lr _ _) (Ne.symm nlr),by omega,λx o nx e=>?_⟩⟩
    . rcases List.mem_append.mp hx with hx | hx
      . exact hsub x hx
      . rw [List.mem_singleton.mp hx]; exact bom
    . rw [Zb (Zd e hlr)]
      exact s5 _ _ nx (u' _ _ nx e)
  subst ee
  rintro ys σ G4 _ ⟨v0,row,a4,c4,rfl,rfl,hlr4,hsub,er4,es4,B4,hc4,u4⟩
  try dsimp only
  have etp4:=u4 _ _ ntp (s3 _ _ ntp etp2)
  have et04:=u4 _ _ nt0 (s3 _ _ nt0 et02)
  have sb4:SB b H G4:=u3.trans u4
  have tb4:Tb K G4:=sb4 _ _ ntb tb
  have lrow:row.length<=200:=by omega
  have bdr:Bds 9999 row:=λx hx=>by
    obtain ⟨x0,x1⟩:=bds x (hsub x hx)
    refine ⟨x0,?_⟩
    have:=Int.ediv_le_self (a:=9999) size (by decide)
    omega
  clear epp pa s1 s2 s3 u2 u3 u4 etp etp2 et0 et02 B B1 B2 B3 eso eso3 hlr hlso
  refine hide λu1 ee=>?_
  refine ⟨_,rfl,_,rfl,_,rfl,_,rfl,tp,_,rfl,etp4,λtp1 G5 s5 etp1=>?_⟩
  rw [ZnK] at etp1
  refine ⟨(by show 3<=sizeLine; decide),λpq hpq=>λp dx hp hdx npd=>?_⟩
  have s6:=s5.trans (Zg hpq (.tup [.int size,.str kind,.ref tp1]))
  have epq:upd G5 pq (.tup [.int size,.str kind,.ref tp1]) pq=some (.tup [.int size,.str kind,.ref tp1]):=Za
  have etp6:=Zg hpq (.tup [.int size,.str kind,.ref tp1]) _ _ etp1
  generalize upd G5 pq (.tup [.int size,.str kind,.ref tp1])=G6 at *
  have s7:Same G6 (upd (upd G6 dx (.own p)) p (.ins (clsOf K "Stairs") dx [])):=λx o e=>by rw [Zb (Zd e hp),Zb (Zd e hdx)]; exact e
  have pa7:PlanAt K (upd (upd G6 dx (.own p)) p (.ins (clsOf K "Stairs") dx [])) tp1 [t0] [cf]:=by
    refine ⟨s7 _ _ etp6,rfl,λi t c' h1 h2=>?_,λc' h=>?_⟩
    . match i,h1,h2 with
      | 0,h1,h2=>cases h1; cases h2; exact ⟨wr,s7 _ _ (s6 _ _ et04),elate⟩
      | n+1,h1,_=>simp at h1
    . rw [List.mem_singleton.mp h]; exact ⟨sh0,sh1,pl0,pl1⟩
  refine ⟨p,dx,pq,tp1,size,kind,[t0],[cf],rfl,Za,s7 _ _ epq,pa7,z0,by omega,(by show 1<=4; decide),s7 _ _ (s6 _ _ tb4),λA0 H8 eA lA RS ff k8=>⟨rfl,?_⟩⟩
  have s8:Same G6 H8:=λx o e=>k8 x o (s7 _ _ e) (Zd e hp)
  have ft:∀ x,Foot A0 x->G6 x=none:=λx hx=>by
    by_cases z:x=p
    . rw [z]; exact hp
    . exact s7.free (ff x hx z)
  have R8:=RS ns (by omega)
  refine ⟨_,rfl,_,rfl,_,rfl,λrp dr hrp hdr nrd=>⟨rp,dr,cf.sh,cf.pl,cf.ru,rfl,Za,sh0,sh1,λls ads du H9 Rm9 f1 f2 f3 k9=>⟨rfl,(by show 3<=sizeLine; decide),λtu htu=>⟨tu,_,rfl,SqT.of Za,rfl,_,_,rfl,gN ⟨_,_,rfl,gN ⟨_,_,rfl,gN ⟨rfl,?_⟩⟩⟩⟩⟩⟩⟩
  subst ee
  try dsimp only
  obtain ⟨s9,n9⟩:=ZnJ hrp hdr nrd f1 f2 f3 k9
  have s10:=s9.trans (Zg htu (.tup [.ref p,.ref rp,.int 0]))
  have s48:=s6.trans s8
  have s410:=s48.trans s10
  have on8:∀ {x:Addr} {o:HO},H8 x=some o->x≠ls/\x≠du/\x∉ads/\x≠rp:=λ{x o} e=>⟨(λz=>by rw [z,n9 ls (.inl rfl)] at e; cases e),(λz=>by rw [z,n9 du (.inr (.inl rfl))] at e; cases e),(λz=>by rw [n9 x (.inr (.inr z))] at e; cases e),Zd e hrp⟩
  have nfo:∀ {x:Addr} {o:HO},G4 x=some o->¬ Foot A0 x:=λ{x o} e z=>by have:=ft x z; rw [s6 _ _ e] at this; cases this
  have nfn:∀ {x:Addr},H8 x=none->¬ Foot A0 x:=λ{x} e z=>R8.foot z e
  have R9:=((R8.add0 (λs hs=>by rw [mem_replicate] at hs; rw [hs.2]) (s48 _ _ B4.at') (nfo B4.at')).grow s9 (L:=ads) (λx hx=>⟨n9 x (.inr (.inr hx)),let ⟨xs,e⟩:=Rm9.st.one hx; ⟨_,e⟩⟩)).same (Zg htu (.tup [.ref p,.ref rp,.int 0]))
  have R10:StairsAt K (upd H9 tu (.tup [.ref p,.ref rp,.int 0])) { A0 with out:=ads++b :: A0.out } ⟨size,kind,[cf]⟩ [(([]:List Int),λ_=>(0:Int))] [] ns:=R9
  have Rm10:=Rm9.same (Zg htu (.tup [.ref p,.ref rp,.int 0]))
  have dn0:du≠A0.dk/\∀ a∈A0.as,du≠a.du/\du≠a.dh/\du≠a.df:=by
    have hd:=n9 du (.inr (.inl rfl))
    refine ⟨λz=>?_,λa ha=>?_⟩
    . have e:=R8.mem.kept; rw [← z,hd] at e; cases e
    . obtain ⟨j,hj⟩:=getElem?_of_mem ha
      obtain ⟨a',c',r,h1,h2,h3,Bs⟩:=R8.at_ (List.getElem?_eq_some_iff.mp hj).1
      rw [hj] at h1; cases h1
      obtain ⟨kv,e1,_⟩:=Bs.room.dc
      obtain ⟨kv2,e2,_⟩:=Bs.held
      refine ⟨λz=>?_,λz=>?_,λz=>?_⟩
      . rw [← z,hd] at e1; cases e1
      . rw [← z,hd] at e2; cases e2
      . have e:=Bs.fresh; rw [← z,hd] at e; cases e
  generalize upd H9 tu (.tup [.ref p,.ref rp,.int 0])=G10 at *
  have B10:=B4.same s410
  have sb10:SB b H G10:=λx o nx e=>s410 _ _ (sb4 _ _ nx e)
  have hH8:∀ {x:Addr} {o:HO},H x=some o->∃ o',H8 x=some o':=λ{x o} e=>by
    by_cases z:x=b
    . rw [z]; exact ⟨_,s48 _ _ B4.at'⟩
    . exact ⟨_,s48 _ _ (sb4 _ _ z e)⟩
  refine hide λu1 ee=>?_
  refine ⟨_,rfl,_,rfl,_,rfl,_,rfl,_,rfl,cf.sh,cf.pl,cf.ru,lr,row,rfl,SqL.of (s410 _ _ er4),sh0,sh1,pl0,pl1,hruc,by omega,bdr,s410 _ _ tb4,λlp G11 hlp t11 told=>?_⟩
  have np8:H8 lp=none:=s10.free hlp
  have FF:F27 H b lr lp lso rp ls du ads:=by
    have q1:=on8 (s48 _ _ er4)
    have q2:=on8 (s48 _ _ es4)
    have q3:=on8 (s48 _ _ B4.at')
    refine ⟨q1.2.2.1,λz=>?_,q2.2.2.1,q3.2.2.1,Ne.symm nlr,Zd B10.at' hlp,Ne.symm nso,q3.2.2.2,q3.1,q3.2.1,?_,λx hx=>?_⟩
    . obtain ⟨xs,e⟩:=Rm10.st.one z
      rw [hlp] at e; cases e
    . cases e:H du with
      | none=>rfl
      | some o=>obtain ⟨o',e'⟩:=hH8 e; exact absurd rfl (on8 e').2.1
    . cases e:H x with
      | none=>rfl
      | some o=>obtain ⟨o',e'⟩:=hH8 e; exact absurd hx (on8 e').2.2.1
  have E0:E27 K H G11 { A0 with out:=ads++b :: A0.out } ⟨size,kind,[cf]⟩ cf (([]:List Int),λ_=>(0:Int)) ns row (rowF cf.sh cf.pl cf.ru row) b lr lp lso rp ls du ads 0:=by
    refine ⟨R10.same t11,Rm10.same t11,mem_append_right _ mem_cons_self,λx hx=>mem_append_left _ hx,λx hx=>?_,dn0,t11 _ _ (s410 _ _ er4),told,t11 _ _ (s410 _ _ es4),λx o nx e=>t11 _ _ (sb10 _ _ nx e)⟩
    show ¬ Foot A0 x
    rcases hx with rfl | rfl | rfl | rfl | rfl | rfl | rfl | hx | hx
    . exact nfo B4.at'
    . exact nfo er4
    . exact nfn np8
    . exact nfo es4
    . exact nfn hrp
    . exact nfn (n9 _ (.inl rfl))
    . exact nfn (n9 _ (.inr (.inl rfl)))
    . exact nfn (n9 _ (.inr (.inr hx)))
    . cases e:H x with
      | none=>exact absurd e hx
      | some o =>
        by_cases z:x=b
        . rw [z]; exact nfo B4.at'
        . exact nfo (sb4 _ _ z e)
  have B11:=B10.same t11
  have eAp:A0.p=p:=eA
  generalize hA0:({ A0 with out:=ads++b :: A0.out }:TA)=A1 at *
  have eA1:A1.p=p:=by rw [← hA0]; exact eAp
  have rl:=Zia cf.sh cf.pl cf.ru row
  clear R9 R10 R8 RS Rm9 Rm10 s9 s10 s48 s410 on8 nfo nfn dn0 B10 sb10 hH8 told t11 k9 f1 f2 f3 k8 ff ft s7 s8 pa7 hA0
  refine ⟨lr,lp,rfl,⟨_,SqL.of E0.er⟩,(let ⟨tas,e,_⟩:=E0.ep; ⟨_,SqL.of e⟩),?_⟩
  obtain ⟨tas,etas,ltas,htas⟩:=id E0.ep
  subst eA1
  have lno:∀ {s:RS} {G:Hp} {A:TA},StairsAt K G A ⟨size,kind,[cf]⟩ [s] [] ns->s.1.length<=20:=λ{s G A} R=>Nat.le_trans (Zfy (R.nds s mem_cons_self) λx hx=>R.uni s mem_cons_self x hx) n20
  refine Zno (K:=K) (a:=lr) (b:=lp) (xs:=row.map V.int) (ys:=tas.map V.ref) (λi σ G=>∃ (v13 v14 v15:Option V) (A:TA) (s:RS) (m a' c':Int),σ=[some (.ref b),some (.int size),some (.str kind),some (.ref tp),some (.int cf.sh),some (.int cf.pl),some (.str cf.ru),some (.str wr),some (.ref lso),some (.ref lr),some (.ref A.p),some (.ref rp),some (.int m),v13,v14,v15,none] /\
      E27 K H G A ⟨size,kind,[cf]⟩ cf s ns row (rowF cf.sh cf.pl cf.ru row) b lr lp lso rp ls du ads i/\Link cf.sh cf.pl cf.ru (runR cf.sh cf.pl cf.ru row i).1 s.1 s.2 i/\m=(((runR cf.sh cf.pl cf.ru row i).2.countP λf=>!f.1:Nat):Int)/\BoxAt G b a' q c'/\c'<=c4+(i:Int)/\G lp=some (.lst (tas.map V.ref))/\∀ (m:Nat) (ad:Addr) (f:Bool×Option Int),tas[m]?=some ad->(rowF cf.sh cf.pl cf.ru row)[m]?=some f->G ad=some (.tup [.bl f.1,optV f.2]))
    (by rw [length_map,length_map,ltas,rl]) ⟨_,_,_,A1,_,0,a4,c4,rfl,E0,Link.nil cf.sh cf.pl cf.ru pl0,rfl,B11,by omega,etas,htas⟩ (λi σ G _ ⟨_,_,_,_,_,_,_,_,_,e,_,_,_,_,e2,_⟩=>⟨SqL.of e.er,SqL.of e2⟩) ?_ ?_
  . clear E0 etas htas B11
    rintro i x y t σ G hx hy ⟨v13,v14,v15,A,s,m,a',c',rfl,E0,L,em,B0,hc0,etas,htas⟩ ht
    obtain ⟨z,hz,rfl⟩:=Zga hx
    have hi:i<row.length:=(List.getElem?_eq_some_iff.mp hz).1
    have eg:row.getD i 0=z:=by rw [getD_eq_getElem?_getD,hz]; rfl
    rw [getElem?_map] at hy
    cases ea:tas[i]? with
    | none=>rw [ea] at hy; cases hy
    | some ad =>
      rw [ea] at hy
      cases hy
      have zn:=hsub z (mem_of_getElem? hz)
      obtain ⟨zb0,zb1⟩:=bds z zn
      have zM:z<=9999:=by have:=Int.ediv_le_self (a:=9999) size (by decide); omega
      have ef1:(rowF cf.sh cf.pl cf.ru row)[i]?=some ((stepR cf.sh cf.pl cf.ru i z (runR cf.sh cf.pl cf.ru row i).1).2):=by
        have:=ZmQ cf.sh cf.pl cf.ru row hi
        rw [eg] at this
        exact this
      have had:=htas i ad _ ea ef1
      have e1r:(runR cf.sh cf.pl cf.ru row (i+1)).1=(stepR cf.sh cf.pl cf.ru i z (runR cf.sh cf.pl cf.ru row i).1).1:=by rw [← eg]; rfl
      have e2r:(runR cf.sh cf.pl cf.ru row (i+1)).2=(runR cf.sh cf.pl cf.ru row i).2++[(stepR cf.sh cf.pl cf.ru i z (runR cf.sh cf.pl cf.ru row i).1).2]:=by rw [← eg]; rfl
      have st:=Zg ht (.tup [V.int z,V.ref ad])
      have E1:=E0.same st
      have B1:=B0.same st
      have had1:=st _ _ had
      have etas1:=st _ _ etas
      refine ⟨_,_,rfl,SqT.of Za,rfl,_,_,rfl,gN ⟨_,_,rfl,gN ⟨rfl,?_⟩⟩⟩
      try dsimp only
      have htas2:∀ (m:Nat) (ad':Addr) (f:Bool×Option Int),tas[m]?=some ad'->(rowF cf.sh cf.pl cf.ru row)[m]?=some f->upd G t (.tup [V.int z,V.ref ad]) ad'=some (.tup [.bl f.1,optV f.2]):=λm ad' f h1 h2=>st _ _ (htas m ad' f h1 h2)
      generalize upd G t (.tup [V.int z,V.ref ad])=G1 at *
      clear E0 B0 had etas htas st
      have lA:A.as.length=1:=E1.R.lS.symm
      have nds:=E1.R.nds s mem_cons_self
      have sns:∀ x∈s.1,x∈ns:=E1.R.uni s mem_cons_self
      obtain ⟨dx1,h1⟩:=E1.R.ob
      have mul1:z * size<=9999:=by
        have:=Int.mul_le_mul_of_nonneg_right zb1 (by omega:0<=size)
        have d:=Int.ediv_mul_le 9999 (by omega:size≠0)
        omega
      refine hide λu1 ee=>?_
      refine ⟨_,rfl,A.p,dx1,_,rfl,h1,tf_no ..,_,rfl,_,rfl,_,_,rfl,rfl,.inr ⟨by omega,by omega⟩,_,rfl,_,rfl,b,a',q,c',size,rfl,B1,by omega,by omega,by omega,λr5 a5 c5 G5 r50 r51 B5 hc5 s5=>⟨_,_,rfl,rfl,_,_,rfl,?_⟩⟩
      have E5:=E1.take FF B1.at' B5.at' s5
      have had5:=s5 _ _ (λw=>by rw [w,B1.at'] at had1; cases had1) had1
      have htas5:∀ (m:Nat) (ad':Addr) (f:Bool×Option Int),tas[m]?=some ad'->(rowF cf.sh cf.pl cf.ru row)[m]?=some f->G5 ad'=some (.tup [.bl f.1,optV f.2]):=λm ad' f h1 h2=>by
        have w:=htas2 m ad' f h1 h2
        exact s5 _ _ (λv=>by rw [v,B1.at'] at w; cases w) w
      have etas5:=s5 _ _ (Ne.symm FF.b2) etas1
      refine ⟨A,⟨size,kind,[cf]⟩,[s],ns,_,z,rfl,E5.R,λ_=>disj1 s,ZjU zb0 zb1 z0 r50 r51,zb0,by omega,zn,by omega,λG6 tp6 t6 e' ys e1 e2 e3 evs R6 _ _ he f6=>gN ?_⟩
      subst ee
      try dsimp only
      rw [fet1 rfl] at R6
      obtain ⟨R6',rm6,nf6,er6,_,es6,_⟩:=E5.read f6 R6 he
      have htas6:∀ (m:Nat) (ad':Addr) (f:Bool×Option Int),tas[m]?=some ad'->(rowF cf.sh cf.pl cf.ru row)[m]?=some f->G6 ad'=some (.tup [.bl f.1,optV f.2]):=λm ad' f h1 h2=>by
        have w:=htas5 m ad' f h1 h2
        exact f6 _ _ w (E5.R.sfp w (λ_ z=>by cases z) (λ_ z=>by cases z) (λ_ _ _ z=>by cases z))
      have had6:=f6 _ _ had5 (E5.R.sfp had5 (λ_ z=>by cases z) (λ_ z=>by cases z) (λ_ _ _ z=>by cases z))
      have etas6:=f6 _ _ etas5 (E5.nf _ (by simp))
      have B6:BoxAt G6 b a5 q c5:=⟨f6 _ _ B5.at' (E5.nf _ (by simp)),B5.a0,B5.q0,B5.q1,B5.c0⟩
      have sb6:SB b H G6:=λx o nx e=>f6 _ _ (E5.sb _ _ nx e) (E5.nf x (by simp [e]))
      obtain ⟨dr5,or5⟩:=E5.rm.ob
      obtain ⟨kvd5,od5,_⟩:=E5.rm.dc
      have NF:∀ x,(x=b\/x=lr\/x=lp\/x=lso\/x=rp\/x=ls\/x=du\/x∈ads\/H x≠none)->¬ Foot { A with ev:=e' } x:=λx hx=>nf6 x hx (by
        rcases hx with rfl | rfl | rfl | rfl | rfl | rfl | rfl | hx | hx
        . exact ⟨_,B5.at'⟩
        . exact ⟨_,E5.er⟩
        . exact ⟨_,etas5⟩
        . exact ⟨_,E5.es⟩
        . exact ⟨_,or5⟩
        . exact ⟨_,E5.rm.st.top⟩
        . exact ⟨_,od5⟩
        . obtain ⟨xs,w⟩:=E5.rm.st.one hx; exact ⟨_,w⟩
        . cases w:H x with
          | none=>exact absurd w hx
          | some o =>
            by_cases v:x=b
            . rw [v]; exact ⟨_,B5.at'⟩
            . exact ⟨_,E5.sb _ _ v w⟩)
      have evs:=evs lA
      have ob5:=E5.ob
      have oa5:=E5.oa
      have dn5:=E5.dn
      have gp:=Zmw (c:=cf) (s:=s) (b:=z) nds pl0
      clear E1 E5 htas2 htas5 had1 had5 etas1 etas5 nf6 f6 B5 s5 or5 od5 h1
      have evF:EvAt G6 (.ref t6 :: ys) ([[.str "found",.int (if z∈s.1 then 0 else 1)]]++if z∈s.1 then [] else evOut 0 (goneF cf s z)++evIn 0 z):=by
        have h1:EvAt G6 [.ref t6] [[.str "found",.int (if z∈s.1 then 0 else 1)]]:=by
          refine EvAt.one ?_
          rw [e3,near1]
          split <;> rfl
        have h2:EvAt G6 ys (if z∈s.1 then [] else evOut 0 (goneF cf s z)++evIn 0 z):=by
          rw [near1] at evs
          by_cases w:z∈s.1
          . rw [if_pos w] at evs ⊢
            exact evs
          . rw [if_neg w,if_neg (by decide),Zjn (c:=cf) (s:=s) rfl rfl] at evs
            rw [if_neg w]
            exact evs
        exact h1.app h2
      have esc:∀ e∈([[.str "found",.int (if z∈s.1 then 0 else 1)]]++if z∈s.1 then [] else evOut 0 (goneF cf s z)++evIn 0 z:List (List V)),e.length<=1000/\∀ v∈e,Sc v:=λe he=>by
        have key:e=[.str "found",.int (if z∈s.1 then 0 else 1)]\/(∃ x,e=[.str "out",.int ((0:Nat):Int),.int x])\/e=[.str "in",.int ((0:Nat):Int),.int z]:=by
          rcases List.mem_append.mp he with he | he
          . exact .inl (List.mem_singleton.mp he)
          . split at he
            . cases he
            . rcases List.mem_append.mp he with he | he
              . cases w:goneF cf s z with
                | none=>rw [w] at he; cases he
                | some x=>rw [w] at he; exact .inr (.inl ⟨x,List.mem_singleton.mp he⟩)
              . exact .inr (.inr (List.mem_singleton.mp he))
        rcases key with rfl | ⟨x,rfl⟩ | rfl
        . exact ⟨by show 2<=1000; decide,λv hv=>by simp only [mem_cons,not_mem_nil,or_false] at hv; rcases hv with rfl | rfl <;> exact True.intro⟩
        . exact ⟨by show 3<=1000; decide,λv hv=>by simp only [mem_cons,not_mem_nil,or_false] at hv; rcases hv with rfl | rfl | rfl <;> exact True.intro⟩
        . exact ⟨by show 3<=1000; decide,λv hv=>by simp only [mem_cons,not_mem_nil,or_false] at hv; rcases hv with rfl | rfl | rfl <;> exact True.intro⟩
      have ecount:([[.str "found",.int (if z∈s.1 then 0 else 1)]]++if z∈s.1 then [] else evOut 0 (goneF cf s z)++evIn 0 z:List (List V)).length<=1000:=by
        rw [length_append]
        split
        . show 1+0<=1000; decide
        . rw [length_append]
          cases goneF cf s z
          . show 1+(0+1)<=1000; decide
          . show 1+(1+1)<=1000; decide
      obtain ⟨fo,go,hfo,hev,hL⟩:∃ (fo:Bool) (go:Option Int),(stepR cf.sh cf.pl cf.ru i z (runR cf.sh cf.pl cf.ru row i).1).2=(fo,go)/\([[V.str "found",.int (if fo then 0 else 1)]]++evOut 0 go++(if fo then [] else evIn 0 z))=([[.str "found",.int (if z∈s.1 then 0 else 1)]]++if z∈s.1 then [] else evOut 0 (goneF cf s z)++evIn 0 z)/\(fo=decide (z∈s.1)/\Link cf.sh cf.pl cf.ru (runR cf.sh cf.pl cf.ru row (i+1)).1 (stepS cf s z).1 (stepS cf s z).2 (i+1)):=by
        by_cases w:z∈s.1
        . obtain ⟨q1,q2⟩:=Zmu L w
          refine ⟨true,none,q1,?_,(decide_eq_true w).symm,?_⟩
          . rw [if_pos w,if_pos w]; rfl
          . rw [e1r,ZhF w]; exact q2
        . obtain ⟨q1,q2⟩:=ZlB L pl0 hruc w gp
          refine ⟨false,goneF cf s z,q1,?_,(decide_eq_false w).symm,?_⟩
          . rw [if_neg w,if_neg w]
            show _++_++evIn 0 z=_
            rw [append_assoc]; rfl
          . rw [e1r,ZhG w]; exact q2
      rw [hfo] at had6 e2r
      refine hide λu1 ee=>?_
      refine ⟨_,rfl,_,rfl,_,rfl,ad,z,fo,go,rfl,had6,λld G7 zs hld t7 eld evd=>⟨(by show 2<=sizeLine; decide),λtd htd=>?_⟩⟩
      rw [hev] at evd
      have t78:=Zg htd (.tup [V.int 0,V.ref ld])
      have t68:=t7.trans t78
      refine ⟨.ref tp6,.ref td,rfl,?_,λG9 t9=>⟨_,rfl,ifF rfl ?_⟩⟩
      . refine .inr ⟨tp6,td,[.int 0,.ref A.ev],[.int 0,.ref ld],rfl,rfl,.inr ⟨t68 _ _ e1,Za⟩,rfl,by show 2<=1000; decide,λj u v w1 w2=>?_⟩
        match j,w1,w2 with
        | 0,w1,w2=>cases w1; cases w2; exact Eqv.sc (x:=V.int 0) True.intro 2
        | 1,w1,w2 =>
          cases w1; cases w2
          exact (evF.keep λt e w=>t68 _ _ w).eqv (evd.keep λt e w=>t78 _ _ w) (t68 _ _ e2) (t78 _ _ eld) esc ecount
        | n+2,w1,w2=>simp at w1
      subst ee
      dsimp only [tNext]
      have t69:=t68.trans t9
      have R9:=R6'.same t69
      have rm9:=rm6.same t69
      have er9:=t69 _ _ er6
      have es9:=t69 _ _ es6
      have etas9:=t69 _ _ etas6
      have B9:=B6.same t69
      have sb9:SB b H G9:=λx o nx e=>t69 _ _ (sb6 _ _ nx e)
      have htas9:∀ (m:Nat) (ad':Addr) (f:Bool×Option Int),tas[m]?=some ad'->(rowF cf.sh cf.pl cf.ru row)[m]?=some f->G9 ad'=some (.tup [.bl f.1,optV f.2]):=λm ad' f h1 h2=>t69 _ _ (htas6 m ad' f h1 h2)
      clear evF esc evd eld t7 t78 t68 t9 t69 e1 e2 e3 R6 R6' rm6 er6 es6 etas6 B6 sb6 htas6 had6 evs hev htd hld
      have fin:∀ (G10:Hp) (v13 v14 v15:Option V) (m':Int),RoomAt K G10 rp cf.sh cf.pl cf.ru ls ads du (stepS cf s z).1 (stepS cf s z).2 (i+1)->SR ads du G9 G10->m'=(((runR cf.sh cf.pl cf.ru row (i+1)).2.countP λf=>!f.1:Nat):Int)->∃ (w13 w14 w15:Option V) (A':TA) (s':RS) (m'' a'' c'':Int),[some (.ref b),some (.int size),some (.str kind),some (.ref tp),some (.int cf.sh),some (.int cf.pl),some (.str cf.ru),some (.str wr),some (.ref lso),some (.ref lr),some (.ref A.p),some (.ref rp),some (.int m'),v13,v14,v15,none]=[some (V.ref b),some (.int size),some (.str kind),some (.ref tp),some (.int cf.sh),some (.int cf.pl),some (.str cf.ru),some (.str wr),some (.ref lso),some (.ref lr),some (.ref A'.p),some (.ref rp),some (.int m''),w13,w14,w15,none] /\
          E27 K H G10 A' ⟨size,kind,[cf]⟩ cf s' ns row (rowF cf.sh cf.pl cf.ru row) b lr lp lso rp ls du ads (i+1)/\Link cf.sh cf.pl cf.ru (runR cf.sh cf.pl cf.ru row (i+1)).1 s'.1 s'.2 (i+1)/\m''=(((runR cf.sh cf.pl cf.ru row (i+1)).2.countP λf=>!f.1:Nat):Int)/\BoxAt G10 b a'' q c''/\c''<=c4+((i+1:Nat):Int)/\G10 lp=some (.lst (tas.map V.ref))/\∀ (m:Nat) (ad:Addr) (f:Bool×Option Int),tas[m]?=some ad->(rowF cf.sh cf.pl cf.ru row)[m]?=some f->G10 ad=some (.tup [.bl f.1,optV f.2]):=by
        intro G10 v13 v14 v15 m' rm10 sr em'
        obtain ⟨kvs,g2,_⟩:=rm9.dc
        have R10:StairsAt K G10 { A with ev:=e' } ⟨size,kind,[cf]⟩ [stepS cf s z] [] ns:=by
          refine R9.keepO g2 dn5.1 dn5.2 (λx o ex n1 n2=>sr _ _ ex n1 λw=>n2 (oa5 x w)) λx hx=>?_
          by_cases w:x∈ads
          . obtain ⟨xs,e⟩:=rm10.st.one w; exact ⟨_,e⟩
          . obtain ⟨xs,e⟩:=R9.oex x hx
            exact ⟨_,sr.lst rm9 e w⟩
        have htas10:∀ (m:Nat) (ad:Addr) (f:Bool×Option Int),tas[m]?=some ad->(rowF cf.sh cf.pl cf.ru row)[m]?=some f->G10 ad=some (.tup [.bl f.1,optV f.2]):=λm ad f h1 h2=>sr.keep rm9 (htas9 m ad f h1 h2) (λ_ z=>by cases z) (λ_ z=>by cases z)
        have etas10:=sr.lst rm9 etas9 FF.a2
        refine ⟨_,_,_,{ A with ev:=e' },stepS cf s z,m',a5,c5,rfl,⟨R10,rm10,ob5,oa5,NF,dn5,sr.lst rm9 er9 FF.a1,⟨tas,etas10,ltas,htas10⟩,sr.lst rm9 es9 FF.a3,λx o nx e=>sr _ _ (sb9 _ _ nx e) (λw=>by rw [w,FF.h1] at e; cases e) (λw=>by rw [FF.h2 x w] at e; cases e)⟩,hL.2,em',⟨sr.lst rm9 B9.at' FF.a4,B9.a0,B9.q0,B9.q1,B9.c0⟩,by omega,etas10,htas10⟩
      obtain ⟨dr9,o9⟩:=rm9.ob
      have sl:s.1.length<=20:=Nat.le_trans (Zfy nds sns) n20
      have fl:(Zk cf.sh (z % cf.sh) s.1).length<64:=by have:=L.cap (z % cf.sh); omega
      refine ⟨_,rfl,rp,dr9,_,rfl,o9,fl_no ..,_,rfl,rp,z,cf.sh,cf.pl,cf.ru,ls,ads,du,s.1,s.2,i,rfl,rm9,?_⟩
      by_cases w:z∈s.1
      . rw [decide_eq_true w]
        refine ⟨_,rfl,ifT rfl ⟨_,rfl,rp,dr9,_,rfl,o9,fl_no ..,_,rfl,rp,z,cf.sh,cf.pl,cf.ru,ls,ads,du,s.1,s.2,i,rfl,rm9,by omega,w,by omega,λG10 R10 s10=>?_⟩⟩
        refine fin G10 _ _ _ m (by rw [ZhF w]; exact R10) s10 ?_
        rw [em,e2r,List.countP_append,hL.1,decide_eq_true w]; rfl
      . rw [decide_eq_false w]
        refine ⟨_,rfl,ifF rfl ⟨_,rfl,_,_,rfl,rfl,gN ⟨_,rfl,rp,dr9,_,rfl,o9,fl_no ..,_,rfl,rp,z,cf.sh,cf.pl,cf.ru,ls,ads,du,s.1,s.2,i,rfl,rm9,R9.tb,by omega,w,pl0,fl,λgone G10 gpp R10 s10=>?_⟩⟩⟩
        have eg2:goneF cf s z=gone:=Zjm gpp
        refine fin G10 _ _ _ (m+1) (by rw [ZhG w,eg2]; exact R10) s10 ?_
        rw [em,e2r,List.countP_append,hL.1,decide_eq_false w]
        show _=((_+1:Nat):Int)
        omega
  . subst ee
    rintro σ G ⟨v13,v14,v15,A,s,m,a',c',rfl,E0,L,em,B0,hc0,etas,htas⟩
    rw [length_map] at E0 L em
    try dsimp only
    have sl:s.1.length<=20:=Nat.le_trans (Zfy (E0.R.nds s mem_cons_self) (E0.R.uni s mem_cons_self)) n20
    refine cpI (λσ G1=>σ=[some (.ref b),some (.int size),some (.str kind),some (.ref tp),some (.int cf.sh),some (.int cf.pl),some (.str cf.ru),some (.str wr),some (.ref lso),some (.ref lr),some (.ref A.p),some (.ref rp),some (.int m),v13,v14,v15,none]/\Same G G1) (λD' _ k'=>?_) ?_
    . refine ⟨_,rfl,_,rfl,_,rfl,_,rfl,_,rfl,cf.sh,cf.pl,cf.ru,lr,row,rfl,SqL.of E0.er,sh0,sh1,pl0,pl1,hruc,by omega,bdr,E0.R.tb,λG2 t2=>⟨rfl,_,rfl,ifF ?_ ?_⟩⟩
      . rw [em]
        show (!decide (V.int _=V.int _))=false
        unfold missF rowF
        simp
      have E2:=E0.same t2
      obtain ⟨dx,h1⟩:=E2.R.ob
      refine ⟨_,rfl,A.p,dx,_,rfl,h1,tf_no ..,A,⟨size,kind,[cf]⟩,[s],[],ns,0,s,rfl,E2.R,rfl,by omega,λD os hD po pw=>?_⟩
      have E3:=E2.same (Zg hD (.lst (os.map V.int)))
      have eD:upd G2 D (.lst (os.map V.int)) D=some (.lst (os.map V.int)):=Za
      have t3:=t2.trans (Zg hD (.lst (os.map V.int)))
      generalize upd G2 D (.lst (os.map V.int))=G3 at *
      obtain ⟨dr,o3⟩:=E3.rm.ob
      refine ⟨_,rfl,rp,dr,_,rfl,o3,fl_no ..,rp,cf.sh,cf.pl,cf.ru,ls,ads,du,s.1,s.2,_,rfl,E3.rm,by omega,λD2 os2 hD2 po2 pw2=>?_⟩
      refine ⟨D,D2,os,os2,rfl,rfl,SqL.of (Zg hD2 _ _ _ eD),SqL.of Za,_,rfl,ifF ?_ (k' _ _ ⟨rfl,t3.trans (Zg hD2 _)⟩)⟩
      have e:os=os2:=W.ksm_same (po.trans po2.symm) pw pw2
      rw [e]; simp
    rintro _ G1 ⟨rfl,t1⟩
    try dsimp only
    have E1:=E0.same t1
    clear E0
    refine hide λu1 ee=>?_
    have es1:=E1.es
    refine ⟨_,rfl,lso,rfl,⟨_,SqL.of es1⟩,λl1 hl1=>?_⟩
    refine Zcx (K:=K) (a:=lso) (xs:=ns.map V.int) (l:=l1) (λi ys σ G'=>∃ v0:Option V,σ=[v0,some (.int cf.sh)]/\ys=((ns.take i).map (· % cf.sh)).map V.int/\G'=upd G1 l1 (.lst ys)) ⟨none,rfl,rfl,rfl⟩ (λi ys σ G' _ ⟨_,_,_,q⟩=>SqL.of (by rw [q,Zb (Zd es1 hl1)]; exact es1)) ?_ ?_
    . rintro i x ys σ G' hi hxi hys ⟨v0,rfl,rfl,rfl⟩
      obtain ⟨y,ey,rfl⟩:=Zga hxi
      refine ⟨_,rfl,_,rfl,_,_,rfl,rfl,by omega,CNx.of (Nat.le_of_lt (Zx (by rw [length_map]; omega))) hi hys Za ⟨_,rfl,?_,Zeg⟩⟩
      rw [take_succ,ey]
      simp
    rintro ys σ G' _ ⟨v0,rfl,rfl,rfl⟩
    rw [length_map,take_length]
    refine ⟨l1,ns.map (· % cf.sh),rfl,Za,by rw [length_map]; omega,λq1 D φ os hq hD nDq ndo mem pw=>gN ?_⟩
    subst ee
    try dsimp only
    have hDq:upd (upd G1 l1 (.lst ((ns.map (· % cf.sh)).map V.int))) q1 (.ext φ) D=none:=by rw [Zb nDq]; exact hD
    have sm:Same G1 (upd (upd (upd G1 l1 (.lst ((ns.map (· % cf.sh)).map V.int))) q1 (.ext φ)) D (.lst (os.map V.int))):=((Zg hl1 _).trans (Zg hq _)).trans (Zg hDq _)
    have eD:upd (upd (upd G1 l1 (.lst ((ns.map (· % cf.sh)).map V.int))) q1 (.ext φ)) D (.lst (os.map V.int)) D=some (.lst (os.map V.int)):=Za
    generalize upd (upd (upd G1 l1 (.lst ((ns.map (· % cf.sh)).map V.int))) q1 (.ext φ)) D (.lst (os.map V.int))=G2 at *
    have E2:=E1.same sm
    have lo:os.length<=20:=Nat.le_trans (Zfy ndo (b:=ns.map (· % cf.sh)) λx hx=>(mem x).mp hx) (by rw [length_map]; exact n20)
    clear E1 hDq hq hD nDq hl1 sm
    refine ⟨_,rfl,D,rfl,⟨_,SqL.of eD⟩,λl2 hl2=>?_⟩
    refine Zcx (K:=K) (a:=D) (xs:=os.map V.int) (l:=l2) (λi ys σ G'=>∃ v0:Option V,σ=[v0,some (.ref A.p),some (.ref rp)]/\ys=(List.replicate i true).map V.bl/\G' l2=some (.lst ys)/\Same G2 G') ⟨none,rfl,rfl,Za,Zg hl2 _⟩ (λi ys σ G' _ ⟨_,_,_,_,s⟩=>SqL.of (s _ _ eD)) ?_ ?_
    . rintro i x ys σ G' hi hxi hys ⟨v0,rfl,rfl,el,sg⟩
      obtain ⟨y,ey,rfl⟩:=Zga hxi
      obtain ⟨y',_,eyy⟩:=List.mem_map.mp ((mem y).mp (mem_of_getElem? ey))
      have y0:0<=y' % cf.sh:=Int.emod_nonneg _ (by omega)
      have y1:y' % cf.sh<cf.sh:=Int.emod_lt_of_pos _ (by omega)
      have Eg:=E2.same sg
      obtain ⟨dx,h1⟩:=Eg.R.ob
      have fl:=L.cap y
      refine ⟨_,rfl,A.p,dx,_,rfl,h1,tf_no ..,_,rfl,A,⟨size,kind,[cf]⟩,[s],[],ns,0,y,cf,s,rfl,Eg.R,rfl,rfl,by omega,by omega,λD3 G3 os3 hD3 t3 eD3 pm3 few3 nfew3=>?_⟩
      have E3:=Eg.same t3
      obtain ⟨dr,o3⟩:=E3.rm.ob
      refine ⟨_,rfl,rp,dr,_,rfl,o3,fl_no ..,_,rfl,rp,y,cf.sh,cf.pl,cf.ru,ls,ads,du,s.1,s.2,_,rfl,E3.rm,E3.R.tb,by omega,by omega,by omega,λD4 G4 os4 hD4 t4 eD4 pm4 few4 nfew4=>?_⟩
      have e34:os3=os4:=by
        by_cases w:cf.ru = "few"
        . exact Zio Zjl (pm3.trans pm4.symm) (few3 w) (few4 w)
        . rw [nfew3 w,nfew4 w]
      subst e34
      have l3:os3.length<=1000:=by rw [pm3.length_eq]; omega
      refine ⟨.ref D3,.ref D4,rfl,Eqv.flatN 2 (t4 _ _ eD3) eD4 (by rw [length_map]; exact l3) (λv hv=>by obtain ⟨_,_,rfl⟩:=List.mem_map.mp hv; exact True.intro),λG5 t5=>?_⟩
      have t25:=(t3.trans t4).trans t5
      exact CNx.of (Nat.le_of_lt (Zx (by rw [length_map]; omega))) hi hys (t25 _ _ el) ⟨_,rfl,by rw [replicate_succ',map_append]; rfl,Za,λx o e=>by rw [Zb (Zd e hl2)]; exact t25 _ _ (sg _ _ e)⟩
    rintro ys σ G3 _ ⟨v0,rfl,rfl,el,sg⟩
    have ea:((List.replicate (os.map V.int).length true).all id)=true:=by
      rw [all_eq_true]
      intro v hv
      rw [(List.mem_replicate.mp hv).2]
      rfl
    refine ⟨l2,_,rfl,SqL.of el,?_⟩
    rw [ea]
    exact k G3 (E2.same sg).sb
end
section
variable {P:Program} {w:World} {K:W.Frag} {mg:Str->Option Value} {base:Heap}
def spLaw (K:W.Frag):Sp:=λvs H Q _=>∃ (a:Addr) (ns:List Int),vs=[.ref a]/\SqL K H a (ns.map V.int)/\ns.length<=63/\Tb K H/\∀ H',Q (.bl true) H'
theorem ZoL {f:Addr} {fd:FuncData} (F:Fun K "law" "law" s_law f fd) (T:Txt K mg) (D_box:Def P w K mg base "_law_box" 1 P_box (spBox K)) (D_folded:Def P w K mg base "_law_folded" 1 Zdk (ZfW K)) (D_right:Def P w K mg base "_law_right" 16 ZeD (Zix K)):FnOk P w K mg base CX0 17 f fd P_law (spLaw K):=by
  refine F.ok sc_law (λvs H Q E h=>?_) (λcdv A outer st H vs Q E hr h=>?_)
  . obtain ⟨a,ns,rfl,_⟩:=h
    rfl
  obtain ⟨a,ns,rfl,hS,h63,tb,k⟩:=h
  have nd:=sc_law.nd
  have hu:=hu_of hr
  refine ⟨_,(Zh (pst 1 nd (Zt D_folded hr.m rfl (pc (pv 0) (pc Zj Ze))))
      (Zi (Zw (Zs (Zet rfl) rfl T.z_all ZfH (pc (ZbI (Zal (osc:=(Zc s_law)) (oN:=N_law) (N:=["_law_k", "_law_cells"]) (own:=1) (js:=[1]) (by decide +kernel) rfl rfl) rfl (Zch rfl T.z_range (pc (Zs (ZgA rfl) rfl T.z_max ZiO (pc Zj (pc (Zs (ZS (K:=K) rfl) rfl T.z_len PySem.boot_len (pc (pv 1) Ze)) Ze))) Ze)) (λ_ _ _ _ _ _=>(pgn 0 (show List.Nodup (["_law_k", "_law_cells"]:List Str) by decide +kernel))) (λ_ _ _ _ _ _=>(Zt D_right hr.m rfl (pc (Zt D_box hr.m rfl (pc (pv 1) (pc (pv 0) Ze))) Ze)))) Ze))))),?_⟩
  refine ⟨_,rfl,a,ns,3,rfl,hS,h63,by decide,by decide,λr ms H1 hr' s1 e1 lm=>?_⟩
  have lc:(if ((ms.map V.int).length:Int) > 1 then ((ms.map V.int).length:Int) else 1)<=63:=by rw [length_map]; split <;> omega
  refine ⟨_,rfl,r,_,rfl,.inl (SqL.of e1),_,_,rfl,_,rfl,?_,?_,λl hl'=>?_⟩
  . split <;> omega
  . omega
  generalize (if ((ms.map V.int).length:Int) > 1 then ((ms.map V.int).length:Int) else 1)=n at *
  have n63:n.toNat<=63:=by omega
  have nrl:r≠l:=Zd e1 hl'
  have tb1:=tb.same s1
  have ntl:tabOf K "Room" "going" ≠ l:=Zd tb1 hl'
  refine Zck (lo:=0) (n:=n.toNat) (l:=l) (λj ys σ G=>∃ v0:Option V,σ=[v0,some (.ref r)]/\ys=(List.replicate j true).map V.bl/\G l=some (.lst ys)/\G r=some (.lst (ms.map V.int))/\Tb K G)
    ⟨none,rfl,rfl,Za,by rw [Zb nrl]; exact e1,by unfold Tb; rw [Zb ntl]; exact tb1⟩ ?_ ?_
  . rintro j ys σ G hj hy ⟨v0,rfl,rfl,g1,g2,g3⟩
    refine ⟨_,rfl,_,rfl,r,ms,_,rfl,SqL.of g2,by omega,by omega,λb ba bq G1 hb t1 B1=>?_⟩
    refine ⟨b,ba,bq,0,rfl,B1,by decide,g3.same t1,λG2 t2=>?_⟩
    have nlb:l≠b:=Zd g1 hb
    have nrb:r≠b:=Zd g2 hb
    have ntb:tabOf K "Room" "going" ≠ b:=Zd g3 hb
    refine CNx.of (Nat.le_trans n63 (by decide)) hj hy (t2 _ _ nlb (t1 _ _ g1)) ⟨_,rfl,by rw [replicate_succ',map_append]; rfl,Za,?_,?_⟩
    . rw [Zb nrl]
      exact t2 _ _ nrb (t1 _ _ g2)
    . unfold Tb
      rw [Zb ntl]
      exact t2 _ _ ntb (t1 _ _ g3)
  . rintro ys σ G hy ⟨v0,rfl,rfl,g1,g2,g3⟩
    refine ⟨l,_,rfl,SqL.of g1,?_⟩
    rw [show (List.replicate n.toNat true).all id=true by rw [all_eq_true]; intro z hz; rw [(List.mem_replicate.mp hz).2]; rfl]
    exact k G
end
theorem ZoM {l:W.OpenLaw} {w:World} {K:W.Frag} {h:Heap} {mg:Str->Option Value} {fa:Addr} {tp cg:Addr} (X:K.In h) (G:h.Ns mainGlobals mg) (hfa:mg "law" = some (.ref fa))
    {CaRoom:Addr} (aCRoom:W.nsIn K mainGlobals "Room" = some (some (.ref CaRoom)))
    {CaStore:Addr} (aCStore:W.nsIn K mainGlobals "Store" = some (some (.ref CaStore)))
    {CaMemory:Addr} (aCMemory:W.nsIn K mainGlobals "Memory" = some (some (.ref CaMemory)))
    {CaStairs:Addr} (aCStairs:W.nsIn K mainGlobals "Stairs" = some (some (.ref CaStairs)))
    {CaSteps:Addr} (aCSteps:W.nsIn K mainGlobals "Steps" = some (some (.ref CaSteps)))
    (a0:W.nsIn K mainGlobals "_law_take" = some (some (.ref f0))) (l0:K.lookup f0=some ⟨oc0,od0,.func (W.fnOf "_law_take" "_law_take" (Zn Zfs) (Zm Zfs) (Zc Zfs) .none kV0 dc0 pm0 an0 cd0 ct0),sl0⟩) (c0:W.codeIn K cd0 "_law_take" = true) (k0:W.keepIn K (.ref f0)=true)
    (a1:W.nsIn K mainGlobals "_law_box" = some (some (.ref f1))) (l1:K.lookup f1=some ⟨oc1,od1,.func (W.fnOf "_law_box" "_law_box" (Zn s_box) (Zm s_box) (Zc s_box) .none kV1 dc1 pm1 an1 cd1 ct1),sl1⟩) (c1:W.codeIn K cd1 "_law_box" = true) (k1:W.keepIn K (.ref f1)=true)
    (a2:W.nsIn K mainGlobals "_law_folded" = some (some (.ref f2))) (l2:K.lookup f2=some ⟨oc2,od2,.func (W.fnOf "_law_folded" "_law_folded" (Zn ZcI) (Zm ZcI) (Zc ZcI) .none kV2 dc2 pm2 an2 cd2 ct2),sl2⟩) (c2:W.codeIn K cd2 "_law_folded" = true) (k2:W.keepIn K (.ref f2)=true)
    (a3:W.nsIn K mainGlobals "_law_some_boards" = some (some (.ref f3))) (l3:K.lookup f3=some ⟨oc3,od3,.func (W.fnOf "_law_some_boards" "_law_some_boards" (Zn Zaj) (Zm Zaj) (Zc Zaj) .none kV3 dc3 pm3 an3 cd3 ct3),sl3⟩) (c3:W.codeIn K cd3 "_law_some_boards" = true) (k3:W.keepIn K (.ref f3)=true)
    (a4:W.nsIn K mainGlobals "_law_same" = some (some (.ref f4))) (l4:K.lookup f4=some ⟨oc4,od4,.func (W.fnOf "_law_same" "_law_same" (Zn ZdO) (Zm ZdO) (Zc ZdO) .none kV4 dc4 pm4 an4 cd4 ct4),sl4⟩) (c4:W.codeIn K cd4 "_law_same" = true) (k4:W.keepIn K (.ref f4)=true)
    (a5:W.nsIn K mainGlobals "shelf_of" = some (some (.ref f5))) (l5:K.lookup f5=some ⟨oc5,od5,.func (W.fnOf "shelf_of" "shelf_of" (Zn ZbN) (Zm ZbN) (Zc ZbN) .none kV5 dc5 pm5 an5 cd5 ct5),sl5⟩) (c5:W.codeIn K cd5 "shelf_of" = true) (k5:W.keepIn K (.ref f5)=true)
    (a6:W.findIn K (.ref CaRoom) "has" = some (some (.ref f6))) (i6:W.isFn K (.ref f6)=true) (l6:K.lookup f6=some ⟨oc6,od6,.func (W.fnOf "has" "Room.has" (Zn ZbO) (Zm ZbO) (Zc ZbO) .none kV6 dc6 pm6 an6 cd6 ct6),sl6⟩) (c6:W.codeIn K cd6 "Room.has" = true) (k6:W.keepIn K (.ref f6)=true)
    (a7:W.findIn K (.ref CaRoom) "mates" = some (some (.ref f7))) (i7:W.isFn K (.ref f7)=true) (l7:K.lookup f7=some ⟨oc7,od7,.func (W.fnOf "mates" "Room.mates" (Zn Zbb) (Zm Zbb) (Zc Zbb) .none kV7 dc7 pm7 an7 cd7 ct7),sl7⟩) (c7:W.codeIn K cd7 "Room.mates" = true) (k7:W.keepIn K (.ref f7)=true)
    (a8:W.findIn K (.ref CaRoom) "need" = some (some (.ref f8))) (i8:W.isFn K (.ref f8)=true) (l8:K.lookup f8=some ⟨oc8,od8,.func (W.fnOf "need" "Room.need" (Zn Zbs) (Zm Zbs) (Zc Zbs) .none kV8 dc8 pm8 an8 cd8 ct8),sl8⟩) (c8:W.codeIn K cd8 "Room.need" = true) (k8:W.keepIn K (.ref f8)=true)
    (a9:W.findIn K (.ref CaRoom) "going" = some (some (.ref f9))) (i9:W.isFn K (.ref f9)=true) (l9:K.lookup f9=some ⟨oc9,od9,.func (W.fnOf "going" "Room.going" (Zn ZT) (Zm ZT) (Zc ZT) .none kV9 dc9 pm9 an9 (.ref cg) ct9),sl9⟩) (c9:W.codeIn K (.ref cg) "Room.going" = true) (k9:W.keepIn K (.ref f9)=true)
    (a10:W.findIn K (.ref CaRoom) "drop" = some (some (.ref f10))) (i10:W.isFn K (.ref f10)=true) (l10:K.lookup f10=some ⟨oc10,od10,.func (W.fnOf "drop" "Room.drop" (Zn Zbq) (Zm Zbq) (Zc Zbq) .none kV10 dc10 pm10 an10 cd10 ct10),sl10⟩) (c10:W.codeIn K cd10 "Room.drop" = true) (k10:W.keepIn K (.ref f10)=true)
    (a11:W.findIn K (.ref CaRoom) "use" = some (some (.ref f11))) (i11:W.isFn K (.ref f11)=true) (l11:K.lookup f11=some ⟨oc11,od11,.func (W.fnOf "use" "Room.use" (Zn ZbP) (Zm ZbP) (Zc ZbP) .none kV11 dc11 pm11 an11 cd11 ct11),sl11⟩) (c11:W.codeIn K cd11 "Room.use" = true) (k11:W.keepIn K (.ref f11)=true)
    (a12:W.findIn K (.ref CaRoom) "__init__" = some (some (.ref f12))) (i12:W.isFn K (.ref f12)=true) (l12:K.lookup f12=some ⟨oc12,od12,.func (W.fnOf "__init__" "Room.__init__" (Zn ZaV) (Zm ZaV) (Zc ZaV) .none kV12 dc12 pm12 an12 cd12 ct12),sl12⟩) (c12:W.codeIn K cd12 "Room.__init__" = true) (k12:W.keepIn K (.ref f12)=true)
    (a13:W.findIn K (.ref CaRoom) "leaver_for" = some (some (.ref f13))) (i13:W.isFn K (.ref f13)=true) (l13:K.lookup f13=some ⟨oc13,od13,.func (W.fnOf "leaver_for" "Room.leaver_for" (Zn ZI) (Zm ZI) (Zc ZI) .none kV13 dc13 pm13 an13 cd13 ct13),sl13⟩) (c13:W.codeIn K cd13 "Room.leaver_for" = true) (k13:W.keepIn K (.ref f13)=true)
    (a14:W.findIn K (.ref CaRoom) "bring" = some (some (.ref f14))) (i14:W.isFn K (.ref f14)=true) (l14:K.lookup f14=some ⟨oc14,od14,.func (W.fnOf "bring" "Room.bring" (Zn ZaY) (Zm ZaY) (Zc ZaY) .none kV14 dc14 pm14 an14 cd14 ct14),sl14⟩) (c14:W.codeIn K cd14 "Room.bring" = true) (k14:W.keepIn K (.ref f14)=true)
    (a15:W.nsIn K mainGlobals "ask" = some (some (.ref f15))) (l15:K.lookup f15=some ⟨oc15,od15,.func (W.fnOf "ask" "ask" (Zn s_ask) (Zm s_ask) (Zc s_ask) .none kV15 dc15 pm15 an15 cd15 ct15),sl15⟩) (c15:W.codeIn K cd15 "ask" = true) (k15:W.keepIn K (.ref f15)=true)
    (a16:W.nsIn K mainGlobals "run_row" = some (some (.ref f16))) (l16:K.lookup f16=some ⟨oc16,od16,.func (W.fnOf "run_row" "run_row" (Zn ZbZ) (Zm ZbZ) (Zc ZbZ) .none kV16 dc16 pm16 an16 cd16 ct16),sl16⟩) (c16:W.codeIn K cd16 "run_row" = true) (k16:W.keepIn K (.ref f16)=true)
    (a17:W.nsIn K mainGlobals "misses" = some (some (.ref f17))) (l17:K.lookup f17=some ⟨oc17,od17,.func (W.fnOf "misses" "misses" (Zn Zcq) (Zm Zcq) (Zc Zcq) .none kV17 dc17 pm17 an17 cd17 ct17),sl17⟩) (c17:W.codeIn K cd17 "misses" = true) (k17:W.keepIn K (.ref f17)=true)
    (a18:W.findIn K (.ref CaRoom) "shelf" = some (some (.ref f18))) (i18:W.isFn K (.ref f18)=true) (l18:K.lookup f18=some ⟨oc18,od18,.func (W.fnOf "shelf" "Room.shelf" (Zn ZaZ) (Zm ZaZ) (Zc ZaZ) .none kV18 dc18 pm18 an18 cd18 ct18),sl18⟩) (c18:W.codeIn K cd18 "Room.shelf" = true) (k18:W.keepIn K (.ref f18)=true)
    (a19:W.findIn K (.ref CaRoom) "boards" = some (some (.ref f19))) (i19:W.isFn K (.ref f19)=true) (l19:K.lookup f19=some ⟨oc19,od19,.func (W.fnOf "boards" "Room.boards" (Zn ZaK) (Zm ZaK) (Zc ZaK) .none kV19 dc19 pm19 an19 cd19 ct19),sl19⟩) (c19:W.codeIn K cd19 "Room.boards" = true) (k19:W.keepIn K (.ref f19)=true)
    (a20:W.findIn K (.ref CaStore) "__init__" = some (some (.ref f20))) (i20:W.isFn K (.ref f20)=true) (l20:K.lookup f20=some ⟨oc20,od20,.func (W.fnOf "__init__" "Store.__init__" (Zn Zbd) (Zm Zbd) (Zc Zbd) .none kV20 dc20 pm20 an20 cd20 ct20),sl20⟩) (c20:W.codeIn K cd20 "Store.__init__" = true) (k20:W.keepIn K (.ref f20)=true)
    (a21:W.findIn K (.ref CaStore) "has" = some (some (.ref f21))) (i21:W.isFn K (.ref f21)=true) (l21:K.lookup f21=some ⟨oc21,od21,.func (W.fnOf "has" "Store.has" (Zn Zbt) (Zm Zbt) (Zc Zbt) .none kV21 dc21 pm21 an21 cd21 ct21),sl21⟩) (c21:W.codeIn K cd21 "Store.has" = true) (k21:W.keepIn K (.ref f21)=true)
    (a22:W.findIn K (.ref CaStore) "lay" = some (some (.ref f22))) (i22:W.isFn K (.ref f22)=true) (l22:K.lookup f22=some ⟨oc22,od22,.func (W.fnOf "lay" "Store.lay" (Zn Zbv) (Zm Zbv) (Zc Zbv) .none kV22 dc22 pm22 an22 cd22 ct22),sl22⟩) (c22:W.codeIn K cd22 "Store.lay" = true) (k22:W.keepIn K (.ref f22)=true)
    (a23:W.findIn K (.ref CaStore) "take_in" = some (some (.ref f23))) (i23:W.isFn K (.ref f23)=true) (l23:K.lookup f23=some ⟨oc23,od23,.func (W.fnOf "take_in" "Store.take_in" (Zn Zab) (Zm Zab) (Zc Zab) .none kV23 dc23 pm23 an23 cd23 ct23),sl23⟩) (c23:W.codeIn K cd23 "Store.take_in" = true) (k23:W.keepIn K (.ref f23)=true)
    (a24:W.findIn K (.ref CaStore) "give_out" = some (some (.ref f24))) (i24:W.isFn K (.ref f24)=true) (l24:K.lookup f24=some ⟨oc24,od24,.func (W.fnOf "give_out" "Store.give_out" (Zn ZN) (Zm ZN) (Zc ZN) .none kV24 dc24 pm24 an24 cd24 ct24),sl24⟩) (c24:W.codeIn K cd24 "Store.give_out" = true) (k24:W.keepIn K (.ref f24)=true)
    (a25:W.findIn K (.ref CaStore) "words_of" = some (some (.ref f25))) (i25:W.isFn K (.ref f25)=true) (l25:K.lookup f25=some ⟨oc25,od25,.func (W.fnOf "words_of" "Store.words_of" (Zn ZO) (Zm ZO) (Zc ZO) .none kV25 dc25 pm25 an25 cd25 ct25),sl25⟩) (c25:W.codeIn K cd25 "Store.words_of" = true) (k25:W.keepIn K (.ref f25)=true)
    (a26:W.nsIn K mainGlobals "board_of" = some (some (.ref f26))) (l26:K.lookup f26=some ⟨oc26,od26,.func (W.fnOf "board_of" "board_of" (Zn ZbK) (Zm ZbK) (Zc ZbK) .none kV26 dc26 pm26 an26 cd26 ct26),sl26⟩) (c26:W.codeIn K cd26 "board_of" = true) (k26:W.keepIn K (.ref f26)=true)
    (a27:W.nsIn K mainGlobals "spots_of" = some (some (.ref f27))) (l27:K.lookup f27=some ⟨oc27,od27,.func (W.fnOf "spots_of" "spots_of" (Zn ZbM) (Zm ZbM) (Zc ZbM) .none kV27 dc27 pm27 an27 cd27 ct27),sl27⟩) (c27:W.codeIn K cd27 "spots_of" = true) (k27:W.keepIn K (.ref f27)=true)
    (a28:W.findIn K (.ref CaMemory) "__init__" = some (some (.ref f28))) (i28:W.isFn K (.ref f28)=true) (l28:K.lookup f28=some ⟨oc28,od28,.func (W.fnOf "__init__" "Memory.__init__" (Zn ZaM) (Zm ZaM) (Zc ZaM) .none kV28 dc28 pm28 an28 cd28 ct28),sl28⟩) (c28:W.codeIn K cd28 "Memory.__init__" = true) (k28:W.keepIn K (.ref f28)=true)
    (a29:W.findIn K (.ref CaMemory) "words_of" = some (some (.ref f29))) (i29:W.isFn K (.ref f29)=true) (l29:K.lookup f29=some ⟨oc29,od29,.func (W.fnOf "words_of" "Memory.words_of" (Zn ZA) (Zm ZA) (Zc ZA) .none kV29 dc29 pm29 an29 cd29 ct29),sl29⟩) (c29:W.codeIn K cd29 "Memory.words_of" = true) (k29:W.keepIn K (.ref f29)=true)
    (a30:W.findIn K (.ref CaStairs) "store" = some (some (.ref f30))) (i30:W.isFn K (.ref f30)=true) (l30:K.lookup f30=some ⟨oc30,od30,.func (W.fnOf "store" "Steps.store" (Zn ZaP) (Zm ZaP) (Zc ZaP) .none kV30 dc30 pm30 an30 cd30 ct30),sl30⟩) (c30:W.codeIn K cd30 "Steps.store" = true) (k30:W.keepIn K (.ref f30)=true)
    (a31:W.findIn K (.ref CaStairs) "words" = some (some (.ref f31))) (i31:W.isFn K (.ref f31)=true) (l31:K.lookup f31=some ⟨oc31,od31,.func (W.fnOf "words" "Steps.words" (Zn ZaN) (Zm ZaN) (Zc ZaN) .none kV31 dc31 pm31 an31 cd31 ct31),sl31⟩) (c31:W.codeIn K cd31 "Steps.words" = true) (k31:W.keepIn K (.ref f31)=true)
    (a32:W.findIn K (.ref CaStairs) "happened" = some (some (.ref f32))) (i32:W.isFn K (.ref f32)=true) (l32:K.lookup f32=some ⟨oc32,od32,.func (W.fnOf "happened" "Steps.happened" (Zn ZQ) (Zm ZQ) (Zc ZQ) .none kV32 dc32 pm32 an32 cd32 ct32),sl32⟩) (c32:W.codeIn K cd32 "Steps.happened" = true) (k32:W.keepIn K (.ref f32)=true)
    (a33:W.findIn K (.ref CaStairs) "leaver" = some (some (.ref f33))) (i33:W.isFn K (.ref f33)=true) (l33:K.lookup f33=some ⟨oc33,od33,.func (W.fnOf "leaver" "Steps.leaver" (Zn Zaq) (Zm Zaq) (Zc Zaq) .none kV33 dc33 pm33 an33 cd33 ct33),sl33⟩) (c33:W.codeIn K cd33 "Steps.leaver" = true) (k33:W.keepIn K (.ref f33)=true)
    (a34:W.findIn K (.ref CaStairs) "tell_found" = some (some (.ref f34))) (i34:W.isFn K (.ref f34)=true) (l34:K.lookup f34=some ⟨oc34,od34,.func (W.fnOf "tell_found" "Steps.tell_found" (Zn ZE) (Zm ZE) (Zc ZE) .none kV34 dc34 pm34 an34 cd34 ct34),sl34⟩) (c34:W.codeIn K cd34 "Steps.tell_found" = true) (k34:W.keepIn K (.ref f34)=true)
    (a35:W.findIn K (.ref CaStairs) "use_in" = some (some (.ref f35))) (i35:W.isFn K (.ref f35)=true) (l35:K.lookup f35=some ⟨oc35,od35,.func (W.fnOf "use_in" "Steps.use_in" (Zn Zar) (Zm Zar) (Zc Zar) .none kV35 dc35 pm35 an35 cd35 ct35),sl35⟩) (c35:W.codeIn K cd35 "Steps.use_in" = true) (k35:W.keepIn K (.ref f35)=true)
    (a36:W.findIn K (.ref CaStairs) "come_in" = some (some (.ref f36))) (i36:W.isFn K (.ref f36)=true) (l36:K.lookup f36=some ⟨oc36,od36,.func (W.fnOf "come_in" "Steps.come_in" (Zn Zad) (Zm Zad) (Zc Zad) .none kV36 dc36 pm36 an36 cd36 ct36),sl36⟩) (c36:W.codeIn K cd36 "Steps.come_in" = true) (k36:W.keepIn K (.ref f36)=true)
    (a37:W.findIn K (.ref CaStairs) "go_out" = some (some (.ref f37))) (i37:W.isFn K (.ref f37)=true) (l37:K.lookup f37=some ⟨oc37,od37,.func (W.fnOf "go_out" "Steps.go_out" (Zn Zat) (Zm Zat) (Zc Zat) .none kV37 dc37 pm37 an37 cd37 ct37),sl37⟩) (c37:W.codeIn K cd37 "Steps.go_out" = true) (k37:W.keepIn K (.ref f37)=true)
    (a38:W.findIn K (.ref CaStairs) "word_in" = some (some (.ref f38))) (i38:W.isFn K (.ref f38)=true) (l38:K.lookup f38=some ⟨oc38,od38,.func (W.fnOf "word_in" "Steps.word_in" (Zn Zaf) (Zm Zaf) (Zc Zaf) .none kV38 dc38 pm38 an38 cd38 ct38),sl38⟩) (c38:W.codeIn K cd38 "Steps.word_in" = true) (k38:W.keepIn K (.ref f38)=true)
    (g39:W.specialIn K (.ref CaSteps) "__getattribute__" = some (some (.builtin "type.__getattribute__"))) (r39:W.readsIn K CaSteps (.type "type")=true) (a39:W.findCls K (.ref CaSteps) (.type "type") "__init__" = some (.val (.ref f39))) (l39:K.lookup f39=some ⟨oc39,od39,.func (W.fnOf "__init__" "Steps.__init__" (Zn ZaC) (Zm ZaC) (Zc ZaC) .none kV39 dc39 pm39 an39 cd39 ct39),sl39⟩) (c39:W.codeIn K cd39 "Steps.__init__" = true) (k39:W.keepIn K (.ref f39)=true)
    (a40:W.findIn K (.ref CaStairs) "put" = some (some (.ref f40))) (i40:W.isFn K (.ref f40)=true) (l40:K.lookup f40=some ⟨oc40,od40,.func (W.fnOf "put" "Steps.put" (Zn ZbX) (Zm ZbX) (Zc ZbX) .none kV40 dc40 pm40 an40 cd40 ct40),sl40⟩) (c40:W.codeIn K cd40 "Steps.put" = true) (k40:W.keepIn K (.ref f40)=true)
    (a41:W.findIn K (.ref CaStairs) "go_on" = some (some (.ref f41))) (i41:W.isFn K (.ref f41)=true) (l41:K.lookup f41=some ⟨oc41,od41,.func (W.fnOf "go_on" "Stairs.go_on" (Zn ZaU) (Zm ZaU) (Zc ZaU) .none kV41 dc41 pm41 an41 cd41 ct41),sl41⟩) (c41:W.codeIn K cd41 "Stairs.go_on" = true) (k41:W.keepIn K (.ref f41)=true)
    (a42:W.findIn K (.ref CaStairs) "change" = some (some (.ref f42))) (i42:W.isFn K (.ref f42)=true) (l42:K.lookup f42=some ⟨oc42,od42,.func (W.fnOf "change" "Stairs.change" (Zn ZaE) (Zm ZaE) (Zc ZaE) .none kV42 dc42 pm42 an42 cd42 ct42),sl42⟩) (c42:W.codeIn K cd42 "Stairs.change" = true) (k42:W.keepIn K (.ref f42)=true)
    (a43:W.findIn K (.ref CaStairs) "nearest" = some (some (.ref f43))) (i43:W.isFn K (.ref f43)=true) (l43:K.lookup f43=some ⟨oc43,od43,.func (W.fnOf "nearest" "Stairs.nearest" (Zn ZR) (Zm ZR) (Zc ZR) .none kV43 dc43 pm43 an43 cd43 ct43),sl43⟩) (c43:W.codeIn K cd43 "Stairs.nearest" = true) (k43:W.keepIn K (.ref f43)=true)
    (a44:W.findIn K (.ref CaStairs) "drive_out" = some (some (.ref f44))) (i44:W.isFn K (.ref f44)=true) (l44:K.lookup f44=some ⟨oc44,od44,.func (W.fnOf "drive_out" "Stairs.drive_out" (Zn ZF) (Zm ZF) (Zc ZF) .none kV44 dc44 pm44 an44 cd44 ct44),sl44⟩) (c44:W.codeIn K cd44 "Stairs.drive_out" = true) (k44:W.keepIn K (.ref f44)=true)
    (a45:W.findIn K (.ref CaStairs) "fetch_down" = some (some (.ref f45))) (i45:W.isFn K (.ref f45)=true) (l45:K.lookup f45=some ⟨oc45,od45,.func (W.fnOf "fetch_down" "Stairs.fetch_down" (Zn ZB) (Zm ZB) (Zc ZB) .none kV45 dc45 pm45 an45 cd45 ct45),sl45⟩) (c45:W.codeIn K cd45 "Stairs.fetch_down" = true) (k45:W.keepIn K (.ref f45)=true)
    (a46:W.findIn K (.ref CaStairs) "come_apart" = some (some (.ref f46))) (i46:W.isFn K (.ref f46)=true) (l46:K.lookup f46=some ⟨oc46,od46,.func (W.fnOf "come_apart" "Stairs.come_apart" (Zn ZC) (Zm ZC) (Zc ZC) .none kV46 dc46 pm46 an46 cd46 ct46),sl46⟩) (c46:W.codeIn K cd46 "Stairs.come_apart" = true) (k46:W.keepIn K (.ref f46)=true)
    (a47:W.findIn K (.ref CaStairs) "push" = some (some (.ref f47))) (i47:W.isFn K (.ref f47)=true) (l47:K.lookup f47=some ⟨oc47,od47,.func (W.fnOf "push" "Stairs.push" (Zn Zai) (Zm Zai) (Zc Zai) .none kV47 dc47 pm47 an47 cd47 ct47),sl47⟩) (c47:W.codeIn K cd47 "Stairs.push" = true) (k47:W.keepIn K (.ref f47)=true)
    (a48:W.findIn K (.ref CaStairs) "fetch_apart" = some (some (.ref f48))) (i48:W.isFn K (.ref f48)=true) (l48:K.lookup f48=some ⟨oc48,od48,.func (W.fnOf "fetch_apart" "Stairs.fetch_apart" (Zn Zy) (Zm Zy) (Zc Zy) .none kV48 dc48 pm48 an48 cd48 ct48),sl48⟩) (c48:W.codeIn K cd48 "Stairs.fetch_apart" = true) (k48:W.keepIn K (.ref f48)=true)
    (a49:W.findIn K (.ref CaStairs) "fetch" = some (some (.ref f49))) (i49:W.isFn K (.ref f49)=true) (l49:K.lookup f49=some ⟨oc49,od49,.func (W.fnOf "fetch" "Stairs.fetch" (Zn Zav) (Zm Zav) (Zc Zav) .none kV49 dc49 pm49 an49 cd49 ct49),sl49⟩) (c49:W.codeIn K cd49 "Stairs.fetch" = true) (k49:W.keepIn K (.ref f49)=true)
    (a50:W.findIn K (.ref CaStairs) "read" = some (some (.ref f50))) (i50:W.isFn K (.ref f50)=true) (l50:K.lookup f50=some ⟨oc50,od50,.func (W.fnOf "read" "Stairs.read" (Zn ZaR) (Zm ZaR) (Zc ZaR) .none kV50 dc50 pm50 an50 cd50 ct50),sl50⟩) (c50:W.codeIn K cd50 "Stairs.read" = true) (k50:W.keepIn K (.ref f50)=true)
    (a51:W.findIn K (.ref CaStairs) "__init__" = some (some (.ref f51))) (i51:W.isFn K (.ref f51)=true) (l51:K.lookup f51=some ⟨oc51,od51,.func (W.fnOf "__init__" "Stairs.__init__" (Zn ZaQ) (Zm ZaQ) (Zc ZaQ) .none kV51 dc51 pm51 an51 cd51 ct51),sl51⟩) (c51:W.codeIn K cd51 "Stairs.__init__" = true) (k51:W.keepIn K (.ref f51)=true)
    (a52:W.nsIn K mainGlobals "_law_room_plan" = some (some (.ref f52))) (l52:K.lookup f52=some ⟨oc52,od52,.func (W.fnOf "_law_room_plan" "_law_room_plan" (Zn Zbw) (Zm Zbw) (Zc Zbw) .none kV52 dc52 pm52 an52 cd52 ct52),sl52⟩) (c52:W.codeIn K cd52 "_law_room_plan" = true) (k52:W.keepIn K (.ref f52)=true)
    (a53:W.nsIn K mainGlobals "_law_plan" = some (some (.ref f53))) (l53:K.lookup f53=some ⟨oc53,od53,.func (W.fnOf "_law_plan" "_law_plan" (Zn ZeC) (Zm ZeC) (Zc ZeC) .none kV53 dc53 pm53 an53 cd53 ct53),sl53⟩) (c53:W.codeIn K cd53 "_law_plan" = true) (k53:W.keepIn K (.ref f53)=true)
    (a54:W.nsIn K mainGlobals "_law_many" = some (some (.ref f54))) (l54:K.lookup f54=some ⟨oc54,od54,.func (W.fnOf "_law_many" "_law_many" (Zn Zft) (Zm Zft) (Zc Zft) .none kV54 dc54 pm54 an54 cd54 ct54),sl54⟩) (c54:W.codeIn K cd54 "_law_many" = true) (k54:W.keepIn K (.ref f54)=true)
    (a55:W.findIn K (.ref CaStairs) "lies" = some (some (.ref f55))) (i55:W.isFn K (.ref f55)=true) (l55:K.lookup f55=some ⟨oc55,od55,.func (W.fnOf "lies" "Steps.lies" (Zn Zbe) (Zm Zbe) (Zc Zbe) .none kV55 dc55 pm55 an55 cd55 ct55),sl55⟩) (c55:W.codeIn K cd55 "Steps.lies" = true) (k55:W.keepIn K (.ref f55)=true)
    (a56:W.findIn K (.ref CaStairs) "order" = some (some (.ref f56))) (i56:W.isFn K (.ref f56)=true) (l56:K.lookup f56=some ⟨oc56,od56,.func (W.fnOf "order" "Stairs.order" (Zn Zau) (Zm Zau) (Zc Zau) .none kV56 dc56 pm56 an56 cd56 ct56),sl56⟩) (c56:W.codeIn K cd56 "Stairs.order" = true) (k56:W.keepIn K (.ref f56)=true)
    (a57:W.nsIn K mainGlobals "_law_due" = some (some (.ref f57))) (l57:K.lookup f57=some ⟨oc57,od57,.func (W.fnOf "_law_due" "_law_due" (Zn s_due) (Zm s_due) (Zc s_due) .none kV57 dc57 pm57 an57 cd57 ct57),sl57⟩) (c57:W.codeIn K cd57 "_law_due" = true) (k57:W.keepIn K (.ref f57)=true)
    (a58:W.nsIn K mainGlobals "_law_right" = some (some (.ref f58))) (l58:K.lookup f58=some ⟨oc58,od58,.func (W.fnOf "_law_right" "_law_right" (Zn Zcr) (Zm Zcr) (Zc Zcr) .none kV58 dc58 pm58 an58 cd58 ct58),sl58⟩) (c58:W.codeIn K cd58 "_law_right" = true) (k58:W.keepIn K (.ref f58)=true)
    (a59:W.nsIn K mainGlobals "law" = some (some (.ref f59))) (l59:K.lookup f59=some ⟨oc59,od59,.func (W.fnOf "law" "law" (Zn s_law) (Zm s_law) (Zc s_law) .none kV59 dc59 pm59 an59 cd59 ct59),sl59⟩) (c59:W.codeIn K cd59 "law" = true) (k59:W.keepIn K (.ref f59)=true)
    (z_abs:W.nsIn K mainGlobals "abs" = some none)
    (z_all:W.nsIn K mainGlobals "all" = some none)
    (z_bool:W.nsIn K mainGlobals "bool" = some none)
    (z_divmod:W.nsIn K mainGlobals "divmod" = some none)
    (z_enumerate:W.nsIn K mainGlobals "enumerate" = some none)
    (z_int:W.nsIn K mainGlobals "int" = some none)
    (z_isinstance:W.nsIn K mainGlobals "isinstance" = some none)
    (z_len:W.nsIn K mainGlobals "len" = some none)
    (z_list:W.nsIn K mainGlobals "list" = some none)
    (z_max:W.nsIn K mainGlobals "max" = some none)
    (z_min:W.nsIn K mainGlobals "min" = some none)
    (z_range:W.nsIn K mainGlobals "range" = some none)
    (z_set:W.nsIn K mainGlobals "set" = some none)
    (z_sorted:W.nsIn K mainGlobals "sorted" = some none)
    (z_str:W.nsIn K mainGlobals "str" = some none)
    (z_tuple:W.nsIn K mainGlobals "tuple" = some none)
    (z_zip:W.nsIn K mainGlobals "zip" = some none)
    (pgRoom:W.plainGet K CaRoom Str.empty=true) (hdRoom:W.hasDictIn K CaRoom=true) (poRoom:W.plainOver K CaRoom=true) (saRoom:W.findIn K (.ref CaRoom) "__setattr__" = some (some (.builtin "object.__setattr__"))) (mkRoom:W.makesIn K CaRoom=true) (kcRoom:W.keepIn K (.ref CaRoom)=true)
    (nRoom_places:W.findIn K (.ref CaRoom) "places" = some none)
    (nRoom_rule:W.findIn K (.ref CaRoom) "rule" = some none)
    (nRoom_shelves:W.findIn K (.ref CaRoom) "shelves" = some none)
    (nRoom_standing:W.findIn K (.ref CaRoom) "standing" = some none)
    (nRoom_uses:W.findIn K (.ref CaRoom) "uses" = some none)
    (pgStore:W.plainGet K CaStore Str.empty=true) (hdStore:W.hasDictIn K CaStore=true) (poStore:W.plainOver K CaStore=true) (saStore:W.findIn K (.ref CaStore) "__setattr__" = some (some (.builtin "object.__setattr__"))) (mkStore:W.makesIn K CaStore=true) (kcStore:W.keepIn K (.ref CaStore)=true)
    (nStore_fresh:W.findIn K (.ref CaStore) "fresh" = some none)
    (nStore_held:W.findIn K (.ref CaStore) "held" = some none)
    (nStore_late:W.findIn K (.ref CaStore) "late" = some none)
    (nStore_room:W.findIn K (.ref CaStore) "room" = some none)
    (pgMemory:W.plainGet K CaMemory Str.empty=true) (hdMemory:W.hasDictIn K CaMemory=true) (poMemory:W.plainOver K CaMemory=true) (saMemory:W.findIn K (.ref CaMemory) "__setattr__" = some (some (.builtin "object.__setattr__"))) (mkMemory:W.makesIn K CaMemory=true) (kcMemory:W.keepIn K (.ref CaMemory)=true)
    (nMemory_kept:W.findIn K (.ref CaMemory) "kept" = some none)
    (nMemory_size:W.findIn K (.ref CaMemory) "size" = some none)
    (pgStairs:W.plainGet K CaStairs Str.empty=true) (hdStairs:W.hasDictIn K CaStairs=true) (poStairs:W.plainOver K CaStairs=true) (saStairs:W.findIn K (.ref CaStairs) "__setattr__" = some (some (.builtin "object.__setattr__"))) (mkStairs:W.makesIn K CaStairs=true) (kcStairs:W.keepIn K (.ref CaStairs)=true)
    (nStairs_bottom:W.findIn K (.ref CaStairs) "bottom" = some none)
    (nStairs_events:W.findIn K (.ref CaStairs) "events" = some none)
    (nStairs_kind:W.findIn K (.ref CaStairs) "kind" = some none)
    (nStairs_last:W.findIn K (.ref CaStairs) "last" = some none)
    (nStairs_size:W.findIn K (.ref CaStairs) "size" = some none)
    (nStairs_stores:W.findIn K (.ref CaStairs) "stores" = some none)
    (ch:W.codeHdIn K cg tp=true) (kt:K.lookup tp=none)
    : tabOf K "Room" "going" = tp/\(∃ c0,W.codeHdIn K c0 tp=true)/\K.lookup tp=none/\∃ fd:FuncData,(∀ (s:Shared) (v:Value),BindsTo s fd ⟨[v],[]⟩ [("_law_script",v)])/\∀ base:Heap,K.In base->base.Ns mainGlobals mg->BMod base mg->FnOk l.prog w K mg base CX0 17 fa fd P_law (spLaw K):=by
  have e:=hfa.symm.trans (W.mg_of X G a59)
  cases e
  have hCRoom:=Zdd aCRoom
  subst hCRoom
  have hCStore:=Zdd aCStore
  subst hCStore
  have hCMemory:=Zdd aCMemory
  subst hCMemory
  have hCStairs:=Zdd aCStairs
  subst hCStairs
  have hCSteps:=Zdd aCSteps
  subst hCSteps
  have T:Txt K mg:=⟨W.mg_none_of X G z_abs,W.mg_none_of X G z_all,W.mg_none_of X G z_bool,W.mg_none_of X G z_divmod,W.mg_none_of X G z_enumerate,W.mg_none_of X G z_int,W.mg_none_of X G z_isinstance,W.mg_none_of X G z_len,W.mg_none_of X G z_list,W.mg_none_of X G z_max,W.mg_none_of X G z_min,W.mg_none_of X G z_range,W.mg_none_of X G z_set,W.mg_none_of X G z_sorted,W.mg_none_of X G z_str,W.mg_none_of X G z_tuple,W.mg_none_of X G z_zip,⟨pgRoom,hdRoom,poRoom,saRoom⟩,nRoom_places,nRoom_rule,nRoom_shelves,nRoom_standing,nRoom_uses,⟨pgStore,hdStore,poStore,saStore⟩,nStore_fresh,nStore_held,nStore_late,nStore_room,⟨pgMemory,hdMemory,poMemory,saMemory⟩,nMemory_kept,nMemory_size,⟨pgStairs,hdStairs,poStairs,saStairs⟩,nStairs_bottom,nStairs_events,nStairs_kind,nStairs_last,nStairs_size,nStairs_stores⟩
  have F0:=Zq (st:=Zfs) l0 c0 k0
  have b1000:=F0.binds (ps:=Zdj) λ_ _ _ _ _ _ us hl=>match us,hl with | [_,_],_=>rfl
  have F1:=Zq (st:=s_box) l1 c1 k1
  have b1001:=F1.binds (ps:=P_box) λ_ _ _ _ _ _ us hl=>match us,hl with | [_,_],_=>rfl
  have F2:=Zq (st:=ZcI) l2 c2 k2
  have b1002:=F2.binds (ps:=Zdk) λ_ _ _ _ _ _ us hl=>match us,hl with | [_,_],_=>rfl
  have F3:=Zq (st:=Zaj) l3 c3 k3
  have b1003:=F3.binds (ps:=Zbm) λ_ _ _ _ _ _ us hl=>match us,hl with | [_,_],_=>rfl
  have F4:=Zq (st:=ZdO) l4 c4 k4
  have b1004:=F4.binds (ps:=ZdP) λ_ _ _ _ _ _ us hl=>match us,hl with | [_,_],_=>rfl
  have F5:=Zq (st:=ZbN) l5 c5 k5
  have b1005:=F5.binds (ps:=Zcm) λ_ _ _ _ _ _ us hl=>match us,hl with | [_,_],_=>rfl
  have F6:=Zq (st:=ZbO) l6 c6 k6
  have b1006:=F6.binds (ps:=ZaJ) λ_ _ _ _ _ _ us hl=>match us,hl with | [_,_],_=>rfl
  have F7:=Zq (st:=Zbb) l7 c7 k7
  have b1007:=F7.binds (ps:=Zag) λ_ _ _ _ _ _ us hl=>match us,hl with | [_,_],_=>rfl
  have F8:=Zq (st:=Zbs) l8 c8 k8
  have b1008:=F8.binds (ps:=ZaX) λ_ _ _ _ _ _ us hl=>match us,hl with | [_,_],_=>rfl
  have F9:=Zq (st:=ZT) l9 c9 k9
  have b1009:=F9.binds (ps:=Zbc) λ_ _ _ _ _ _ us hl=>match us,hl with | [_,_],_=>rfl
  have F10:=Zq (st:=Zbq) l10 c10 k10
  have b1010:=F10.binds (ps:=Zbr) λ_ _ _ _ _ _ us hl=>match us,hl with | [_,_],_=>rfl
  have F11:=Zq (st:=ZbP) l11 c11 k11
  have b1011:=F11.binds (ps:=Zbp) λ_ _ _ _ _ _ us hl=>match us,hl with | [_,_],_=>rfl
  have F12:=Zq (st:=ZaV) l12 c12 k12
  have b1012:=F12.binds (ps:=ZaW) λ_ _ _ _ _ _ us hl=>match us,hl with | [_,_,_,_],_=>rfl
  have F13:=Zq (st:=ZI) l13 c13 k13
  have b1013:=F13.binds (ps:=ZJ) λ_ _ _ _ _ _ us hl=>match us,hl with | [_,_],_=>rfl
  have F14:=Zq (st:=ZaY) l14 c14 k14
  have b1014:=F14.binds (ps:=ZaA) λ_ _ _ _ _ _ us hl=>match us,hl with | [_,_],_=>rfl
  have F15:=Zq (st:=s_ask) l15 c15 k15
  have b1015:=F15.binds (ps:=P_ask) λ_ _ _ _ _ _ us hl=>match us,hl with | [_,_],_=>rfl
  have F16:=Zq (st:=ZbZ) l16 c16 k16
  have b1016:=F16.binds (ps:=Zco) λ_ _ _ _ _ _ us hl=>match us,hl with | [_,_,_,_],_=>rfl
  have F17:=Zq (st:=Zcq) l17 c17 k17
  have b1017:=F17.binds (ps:=Zdi) λ_ _ _ _ _ _ us hl=>match us,hl with | [_,_,_,_],_=>rfl
  have F18:=Zq (st:=ZaZ) l18 c18 k18
  have b1018:=F18.binds (ps:=Zba) λ_ _ _ _ _ _ us hl=>match us,hl with | [_,_],_=>rfl
  have F19:=Zq (st:=ZaK) l19 c19 k19
  have b1019:=F19.binds (ps:=ZaL) λ_ _ _ _ _ _ us hl=>match us,hl with | [_],_=>rfl
  have F20:=Zq (st:=Zbd) l20 c20 k20
  have b1020:=F20.binds (ps:=ZbB) λ_ _ _ _ _ _ us hl=>match us,hl with | [_,_],_=>rfl
  have F21:=Zq (st:=Zbt) l21 c21 k21
  have b1021:=F21.binds (ps:=Zbu) λ_ _ _ _ _ _ us hl=>match us,hl with | [_,_],_=>rfl
  have F22:=Zq (st:=Zbv) l22 c22 k22
  have b1022:=F22.binds (ps:=ZbW) λ_ _ _ _ _ _ us hl=>match us,hl with | [_,_,_],_=>rfl
  have F23:=Zq (st:=Zab) l23 c23 k23
  have b1023:=F23.binds (ps:=ZaB) λ_ _ _ _ _ _ us hl=>match us,hl with | [_,_,_],_=>rfl
  have F24:=Zq (st:=ZN) l24 c24 k24
  have b1024:=F24.binds (ps:=Zam) λ_ _ _ _ _ _ us hl=>match us,hl with | [_,_],_=>rfl
  have F25:=Zq (st:=ZO) l25 c25 k25
  have b1025:=F25.binds (ps:=ZP) λ_ _ _ _ _ _ us hl=>match us,hl with | [_,_],_=>rfl
  have F26:=Zq (st:=ZbK) l26 c26 k26
  have b1026:=F26.binds (ps:=ZbL) λ_ _ _ _ _ _ us hl=>match us,hl with | [_,_],_=>rfl
  have F27:=Zq (st:=ZbM) l27 c27 k27
  have b1027:=F27.binds (ps:=Zcl) λ_ _ _ _ _ _ us hl=>match us,hl with | [_,_],_=>rfl
  have F28:=Zq (st:=ZaM) l28 c28 k28
  have b1028:=F28.binds (ps:=Zbi) λ_ _ _ _ _ _ us hl=>match us,hl with | [_,_],_=>rfl
  have F29:=Zq (st:=ZA) l29 c29 k29
  have b1029:=F29.binds (ps:=Zac) λ_ _ _ _ _ _ us hl=>match us,hl with | [_,_],_=>rfl
  have F30:=Zq (st:=ZaP) l30 c30 k30
  have b1030:=F30.binds (ps:=Zah) λ_ _ _ _ _ _ us hl=>match us,hl with | [_,_],_=>rfl
  have F31:=Zq (st:=ZaN) l31 c31 k31
  have b1031:=F31.binds (ps:=ZaO) λ_ _ _ _ _ _ us hl=>match us,hl with | [_,_,_],_=>rfl
  have F32:=Zq (st:=ZQ) l32 c32 k32
  have b1032:=F32.binds (ps:=Zan) λ_ _ _ _ _ _ us hl=>match us,hl with | [_],_=>rfl
  have F33:=Zq (st:=Zaq) l33 c33 k33
  have b1033:=F33.binds (ps:=Zaa) λ_ _ _ _ _ _ us hl=>match us,hl with | [_,_,_],_=>rfl
  have F34:=Zq (st:=ZE) l34 c34 k34
  have b1034:=F34.binds (ps:=ZU) λ_ _ _ _ _ _ us hl=>match us,hl with | [_,_],_=>rfl
  have F35:=Zq (st:=Zar) l35 c35 k35
  have b1035:=F35.binds (ps:=Zas) λ_ _ _ _ _ _ us hl=>match us,hl with | [_,_,_],_=>rfl
  have F36:=Zq (st:=Zad) l36 c36 k36
  have b1036:=F36.binds (ps:=Zae) λ_ _ _ _ _ _ us hl=>match us,hl with | [_,_,_,_],_=>rfl
  have F37:=Zq (st:=Zat) l37 c37 k37
  have b1037:=F37.binds (ps:=ZH) λ_ _ _ _ _ _ us hl=>match us,hl with | [_,_,_],_=>rfl
  have F38:=Zq (st:=Zaf) l38 c38 k38
  have b1038:=F38.binds (ps:=ZaD) λ_ _ _ _ _ _ us hl=>match us,hl with | [_,_,_],_=>rfl
  have F39:=Zq (st:=ZaC) l39 c39 k39
  have b1039:=F39.binds (ps:=ZbC) λ_ _ _ _ _ _ us hl=>match us,hl with | [_,_,_],_=>rfl
  have F40:=Zq (st:=ZbX) l40 c40 k40
  have b1040:=F40.binds (ps:=ZbY) λ_ _ _ _ _ _ us hl=>match us,hl with | [_,_,_,_],_=>rfl
  have F41:=Zq (st:=ZaU) l41 c41 k41
  have b1041:=F41.binds (ps:=Zbz) λ_ _ _ _ _ _ us hl=>match us,hl with | [_,_,_,_],_=>rfl
  have F42:=Zq (st:=ZaE) l42 c42 k42
  have b1042:=F42.binds (ps:=Zbl) λ_ _ _ _ _ _ us hl=>match us,hl with | [_,_,_],_=>rfl
  have F43:=Zq (st:=ZR) l43 c43 k43
  have b1043:=F43.binds (ps:=Zao) λ_ _ _ _ _ _ us hl=>match us,hl with | [_,_],_=>rfl
  have F44:=Zq (st:=ZF) l44 c44 k44
  have b1044:=F44.binds (ps:=ZV) λ_ _ _ _ _ _ us hl=>match us,hl with | [_,_,_],_=>rfl
  have F45:=Zq (st:=ZB) l45 c45 k45
  have b1045:=F45.binds (ps:=ZK) λ_ _ _ _ _ _ us hl=>match us,hl with | [_,_,_],_=>rfl
  have F46:=Zq (st:=ZC) l46 c46 k46
  have b1046:=F46.binds (ps:=ZD) λ_ _ _ _ _ _ us hl=>match us,hl with | [_,_,_,_,_],_=>rfl
  have F47:=Zq (st:=Zai) l47 c47 k47
  have b1047:=F47.binds (ps:=ZW) λ_ _ _ _ _ _ us hl=>match us,hl with | [_,_,_,_,_],_=>rfl
  have F48:=Zq (st:=Zy) l48 c48 k48
  have b1048:=F48.binds (ps:=ZG) λ_ _ _ _ _ _ us hl=>match us,hl with | [_,_,_],_=>rfl
  have F49:=Zq (st:=Zav) l49 c49 k49
  have b1049:=F49.binds (ps:=ZaT) λ_ _ _ _ _ _ us hl=>match us,hl with | [_,_],_=>rfl
  have F50:=Zq (st:=ZaR) l50 c50 k50
  have b1050:=F50.binds (ps:=Zbk) λ_ _ _ _ _ _ us hl=>match us,hl with | [_,_],_=>rfl
  have F51:=Zq (st:=ZaQ) l51 c51 k51
  have b1051:=F51.binds (ps:=Zbj) λ_ _ _ _ _ _ us hl=>match us,hl with | [_,_],_=>rfl
  have F52:=Zq (st:=Zbw) l52 c52 k52
  have b1052:=F52.binds (ps:=Zca) λ_ _ _ _ _ _ us hl=>match us,hl with | [_],_=>rfl
  have F53:=Zq (st:=ZeC) l53 c53 k53
  have b1053:=F53.binds (ps:=Zhl) λ_ _ _ _ _ _ us hl=>match us,hl with | [_],_=>rfl
  have F54:=Zq (st:=Zft) l54 c54 k54
  have b1054:=F54.binds (ps:=Zhm) λ_ _ _ _ _ _ us hl=>match us,hl with | [_,_,_],_=>rfl
  have F55:=Zq (st:=Zbe) l55 c55 k55
  have b1055:=F55.binds (ps:=ZbD) λ_ _ _ _ _ _ us hl=>match us,hl with | [_,_],_=>rfl
  have F56:=Zq (st:=Zau) l56 c56 k56
  have b1056:=F56.binds (ps:=ZaS) λ_ _ _ _ _ _ us hl=>match us,hl with | [_,_,_],_=>rfl
  have F57:=Zq (st:=s_due) l57 c57 k57
  have b1057:=F57.binds (ps:=P_due) λ_ _ _ _ _ _ us hl=>match us,hl with | [_,_],_=>rfl
  have F58:=Zq (st:=Zcr) l58 c58 k58
  have b1058:=F58.binds (ps:=ZeD) λ_ _ _ _ _ _ us hl=>match us,hl with | [_],_=>rfl
  have F59:=Zq (st:=s_law) l59 c59 k59
  have b1059:=F59.binds (ps:=P_law) λ_ _ _ _ _ _ us hl=>match us,hl with | [_],_=>rfl
  have tq:=Zme a9 l9 rfl ch
  refine ⟨tq,⟨_,ch⟩,kt,?_⟩
  refine ⟨W.fnOf "law" "law" (Zn s_law) (Zm s_law) (Zc s_law) .none kV59 dc59 pm59 an59 cd59 ct59,λs v=>.of_eq rfl,λbase _ _ bm=>?_⟩
  have D_take:Def l.prog w K mg base "_law_take" 1 Zdj ZeE:=⟨_,_,Zny F0 T ,W.mg_of X G a0,F0.kp,b1000⟩
  have D_box:Def l.prog w K mg base "_law_box" 1 P_box (spBox K):=⟨_,_,Zoy F1 T ,W.mg_of X G a1,F1.kp,b1001⟩
  have D_folded:Def l.prog w K mg base "_law_folded" 1 Zdk (ZfW K):=⟨_,_,ZkZ F2 T ,W.mg_of X G a2,F2.kp,b1002⟩
  have D_some_boards:Def l.prog w K mg base "_law_some_boards" 2 Zbm ZfY:=⟨_,_,Zfc F3 T D_take,W.mg_of X G a3,F3.kp,b1003⟩
  have D_same:=Zjg (P:=l.prog) (w:=w) (base:=base) F4 b1004 (W.mg_of X G a4) T 
  have D_shelf_of:Def l.prog w K mg base "shelf_of" 1 Zcm Zid:=⟨_,_,Zie F5 T ,W.mg_of X G a5,F5.kp,b1005⟩
  have M_Room_has:MDef l.prog w K mg base (clsOf K "Room") "has" 1 ZaJ (spHas K):=⟨_,_,Zif F6 T ,⟨a6,i6,k6⟩,b1006⟩
  have M_Room_mates:MDef l.prog w K mg base (clsOf K "Room") "mates" 2 Zag (Zdw K):=⟨_,_,Zgb F7 T D_shelf_of,⟨a7,i7,k7⟩,b1007⟩
  have M_Room_need:MDef l.prog w K mg base (clsOf K "Room") "need" 2 ZaX (Zhp K):=⟨_,_,Zhq F8 T M_Room_has,⟨a8,i8,k8⟩,b1008⟩
  have M_Room_going:MDef l.prog w K mg base (clsOf K "Room") "going" 2 Zbc (Zgc K):=⟨_,_,Zgd F9 rfl tq ch bm T ,⟨a9,i9,k9⟩,b1009⟩
  have M_Room_drop:MDef l.prog w K mg base (clsOf K "Room") "drop" 3 Zbr (Zjh K):=⟨_,_,Zhr F10 T M_Room_need M_Room_mates,⟨a10,i10,k10⟩,b1010⟩
  have M_Room_use:MDef l.prog w K mg base (clsOf K "Room") "use" 3 Zbp (spUse K):=⟨_,_,Zig F11 T M_Room_need M_Room_mates,⟨a11,i11,k11⟩,b1011⟩
  have K_Room:KDef l.prog w K mg base (clsOf K "Room") "Room" 1 ZaW (Zhw K):=⟨_,_,Zhx F12 T ,⟨mkRoom,a12,i12,kcRoom⟩,W.mg_of X G aCRoom,b1012⟩
  have M_Room_leaver_for:MDef l.prog w K mg base (clsOf K "Room") "leaver_for" 3 ZJ (Zec K):=⟨_,_,Zdm F13 T M_Room_mates M_Room_going,⟨a13,i13,k13⟩,b1013⟩
  have M_Room_bring:MDef l.prog w K mg base (clsOf K "Room") "bring" 4 ZaA (ZeI K):=⟨_,_,Zgf F14 T M_Room_has M_Room_leaver_for M_Room_mates M_Room_drop,⟨a14,i14,k14⟩,b1014⟩
  have D_ask:Def l.prog w K mg base "ask" 5 P_ask (spAsk K):=⟨_,_,ZoD F15 T M_Room_has M_Room_use M_Room_bring,W.mg_of X G a15,F15.kp,b1015⟩
  have D_run_row:Def l.prog w K mg base "run_row" 7 Zco (spRun K):=⟨_,_,ZjQ F16 T K_Room D_ask,W.mg_of X G a16,F16.kp,b1016⟩
  have D_misses:Def l.prog w K mg base "misses" 8 Zdi (Zll K):=⟨_,_,Zlm F17 T D_run_row,W.mg_of X G a17,F17.kp,b1017⟩
  have M_Room_shelf:MDef l.prog w K mg base (clsOf K "Room") "shelf" 3 Zba (Zdn K):=⟨_,_,Zgg F18 T M_Room_going,⟨a18,i18,k18⟩,b1018⟩
  have M_Room_boards:MDef l.prog w K mg base (clsOf K "Room") "boards" 1 ZaL (spBds K):=⟨_,_,Zfd F19 T ,⟨a19,i19,k19⟩,b1019⟩
  have K_Store:KDef l.prog w K mg base (clsOf K "Store") "Store" 3 ZbB (Zij K):=⟨_,_,Zgh F20 T K_Room,⟨mkStore,a20,i20,kcStore⟩,W.mg_of X G aCStore,b1020⟩
  have M_Store_has:MDef l.prog w K mg base (clsOf K "Store") "has" 2 Zbu (Zjk K):=⟨_,_,Zhy F21 T M_Room_has,⟨a21,i21,k21⟩,b1021⟩
  have M_Store_lay:MDef l.prog w K mg base (clsOf K "Store") "lay" 1 ZbW (spLay K):=⟨_,_,Zhz F22 T ,⟨a22,i22,k22⟩,b1022⟩
  have M_Store_take_in:MDef l.prog w K mg base (clsOf K "Store") "take_in" 5 ZaB (Zgi K):=⟨_,_,ZdU F23 T M_Room_bring M_Store_lay,⟨a23,i23,k23⟩,b1023⟩
  have M_Store_give_out:MDef l.prog w K mg base (clsOf K "Store") "give_out" 4 Zam (ZeJ K):=⟨_,_,Zdx F24 T M_Room_drop,⟨a24,i24,k24⟩,b1024⟩
  have M_Store_words_of:MDef l.prog w K mg base (clsOf K "Store") "words_of" 3 ZP (Zdo K):=⟨_,_,Zdy F25 T M_Room_need,⟨a25,i25,k25⟩,b1025⟩
  have D_board_of:Def l.prog w K mg base "board_of" 1 ZbL Zgj:=⟨_,_,Zik F26 T ,W.mg_of X G a26,F26.kp,b1026⟩
  have D_spots_of:Def l.prog w K mg base "spots_of" 1 Zcl Zil:=⟨_,_,Zim F27 T ,W.mg_of X G a27,F27.kp,b1027⟩
  have K_Memory:KDef l.prog w K mg base (clsOf K "Memory") "Memory" 1 Zbi (spMem K):=⟨_,_,Zfe F28 T ,⟨mkMemory,a28,i28,kcMemory⟩,W.mg_of X G aCMemory,b1028⟩
  have M_Memory_words_of:MDef l.prog w K mg base (clsOf K "Memory") "words_of" 2 Zac (Zgk K):=⟨_,_,Zdp F29 T D_spots_of,⟨a29,i29,k29⟩,b1029⟩
  have M_Steps_store:MDef l.prog w K mg base (clsOf K "Stairs") "store" 1 Zah (Zdr K):=⟨_,_,Zff F30 T ,⟨a30,i30,k30⟩,b1030⟩
  have M_Steps_words:MDef l.prog w K mg base (clsOf K "Stairs") "words" 4 ZaO (Zed K):=⟨_,_,Zfg F31 T M_Memory_words_of M_Steps_store M_Store_words_of,⟨a31,i31,k31⟩,b1031⟩
  have M_Steps_happened:MDef l.prog w K mg base (clsOf K "Stairs") "happened" 1 Zan (ZdB K):=⟨_,_,ZdC F32 T ,⟨a32,i32,k32⟩,b1032⟩
  have M_Steps_leaver:MDef l.prog w K mg base (clsOf K "Stairs") "leaver" 4 Zaa (ZhA K):=⟨_,_,ZeL F33 T M_Room_leaver_for,⟨a33,i33,k33⟩,b1033⟩
  have M_Steps_tell_found:MDef l.prog w K mg base (clsOf K "Stairs") "tell_found" 1 ZU (Zls K):=⟨_,_,ZcV F34 T ,⟨a34,i34,k34⟩,b1034⟩
  have M_Steps_use_in:MDef l.prog w K mg base (clsOf K "Stairs") "use_in" 4 Zas (Zgn K):=⟨_,_,ZeM F35 T M_Room_use,⟨a35,i35,k35⟩,b1035⟩
  have M_Steps_come_in:MDef l.prog w K mg base (clsOf K "Stairs") "come_in" 6 Zae (Zee K):=⟨_,_,ZdV F36 T M_Store_take_in,⟨a36,i36,k36⟩,b1036⟩
  have M_Steps_go_out:MDef l.prog w K mg base (clsOf K "Stairs") "go_out" 5 ZH (ZdD K):=⟨_,_,ZeN F37 T M_Store_give_out,⟨a37,i37,k37⟩,b1037⟩
  have M_Steps_word_in:MDef l.prog w K mg base (clsOf K "Stairs") "word_in" 4 ZaD (Zgo K):=⟨_,_,ZdW F38 T M_Store_words_of D_board_of,⟨a38,i38,k38⟩,b1038⟩
  have C_Steps_init:CDef l.prog w K mg base "Steps" "__init__" 5 ZbC (Zip K):=⟨_,_,_,Zgq F39 T K_Store K_Memory,⟨g39,⟨_,r39,a39⟩,k39⟩,W.mg_of X G aCSteps,b1039⟩
  have M_Steps_put:MDef l.prog w K mg base (clsOf K "Stairs") "put" 1 ZbY Zcb:=⟨_,_,ZhB F40 T ,⟨a40,i40,k40⟩,b1040⟩
  have M_Stairs_go_on:MDef l.prog w K mg base (clsOf K "Stairs") "go_on" 1 Zbz Zcb:=⟨_,_,ZeO F41 T ,⟨a41,i41,k41⟩,b1041⟩
  have M_Stairs_change:MDef l.prog w K mg base (clsOf K "Stairs") "change" 1 Zbl Zcb:=⟨_,_,ZdX F42 T ,⟨a42,i42,k42⟩,b1042⟩
  have M_Stairs_nearest:MDef l.prog w K mg base (clsOf K "Stairs") "nearest" 3 Zao (ZeP K):=⟨_,_,ZdF F43 T M_Store_has,⟨a43,i43,k43⟩,b1043⟩
  have M_Stairs_drive_out:MDef l.prog w K mg base (clsOf K "Stairs") "drive_out" 6 ZV (Zir K):=⟨_,_,ZcW F44 T M_Steps_go_out M_Store_has M_Stairs_go_on,⟨a44,i44,k44⟩,b1044⟩
  have M_Stairs_fetch_down:MDef l.prog w K mg base (clsOf K "Stairs") "fetch_down" 7 ZK (Zlw K):=⟨_,_,ZcL F45 T M_Steps_use_in M_Steps_words M_Steps_leaver M_Stairs_drive_out M_Steps_come_in,⟨a45,i45,k45⟩,b1045⟩
  have M_Stairs_come_apart:MDef l.prog w K mg base (clsOf K "Stairs") "come_apart" 7 ZD (Zgt K):=⟨_,_,ZcM F46 T M_Steps_come_in M_Stairs_change,⟨a46,i46,k46⟩,b1046⟩
  have M_Stairs_push:=ZcB (P:=l.prog) (w:=w) (base:=base) F47 b1047 ⟨a47,i47,k47⟩ T M_Steps_put M_Steps_leaver M_Stairs_come_apart M_Steps_go_out
  have M_Stairs_fetch_apart:MDef l.prog w K mg base (clsOf K "Stairs") "fetch_apart" 13 ZG (Zit K):=⟨_,_,ZcC F48 T M_Steps_use_in M_Steps_words M_Steps_go_out M_Stairs_push,⟨a48,i48,k48⟩,b1048⟩
  have M_Stairs_fetch:MDef l.prog w K mg base (clsOf K "Stairs") "fetch" 14 ZaT (Ziu K):=⟨_,_,ZeR F49 T M_Stairs_nearest M_Steps_tell_found M_Stairs_fetch_apart M_Stairs_fetch_down,⟨a49,i49,k49⟩,b1049⟩
  have M_Stairs_read:MDef l.prog w K mg base (clsOf K "Stairs") "read" 15 Zbk (Zly K):=⟨_,_,Zfh F50 T D_board_of M_Stairs_fetch M_Steps_word_in M_Steps_happened,⟨a50,i50,k50⟩,b1050⟩
  have K_Stairs:KDef l.prog w K mg base (clsOf K "Stairs") "Stairs" 6 Zbj (Zgu K):=⟨_,_,Zfi F51 T C_Steps_init,⟨mkStairs,a51,i51,kcStairs⟩,W.mg_of X G aCStairs,b1051⟩
  have D_room_plan:Def l.prog w K mg base "_law_room_plan" 2 Zca Zlz:=⟨_,_,ZhE F52 T D_take,W.mg_of X G a52,F52.kp,b1052⟩
  have D_plan:Def l.prog w K mg base "_law_plan" 3 Zhl (Ziv K):=⟨_,_,ZnH F53 T D_take D_room_plan,W.mg_of X G a53,F53.kp,b1053⟩
  have D_many:Def l.prog w K mg base "_law_many" 2 Zhm ZlA:=⟨_,_,ZnI F54 T D_take,W.mg_of X G a54,F54.kp,b1054⟩
  have M_Steps_lies:MDef l.prog w K mg base (clsOf K "Stairs") "lies" 2 ZbD (ZlC K):=⟨_,_,Zgv F55 T M_Steps_store M_Room_boards,⟨a55,i55,k55⟩,b1055⟩
  have M_Stairs_order:MDef l.prog w K mg base (clsOf K "Stairs") "order" 4 ZaS (Ziw K):=⟨_,_,ZeS F56 T M_Steps_store M_Room_shelf,⟨a56,i56,k56⟩,b1056⟩
  have D_due:Def l.prog w K mg base "_law_due" 1 P_due (spDuE K):=⟨_,_,ZoK F57 T ,W.mg_of X G a57,F57.kp,b1057⟩
  have D_right:Def l.prog w K mg base "_law_right" 16 ZeD (Zix K):=⟨_,_,Zmx F58 T D_take D_plan D_some_boards D_many K_Stairs K_Room D_run_row M_Stairs_read D_due D_same M_Room_has M_Room_use M_Room_bring D_misses M_Steps_lies M_Room_boards M_Stairs_order M_Room_shelf,W.mg_of X G a58,F58.kp,b1058⟩
  exact ZoL F59 T D_box D_folded D_right
theorem walk {l:W.OpenLaw} {q:Program} {loose:List Str} {XP:(Str->Option Value)->Heap->Prop} {YP:World->Heap->Prop} {d:DefRec} {K:Params->W.Frag} {tp:Addr} (hn:l.most=some 63) (hdf:d.params.defaults=[])
    (hY:∀ (w:World) (h:Heap),YP w h->(K w.params).In h/\h.get? tp=some { cls:=.none,data:=.fields #[] })
    (F:∀ (w:World) (mg:Str->Option Value) (fa:Addr) (h:Heap),(K w.params).In h->h.Ns mainGlobals mg->mg d.name=some (.ref fa) ->
      tabOf (K w.params) "Room" "going" = tp/\(∃ c0,W.codeHdIn (K w.params) c0 tp=true)/\(K w.params).lookup tp=none/\∃ fd:FuncData,(∀ (s:Shared) (u:Value),BindsTo s fd ⟨[u],[]⟩ [("_law_script",u)])/\∀ base:Heap,(K w.params).In base->base.Ns mainGlobals mg->BMod base mg->FnOk l.prog w (K w.params) mg base CX0 17 fa fd P_law (spLaw (K w.params))) :
    W.WalkO q loose XP YP l.row.toRowW d [] (λf vs=>PySem.call f vs) :=
  L2.Zmd (tp:=tp) (pos:=tpos) (qual:=tqual) (G:=λw=>tabOf (K w.params) "Room" "going" = tp) (n:=63) (k:=17) (x := "_law_script") (CX:=λ_=>CX0) (sp:=λw=>spLaw (K w.params)) hn (by decide) hdf ⟨rfl,by decide,by decide,rfl⟩ hY F (λ_ _ a ns g hl hT hS=>⟨a,ns,rfl,hS,hl,(by unfold Tb; rw [g]; exact hT),λ_=>rfl⟩) λ_ _ _ _ _ z=>z
end Mine
namespace PySem.W.Fast
def tw10012011153322224465:=0
def tw10019517950802507198:=0
def tw1002367800494639682:=0
def tw1004829439533411433:=0
def tw10056724746275974755:=0
def tw10065926027874806916:=0
def tw1008906332224068021:=0
def tw10106413867922932977:=0
def tw10132296570854542448:=0
def tw10138196247218193573:=0
def tw10145196398248308533:=0
def tw10173121443378227589:=0
def tw10176431948725415169:=0
def tw10187410697490536844:=0
def tw10189304255773124962:=0
def tw10190082028205625871:=0
def tw10192944786353386661:=0
def tw10218727137097500525:=0
def tw10276259147042604385:=0
def tw10302716747850581988:=0
def tw10303846073570443097:=0
def tw10323272030852771671:=0
def tw10332702882953614862:=0
def tw10340836420298883286:=0
def tw10342819529446433781:=0
def tw10343335230044559635:=0
def tw1036035588942764393:=0
def tw1047661695483349120:=0
def tw10518957960973698500:=0
def tw10552913274245120055:=0
def tw1059090864780720213:=0
def tw10621776511732130338:=0
def tw106604010093712912:=0
def tw10706523670773303154:=0
def tw10708353788639788726:=0
def tw10720265259943666158:=0
def tw10727053693186477679:=0
def tw10731969538954666149:=0
def tw10747232938225760717:=0
def tw10747501945136601714:=0
def tw10747518991651076599:=0
def tw1075642538955891410:=0
def tw10758477161380767123:=0
def tw10760787811415104639:=0
def tw10768784021830776960:=0
def tw10792122687970600568:=0
def tw10802056180990835794:=0
def tw10827453571910276183:=0
def tw10881568537434747953:=0
def tw10953999772596508359:=0
def tw10961930766331549509:=0
def tw10980213094269130361:=0
def tw10986965468517043930:=0
def tw11001548894866594474:=0
def tw11001940620875359902:=0
def tw11016033054404598199:=0
def tw11030272544603834664:=0
def tw11059638860413951738:=0
def tw11060500242458537969:=0
def tw11072340375601952667:=0
def tw11077196701481189409:=0
def tw1107753822507333055:=0
def tw11083736305512237671:=0
def tw11089836759395573001:=0
def tw11149566749294159790:=0
def tw11159877987125703895:=0
def tw1117455510561843705:=0
def tw11186105515454770838:=0
def tw11208997620604168386:=0
def tw11222375219796014800:=0
def tw11265993366026944678:=0
def tw1129318537216357939:=0
def tw11298632056742350610:=0
def tw11302321090764253013:=0
def tw11379415044840886343:=0
def tw1138288603001300595:=0
def tw11393554131065285496:=0
def tw11415121743314017517:=0
def tw11425115588505681590:=0
def tw1143019475657023504:=0
def tw11446359627369500220:=0
def tw11497396913435083578:=0
def tw11541130971265794165:=0
def tw11644240747634824848:=0
def tw11652333505118719907:=0
def tw1168539529743764108:=0
def tw11685566995516912677:=0
def tw11720209774818957710:=0
def tw11747241237453306005:=0
def tw11752169141332120196:=0
def tw1176779295457002358:=0
def tw1176863043202711992:=0
def tw11771370405982018994:=0
def tw1177818933986910947:=0
def tw11901260502883508968:=0
def tw11911068526819781753:=0
def tw11920416313020927747:=0
def tw119496942219571724:=0
def tw11952290056108045024:=0
def tw11959249234087450878:=0
def tw1196427442107507094:=0
def tw12005858792637886935:=0
def tw12007018656878893495:=0
def tw12012302457873678208:=0
def tw12029435520919656867:=0
def tw12046619054660415221:=0
def tw12086525009686137488:=0
def tw12130024101089381156:=0
def tw12142804473576744967:=0
def tw1217703811166643165:=0
def tw12185313946249132220:=0
def tw12198059625943552081:=0
def tw12203377616345134838:=0
def tw12211682190529269757:=0
def tw12216502259534257995:=0
def tw12228240586859863925:=0
def tw12230830918860243935:=0
def tw12267666677868588256:=0
def tw12280499078941988486:=0
def tw12298716210064935703:=0
def tw12314541484334780176:=0
def tw12340023054950668642:=0
def tw1239720686355284894:=0
def tw12417789297181359582:=0
def tw1247415294994378433:=0
def tw12485951923124014744:=0
def tw12488682410884911325:=0
def tw12571463798271610369:=0
def tw12573155192148289389:=0
def tw12581853906248830047:=0
def tw1258186108337817063:=0
def tw12608802570056698229:=0
def tw12621779780785710696:=0
def tw12641511713558333246:=0
def tw12670667432227425029:=0
def tw12671961989051857434:=0
def tw12684778641777507790:=0
def tw12725658555549764085:=0
def tw12764503194430038105:=0
def tw12801568431716908562:=0
def tw12813924692656740264:=0
def tw12848884473195790904:=0
def tw12860905757805949397:=0
def tw12863436165015602824:=0
def tw12884805621654749368:=0
def tw12890929794624573260:=0
def tw12913090344514813575:=0
def tw12927946671769958632:=0
def tw12940803891103150775:=0
def tw12948497573684332080:=0
def tw12965477509999375858:=0
def tw1305007732830424609:=0
def tw13085486313209477567:=0
def tw13116207128034508387:=0
def tw13125745273288876369:=0
def tw13136677883332883777:=0
def tw13141574097733796761:=0
def tw1314271162251723649:=0
def tw13144439067626327919:=0
def tw1315084369369503036:=0
def tw13150952514448070022:=0
def tw13159402099432406024:=0
def tw13181493118085251375:=0
def tw13214382716489777703:=0
def tw13214505321594952040:=0
def tw13226018205753060679:=0
def tw13235754867836704771:=0
def tw13240365301401179954:=0
def tw13243087829689597443:=0
def tw13258692264671035696:=0
def tw13335661439584109071:=0
def tw13366262516981010942:=0
def tw13374931582382093717:=0
def tw13394770540522317427:=0
def tw13421104015797001776:=0
def tw1342860123477777481:=0
def tw13430485912741164900:=0
def tw13443561710340410398:=0
def tw13453803464384591892:=0
def tw13484239059368502061:=0
def tw13500042491046812196:=0
def tw13509753792108620355:=0
def tw13541355951584794180:=0
def tw13584960273747029982:=0
def tw135889919818266184:=0
def tw1359374024406375920:=0
def tw13605907945667489810:=0
def tw13622824119725585445:=0
def tw13635252937640720415:=0
def tw13656070671120885850:=0
def tw13673995884046050290:=0
def tw13708839471253670640:=0
def tw13714921032252696458:=0
def tw13764949365325904069:=0
def tw13787057136225011510:=0
def tw13795984212435855137:=0
def tw13797072034816550105:=0
def tw13800427335420590215:=0
def tw13824593555345372094:=0
def tw13826043607869315468:=0
def tw13826132682067097379:=0
def tw13827777672030099735:=0
def tw13890821365470129183:=0
def tw13918354070336490610:=0
def tw13919699174815504434:=0
def tw13926837009886496451:=0
def tw13942966885074855077:=0
def tw13958267037380494827:=0
def tw13976154369065525028:=0
def tw14005445883034363679:=0
def tw14012384687393045330:=0
def tw14017656102884425817:=0
def tw14053480194736781678:=0
def tw14073555583204016607:=0
def tw14088833063164841885:=0
def tw14132118433456121177:=0
def tw14156320607481805061:=0
def tw14157803440479980903:=0
def tw14177086446563490973:=0
def tw14194049167924477638:=0
def tw14201174132781084803:=0
def tw14226638301571453627:=0
def tw1423836351244236970:=0
def tw14243675154090622223:=0
def tw14248132295925115665:=0
def tw1426824088994689610:=0
def tw14293967082286302280:=0
def tw14331219535181099732:=0
def tw14335773238475929687:=0
def tw14370597910112657337:=0
def tw14376400474240428031:=0
def tw14475255075120612499:=0
def tw14501226161468084086:=0
def tw14529184877661094246:=0
def tw14574815858135930835:=0
def tw14592660312805859284:=0
def tw14597821349359659382:=0
def tw1460303210553950239:=0
def tw14603770361220269256:=0
def tw1463667179533075965:=0
def tw14672177154680733566:=0
def tw14782046241943327185:=0
def tw14793004960823320603:=0
def tw14795840017244868631:=0
def tw14799055975259453468:=0
def tw14849034100330183489:=0
def tw14875032917302696661:=0
def tw14888213976712054922:=0
def tw14901519254675181006:=0
def tw14903825427997135707:=0
def tw14931274956330035128:=0
def tw14944045538850451736:=0
def tw14953597678131167781:=0
def tw14964535738833106096:=0
def tw14977878557816338821:=0
def tw14980593844283611446:=0
def tw14997015524738276921:=0
def tw15022249776313040425:=0
def tw15040956403391833797:=0
def tw1507747945625680272:=0
def tw15117536141499539895:=0
def tw15189150861296923839:=0
def tw15232162073590810906:=0
def tw15258364417983746430:=0
def tw15273252562625656649:=0
def tw15349776532438835576:=0
def tw15350152632402649991:=0
def tw15370850445848418869:=0
def tw15385511901284627053:=0
def tw15421327110518825626:=0
def tw1544281849027372688:=0
def tw15459449205789407216:=0
def tw15474058540360640702:=0
def tw15500281895168446400:=0
def tw15521574264680588974:=0
def tw15571498692717289385:=0
def tw15575217427593520965:=0
def tw15577187383687991568:=0
def tw15610325436402824376:=0
def tw15649421049911055705:=0
def tw15669407313784441995:=0
def tw15674470293023842288:=0
def tw15700139956042878672:=0
def tw15706083311478667142:=0
def tw15747280638454357733:=0
def tw15764645471004209786:=0
def tw15895694311989663861:=0
def tw15901674859427423350:=0
def tw15913357546159086585:=0
def tw15924667916177175906:=0
def tw15928217849543268455:=0
def tw15943336382400803964:=0
def tw15954272288624403957:=0
def tw1595979874725919864:=0
def tw15960932520349974060:=0
def tw15980228120368847096:=0
def tw15992421880458660606:=0
def tw16030823546885033499:=0
def tw16091158688376180007:=0
def tw16095990888351275792:=0
def tw16096963736864662115:=0
def tw16126127796722700965:=0
def tw16140441844776577367:=0
def tw16171908976805275719:=0
def tw16226540507265127536:=0
def tw1625909572254763178:=0
def tw16281698153950587717:=0
def tw16294856777015679464:=0
def tw16320058579877824453:=0
def tw163273270242636284:=0
def tw16340156517841346546:=0
def tw16346197242792132371:=0
def tw16387970329759164155:=0
def tw16395575332886292385:=0
def tw16397206791310805542:=0
def tw16410075198879863917:=0
def tw16418543898530130560:=0
def tw16440184673224164653:=0
def tw16440253012291384201:=0
def tw16444499274603181634:=0
def tw16451422425774340464:=0
def tw16454972911322339031:=0
def tw16459634129146278783:=0
def tw16466129022025435615:=0
def tw16512726591718420565:=0
def tw16519670813739111323:=0
def tw16535837434499588284:=0
def tw16554434471774049766:=0
def tw1659134345991029656:=0
def tw16629316559930207643:=0
def tw16658033096358712425:=0
def tw16659088293531428786:=0
def tw16659359745546163546:=0
def tw1667238594846108659:=0
def tw16687341950463943963:=0
def tw16690059514300337295:=0
def tw16696464963009608218:=0
def tw16698603808472392660:=0
def tw16704155383872402762:=0
def tw16709930042699930036:=0
def tw16728258567623859454:=0
def tw16732574567728267257:=0
def tw16768638127261733685:=0
def tw16787246212302072225:=0
def tw16806630567821131436:=0
def tw16812909167002852368:=0
def tw16840178540806958945:=0
def tw16856808334884685275:=0
def tw16864897382369390385:=0
def tw16914261602417541850:=0
def tw16922176828841718918:=0
def tw16964759794231667422:=0
def tw16966118859650057258:=0
def tw17004541987868713201:=0
def tw17014250252555380265:=0
def tw17032608497846635391:=0
def tw17044762106815049883:=0
def tw17050208873781842821:=0
def tw17108987448914858253:=0
def tw17128161760052277573:=0
def tw17143651362779808400:=0
def tw17147962502597761758:=0
def tw17160011309876400949:=0
def tw17176480571418053530:=0
def tw17179396029748125104:=0
def tw17184914110764450426:=0
def tw17186192078564440915:=0
def tw17190860864242784915:=0
def tw17195795634129574962:=0
def tw17217656183103983043:=0
def tw17219037407054444945:=0
def tw17227454477820872941:=0
def tw17240354147701431496:=0
def tw17260052379768498624:=0
def tw17260443546463394366:=0
def tw17265928570213828101:=0
def tw17288528136378212736:=0
def tw17300445357290810286:=0
def tw17317272053387256566:=0
def tw17348836089474421227:=0
def tw17377038160270212151:=0
def tw17383896919623506077:=0
def tw17403351399988756171:=0
def tw17409628038392740349:=0
def tw17436821850589000015:=0
def tw17452772276214474221:=0
def tw17466994931575265234:=0
def tw17551760358387284799:=0
def tw17655713475675445384:=0
def tw17722078848029504959:=0
def tw1776669395463274148:=0
def tw17776788421313106278:=0
def tw17782074963791628529:=0
def tw17784032640526106171:=0
def tw17823016574436649951:=0
def tw17830347091668114933:=0
def tw17831058445965093186:=0
def tw17859778435925941866:=0
def tw17916235899399573148:=0
def tw17931398949443813019:=0
def tw17959246048567619982:=0
def tw17984068352945369290:=0
def tw17985526885887838109:=0
def tw17986868367551595480:=0
def tw18004453418452614911:=0
def tw18024434192141387241:=0
def tw18086359914189278817:=0
def tw18092607906538830457:=0
def tw18105988188796890534:=0
def tw18121953449700720346:=0
def tw18170217162821678947:=0
def tw18211798248440259564:=0
def tw1821906586592430306:=0
def tw18229693606654861296:=0
def tw18237632105585438615:=0
def tw18249262967456256303:=0
def tw1824961617634458644:=0
def tw18266329966747660119:=0
def tw18268276070792810064:=0
def tw18279646328067358137:=0
def tw1828190587805013912:=0
def tw18290790971171928595:=0
def tw18307193458238845058:=0
def tw1833379414467025756:=0
def tw18340520554735604834:=0
def tw18342815561127295050:=0
def tw1836081877318472807:=0
def tw1837924135861462911:=0
def tw18385547487282842921:=0
def tw18393028827567527570:=0
def tw18416470026316806267:=0
def tw18436926846681296636:=0
def tw1888543865234757729:=0
def tw1900242382194397987:=0
def tw1917834676357305748:=0
def tw1918227090766096787:=0
def tw1920490636908377413:=0
def tw1942340118817101239:=0
def tw1956615219747168683:=0
def tw1959716266142775631:=0
def tw1980250965455805155:=0
def tw1990433169384727817:=0
def tw2087818029186806779:=0
def tw2105508232546131243:=0
def tw2111219092772323429:=0
def tw2115433839300605677:=0
def tw2140884731135586021:=0
def tw2157214631517715015:=0
def tw2158720470498452320:=0
def tw217186524386029440:=0
def tw2175079798182571121:=0
def tw2224501363034696050:=0
def tw2233562464311239475:=0
def tw2246733819338881068:=0
def tw2271341750801880032:=0
def tw2318802900533412343:=0
def tw2325840104173740792:=0
def tw2342805563648655804:=0
def tw2351887308645909704:=0
def tw236257359945550585:=0
def tw2372497966344533926:=0
def tw2374799693701131446:=0
def tw2394544296842096322:=0
def tw2396634344658017614:=0
def tw2447958370013501582:=0
def tw2484399318079928128:=0
def tw2497158178420505476:=0
def tw251469857713123618:=0
def tw2526029629190828257:=0
def tw2538796584687495043:=0
def tw2576583340415390523:=0
def tw2587366127022369513:=0
def tw2595026724770096678:=0
def tw2599428343751267195:=0
def tw2603978704285812549:=0
def tw26170271131510891:=0
def tw2617916394392455077:=0
def tw2618276843011732518:=0
def tw2625507024954535311:=0
def tw2705774504961407080:=0
def tw2710231731179325471:=0
def tw2729820240531899611:=0
def tw2752103535260276401:=0
def tw2762219788053345170:=0
def tw2794744336834083939:=0
def tw2796656966740108037:=0
def tw2804185984236801424:=0
def tw2822068246783386830:=0
def tw2827449946735780249:=0
def tw2827942633699858169:=0
def tw2832635570915144609:=0
def tw2843120897912461454:=0
def tw285694093293318398:=0
def tw2867718205986080113:=0
def tw2888021342508828078:=0
def tw291713427252615669:=0
def tw2939249255310151876:=0
def tw2965735150502936378:=0
def tw2969944968445925736:=0
def tw2988313159191431070:=0
def tw3034550377030703078:=0
def tw3063797535004778744:=0
def tw3075532261424398847:=0
def tw3078292740744436456:=0
def tw3104699070694169789:=0
def tw3104979213490130720:=0
def tw3129004619199857154:=0
def tw3136344903114554028:=0
def tw3145434694949873591:=0
def tw3190717753207298940:=0
def tw3218177187462397710:=0
def tw3231938870820755660:=0
def tw3242046483196245523:=0
def tw3258136893862119709:=0
def tw3264718261535047530:=0
def tw3277806194958251630:=0
def tw3288880885890769639:=0
def tw3291296672784609094:=0
def tw3294115774691574480:=0
def tw3297179935538001259:=0
def tw3355647809856430117:=0
def tw3388268568260569068:=0
def tw3391037973781586224:=0
def tw3394302631971132723:=0
def tw3407743138186090684:=0
def tw3423807071258567258:=0
def tw3442794881823886705:=0
def tw3472342319175188417:=0
def tw3478453913498760786:=0
def tw3483563736360808546:=0
def tw3514503679011851957:=0
def tw3516505773841128846:=0
def tw3525729860098904539:=0
def tw3539417528956810860:=0
def tw3540108333163871959:=0
def tw3550047469295756005:=0
def tw3576945014913848617:=0
def tw3621181302559648647:=0
def tw3647924568315625031:=0
def tw3660383416742669397:=0
def tw3667537212924470189:=0
def tw3721207449892659847:=0
def tw3758198307259599014:=0
def tw3776395984421373209:=0
def tw3779713188050312633:=0
def tw3810911766542002646:=0
def tw3828757708281440254:=0
def tw3847520023312331160:=0
def tw3877696453989235184:=0
def tw3915627437329375952:=0
def tw3953140483456778564:=0
def tw3991946435489428183:=0
def tw4050185420226341825:=0
def tw4104516018325194916:=0
def tw4127649396670615310:=0
def tw4136724602507455974:=0
def tw4176352144514787932:=0
def tw4209804559238715726:=0
def tw4265050302911016768:=0
def tw4266772996296568094:=0
def tw4269112150796221767:=0
def tw4280484095275272756:=0
def tw4298536405491470671:=0
def tw4304035013391774888:=0
def tw4338010785261494635:=0
def tw4350811312170585998:=0
def tw4387758394574226377:=0
def tw4406280668124127902:=0
def tw4460226009083249802:=0
def tw4464897806332324842:=0
def tw4469736536354210611:=0
def tw4490638164969070624:=0
def tw4497348080380298108:=0
def tw4513647627285415667:=0
def tw4568612798226907187:=0
def tw4580763347900212365:=0
def tw4609703770404379892:=0
def tw4615225996053200549:=0
def tw4628052822707357783:=0
def tw465185287004375172:=0
def tw4710876505610611902:=0
def tw4717348377383814592:=0
def tw4731949859475007964:=0
def tw4732390239972016649:=0
def tw4732556066780152208:=0
def tw4753745646063180767:=0
def tw4778918925077358152:=0
def tw4792928528329275382:=0
def tw4814069186759929829:=0
def tw4830636982883586059:=0
def tw4843440697975689216:=0
def tw484538119608295153:=0
def tw4869839266581247996:=0
def tw488934083634423470:=0
def tw4893234803190887292:=0
def tw4905220690575291903:=0
def tw4908972950511864024:=0
def tw4921871758451423775:=0
def tw4928350118925902373:=0
def tw4931315284774877082:=0
def tw4932597645175927287:=0
def tw4945141625719052176:=0
def tw4953212859516186802:=0
def tw4973448602620606795:=0
def tw5020362150781441161:=0
def tw5066234896370664302:=0
def tw5075147133816316912:=0
def tw5082008298940464351:=0
def tw5125159750911547507:=0
def tw5210166762483328553:=0
def tw5235321306697835795:=0
def tw523984621606308257:=0
def tw5251344997734465010:=0
def tw5283993759641542746:=0
def tw5284123968399008126:=0
def tw5305974302478747079:=0
def tw530887399782569740:=0
def tw5352665388287910412:=0
def tw5363594820946501385:=0
def tw5368040161327772329:=0
def tw5375437146797065048:=0
def tw5381560951133009603:=0
def tw5389122969971800641:=0
def tw5418346025393247867:=0
def tw5438421336845730164:=0
def tw5449949227175693153:=0
def tw5451207114336173325:=0
def tw5501963795417450004:=0
def tw55042433478549269:=0
def tw5553330282970481756:=0
def tw5628721152118471034:=0
def tw5629046462162948019:=0
def tw5640778949298486081:=0
def tw5687860747949664455:=0
def tw5711248629241770706:=0
def tw5726584379185877368:=0
def tw5739322544488446185:=0
def tw5756526971479204413:=0
def tw5761475990809280590:=0
def tw5865503858435292263:=0
def tw5876121593082363993:=0
def tw5891734627921226855:=0
def tw5915768162957523364:=0
def tw5925049915258614165:=0
def tw6025961614998939629:=0
def tw6052974692946275492:=0
def tw6055303646912125742:=0
def tw6061621031731998220:=0
def tw6070661283125861998:=0
def tw611372340141507891:=0
def tw6133865417493060973:=0
def tw6149899002476712471:=0
def tw616449542904638590:=0
def tw6168999310231881125:=0
def tw6200812670758694787:=0
def tw6201616723767818412:=0
def tw620669037859166657:=0
def tw6236964615602829630:=0
def tw6258872019209941569:=0
def tw6298198596613479650:=0
def tw6322609815361742010:=0
def tw6333533683172157119:=0
def tw6349059273898841189:=0
def tw6355190642445169812:=0
def tw638370568126148709:=0
def tw6419561628394419625:=0
def tw6421487114813728163:=0
def tw6427701073682051695:=0
def tw6432647835742654173:=0
def tw6438728640866286663:=0
def tw6478515547219412621:=0
def tw648102973841528752:=0
def tw6519361985856491377:=0
def tw6529523068955429644:=0
def tw6559826484950047426:=0
def tw6593306325434025427:=0
def tw6605796353983133687:=0
def tw6616831257047259402:=0
def tw6625140978031291164:=0
def tw6689694904767359087:=0
def tw6699388474022174612:=0
def tw6749639261590742203:=0
def tw6759577491122478723:=0
def tw6770504834920421050:=0
def tw6821838856515525847:=0
def tw6971874124533539007:=0
def tw6976555175050928844:=0
def tw7019464167160049626:=0
def tw7020109836151522669:=0
def tw7020253687095085392:=0
def tw7056612172592075461:=0
def tw7076896812996231151:=0
def tw7089468696130740646:=0
def tw7092673338215446420:=0
def tw7093858646514766048:=0
def tw7120324318361112595:=0
def tw7120994151482299117:=0
def tw7128358344320203288:=0
def tw7148726040995327887:=0
def tw7156908345292187388:=0
def tw7167573053140294331:=0
def tw7178687048379035325:=0
def tw7198994540575542628:=0
def tw7216557127143734458:=0
def tw7229335382740167181:=0
def tw7266329247296547797:=0
def tw7282802302736680025:=0
def tw7315766827331834634:=0
def tw7324192033051552718:=0
def tw735329431108206706:=0
def tw735472276243767843:=0
def tw7393327118738895918:=0
def tw740348608803612932:=0
def tw7419713599849690283:=0
def tw7420566667508628168:=0
def tw746112735734510420:=0
def tw7474015528001135556:=0
def tw7474211234865230180:=0
def tw7504693890388443444:=0
def tw7507980285027576075:=0
def tw7517345743664699837:=0
def tw7541025838134881255:=0
def tw755533572161085286:=0
def tw7567839945397913178:=0
def tw7589420426144713965:=0
def tw7590495521665555532:=0
def tw7602938997791649420:=0
def tw7623110834608034729:=0
def tw7640174570182299925:=0
def tw7643333108647973196:=0
def tw7662242549331072529:=0
def tw7668564766302732987:=0
def tw7677805172494112761:=0
def tw7722392741271199908:=0
def tw7740790613101664448:=0
def tw7756421571210120361:=0
def tw778770857874509826:=0
def tw7799728873360505624:=0
def tw7808354835277784278:=0
def tw7825177288797069389:=0
def tw782834795992621363:=0
def tw7835714078509382105:=0
def tw7884876137986275205:=0
def tw789633885310698919:=0
def tw7901358844230184720:=0
def tw7914324299938709523:=0
def tw7915273440523209896:=0
def tw7962265003921141337:=0
def tw8004040478163259352:=0
def tw810303787978808442:=0
def tw8131769816956367833:=0
def tw8136438861324221531:=0
def tw8139828206482795234:=0
def tw8154062167699347597:=0
def tw8182908436814141017:=0
def tw8200536964675595036:=0
def tw8239950257373927613:=0
def tw8280181778851003338:=0
def tw8299379277509610342:=0
def tw8301081935127468743:=0
def tw8310240679470815072:=0
def tw8331489025851461631:=0
def tw8341378321280418549:=0
def tw8344627480572981407:=0
def tw8355227448894634211:=0
def tw8369474597066266958:=0
def tw8386058927466438389:=0
def tw8386109633318296401:=0
def tw8401088110676021398:=0
def tw8421273244949883368:=0
def tw8435695460134904762:=0
def tw8444489773000596240:=0
def tw84669239238488292:=0
def tw8485441849407336000:=0
def tw8497175609235105021:=0
def tw85090812993128768:=0
def tw8513854750479298422:=0
def tw8525588001694314396:=0
def tw855388834989262930:=0
def tw8557216487536137585:=0
def tw8575521817761194148:=0
def tw8577552554384899745:=0
def tw8581880072189272038:=0
def tw8668633415547059965:=0
def tw8792562768114941500:=0
def tw8794169633369978955:=0
def tw8816594365014046860:=0
def tw8828825600105054190:=0
def tw883363464116783726:=0
def tw8876766213934897064:=0
def tw8928277367182534680:=0
def tw8933119650068480585:=0
def tw8939885811550938992:=0
def tw8944989427000796711:=0
def tw8948839357148719827:=0
def tw8965979301351073521:=0
def tw898751282104318422:=0
def tw8993912061227700811:=0
def tw9015602566533238756:=0
def tw9053705823529459645:=0
def tw9075644751670077680:=0
def tw9086337621767469968:=0
def tw909060312283809723:=0
def tw9097590686393973845:=0
def tw9112094548136175461:=0
def tw9143644183918242163:=0
def tw914767354072329754:=0
def tw9175895025802349107:=0
def tw9214893075212231060:=0
def tw9217734190157447931:=0
def tw9249211069799566727:=0
def tw9274601432118505540:=0
def tw9292077382326802314:=0
def tw934880903940577805:=0
def tw9360575942676191186:=0
def tw9389251447743569416:=0
def tw9389632932414970711:=0
def tw9407568207340758632:=0
def tw9424280468955884768:=0
def tw9425012754364636836:=0
def tw9427782972673529894:=0
def tw9439112442562355420:=0
def tw9440950195781552097:=0
def tw9442243087240040228:=0
def tw9449134785310508000:=0
def tw9454262042675430153:=0
def tw9465468200091793384:=0
def tw9469808718260521358:=0
def tw9470513325365973902:=0
def tw948870817258268995:=0
def tw9509053173967201355:=0
def tw9514554926635755250:=0
def tw952917872596574219:=0
def tw9536367033114450721:=0
def tw9554636683210413254:=0
def tw9568370479881535850:=0
def tw9569959520732759441:=0
def tw9639347626722596566:=0
def tw9648993487968947462:=0
def tw9674408127196814364:=0
def tw9730965500863307030:=0
def tw9737156200996372824:=0
def tw9740702582781494468:=0
def tw9759108752815372258:=0
def tw9785522229106183095:=0
def tw9795556529994210879:=0
def tw9822573018480224702:=0
def tw9837114996672597426:=0
def tw9845983892023098449:=0
def tw9847837098121136568:=0
def tw9849283764143752345:=0
def tw9891596331019991072:=0
def tw9930276755640125434:=0
def tw9937642906353147458:=0
def tw9982128166839314102:=0
def tw9989656117949287344:=0
end PySem.W.Fast
open PySem PySem.W PyProof.Rows
set_option maxRecDepth 100000 in
set_option maxHeartbeats 0 in
theorem PySem.Challenge.cw_nearstairs_k27_one_room_alone_holds : PySem.Challenge.rw_nearstairs_k27_one_room_alone.Holds := by
  w_on; o_law; k_head; (case hw=>w_witness2)
  k_fill
  refine Mine.walk (l:=PySem.Challenge.rw_nearstairs_k27_one_room_alone) rfl rfl (λw h Y=>⟨PySem.W.km_in_of Y,PySem.W.km_tabs_of Y _ mem_cons_self⟩) ?F
  case F =>
    intro w mg fa h KX G hmg
    refine' Mine.ZoM KX G hmg ?_ ?_ ?_ ?_ ?_ ?_ ?_ ?_ ?_ ?_ ?_ ?_ ?_ ?_ ?_ ?_ ?_ ?_ ?_ ?_ ?_ ?_ ?_ ?_ ?_ ?_ ?_ ?_ ?_ ?_ ?_ ?_ ?_ ?_ ?_ ?_ ?_ ?_ ?_ ?_ ?_ ?_ ?_ ?_ ?_ ?_ ?_ ?_ ?_ ?_ ?_ ?_ ?_ ?_ ?_ ?_ ?_ ?_ ?_ ?_ ?_ ?_ ?_ ?_ ?_ ?_ ?_ ?_ ?_ ?_ ?_ ?_ ?_ ?_ ?_ ?_ ?_ ?_ ?_ ?_ ?_ ?_ ?_ ?_ ?_ ?_ ?_ ?_ ?_ ?_ ?_ ?_ ?_ ?_ ?_ ?_ ?_ ?_ ?_ ?_ ?_ ?_ ?_ ?_ ?_ ?_ ?_ ?_ ?_ ?_ ?_ ?_ ?_ ?_ ?_ ?_ ?_ ?_ ?_ ?_ ?_ ?_ ?_ ?_ ?_ ?_ ?_ ?_ ?_ ?_ ?_ ?_ ?_ ?_ ?_ ?_ ?_ ?_ ?_ ?_ ?_ ?_ ?_ ?_ ?_ ?_ ?_ ?_ ?_ ?_ ?_ ?_ ?_ ?_ ?_ ?_ ?_ ?_ ?_ ?_ ?_ ?_ ?_ ?_ ?_ ?_ ?_ ?_ ?_ ?_ ?_ ?_ ?_ ?_ ?_ ?_ ?_ ?_ ?_ ?_ ?_ ?_ ?_ ?_ ?_ ?_ ?_ ?_ ?_ ?_ ?_ ?_ ?_ ?_ ?_ ?_ ?_ ?_ ?_ ?_ ?_ ?_ ?_ ?_ ?_ ?_ ?_ ?_ ?_ ?_ ?_ ?_ ?_ ?_ ?_ ?_ ?_ ?_ ?_ ?_ ?_ ?_ ?_ ?_ ?_ ?_ ?_ ?_ ?_ ?_ ?_ ?_ ?_ ?_ ?_ ?_ ?_ ?_ ?_ ?_ ?_ ?_ ?_ ?_ ?_ ?_ ?_ ?_ ?_ ?_ ?_ ?_ ?_ ?_ ?_ ?_ ?_ ?_ ?_ ?_ ?_ ?_ ?_ ?_ ?_ ?_ ?_ ?_ ?_ ?_ ?_ ?_ ?_ ?_ ?_ ?_ ?_ ?_ ?_ ?_ ?_ ?_ ?_ ?_ ?_ ?_ ?_ ?_ ?_ ?_ ?_ ?_ ?_ ?_ ?_ ?_ ?_ ?_ ?_ ?_ ?_ ?_ ?_ ?_ ?_ ?_ ?_ ?_ ?_ ?_ ?_ ?_ ?_ ?_ ?_ ?_ ?_ ?_ ?_ ?_ ?_ ?_ ?_ ?_ ?_ ?_ ?_ ?_ ?_ ?_ ?_ ?_ ?_ ?_ ?_ ?_ ?_ ?_ ?_ ?_ ?_ ?_ ?_ ?_ ?_ ?_ ?_ ?_ ?_
    all_goals try k_is
    all_goals kernel_rfl
