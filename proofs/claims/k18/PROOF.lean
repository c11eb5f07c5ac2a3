import PyProof.Rows.All
import Wide.All
import OpenK.AllK
import Wide.FinOn
import Lean
import PyProof.EqAt
import PyProof.EqKinds
import PyProof.TupleCall
import KE.KDictSum
import KE.KTryDeep
import KE.KTryMore
import PyProof.NsDelKeeps
import PyProof.FString
import PyProof.Rows.SetFrom
import PyProof.DictValues
import KE.KDictList
import PyProof.DictItems
import KE.KPairComp
import PyProof.Rows.TupDisplay
import PySem.Challenge.RW_nearstairs_k18_no_order_misses_less
set_option Elab.async false
set_option linter.all false
set_option maxRecDepth 100000
namespace L2
open PySem PySem.Spec PyProof.Rows
abbrev Key:=Sum Int Str
def keyIs:Key→Value→Bool
  | .inl k,v=>Value.isInt k v
  | .inr x,v=>Value.isStrOf x v
def keyH (w:World):Key→Int
  | .inl k=>hashInt k
  | .inr x=>hashStr w x
theorem keyIs_shape:∀ {k:Key} {v:Value},keyIs k v=true→(∃ i t,k=Sum.inl i∧v=Value.int i t)∨(∃ x t,k=Sum.inr x∧v=Value.str x t)
  | .inl i,v,h=>by
    obtain ⟨t,e⟩:=Value.isInt_shape (k:=i) (v:=v) h
    exact .inl ⟨i,t,rfl,e⟩
  | .inr x,v,h=>by
    obtain ⟨t,e⟩:=Value.isStrOf_shape (x:=x) (v:=v) h
    exact .inr ⟨x,t,rfl,e⟩
theorem keyIs_int (i:Int) (t:Tok):keyIs (.inl i) (.int i t)=true:=by simp [keyIs,Value.isInt]
theorem keyIs_str (x:Str) (t:Tok):keyIs (.inr x) (.str x t)=true:=by simp [keyIs,Value.isStrOf]
theorem key_ll (a b:Int):decide ((Sum.inl a:Key)=Sum.inl b)=(a == b):=by
  by_cases e:a=b
  · subst e; simp
  · have h:¬ (Sum.inl a:Key)=Sum.inl b:=fun q=>e (Sum.inl.inj q)
    rw [decide_eq_false h]
    exact (beq_eq_false_iff_ne.mpr e).symm
theorem key_rr (a b:Str):decide ((Sum.inr a:Key)=Sum.inr b)=decide (a=b):=by
  by_cases e:a=b
  · subst e; simp
  · have h:¬ (Sum.inr a:Key)=Sum.inr b:=fun q=>e (Sum.inr.inj q)
    rw [decide_eq_false h,decide_eq_false e]
theorem key_lr (a:Int) (b:Str):decide ((Sum.inl a:Key)=Sum.inr b)=false:=decide_eq_false (fun q=>nomatch q)
theorem key_rl (a:Str) (b:Int):decide ((Sum.inr a:Key)=Sum.inl b)=false:=decide_eq_false (fun q=>nomatch q)
def mixKind (prog:Program) (w:World):PySem.KeyKind prog w Key where
  is:=keyIs
  hash:=keyH w
  inj:=fun v a b ha hb=>by
    rcases keyIs_shape ha with ⟨i,t,rfl,rfl⟩ | ⟨x,t,rfl,rfl⟩
    · rcases keyIs_shape hb with ⟨j,u,rfl,e⟩ | ⟨y,u,rfl,e⟩
      · injection e with e1 _; rw [e1]
      · exact nomatch e
    · rcases keyIs_shape hb with ⟨j,u,rfl,e⟩ | ⟨y,u,rfl,e⟩
      · exact nomatch e
      · injection e with e1 _; rw [e1]
  byValue:=fun k v h=>by
    rcases keyIs_shape h with ⟨i,t,rfl,rfl⟩ | ⟨x,t,rfl,rfl⟩ <;> rfl
  pyHash:=fun hv h=>by
    rcases keyIs_shape hv with ⟨i,t,rfl,rfl⟩ | ⟨x,t,rfl,rfl⟩
    · exact wpAny_pyHash_int h
    · exact wpAny_pyHash_str h
  eqBool:=fun hu hv h=>by
    rcases keyIs_shape hu with ⟨i,t,rfl,rfl⟩ | ⟨x,t,rfl,rfl⟩
    · rcases keyIs_shape hv with ⟨j,u,rfl,rfl⟩ | ⟨y,u,rfl,rfl⟩
      · rw [key_ll] at h; exact wpAny_eqBool_int h
      · rw [key_lr] at h; exact SeqAt.EqAt.int_str i t y u _ _ _ _ h
    · rcases keyIs_shape hv with ⟨j,u,rfl,rfl⟩ | ⟨y,u,rfl,rfl⟩
      · rw [key_rl] at h; exact SeqAt.EqAt.str_int x t j u _ _ _ _ h
      · rw [key_rr] at h; exact wpAny_eqBool_str h
  «strs»:=fun k x t v h=>by
    rcases keyIs_shape h with ⟨i,u,rfl,e⟩ | ⟨y,u,rfl,e⟩
    · exact nomatch e
    · injection e with e1 _
      subst e1
      cases v <;> rfl
theorem mixKind_int (prog:Program) (w:World) (i:Int) (t:Tok):(mixKind prog w).is (.inl i) (.int i t)=true:=keyIs_int i t
theorem mixKind_str (prog:Program) (w:World) (x:Str) (t:Tok):(mixKind prog w).is (.inr x) (.str x t)=true:=keyIs_str x t
end L2
namespace L2
open PySem PySem.Spec PyProof.Rows
inductive V where
  | non | bl (b:Bool) | int (i:Int) | str (x:Str) | byt (b:Array UInt8) | flt (b:UInt64) | ref (a:Addr) | ty (n:String)
  deriving DecidableEq
def RelV:V→Value→Prop
  | .non,u=>u=Value.none
  | .bl b,u=>u=Value.bool b
  | .int i,u=>∃ t,u=Value.int i t
  | .str x,u=>∃ t,u=Value.str x t
  | .byt b,u=>∃ t,u=Value.bytes b t
  | .flt b,u=>∃ t,u=Value.float b t
  | .ref a,u=>u=Value.ref a
  | .ty n,u=>u=Value.type n
abbrev Vals:List V→List Value→Prop:=Paired RelV
theorem Vals.length {xs:List V} {us:List Value} (r:Vals xs us):xs.length=us.length:=Paired.length r
theorem Vals.get:∀ {xs:List V} {us:List Value} {i:Nat} {x:V},Vals xs us→xs[i]?=some x→∃ u,us[i]?=some u∧RelV x u
  | _,_,_,_,.nil,e=>by simp at e
  | _,_,0,_,.cons r _,e=>by simp at e; subst e; exact ⟨_,rfl,r⟩
  | _,_,i+1,x,.cons _ t,e=>by
    obtain ⟨u,h1,h2⟩:=Vals.get (i:=i) (x:=x) t (by simpa using e)
    exact ⟨u,by simpa using h1,h2⟩
theorem Vals.set {x:V} {u:Value} (r:RelV x u):∀ {xs:List V} {us:List Value} (i:Nat),Vals xs us→Vals (xs.set i x) (us.set i u)
  | _,_,_,.nil=>.nil
  | _,_,0,.cons _ t=>.cons r t
  | _,_,i+1,.cons q t=>.cons q (Vals.set r i t)
theorem Vals.append:∀ {xs ys:List V} {us ws:List Value},Vals xs us→Vals ys ws→Vals (xs++ys) (us++ws)
  | _,_,_,_,.nil,s=>s
  | _,_,_,_,.cons r t,s=>.cons r (Vals.append t s)
theorem Vals.take:∀ {xs:List V} {us:List Value} (n:Nat),Vals xs us→Vals (xs.take n) (us.take n)
  | _,_,0,_=>.nil
  | _,_,_+1,.nil=>.nil
  | _,_,n+1,.cons r t=>.cons r (Vals.take n t)
theorem Vals.drop:∀ {xs:List V} {us:List Value} (n:Nat),Vals xs us→Vals (xs.drop n) (us.drop n)
  | _,_,0,r=>r
  | _,_,_+1,.nil=>.nil
  | _,_,n+1,.cons _ t=>Vals.drop n t
theorem Vals.none_of:∀ {xs:List V} {us:List Value} {i:Nat},Vals xs us→xs[i]?=none→us[i]?=none:=fun {xs us i} r e=>by
  have h1:=r.length
  have h2:xs.length≤i:=List.getElem?_eq_none_iff.mp e
  exact List.getElem?_eq_none_iff.mpr (by omega)
def RelO:Option V→Option Value→Prop
  | some v,some u=>RelV v u
  | none,none=>True
  | _,_=>False
def KV {κ:Type}:List (κ×V)→List (κ×Value)→Prop:=Paired fun (p:κ×V) (q:κ×Value)=>p.1=q.1∧RelV p.2 q.2
def kV:Key→V
  | .inl i=>.int i
  | .inr x=>.str x
inductive HO where
    | lst (xs:List V)
    | tup (xs:List V)
    | dK (kvs:List (Key×V)) | dT (kvs:List (List Key×V))
    | set (S:Int→Bool) (n:Nat)
    | ins (C dx:Addr) (fs:List (Str×V))
    | own (x:Addr)
    | xd (fs:List (Str×V))
    | met (f x:Addr)
    | rng (lo hi:Int)
    | frz (o:Obj) (u:HO)
    | tbl (pos:Pos) (qual:Str)
    | ext (φ:Heap→Prop)
abbrev Hp:=Addr→Option HO
def upd (H:Hp) (a:Addr) (o:HO):Hp:=fun b=>if b=a then some o else H b
theorem upd_same {H:Hp} {a:Addr} {o:HO}:upd H a o a=some o:=by unfold upd; rw [if_pos rfl]
theorem upd_ne {H:Hp} {a b:Addr} {o:HO} (h:b≠a):upd H a o b=H b:=by unfold upd; rw [if_neg h]
theorem upd_upd {H:Hp} {a:Addr} {o u:HO}:upd (upd H a o) a u=upd H a u:=by
  funext b; unfold upd; split <;> rfl
theorem ne_of {H:Hp} {a b:Addr} {o u:HO} (h:H a=some o) (h':H b=some u) (d:o≠u):a≠b:=by
  intro e; subst e; rw [h] at h'; exact d (Option.some.inj h')
theorem ne_of_none {H:Hp} {a b:Addr} {o:HO} (h:H a=some o) (h':H b=none):a≠b:=by
  intro e; subst e; rw [h] at h'; cases h'
section
variable (P:Program) (w:World)
def ObjOk (H:Hp) (h:Heap) (a:Addr):HO→Prop
  | .lst xs=>xs.length≤sizeLine∧∃ (its:List Value) (n:Nat),Vals xs its∧h.get? a=some { cls:=.type "list",data:=.seq its.toArray n }
  | .tup xs=>xs.length≤sizeLine∧∃ its:List Value,Vals xs its∧IsTup h a its.toArray
  | .dK kvs=>kvs.length≤sizeLine∧(a == sysModules)=false∧∃ vs,KV kvs vs∧h.DictOf (mixKind P w) a vs
  | .dT kvs=>kvs.length≤sizeLine∧(a == sysModules)=false∧∃ xs:List (List Key×Addr×Value),
      Paired (fun (p:List Key×V) (q:List Key×Addr×Value)=>p.1=q.1∧H q.2.1=some (.tup (p.1.map kV))∧RelV p.2 q.2.2) kvs xs ∧
      ∃ o es ep,h.get? a=some o∧o.ExactDict∧o.data=.dict es ep∧es.toList=xs.map (entryOfKey (tupleKind (mixKind P w)))∧(xs.map (·.1)).Nodup
  | .set S n=>h.SetOf (intKind P w) a S n
  | .ins C dx fs=>H dx=some (.own a)∧fs.length≤1000∧dx≠a∧h.get? a=some (PySem.W.instObj C dx) ∧
      ∃ mA,h.Ns1 dx mA∧(∀ f,RelO (fs.lookup f) (mA f))∧PySem.Within mA (fs.map (·.1))
  | .own _=>∃ o,h.get? a=some o
  | .xd fs=>∃ mA,h.Ns1 a mA∧∀ f,RelO (fs.lookup f) (mA f)
  | .rng lo hi=>∃ t u v,h.get? a=some { cls:=.type "range",data:=.fields #[.int lo t,.int hi u,.int 1 v] }
  | .frz o u=>h.get? a=some o∧ObjOk H h a u
  | .tbl pos qual=>∃ ps,h.get? a=some { cls:=.none,data:=.fields ps }∧TriplesOk ps.toList∧∀ cv,codeAmong pos ps.toList=some cv→∃ c oc vs t,cv=.ref c∧H c=some (.frz oc (.own a))∧oc.data=.fields vs∧vs[1]?=some (.str qual t)
  | .met f x=>h.get? a=some (PySem.W.methodObj (.ref f) (.ref x))
  | .ext φ=>φ h∧(∃ o,h.get? a=some o)∧∀ h1 h2:Heap,φ h1→(∀ o,h1.get? a=some o→h2.get? a=some o)→φ h2
def HOk (H:Hp) (h:Heap):Prop:=∀ a o,H a=some o→ObjOk P w H h a o
end
section
variable {P:Program} {w:World} {H H':Hp} {h h':Heap} {a:Addr} {o:HO}
theorem ObjOk.lt (x:ObjOk P w H h a o):a<h.objs.size:=by
  cases o with
  | lst xs=>obtain ⟨_,_,_,_,e⟩:=x; exact Heap.lt_size e
  | tup xs=>obtain ⟨_,_,_,p⟩:=x; exact p.lt
  | dK kvs=>obtain ⟨_,_,_,_,o,_,_,e,_⟩:=x; exact Heap.lt_size e
  | dT kvs=>obtain ⟨_,_,_,_,o,_,_,e,_⟩:=x; exact Heap.lt_size e
  | set S n=>obtain ⟨o,_,_,_,e,_⟩:=x; exact Heap.lt_size e
  | ins C dx fs=>obtain ⟨_,_,_,e,_⟩:=x; exact Heap.lt_size e
  | own y=>obtain ⟨_,e⟩:=x; exact Heap.lt_size e
  | xd fs=>obtain ⟨_,⟨_,_,_,e,_⟩,_⟩:=x; exact Heap.lt_size e
  | rng lo hi=>obtain ⟨_,_,_,e⟩:=x; exact Heap.lt_size e
  | frz ob u=>obtain ⟨e,_⟩:=x; exact Heap.lt_size e
  | tbl p q=>obtain ⟨_,e,_⟩:=x; exact Heap.lt_size e
  | met f y=>exact Heap.lt_size (show h.get? a=some _ from x)
  | ext φ=>obtain ⟨_,⟨_,e⟩,_⟩:=x; exact Heap.lt_size e
theorem Paired.mapP {α β:Type} {F G:α→β→Prop}:∀ {l₁:List α} {l₂:List β},Paired F l₁ l₂→(∀ a b,F a b→G a b)→Paired G l₁ l₂
  | _,_,.nil,_=>.nil
  | _,_,.cons r t,f=>.cons (f _ _ r) (Paired.mapP t f)
theorem ObjOk.stay (x:ObjOk P w H h a o) (k:∀ b u,(b=a∨H b=some (.own a))→h.get? b=some u→h'.get? b=some u)
    (ho:∀ b,H b=some (.own a)→H' b=some (.own a)) (ht:∀ b xs,H b=some (.tup xs)→H' b=some (.tup xs))
    (hz:∀ b oz,H b=some (.frz oz (.own a))→H' b=some (.frz oz (.own a)):=by exact fun _ _ q=>q):ObjOk P w H' h' a o:=by
  induction o with
  | lst xs=>obtain ⟨z,its,n,r,e⟩:=x; exact ⟨z,its,n,r,k _ _ (.inl rfl) e⟩
  | tup xs=>obtain ⟨z,its,r,ob,e,c⟩:=x; exact ⟨z,its,r,ob,k _ _ (.inl rfl) e,c⟩
  | dK kvs=>obtain ⟨z,y,vs,r,ob,es,ep,e,c⟩:=x; exact ⟨z,y,vs,r,ob,es,ep,k _ _ (.inl rfl) e,c⟩
  | dT kvs =>
    obtain ⟨z,y,xs,r,ob,es,ep,e,c⟩:=x
    exact ⟨z,y,xs,Paired.mapP r fun p q z=>⟨z.1,ht _ _ z.2.1,z.2.2⟩,ob,es,ep,k _ _ (.inl rfl) e,c⟩
  | set S n=>obtain ⟨ob,es,ep,t,e,c⟩:=x; exact ⟨ob,es,ep,t,k _ _ (.inl rfl) e,c⟩
  | ins C dx fs =>
    obtain ⟨d,z,ne,e,mA,⟨od,es,ep,e2,c⟩,r⟩:=x
    exact ⟨ho _ d,z,ne,k _ _ (.inl rfl) e,mA,⟨od,es,ep,k _ _ (.inr d) e2,c⟩,r⟩
  | own y=>obtain ⟨ob,e⟩:=x; exact ⟨ob,k _ _ (.inl rfl) e⟩
  | xd fs=>obtain ⟨mA,⟨od,es,ep,e,c⟩,r⟩:=x; exact ⟨mA,⟨od,es,ep,k _ _ (.inl rfl) e,c⟩,r⟩
  | rng lo hi=>obtain ⟨t,u,v,e⟩:=x; exact ⟨t,u,v,k _ _ (.inl rfl) e⟩
  | frz ob u ih=>obtain ⟨e,q⟩:=x; exact ⟨k _ _ (.inl rfl) e,ih q⟩
  | tbl p q =>
    obtain ⟨ps,e,tr,hc⟩:=x
    refine ⟨ps,k a _ (.inl rfl) e,tr,fun cv e1=>?_⟩
    obtain ⟨c,oc,vs,tt,z,e2,r⟩:=hc cv e1
    exact ⟨c,oc,vs,tt,z,hz _ _ e2,r⟩
  | met f y =>
    have e:h.get? a=some (PySem.W.methodObj (.ref f) (.ref y)):=x
    show h'.get? a=some (PySem.W.methodObj (.ref f) (.ref y))
    exact k a _ (.inl rfl) e
  | ext φ=>obtain ⟨p,⟨o,e⟩,st⟩:=x; exact ⟨st _ _ p fun o q=>k _ _ (.inl rfl) q,⟨o,k _ _ (.inl rfl) e⟩,st⟩
theorem HOk.lt (x:HOk P w H h) (e:H a=some o):a<h.objs.size:=(x a o e).lt
theorem HOk.fresh (x:HOk P w H h) (e:h.objs.size≤a):H a=none:=by
  cases q:H a with
  | none=>rfl
  | some u=>exact absurd (Nat.lt_of_lt_of_le (x.lt q) e) (Nat.lt_irrefl _)
theorem HOk.kept (x:HOk P w H h) (k:∀ b u,h.get? b=some u→h'.get? b=some u):HOk P w H h':=fun a o e =>
  (x a o e).stay (fun b u _ q=>k b u q) (fun _ q=>q) fun _ _ q=>q
theorem HOk.laid (x:HOk P w H h) (k:∀ b u,h.get? b=some u→h'.get? b=some u) (hp:h.objs.size≤a) (new:ObjOk P w (upd H a o) h' a o):HOk P w (upd H a o) h':=fun b u e=>by
  have hn:=x.fresh hp
  by_cases hb:b=a
  · subst hb; rw [upd_same] at e; cases e; exact new
  · rw [upd_ne hb] at e
    exact (x b u e).stay (fun c v _ q=>k c v q) (fun c q=>by rw [upd_ne (ne_of_none q hn)]; exact q) (fun c xs q=>by rw [upd_ne (ne_of_none q hn)]; exact q) fun c oz q=>by rw [upd_ne (ne_of_none q hn)]; exact q
end
def Rd (H:Hp) (a:Addr) (u:HO):Prop:=H a=some u∨∃ o,H a=some (.frz o u)
theorem Rd.ok {P:Program} {w:World} {H:Hp} {h:Heap} {a:Addr} {u:HO} (r:Rd H a u) (x:HOk P w H h):ObjOk P w H h a u:=by
  rcases r with r | ⟨o,r⟩
  · exact x a u r
  · obtain ⟨_,q⟩:=x a _ r
    exact q
def Mut:Option HO→Prop
  | some (.lst _)=>True
  | some (.dK _)=>True
  | some (.dT _)=>True
  | some (.set _ _)=>True
  | some (.ins _ _ _)=>True
  | some (.ext _)=>True
  | _=>False
section
variable {P:Program} {w:World} {H:Hp} {h h':Heap} {x e:Addr} {o':HO}
theorem HOk.write (ok:HOk P w H h) (mu:Mut (H x)) (he:e=x∨H e=some (.own x)) (k:∀ b u,b≠e→h.get? b=some u→h'.get? b=some u) (heo:∃ u,h'.get? e=some u)
    (new:ObjOk P w (upd H x o') h' x o'):HOk P w (upd H x o') h':=fun b u q=>by
  have nown:∀ c y,H c=some (.own y)→c≠x:=fun c y r z=>by subst z; rw [r] at mu; exact mu
  have ntup:∀ c xs,H c=some (.tup xs)→c≠x:=fun c xs r z=>by subst z; rw [r] at mu; exact mu
  by_cases hb:b=x
  · subst hb; rw [upd_same] at q; cases q; exact new
  · rw [upd_ne hb] at q
    by_cases hbe:b=e
    · have q':H b=some (.own x):=by
        rcases he with z | z
        · exact absurd (hbe.trans z) hb
        · rw [hbe]; exact z
      rw [q] at q'; cases q'
      obtain ⟨v,hv⟩:=heo
      exact ⟨v,by rw [hbe]; exact hv⟩
    · refine (ok b u q).stay (fun c v hc r=>k c v ?_ r) (fun c r=>by rw [upd_ne (nown c b r)]; exact r) (fun c xs r=>by rw [upd_ne (ntup c xs r)]; exact r) fun c oz r=>by rw [upd_ne (fun z=>by subst z; rw [r] at mu; exact mu)]; exact r
      rcases hc with rfl | hc
      · exact hbe
      · rintro rfl
        rcases he with z | z
        · exact nown c b hc z
        · rw [hc] at z; cases z; exact hb rfl
end
structure Un (fs ex:List Addr) (H H':Hp) (h h':Heap):Prop where
  keep:∀ b o,h.get? b=some o→H b=none→b∉fs→b∉ex→h'.get? b=some o
  slot:∀ b o,h.get? b=some o→H b=none→b∈fs→b∉ex→∃ sl,h'.get? b=some { o with slots:=sl }
  free:∀ b o,h.get? b=some o→H b=none→b∉ex→H' b=none
  there:∀ b o,h.get? b=some o→b∉ex→∃ o',h'.get? b=some o'
  tups:∀ b xs,H b=some (.tup xs)→H' b=some (.tup xs)
  frzs:∀ b o u,H b=some (.frz o u)→H' b=some (.frz o u)
  tbls:∀ b p q,H b=some (.tbl p q)→H' b=some (.tbl p q)
section
variable {fs fs' ex ex':List Addr} {H H1 H2:Hp} {h h1 h2 h':Heap} {a x e:Addr} {o:HO}
theorem Un.any (u:Un fs ex H H1 h h1) {b:Addr} {ob:Obj} (q:h.get? b=some ob) (n:H b=none) (hx:b∉ex):∃ sl,h1.get? b=some { ob with slots:=sl }:=by
  by_cases hb:b∈fs
  · exact u.slot b ob q n hb hx
  · exact ⟨ob.slots,u.keep b ob q n hb hx⟩
theorem Un.kept (k:∀ b u,h.get? b=some u→h'.get? b=some u):Un fs ex H H h h' :=
  ⟨fun b ob q _ _ _=>k b ob q,fun b ob q _ _ _=>⟨ob.slots,k b ob q⟩,fun _ _ _ n _=>n,fun b ob q _=>⟨ob,k b ob q⟩,fun _ _ q=>q,fun _ _ _ q=>q,fun _ _ _ q=>q⟩
theorem Un.refl:Un fs ex H H h h:=Un.kept fun _ _ q=>q
theorem Un.laid (k:∀ b u,h.get? b=some u→h'.get? b=some u) (hp:h.objs.size≤a) (hn:H a=none):Un fs ex H (upd H a o) h h' where
  keep:=fun b u q _ _ _=>k b u q
  slot:=fun b u q _ _ _=>⟨u.slots,k b u q⟩
  free:=fun b u q n _=>by rw [upd_ne (Nat.ne_of_lt (Nat.lt_of_lt_of_le (Heap.lt_size q) hp))]; exact n
  there:=fun b u q _=>⟨u,k b u q⟩
  tups:=fun b xs q=>by rw [upd_ne (ne_of_none q hn)]; exact q
  frzs:=fun b u xs q=>by rw [upd_ne (ne_of_none q hn)]; exact q
  tbls:=fun b _ _ q=>by rw [upd_ne (ne_of_none q hn)]; exact q
theorem Un.write (mu:Mut (H x)) (he:e=x∨H e=some (.own x)) (k:∀ b u,b≠e→h.get? b=some u→h'.get? b=some u) (heo:∃ u,h'.get? e=some u):Un fs ex H (upd H x o) h h':=by
  have hx:∀ b,H b=none→b≠x:=fun b n z=>by subst z; rw [n] at mu; exact mu
  have hb:∀ b,H b=none→b≠e:=fun b n z=>by
    subst z
    rcases he with r | r
    · exact hx b n r
    · rw [n] at r; cases r
  have hm:∀ b u,H b=some u→¬ Mut (some u)→b≠x:=fun b u q nm z=>by subst z; rw [q] at mu; exact nm mu
  refine ⟨fun b u q n _ _=>k b u (hb b n) q,fun b u q n _ _=>⟨u.slots,k b u (hb b n) q⟩,fun b u q n _=>by rw [upd_ne (hx b n)]; exact n,fun b u q _=>?_,
    fun b xs q=>by rw [upd_ne (hm b _ q fun z=>z)]; exact q,fun b u xs q=>by rw [upd_ne (hm b _ q fun z=>z)]; exact q,fun b _ _ q=>by rw [upd_ne (hm b _ q fun z=>z)]; exact q⟩
  by_cases hbe:b=e
  · subst hbe; exact heo
  · exact ⟨u,k b u hbe q⟩
end
def trk (h:Heap) (H:Hp):List Addr:=(List.range h.objs.size).filter fun a=>(H a).isSome
def hidT (h:Heap) (H:Hp):Heap:=PySem.W.hideAll h (trk h H)
theorem hidT_size (h:Heap) (H:Hp):(hidT h H).objs.size=h.objs.size:=PySem.W.hideAll_size _ _
theorem hidT_get {h:Heap} {H:Hp} {b:Addr} {o:Obj} (e:h.get? b=some o) (n:H b=none):(hidT h H).get? b=some o :=
  PySem.W.hideAll_get _ e fun hm=>by
    have q:(H b).isSome=true:=(List.mem_filter.mp hm).2
    rw [n] at q; simp at q
theorem of_hidT {h:Heap} {H:Hp} {b:Addr} {o:Obj} (e:(hidT h H).get? b=some o):h.get? b=some o∧H b=none:=by
  have e':h.get? b=some o:=PySem.W.of_hideAll (trk h H) e
  refine ⟨e',?_⟩
  cases q:H b with
  | none=>rfl
  | some x =>
    have hm:b∈trk h H:=List.mem_filter.mpr ⟨List.mem_range.mpr (Heap.lt_size e'),by simp [q]⟩
    have z:(hidT h H).get? b=none:=PySem.W.hideAll_none (trk h H) hm
    rw [z] at e; cases e
end L2
namespace L2
open PySem PySem.Spec PyProof.Rows
structure Mod (K:PySem.W.Frag) (mg:Str→Option Value) (base:Heap):Prop where
  kin:K.In base
  glob:base.Ns mainGlobals mg
  blt:∃ mb,base.Ns builtinsNs mb∧∀ x:Str,x ≠ "__name__" → mb x=bootBuiltins x
  nolimit:base.NoLimit
structure Cx where
  prog:Program
  w:World
  K:PySem.W.Frag
  mg:Str→Option Value
  base:Heap
  A:Around
  N:List Str
  s₀:Shared
  H₀:Hp
  env:Env
  outer:List Env
  stack:List Env
  ex:List Addr
  fn:Str→Bool
  calm:Bool
  pn:List (Addr×Obj)
  xe:Value→Shared→Prop
def frs (l:List Env):List Addr:=l.filterMap (·.frame)
abbrev Cx.fs (X:Cx):List Addr:=frs X.outer
def Vis (sc:Scope) (x:Str):Prop:=sc.names.lookup x=some .local∨sc.names.lookup x=some .cell∨sc.names.lookup x=some .free
def Loc (sc:Scope) (x:Str):Prop:=sc.names.lookup x=some .local∨sc.names.lookup x=some .cell
def Look (env:Env) (h:Heap) (m:Str→Option Value) (x:Str) (u:Value):Prop :=
  (env.kindOf x=some .local∧m x=some u)∨((env.kindOf x=some .cell∨env.kindOf x=some .free)∧∃ c,env.cells.lookup x=some c∧h.IsCell c (some u))
structure Cx.Ok (X:Cx):Prop where
  mod:Mod X.K X.mg X.base
  kind:X.env.scope.kind=.function
  glob:X.env.globals=mainGlobals
  blt:X.env.builtins=builtinsNs
  above:X.s₀.heap.objs.size≤X.env.locals
  inj:∀ x y c,X.env.cells.lookup x=some c→X.env.cells.lookup y=some c→x=y
  has:∀ x,(X.env.kindOf x=some .cell∨X.env.kindOf x=some .free)→∃ c,X.env.cells.lookup x=some c
  cab:∀ x c,X.fn x=true→X.env.cells.lookup x=some c→X.s₀.heap.objs.size≤c
  hd:X.calm=true→X.A.handled=none
  frames:X.A.frames=some X.stack
  stk:X.stack=X.outer∨(X.stack=X.env :: X.outer∧X.env.frame=some X.env.locals)
  exf:∀ b∈X.ex,b≠X.env.locals∧∀ x c,X.env.cells.lookup x=some c→c≠b
  bs:∀ b o,X.base.get? b=some o→X.s₀.heap.get? b=some o∧X.H₀ b=none
  bsz:X.base.objs.size≤X.s₀.heap.objs.size
  noex:∀ b o,X.base.get? b=some o→b∉X.ex
  exfs:∀ b∈X.ex,b∉X.fs
  funs:X.s₀.heap.FunFrames X.base X.outer
  frf:∀ b∈X.fs,X.H₀ b=none
structure Inv (X:Cx) (pins:List (Addr×Obj)) (σ:List (Option V)) (H:Hp) (s:Shared):Prop where
  ok:X.Ok
  os:s.os=X.s₀.os
  bare:AllBare s.gens
  base:Un X.fs X.ex X.H₀ H X.s₀.heap s.heap
  loc:∃ m,s.heap.Ns X.env.locals m∧∀ (i:Nat) (x:Str) (v:V),X.N[i]?=some x→σ[i]?=some (some v)→Vis X.env.scope x→∃ u,RelV v u∧Look X.env s.heap m x u
  cell:∀ x c,X.env.cells.lookup x=some c→∃ v,s.heap.IsCell c v
  free:H X.env.locals=none
  freeC:∀ x c,X.env.cells.lookup x=some c→H c=none
  pin:∀ p∈X.pn++pins,s.heap.get? p.1=some p.2∧H p.1=none∧p.1≠X.env.locals∧p.1∉X.fs∧∀ v,p.2.data≠.cell v
  hok:HOk X.prog X.w H s.heap
  len:σ.length=X.N.length
section
variable {X:Cx} {pins:List (Addr×Obj)} {σ:List (Option V)} {H H':Hp} {s:Shared} {h':Heap}
theorem Cx.Ok.nofr (ok:X.Ok) {b:Addr} {o:Obj} (e:X.base.get? b=some o):b∉X.fs:=fun hb=>by
  have:=(ok.funs.mem hb).1
  rw [e] at this; cases this
theorem Inv.bs (I:Inv X pins σ H s):∀ b o,X.base.get? b=some o→s.heap.get? b=some o∧H b=none:=fun b o e =>
  ⟨I.base.keep b o (I.ok.bs b o e).1 (I.ok.bs b o e).2 (I.ok.nofr e) (I.ok.noex b o e),I.base.free b o (I.ok.bs b o e).1 (I.ok.bs b o e).2 (I.ok.noex b o e)⟩
theorem Inv.bk (I:Inv X pins σ H s):∀ b o,X.base.get? b=some o→s.heap.get? b=some o:=fun b o e=>(I.bs b o e).1
theorem Inv.mod (I:Inv X pins σ H s):Mod X.K X.mg X.base:=I.ok.mod
theorem Inv.kIn (I:Inv X pins σ H s):X.K.In s.heap:=I.ok.mod.kin.keeps I.bk
theorem Inv.nolimit (I:Inv X pins σ H s):s.heap.NoLimit:=I.ok.mod.nolimit.keeps I.bk
theorem Inv.lt (I:Inv X pins σ H s):X.env.locals<s.heap.objs.size:=let ⟨_,hn,_⟩:=I.loc; hn.lt
theorem Inv.sz (I:Inv X pins σ H s):X.s₀.heap.objs.size≤s.heap.objs.size:=Nat.le_trans I.ok.above (Nat.le_of_lt I.lt)
theorem Inv.nofs (I:Inv X pins σ H s) {a:Addr} (h:s.heap.objs.size≤a):a∉X.fs:=fun hb=>by
  obtain ⟨_,o,ho,_⟩:=I.ok.funs.mem hb
  exact absurd (Nat.lt_of_lt_of_le (Heap.lt_size ho) (Nat.le_trans I.sz h)) (Nat.lt_irrefl _)
theorem Inv.cne (I:Inv X pins σ H s):∀ x c,X.env.cells.lookup x=some c→c≠X.env.locals:=fun x c e z=>by
  obtain ⟨v,o,ho,hd⟩:=I.cell x c e
  obtain ⟨m,⟨o',es,ep,ho',hd',_⟩,_⟩:=I.loc
  rw [z,ho'] at ho; cases ho; rw [hd'] at hd; cases hd
theorem Inv.funs (I:Inv X pins σ H s):s.heap.FunFrames X.base X.outer:=by
  have all:∀ (l:List Env),(∀ b∈frs l,b∈X.fs)→X.s₀.heap.FunFrames X.base l→s.heap.FunFrames X.base l:=by
    intro l
    induction l with
    | nil=>intro _ _; trivial
    | cons env r ih =>
      intro hs hl
      obtain ⟨hk,⟨L,o,hf,hn,ho,hd⟩,hr⟩:=hl
      have hL:L∈X.fs:=hs L (by unfold frs; rw [List.filterMap_cons,hf]; exact List.mem_cons_self)
      obtain ⟨sl,e⟩:=I.base.slot L o ho (I.ok.frf L hL) hL fun z=>I.ok.exfs L z hL
      exact ⟨hk,⟨L,_,hf,hn,e,hd⟩,ih (fun b hb=>hs b (by unfold frs; rw [List.filterMap_cons,hf]; exact List.mem_cons_of_mem _ hb)) hr⟩
  exact all X.outer (fun _ hb=>hb) I.ok.funs
theorem Inv.stack (I:Inv X pins σ H s):s.heap.FunFrames X.base X.stack:=by
  rcases I.ok.stk with e | ⟨e,hf⟩
  · rw [e]; exact I.funs
  · rw [e]
    obtain ⟨m,hn,_⟩:=I.loc
    refine .cons (by rw [I.ok.kind]; decide) hf hn ?_ I.funs
    exact Heap.get?_none_of_le (Nat.le_trans I.ok.bsz I.ok.above)
theorem Inv.stkSub (I:Inv X pins σ H s):∀ b∈frs X.stack,b∈X.env.locals :: X.fs:=fun b hb=>by
  rcases I.ok.stk with e | ⟨e,hf⟩
  · rw [e] at hb; exact List.mem_cons_of_mem _ hb
  · rw [e] at hb
    unfold frs at hb
    rw [List.filterMap_cons,hf] at hb
    exact hb
theorem Inv.stkFree (I:Inv X pins σ H s):∀ b∈frs X.stack,H b=none:=fun b hb=>by
  rcases List.mem_cons.mp (I.stkSub b hb) with e | hb
  · rw [e]; exact I.free
  · obtain ⟨_,o,ho,_⟩:=I.ok.funs.mem hb
    exact I.base.free b o ho (I.ok.frf b hb) fun z=>I.ok.exfs b z hb
theorem Inv.step {g':Array GenState} {t':Nat} {d':Drawn} {ch:List Addr} (I:Inv X pins σ H s)
    (hch:∀ b∈ch,(b∈X.ex∨X.s₀.heap.objs.size≤b)∧b≠X.env.locals∧(∀ x c,X.env.cells.lookup x=some c→c≠b)∧∀ p∈X.pn++pins,p.1≠b)
    (keep:∀ b o,b≠X.env.locals→b∉X.fs→b∉ch→s.heap.get? b=some o→H b=none→h'.get? b=some o)
    (slot:∀ b o,b≠X.env.locals→b∈X.fs→b∉ch→s.heap.get? b=some o→H b=none→∃ sl,h'.get? b=some { o with slots:=sl }) (free:∀ b o,b∉ch→s.heap.get? b=some o→H b=none→H' b=none)
    (there:∀ b o,b∉ch→s.heap.get? b=some o→∃ o',h'.get? b=some o')
    (tups:∀ b xs,H b=some (.tup xs)→H' b=some (.tup xs)) (frzs:∀ b o u,H b=some (.frz o u)→H' b=some (.frz o u)) (tbls:∀ b p q,H b=some (.tbl p q)→H' b=some (.tbl p q))
    (ns:∀ m,s.heap.Ns X.env.locals m→h'.Ns X.env.locals m) (hok:HOk X.prog X.w H' h') (hg:AllBare g') :
    Inv X pins σ H' { s with heap:=h',gens:=g',drawn:=d',toks:=t' }:=by
  have neL:∀ b o,X.s₀.heap.get? b=some o→b≠X.env.locals:=fun b o e=>Nat.ne_of_lt (Nat.lt_of_lt_of_le (Heap.lt_size e) I.ok.above)
  have neC:∀ b o,X.s₀.heap.get? b=some o→b∉X.ex→b∉ch:=fun b o e hx hb=>by
    rcases (hch b hb).1 with z | z
    · exact hx z
    · exact absurd (Nat.lt_of_lt_of_le (Heap.lt_size e) z) (Nat.lt_irrefl _)
  have cellK:∀ x c,X.env.cells.lookup x=some c→∀ v,s.heap.IsCell c v→h'.IsCell c v:=fun x c e v ⟨o,ho,hd⟩=>by
    have nch:c∉ch:=fun z=>(hch c z).2.2.1 x c e rfl
    by_cases hc:c∈X.fs
    · obtain ⟨sl,q⟩:=slot c o (I.cne x c e) hc nch ho (I.freeC x c e)
      exact ⟨_,q,hd⟩
    · exact ⟨o,keep c o (I.cne x c e) hc nch ho (I.freeC x c e),hd⟩
  refine ⟨I.ok,I.os,hg,⟨fun b o e n hb hx=>?_,fun b o e n hb hx=>?_,fun b o e n hx=>?_,fun b o e hx=>?_,fun b xs e=>tups b xs (I.base.tups b xs e),fun b o xs e=>frzs b o xs (I.base.frzs b o xs e),fun b p r e=>tbls b p r (I.base.tbls b p r e)⟩,?_,fun x c e=>?_,?_,fun x c e=>?_,fun p hp=>?_,hok,I.len⟩
  · exact keep b o (neL b o e) hb (neC b o e hx) (I.base.keep b o e n hb hx) (I.base.free b o e n hx)
  · obtain ⟨sl,e1⟩:=I.base.slot b o e n hb hx
    obtain ⟨sl',e2⟩:=slot b _ (neL b o e) hb (neC b o e hx) e1 (I.base.free b o e n hx)
    exact ⟨sl',e2⟩
  · obtain ⟨o',e1⟩:=I.base.there b o e hx
    exact free b o' (neC b o e hx) e1 (I.base.free b o e n hx)
  · obtain ⟨o',e1⟩:=I.base.there b o e hx
    exact there b o' (neC b o e hx) e1
  · obtain ⟨m,hn,hl⟩:=I.loc
    refine ⟨m,ns m hn,fun i x v e1 e2 e3=>?_⟩
    obtain ⟨u,r,l⟩:=hl i x v e1 e2 e3
    refine ⟨u,r,?_⟩
    rcases l with l | ⟨k,c,e,z⟩
    · exact .inl l
    · exact .inr ⟨k,c,e,cellK x c e _ z⟩
  · obtain ⟨v,z⟩:=I.cell x c e
    exact ⟨v,cellK x c e v z⟩
  · obtain ⟨m,⟨o,_,_,ho,_⟩,_⟩:=I.loc
    exact free _ o (fun z=>(hch _ z).2.1 rfl) ho I.free
  · obtain ⟨v,o,ho,hd⟩:=I.cell x c e
    exact free c o (fun z=>(hch c z).2.2.1 x c e rfl) ho (I.freeC x c e)
  · obtain ⟨e,n,ne,nf,d⟩:=I.pin p hp
    have nch:p.1∉ch:=fun z=>(hch p.1 z).2.2.2 p hp rfl
    exact ⟨keep p.1 p.2 ne nf nch e n,free p.1 p.2 nch e n,ne,nf,d⟩
theorem Inv.un {t':Nat} (I:Inv X pins σ H s) (u:Un X.fs [] H H' s.heap h') (hok:HOk X.prog X.w H' h'):Inv X pins σ H' { s with heap:=h',toks:=t' }:=by
  obtain ⟨m,⟨o,es,ep,ho,r⟩,_⟩:=id I.loc
  obtain ⟨sl,hL⟩:=u.any ho I.free (by simp)
  exact I.step (g':=s.gens) (d':=s.drawn) (ch:=[]) (fun _ z=>nomatch z) (fun b o _ hb _ e n=>u.keep b o e n hb (by simp)) (fun b o _ hb _ e n=>u.slot b o e n hb (by simp)) (fun b o _ e n=>u.free b o e n (by simp)) (fun b o _ e=>u.there b o e (by simp)) u.tups u.frzs u.tbls (fun m' hm=>by
    obtain ⟨o',es',ep',ho',r'⟩:=hm
    rw [ho] at ho'; cases ho'
    exact ⟨_,es',ep',hL,r'⟩) hok I.bare
theorem Inv.call {g':Array GenState} {t':Nat} {d':Drawn} {ch:List Addr} (I:Inv X pins σ H s) (u:Un (frs X.stack) ch H H' s.heap h') (hok:HOk X.prog X.w H' h') (hg:AllBare g')
    (hch:∀ b∈ch,(b∈X.ex∨X.s₀.heap.objs.size≤b)∧b≠X.env.locals∧(∀ x c,X.env.cells.lookup x=some c→c≠b)∧∀ p∈X.pn++pins,p.1≠b) :
    Inv X pins σ H' { s with heap:=h',gens:=g',drawn:=d',toks:=t' }:=by
  obtain ⟨m,⟨o,es,ep,ho,r⟩,_⟩:=id I.loc
  obtain ⟨sl,hL⟩:=u.any ho I.free fun z=>(hch _ z).2.1 rfl
  exact I.step (ch:=ch) hch (fun b o hL hb hc e n=>u.keep b o e n (fun z=>(List.mem_cons.mp (I.stkSub b z)).elim hL hb) hc) (fun b o _ _ hc e n=>u.any e n hc) (fun b o hc e n=>u.free b o e n hc) (fun b o hc e=>u.there b o e hc) u.tups u.frzs u.tbls (fun m' hm=>by
    obtain ⟨o',es',ep',ho',r'⟩:=hm
    rw [ho] at ho'; cases ho'
    exact ⟨_,es',ep',hL,r'⟩) hok hg
theorem Inv.turned {t':Nat} {it:Addr} (I:Inv X pins σ H s) (k:∀ b o,b≠it→s.heap.get? b=some o→h'.get? b=some o) (hn:H it=none) (hL:it≠X.env.locals)
    (h1:it∈X.ex∨X.s₀.heap.objs.size≤it) (h2:∀ x c,X.env.cells.lookup x=some c→c≠it) (h3:∀ p∈X.pn++pins,p.1≠it):Inv X pins σ H { s with heap:=h',toks:=t' }:=by
  have nit:∀ b u,H b=some u→b≠it:=fun b u e z=>by rw [z,hn] at e; cases e
  refine I.step (g':=s.gens) (d':=s.drawn) (ch:=[it]) (fun b hb=>?_) (fun b o _ _ hc e _=>k b o (fun z=>hc (by simp [z])) e) (fun b o _ _ hc e _=>⟨o.slots,k b o (fun z=>hc (by simp [z])) e⟩) (fun _ _ _ _ n=>n)
    (fun b o hc e=>⟨o,k b o (fun z=>hc (by simp [z])) e⟩) (fun _ _ e=>e) (fun _ _ _ e=>e) (fun _ _ _ e=>e) (fun m hm=>?_) (fun b u e=>?_) I.bare
  · have e:b=it:=by simpa using hb
    subst e
    exact ⟨h1,hL,h2,h3⟩
  · obtain ⟨o,es,ep,ho,r⟩:=hm
    exact ⟨o,es,ep,k _ o (Ne.symm hL) ho,r⟩
  · refine (I.hok b u e).stay (fun c v hc q=>k c v ?_ q) (fun _ q=>q) fun _ _ q=>q
    rcases hc with z | z
    · rw [z]; exact nit b u e
    · exact nit c _ z
theorem Inv.tok (I:Inv X pins σ H s) (t:Nat):Inv X pins σ H { s with toks:=t }:=I.un (h':=s.heap) (t':=t) Un.refl I.hok
theorem Inv.kept {t':Nat} (I:Inv X pins σ H s) (k:∀ b u,s.heap.get? b=some u→h'.get? b=some u):Inv X pins σ H { s with heap:=h',toks:=t' }:=I.un (Un.kept k) (I.hok.kept k)
theorem Inv.laid {a:Addr} {o:HO} {t':Nat} (I:Inv X pins σ H s) (k:∀ b u,s.heap.get? b=some u→h'.get? b=some u) (hp:s.heap.objs.size≤a) (new:ObjOk X.prog X.w (upd H a o) h' a o) :
    Inv X pins σ (upd H a o) { s with heap:=h',toks:=t' }:=I.un (Un.laid k hp (I.hok.fresh hp)) (I.hok.laid k hp new)
theorem Inv.write {x e:Addr} {o:HO} {t':Nat} (I:Inv X pins σ H s) (mu:Mut (H x)) (he:e=x∨H e=some (.own x)) (k:∀ b u,b≠e→s.heap.get? b=some u→h'.get? b=some u) (heo:∃ u,h'.get? e=some u)
    (new:ObjOk X.prog X.w (upd H x o) h' x o):Inv X pins σ (upd H x o) { s with heap:=h',toks:=t' }:=I.un (Un.write mu he k heo) (I.hok.write mu he k heo new)
theorem Inv.pins_of {pins':List (Addr×Obj)} (I:Inv X pins σ H s) (h:∀ p∈pins',s.heap.get? p.1=some p.2∧H p.1=none∧p.1≠X.env.locals∧p.1∉X.fs∧∀ v,p.2.data≠.cell v):Inv X pins' σ H s :=
  ⟨I.ok,I.os,I.bare,I.base,I.loc,I.cell,I.free,I.freeC,fun p hp=>(List.mem_append.mp hp).elim (fun z=>I.pin p (List.mem_append_left _ z)) (h p),I.hok,I.len⟩
theorem nodup_ix {N:List Str} (hN:N.Nodup) {i j:Nat} {x:Str} (a:N[i]?=some x) (b:N[j]?=some x):i=j:=by
  obtain ⟨h1,e1⟩:=List.getElem?_eq_some_iff.mp a
  obtain ⟨h2,e2⟩:=List.getElem?_eq_some_iff.mp b
  exact (List.getElem_inj hN).mp (e1.trans e2.symm)
theorem store_ok2 {M:Model} {A:Around} {E:Value→Shared→Prop} {i:Nat} {x:Str} {v:V} {u:Value} {Q:Unit→Shared→Prop} (I:Inv X pins σ H s) (hN:X.N.Nodup) (hi:X.N[i]?=some x) (hx:Loc X.env.scope x) (r:RelV v u)
    (h:∀ s',Inv X pins (σ.set i (some v)) H s'→(∃ a,Heap.SameBut a s.heap s'.heap∧(a=X.env.locals∨X.env.cells.lookup x=some a))→Q () s') (hf:X.fn x=true∨X.env.scope.names.lookup x=some .local:=by first | exact .inl rfl | exact .inr rfl | assumption):wpAny M A (storeName X.env x u) Q E s:=by
  obtain ⟨m,hn,hl⟩:=id I.loc
  have hcls:(X.env.scope.kind == .class || (X.env.scope.kind == .module && X.env.locals != X.env.globals))=false:=by rw [I.ok.kind]; rfl
  have hiσ:i<σ.length:=by rw [I.len]; exact (List.getElem?_eq_some_iff.mp hi).1
  have cne:=I.cne
  have tracked:∀ {a:Addr} {h':Heap},(∃ o,s.heap.get? a=some o∧H a=none)→Heap.SameBut a s.heap h'→HOk X.prog X.w H h':=fun {a h'} ha hs b ob e=>by
    obtain ⟨_,_,hfree⟩:=ha
    refine (I.hok b ob e).stay (fun c w' hc q=>(hs.2 c ?_).trans q) (fun _ q=>q) fun _ _ q=>q
    rintro rfl
    rcases hc with rfl | hc
    · rw [hfree] at e; cases e
    · rw [hfree] at hc; cases hc
  rcases hx with hk | hk
  · refine wpAny_storeName_local hk hn (fun h' hn' hs=>?_) hcls
    obtain ⟨oL,_,_,hoL,_⟩:=id hn
    refine h _ ⟨I.ok,I.os,I.bare,⟨fun b o e n hb hx=>?_,fun b o e n hb hx=>?_,I.base.free,fun b o e hx=>?_,I.base.tups,I.base.frzs,I.base.tbls⟩,⟨_,hn',fun j y v' e1 e2 e3=>?_⟩,fun y c e=>?_,I.free,I.freeC,fun p hp=>?_,tracked ⟨oL,hoL,I.free⟩ hs,by simpa using I.len⟩ ⟨_,hs,.inl rfl⟩
    · exact (hs.2 b (Nat.ne_of_lt (Nat.lt_of_lt_of_le (Heap.lt_size e) I.ok.above))).trans (I.base.keep b o e n hb hx)
    · obtain ⟨sl,e1⟩:=I.base.slot b o e n hb hx
      exact ⟨sl,(hs.2 b (Nat.ne_of_lt (Nat.lt_of_lt_of_le (Heap.lt_size e) I.ok.above))).trans e1⟩
    · obtain ⟨o',e1⟩:=I.base.there b o e hx
      exact ⟨o',(hs.2 b (Nat.ne_of_lt (Nat.lt_of_lt_of_le (Heap.lt_size e) I.ok.above))).trans e1⟩
    · by_cases hj:j=i
      · subst hj
        rw [hi] at e1; cases e1
        rw [List.getElem?_set_self hiσ] at e2
        cases e2
        exact ⟨u,r,.inl ⟨hk,by simp⟩⟩
      · rw [List.getElem?_set_ne (Ne.symm hj)] at e2
        obtain ⟨u',r',q⟩:=hl j y v' e1 e2 e3
        refine ⟨u',r',?_⟩
        rcases q with ⟨k,e⟩ | ⟨k,c,e,z⟩
        · refine .inl ⟨k,?_⟩
          have:y≠x:=fun e=>hj (nodup_ix hN e1 (e ▸ hi))
          simp [this,e]
        · exact .inr ⟨k,c,e,z.sameBut hs (cne y c e)⟩
    · obtain ⟨w',z⟩:=I.cell y c e
      exact ⟨w',z.sameBut hs (cne y c e)⟩
    · obtain ⟨e,n,ne,nf,d⟩:=I.pin p hp
      exact ⟨(hs.2 p.1 ne).trans e,n,ne,nf,d⟩
  · have hfn:X.fn x=true:=by
      rcases hf with z | z
      · exact z
      · rw [z] at hk; cases hk
    obtain ⟨c,hc⟩:=I.ok.has x (.inl hk)
    obtain ⟨w',z⟩:=I.cell x c hc
    refine wpAny_storeName_cell I.ok.kind hk hc z (fun h' hc' hs=>?_)
    obtain ⟨oc,hoc,hocd⟩:=id z
    refine h { s with heap:=h' } ⟨I.ok,I.os,I.bare,⟨fun b o e n hb hx=>?_,fun b o e n hb hx=>?_,I.base.free,fun b o e hx=>?_,I.base.tups,I.base.frzs,I.base.tbls⟩,⟨m,hn.sameBut hs (Ne.symm (cne x c hc)),fun j y v' e1 e2 e3=>?_⟩,fun y c' e=>?_,I.free,I.freeC,fun p hp=>?_,tracked ⟨oc,hoc,I.freeC x c hc⟩ hs,by simpa using I.len⟩ ⟨c,hs,.inr hc⟩
    · exact (hs.2 b (Nat.ne_of_lt (Nat.lt_of_lt_of_le (Heap.lt_size e) (I.ok.cab x c hfn hc)))).trans (I.base.keep b o e n hb hx)
    · obtain ⟨sl,e1⟩:=I.base.slot b o e n hb hx
      exact ⟨sl,(hs.2 b (Nat.ne_of_lt (Nat.lt_of_lt_of_le (Heap.lt_size e) (I.ok.cab x c hfn hc)))).trans e1⟩
    · obtain ⟨o',e1⟩:=I.base.there b o e hx
      exact ⟨o',(hs.2 b (Nat.ne_of_lt (Nat.lt_of_lt_of_le (Heap.lt_size e) (I.ok.cab x c hfn hc)))).trans e1⟩
    · by_cases hj:j=i
      · subst hj
        rw [hi] at e1; cases e1
        rw [List.getElem?_set_self hiσ] at e2
        cases e2
        exact ⟨u,r,.inr ⟨.inl hk,c,hc,hc'⟩⟩
      · rw [List.getElem?_set_ne (Ne.symm hj)] at e2
        obtain ⟨u',r',q⟩:=hl j y v' e1 e2 e3
        refine ⟨u',r',?_⟩
        rcases q with q | ⟨k,c',e,z'⟩
        · exact .inl q
        · refine .inr ⟨k,c',e,z'.sameBut hs ?_⟩
          rintro rfl
          exact hj (nodup_ix hN e1 (I.ok.inj _ _ _ e hc ▸ hi))
    · by_cases hcc:c'=c
      · subst hcc; exact ⟨_,hc'⟩
      · obtain ⟨w2,z2⟩:=I.cell y c' e
        exact ⟨w2,z2.sameBut hs hcc⟩
    · obtain ⟨e,n,ne,nf,d⟩:=I.pin p hp
      refine ⟨(hs.2 p.1 ?_).trans e,n,ne,nf,d⟩
      intro q
      rw [q,hoc] at e
      have q':oc=p.2:=Option.some.inj e
      exact d w' (by rw [← q']; exact hocd)
theorem store_ok {M:Model} {A:Around} {E:Value→Shared→Prop} {i:Nat} {x:Str} {v:V} {u:Value} {Q:Unit→Shared→Prop} (I:Inv X pins σ H s) (hN:X.N.Nodup) (hi:X.N[i]?=some x) (hx:Loc X.env.scope x) (r:RelV v u)
    (h:∀ s',Inv X pins (σ.set i (some v)) H s'→Q () s') (hf:X.fn x=true∨X.env.scope.names.lookup x=some .local:=by first | exact .inl rfl | exact .inr rfl | assumption):wpAny M A (storeName X.env x u) Q E s :=
  store_ok2 I hN hi hx r (fun s' I' _=>h s' I') hf
theorem Inv.call' {s':Shared} {ch:List Addr} (I:Inv X pins σ H s) (ho:s'.os=s.os) (u:Un (frs X.stack) ch H H' s.heap s'.heap) (hok:HOk X.prog X.w H' s'.heap) (hg:AllBare s'.gens)
    (hch:∀ b∈ch,(b∈X.ex∨X.s₀.heap.objs.size≤b)∧b≠X.env.locals∧(∀ x c,X.env.cells.lookup x=some c→c≠b)∧∀ p∈X.pn++pins,p.1≠b):Inv X pins σ H' s':=by
  obtain ⟨h',g',d',t',o'⟩:=s'
  have e:o'=s.os:=ho
  subst e
  exact I.call (g':=g') (t':=t') (d':=d') u hok hg hch
end
abbrev XK:=Value→Option Addr→Hp→Prop
abbrev St:=List (Option V)
abbrev VK:=V→Hp→Prop
abbrev TE:=St→Hp→VK→Prop
abbrev TT:=St→Hp→(Bool→Hp→Prop)→Prop
abbrev TA:=St→Hp→(List V→Hp→Prop)→Prop
structure Ends where
  nx:St→Hp→Prop
  rt:VK
  bk:St→Hp→Prop:=fun _ _=>False
  ct:St→Hp→Prop:=fun _ _=>False
abbrev TS:=Ends→St→Hp→Prop
def EP (X:Cx) (pins:List (Addr×Obj)) (σ:St) (Q:VK) (u:Value) (s':Shared):Prop:=∃ v H',Inv X pins σ H' s'∧RelV v u∧Q v H'
def TP (X:Cx) (pins:List (Addr×Obj)) (σ:St) (Q:Bool→Hp→Prop) (b:Bool) (s':Shared):Prop:=∃ H',Inv X pins σ H' s'∧Q b H'
def AP (X:Cx) (pins:List (Addr×Obj)) (σ:St) (Q:List V→Hp→Prop) (us:List Value) (s':Shared):Prop:=∃ vs H',Inv X pins σ H' s'∧Vals vs us∧Q vs H'
def SP (X:Cx) (pins:List (Addr×Obj)) (D:Ends) (f:Flow) (s':Shared):Prop :=
  match f with
  | .next=>∃ σ' H',Inv X pins σ' H' s'∧D.nx σ' H'
  | .brk=>∃ σ' H',Inv X pins σ' H' s'∧D.bk σ' H'
  | .cont=>∃ σ' H',Inv X pins σ' H' s'∧D.ct σ' H'
  | .ret u=>∃ v σ' H',Inv X pins σ' H' s'∧RelV v u∧D.rt v H'
def PE (X:Cx) (e:Expr) (t:TE):Prop :=
  ∀ (pins:List (Addr×Obj)) (s:Shared) (σ:St) (H:Hp) (Q:VK),Inv X pins σ H s→t σ H Q→wpAny (model X.prog X.w) X.A (eval e X.env) (EP X pins σ Q) X.xe s
def PT (X:Cx) (e:Expr) (t:TT):Prop :=
  ∀ (pins:List (Addr×Obj)) (s:Shared) (σ:St) (H:Hp) (Q:Bool→Hp→Prop),Inv X pins σ H s→t σ H Q→wpAny (model X.prog X.w) X.A (isTrue e X.env (eval e X.env)) (TP X pins σ Q) X.xe s
def PW (X:Cx) (e:Expr) (t:TT):Prop :=
  ∀ (whole:Sem Value) (pins:List (Addr×Obj)) (s:Shared) (σ:St) (H:Hp) (Q:Bool→Hp→Prop),Inv X pins σ H s→t σ H Q→wpAny (model X.prog X.w) X.A (isTrue e X.env whole) (TP X pins σ Q) X.xe s
theorem PW.pt {X:Cx} {e:Expr} {t:TT} (h:PW X e t):PT X e t:=h _
def PA (X:Cx) (es:List Expr) (t:TA):Prop :=
  ∀ (pos:Pos) (pins:List (Addr×Obj)) (s:Shared) (σ:St) (H:Hp) (Q:List V→Hp→Prop),Inv X pins σ H s→t σ H Q→wpAny (model X.prog X.w) X.A (spliced (backTo pos (starEach es X.env))) (AP X pins σ Q) X.xe s
def PS (X:Cx) (st:Stmt) (t:TS):Prop :=
  ∀ (pins:List (Addr×Obj)) (s:Shared) (σ:St) (H:Hp) (D:Ends),Inv X pins σ H s→t D σ H→wpAny (model X.prog X.w) X.A (exec st X.env) (SP X pins D) X.xe s
def PSs (X:Cx) (st:List Stmt) (t:TS):Prop :=
  ∀ (pins:List (Addr×Obj)) (s:Shared) (σ:St) (H:Hp) (D:Ends),Inv X pins σ H s→t D σ H→wpAny (model X.prog X.w) X.A (execs st X.env) (SP X pins D) X.xe s
theorem thn {α:Type} {t:Sem α} {Q Q':α→Shared→Prop} {M:Model} {A:Around} {E:Value→Shared→Prop} {s:Shared} (h:wpAny M A t Q E s) (hQ:∀ a s,Q a s→Q' a s):wpAny M A t Q' E s:=wpAny_mono h hQ fun _ _ x=>x
end L2
namespace L2
open PySem PySem.Spec PyProof.Rows
section
variable {X:Cx}
def tVar (i:Nat):TE:=fun σ H Q=>∃ v,σ[i]?=some (some v)∧Q v H
def tC (v:V):TE:=fun _ H Q=>Q v H
theorem pe_var {i:Nat} {x:Str} {pos:Pos} (hN:X.N[i]?=some x) (hv:Vis X.env.scope x) (hd:(x == ("__debug__" : Str))=false:=by decide) (hcd:(x == ("__classdict__" : Str))=false:=by decide):PE X (.Name x pos) (tVar i):=by
  intro pins s σ H Q I h
  obtain ⟨v,e,h⟩:=h
  obtain ⟨m,hn,hl⟩:=I.loc
  obtain ⟨u,r,l⟩:=hl i x v hN e hv
  have fin:EP X pins σ Q u s:=⟨v,H,I,r,h⟩
  rcases l with ⟨hk,hm⟩ | ⟨hk,c,hc,hcell⟩
  · exact wpAny_Name (wpAny_loadName_local I.ok.kind hk hn hm fin) hd
  · rcases hk with hk | hk
    · exact wpAny_Name (wpAny_loadName_cell I.ok.kind hk hc hcell fin) hd
    · exact wpAny_Name (wpAny_loadName_free I.ok.kind hk hc hcell fin hcd) hd
theorem pe_int {i j pos}:PE X (.Constant (.int i) j pos) (tC (.int i)):=fun _ _ _ H _ I h=>wpAny_Constant_int ⟨.int i,H,I.tok _,⟨_,rfl⟩,h⟩
theorem pe_bl {b j pos}:PE X (.Constant (.bool b) j pos) (tC (.bl b)):=fun _ _ _ H _ I h=>Constant_bool ⟨.bl b,H,I,rfl,h⟩
theorem pe_non {j pos}:PE X (.Constant .none j pos) (tC .non):=fun _ _ _ H _ I h=>Constant_none ⟨.non,H,I,rfl,h⟩
theorem pe_str {x j pos}:PE X (.Constant (.str x) j pos) (tC (.str x)):=fun _ _ _ H _ I h=>Calls.Constant_str ⟨.str x,H,I.tok _,⟨_,rfl⟩,h⟩
def Gl (X:Cx) (x:Str):Prop:=X.env.kindOf x=some .globalImplicit
theorem ld_glob {E:Value→Shared→Prop} {pins:List (Addr×Obj)} {s:Shared} {σ:St} {H:Hp} {x:Str} {u:Value} {pos:Pos} {Q:Value→Shared→Prop} (I:Inv X pins σ H s) (hg:Gl X x) (hm:X.mg x=some u) (h:Q u s)
    (hd:(x == ("__debug__" : Str))=false:=by decide):wpAny (model X.prog X.w) X.A (eval (.Name x pos) X.env) Q E s :=
  Calls.Name_function_global I.ok.kind hg (Calls.loadGlobal_global (by rw [I.ok.glob]; exact I.mod.glob.keeps I.bk) hm h) hd
theorem ld_blt {E:Value→Shared→Prop} {pins:List (Addr×Obj)} {s:Shared} {σ:St} {H:Hp} {x:Str} {u:Value} {pos:Pos} {Q:Value→Shared→Prop} (I:Inv X pins σ H s) (hg:Gl X x) (hm:X.mg x=none) (hv:bootBuiltins x=some u) (h:Q u s)
    (hn:x ≠ "__name__" := by decide) (hd:(x == ("__debug__" : Str))=false:=by decide):wpAny (model X.prog X.w) X.A (eval (.Name x pos) X.env) Q E s:=by
  obtain ⟨mb,h1,h2⟩:=I.mod.blt
  exact Calls.Name_function_global I.ok.kind hg (Calls.loadGlobal_builtin (by rw [I.ok.glob]; exact I.mod.glob.keeps I.bk) hm (by rw [I.ok.blt]; exact h1.keeps I.bk) ((h2 x hn).trans hv) h) hd
theorem pe_bltn {x:Str} {v:V} {u:Value} {pos:Pos} (hg:Gl X x) (hm:X.mg x=none) (hv:bootBuiltins x=some u) (r:RelV v u) (hn:x ≠ "__name__" := by decide) (hd:(x == ("__debug__" : Str))=false:=by decide):PE X (.Name x pos) (tC v) :=
  fun _ _ _ H _ I h=>ld_blt I hg hm hv ⟨v,H,I,r,h⟩ hn hd
variable {a b:Expr} {ta tb:TE} {pos:Pos}
def PC (X:Cx) (op:CmpOp) (a b:Expr) (t:TE):Prop :=
  ∀ (pins:List (Addr×Obj)) (s:Shared) (σ:St) (H:Hp) (Q:VK),Inv X pins σ H s→t σ H Q →
    wpAny (model X.prog X.w) X.A (eval a X.env) (fun v s₁=>wpAny (model X.prog X.w) X.A (eval b X.env) (fun u s₂=>wpAny (model X.prog X.w) X.A (compareOp op v u) (EP X pins σ Q) X.xe s₂) X.xe s₁) X.xe s
theorem nobehind (b:Expr) {op:CmpOp} (h:op≠.In) (h2:op≠.NotIn):behindInMarks op b=false:=by
  have e1:(op == CmpOp.In)=false:=by cases op <;> first | rfl | exact absurd rfl h
  have e2:(op == CmpOp.NotIn)=false:=by cases op <;> first | rfl | exact absurd rfl h2
  cases b <;> simp [behindInMarks,e1,e2]
def tIsN (ta:TE):TE:=fun σ H Q=>ta σ H fun x H1=>Q (.bl (decide (x=.non))) H1
def tNotN (ta:TE):TE:=fun σ H Q=>ta σ H fun x H1=>Q (.bl (!decide (x=.non))) H1
theorem RelV.none_iff {x:V} {v:Value} (r:RelV x v):(v == Value.none)=decide (x=.non):=by
  cases x with
  | non=>cases r; rfl
  | bl _=>cases r; rfl
  | int _=>obtain ⟨t,rfl⟩:=r; rfl
  | str _=>obtain ⟨t,rfl⟩:=r; rfl
  | byt _=>obtain ⟨t,rfl⟩:=r; rfl
  | flt _=>obtain ⟨t,rfl⟩:=r; rfl
  | ref _=>cases r; rfl
  | ty _=>cases r; rfl
theorem pc_isN {j pos'} (ha:PE X a ta):PC X .Is a (.Constant .none j pos') (tIsN ta):=by
  intro pins s σ H Q I h
  refine thn (ha pins s σ H _ I h) fun v s1 ⟨x,H1,I1,r1,q1⟩=>?_
  exact Constant_none (is_none_gen ⟨.bl _,H1,I1,by rw [r1.none_iff]; rfl,q1⟩)
theorem pc_notN {j pos'} (ha:PE X a ta):PC X .IsNot a (.Constant .none j pos') (tNotN ta):=by
  intro pins s σ H Q I h
  refine thn (ha pins s σ H _ I h) fun v s1 ⟨x,H1,I1,r1,q1⟩=>?_
  exact Constant_none (isnot_none_gen ⟨.bl _,H1,I1,by rw [r1.none_iff]; rfl,q1⟩)
def tB (t:TE):TT:=fun σ H Q=>t σ H fun x H1=>∃ c,x=.bl c∧Q c H1
theorem pe_cmp {op:CmpOp} {t:TE} (h:PC X op a b t) (h1:behindInMarks op b=false:=by first | exact nobehind _ (by decide) (by decide) | rfl):PE X (.Compare a [op] [b] pos) t:=fun pins s σ H Q I hw=>wpAny_Compare1 (h pins s σ H Q I hw) h1
theorem pt_cmp {op:CmpOp} {t:TE} (h:PC X op a b t) (h1:behindInMarks op b=false:=by first | exact nobehind _ (by decide) (by decide) | rfl):PT X (.Compare a [op] [b] pos) (tB t):=by
  intro pins s σ H Q I hw
  refine wpAny_isTrue_Compare1 (thn (h pins s σ H _ I hw) fun v s1 h1=>thn h1 fun u s2 h2=>thn h2 fun c s3 ⟨x,H1,I1,r1,q1⟩=>?_) h1
  obtain ⟨d,rfl,q⟩:=q1
  cases r1
  exact wpAny_truthy_bool ⟨H1,I1,q⟩
theorem pt_val {e:Expr} {t:TE} (h:PE X e t) (he:∀ whole,isTrue e X.env whole=(do let v ← whole; standAt e.pos; holding [v] (truthy v)):=by intro _; rfl):PT X e (tB t):=by
  intro pins s σ H Q I hw
  refine isTrue_plain (thn (h pins s σ H _ I hw) fun v s1 ⟨x,H1,I1,r1,q1⟩=>?_) (he _)
  obtain ⟨d,rfl,q⟩:=q1
  cases r1
  exact wpAny_truthy_bool ⟨H1,I1,q⟩
variable {tA tB':TT} {rest:List Expr}
def tAnd (t u:TT):TT:=fun σ H Q=>t σ H fun c H1=>if c=true then u σ H1 Q else Q false H1
def tOr (t u:TT):TT:=fun σ H Q=>t σ H fun c H1=>if c=true then Q true H1 else u σ H1 Q
def tNot (t:TT):TT:=fun σ H Q=>t σ H fun c H1=>Q (!c) H1
theorem pw_and1 (ha:PT X a tA):PW X (.BoolOp .And [a] pos) tA:=by
  intro wh pins s σ H Q I h
  refine isTrue_and (thn (ha pins s σ H Q I h) fun c s1 e=>?_)
  cases c with
  | true=>exact isTrue_and_nil e
  | false=>exact e
theorem pw_or1 (ha:PT X a tA):PW X (.BoolOp .Or [a] pos) tA:=by
  intro wh pins s σ H Q I h
  refine isTrue_or (thn (ha pins s σ H Q I h) fun c s1 e=>?_)
  cases c with
  | false=>exact isTrue_or_nil e
  | true=>exact e
theorem pw_and (ha:PT X a tA) (hb:PW X (.BoolOp .And (b :: rest) pos) tB'):PW X (.BoolOp .And (a :: b :: rest) pos) (tAnd tA tB'):=by
  intro wh pins s σ H Q I h
  refine isTrue_and (thn (ha pins s σ H _ I h) fun c s1 ⟨H1,I1,q1⟩=>?_)
  cases c with
  | true=>exact hb wh pins s1 σ H1 Q I1 q1
  | false=>exact ⟨H1,I1,q1⟩
theorem pw_or (ha:PT X a tA) (hb:PW X (.BoolOp .Or (b :: rest) pos) tB'):PW X (.BoolOp .Or (a :: b :: rest) pos) (tOr tA tB'):=by
  intro wh pins s σ H Q I h
  refine isTrue_or (thn (ha pins s σ H _ I h) fun c s1 ⟨H1,I1,q1⟩=>?_)
  cases c with
  | true=>exact ⟨H1,I1,q1⟩
  | false=>exact hb wh pins s1 σ H1 Q I1 q1
theorem pt_not (ha:PT X a tA):PT X (.UnaryOp .Not a pos) (tNot tA):=by
  intro pins s σ H Q I h
  exact isTrue_not (ha pins s σ H (fun c H1=>Q (!c) H1) I h)
def tAndV (ta tb:TE):TE:=fun σ H Q=>ta σ H fun x H1=>∃ c,x=.bl c∧if c=true then tb σ H1 Q else Q (.bl false) H1
def tNotV (ta:TE):TE:=fun σ H Q=>ta σ H fun x H1=>∃ c,x=.bl c∧Q (.bl (!c)) H1
theorem pe_one {op} {t:TE} (h:PE X a t):PE X (.BoolOp op [a] pos) t:=fun pins s σ H Q I hw=>BoolOp_one (h pins s σ H Q I hw)
theorem pe_and (ha:PE X a ta) (hb:PE X (.BoolOp .And (b :: rest) pos) tb):PE X (.BoolOp .And (a :: b :: rest) pos) (tAndV ta tb):=by
  intro pins s σ H Q I h
  refine BoolOp_and (thn (ha pins s σ H _ I h) fun v s1 ⟨x,H1,I1,r1,q1⟩=>?_)
  obtain ⟨c,rfl,q1⟩:=q1
  cases r1
  refine wpAny_truthy_bool ?_
  cases c with
  | true=>exact hb pins s1 σ H1 Q I1 q1
  | false=>exact ⟨.bl false,H1,I1,rfl,q1⟩
theorem pe_not (ha:PE X a ta):PE X (.UnaryOp .Not a pos) (tNotV ta):=by
  intro pins s σ H Q I h
  refine UnaryOp_ (thn (ha pins s σ H _ I h) fun v s1 ⟨x,H1,I1,r1,q1⟩=>?_)
  obtain ⟨c,rfl,q1⟩:=q1
  cases r1
  exact not_of (wpAny_truthy_bool ⟨.bl (!c),H1,I1,rfl,q1⟩)
def tIf (t:TT) (ta tb:TE):TE:=fun σ H Q=>t σ H fun c H1=>if c=true then ta σ H1 Q else tb σ H1 Q
theorem pe_ifExp {c:Expr} (hc:PT X c tA) (ha:PE X a ta) (hb:PE X b tb):PE X (.IfExp c a b pos) (tIf tA ta tb):=by
  intro pins s σ H Q I h
  refine wpAny_IfExp (thn (hc pins s σ H _ I h) fun d s1 ⟨H1,I1,q1⟩=>?_)
  cases d with
  | true=>exact ha pins s1 σ H1 Q I1 q1
  | false=>exact hb pins s1 σ H1 Q I1 q1
end
end L2
namespace L2
open PySem PySem.Spec PyProof.Rows
def SqL (K:PySem.W.Frag) (H:Hp) (a:Addr) (xs:List V):Prop :=
  Rd H a (.lst xs) ∨
    ∃ (o:Obj) (its:Array Value) (n:Nat),K.lookup a=some o∧o.cls=.type "list" ∧ o.dict=none∧o.data=.seq its n∧its.size≤sizeLine∧Vals xs its.toList
def SqT (K:PySem.W.Frag) (H:Hp) (a:Addr) (xs:List V):Prop :=
  Rd H a (.tup xs) ∨
    ∃ (o:Obj) (its:Array Value) (n:Nat),K.lookup a=some o∧o.cls=.type "tuple" ∧ o.data=.seq its n∧its.size≤sizeLine∧Vals xs its.toList
def absV:Value→Option V
  | .none=>some .non
  | .bool b=>some (.bl b)
  | .int i _=>some (.int i)
  | .str x _=>some (.str x)
  | .bytes b _=>some (.byt b)
  | .float b _=>some (.flt b)
  | .ref a=>some (.ref a)
  | .type n=>some (.ty n)
  | _=>none
theorem RelV.abs {x:V} {u:Value} (r:RelV x u):absV u=some x:=by
  cases x with
  | non=>cases r; rfl
  | bl _=>cases r; rfl
  | int _=>obtain ⟨t,rfl⟩:=r; rfl
  | str _=>obtain ⟨t,rfl⟩:=r; rfl
  | byt _=>obtain ⟨t,rfl⟩:=r; rfl
  | flt _=>obtain ⟨t,rfl⟩:=r; rfl
  | ref _=>cases r; rfl
  | ty _=>cases r; rfl
theorem RelV.inj {x y:V} {u:Value} (r:RelV x u) (q:RelV y u):x=y:=Option.some.inj (r.abs.symm.trans q.abs)
theorem Vals.inj:∀ {xs ys:List V} {us:List Value},Vals xs us→Vals ys us→xs=ys
  | _,_,_,.nil,.nil=>rfl
  | _,_,_,.cons r t,.cons r' t'=>by rw [r.inj r',Vals.inj t t']
section
variable {X:Cx} {pins:List (Addr×Obj)} {σ:St} {H:Hp} {s:Shared} {a:Addr} {xs ys:List V}
theorem SqL.of {K:PySem.W.Frag} (h:H a=some (.lst xs)):SqL K H a xs:=.inl (.inl h)
theorem SqT.of {K:PySem.W.Frag} (h:H a=some (.tup xs)):SqT K H a xs:=.inl (.inl h)
theorem Inv.list (I:Inv X pins σ H s) (h:SqL X.K H a xs):∃ its:List Value,Vals xs its∧PlainL s.heap a its.toArray∧xs.length≤sizeLine:=by
  rcases h with h | ⟨o,its,n,hk,hc,hd,hs,hz,r⟩
  · obtain ⟨z,its,n,r,e⟩:=h.ok I.hok
    exact ⟨its,r,⟨_,n,e,rfl,rfl,rfl⟩,z⟩
  · refine ⟨its.toList,r,⟨o,n,I.kIn a o hk,hc,hd,by simpa using hs⟩,?_⟩
    have e:=r.length
    simp only [Array.length_toList] at e
    omega
theorem Inv.tuple (I:Inv X pins σ H s) (h:SqT X.K H a xs):∃ its:List Value,Vals xs its∧IsTup s.heap a its.toArray∧xs.length≤sizeLine:=by
  rcases h with h | ⟨o,its,n,hk,hc,hs,hz,r⟩
  · obtain ⟨z,its,r,p⟩:=h.ok I.hok
    exact ⟨its,r,p,z⟩
  · refine ⟨its.toList,r,⟨o,I.kIn a o hk,hc,n,by simpa using hs⟩,?_⟩
    have e:=r.length
    simp only [Array.length_toList] at e
    omega
theorem Inv.list_inj (I:Inv X pins σ H s) (h:SqL X.K H a xs) (h':SqL X.K H a ys):xs=ys:=by
  obtain ⟨its,r,⟨o,n,e,_,_,d⟩,_⟩:=I.list h
  obtain ⟨its',r',⟨o',n',e',_,_,d'⟩,_⟩:=I.list h'
  rw [e] at e'; cases e'
  rw [d] at d'
  injection d' with d1 _
  have:its=its':=by simpa using congrArg Array.toList d1
  subst this
  exact r.inj r'
theorem Inv.tuple_inj (I:Inv X pins σ H s) (h:SqT X.K H a xs) (h':SqT X.K H a ys):xs=ys:=by
  obtain ⟨its,r,⟨o,e,_,n,d⟩,_⟩:=I.tuple h
  obtain ⟨its',r',⟨o',e',_,n',d'⟩,_⟩:=I.tuple h'
  rw [e] at e'; cases e'
  rw [d] at d'
  injection d' with d1 _
  have:its=its':=by simpa using congrArg Array.toList d1
  subst this
  exact r.inj r'
end
abbrev Cx.wish (X:Cx) (E:Value→Shared→Prop):Cx:={ X with xe:=E }
abbrev Cx.nox (X:Cx):Cx:=X.wish fun _ _=>False
theorem Cx.Ok.wish {X:Cx} (ok:X.Ok) (E:Value→Shared→Prop):(X.wish E).Ok :=
  ⟨ok.mod,ok.kind,ok.glob,ok.blt,ok.above,ok.inj,ok.has,ok.cab,ok.hd,ok.frames,ok.stk,ok.exf,ok.bs,ok.bsz,ok.noex,ok.exfs,ok.funs,ok.frf⟩
theorem Cx.Ok.unwish {X:Cx} {E:Value→Shared→Prop} (ok:(X.wish E).Ok):X.Ok :=
  ⟨ok.mod,ok.kind,ok.glob,ok.blt,ok.above,ok.inj,ok.has,ok.cab,ok.hd,ok.frames,ok.stk,ok.exf,ok.bs,ok.bsz,ok.noex,ok.exfs,ok.funs,ok.frf⟩
section
variable {X:Cx} {pins:List (Addr×Obj)} {σ:St} {H:Hp} {s:Shared} {E:Value→Shared→Prop}
theorem Inv.wish (I:Inv X pins σ H s) (E:Value→Shared→Prop):Inv (X.wish E) pins σ H s:=⟨I.ok.wish E,I.os,I.bare,I.base,I.loc,I.cell,I.free,I.freeC,I.pin,I.hok,I.len⟩
theorem Inv.unwish (I:Inv (X.wish E) pins σ H s):Inv X pins σ H s:=⟨I.ok.unwish,I.os,I.bare,I.base,I.loc,I.cell,I.free,I.freeC,I.pin,I.hok,I.len⟩
theorem SP.unwish {D:Ends} {f:Flow} {s':Shared} (h:SP (X.wish E) pins D f s'):SP X pins D f s':=by
  cases f with
  | next=>obtain ⟨σ',H',I,q⟩:=h; exact ⟨σ',H',I.unwish,q⟩
  | brk=>obtain ⟨σ',H',I,q⟩:=h; exact ⟨σ',H',I.unwish,q⟩
  | cont=>obtain ⟨σ',H',I,q⟩:=h; exact ⟨σ',H',I.unwish,q⟩
  | ret u=>obtain ⟨v,σ',H',I,r,q⟩:=h; exact ⟨v,σ',H',I.unwish,r,q⟩
theorem PSs.nox {st:List Stmt} {t:TS} (h:PSs X.nox st t):PSs X st t:=fun pins s σ H D I hw =>
  wpAny_mono (h pins s σ H D (I.wish _) hw) (fun _ _ q=>q.unwish) fun _ _ z=>False.elim z
end
section
variable {X:Cx} {st:Stmt} {rest:List Stmt} {t u:TS} {e:Expr} {te:TE} {pos:Pos}
def tNext:TS:=fun D σ H=>D.nx σ H
def tSeq (t u:TS):TS:=fun D σ H=>t { D with nx:=u D } σ H
theorem pss_nil:PSs X [] tNext:=fun _ _ σ H _ I h=>wpAny_execs_nil ⟨σ,H,I,h⟩
theorem pss_cons (h1:PS X st t) (h2:PSs X rest u):PSs X (st :: rest) (tSeq t u):=by
  intro pins s σ H D I h
  refine wpAny_execs_cons (thn (h1 pins s σ H { D with nx:=u D } I h) fun f s1 q=>?_)
  cases f with
  | next =>
    obtain ⟨σ',H',I',q⟩:=q
    exact h2 pins s1 σ' H' D I' q
  | ret v=>exact q
  | brk=>exact q
  | cont=>exact q
theorem pss_one (h1:PS X st t):PSs X [st] t:=by
  intro pins s σ H D I h
  refine wpAny_execs_cons (thn (h1 pins s σ H D I h) fun f s1 q=>?_)
  cases f with
  | next=>exact wpAny_execs_nil q
  | ret v=>exact q
  | brk=>exact q
  | cont=>exact q
theorem Inv.quiet {pins:List (Addr×Obj)} {σ:St} {H:Hp} {s:Shared} (I:Inv X pins σ H s):interactive X.env=false:=by simp [interactive,I.ok.kind]
def tDrop (te:TE):TS:=fun D σ H=>te σ H fun _ H1=>D.nx σ H1
theorem ps_expr (he:PE X e te) (hs:swapsWith e none pos.line X.env=pure false:=by rfl):PS X (.Expr e pos) (tDrop te):=by
  intro pins s σ H D I h
  exact wpAny_Expr_any (thn (he pins s σ H _ I h) fun v s1 ⟨x,H1,I1,r1,q1⟩=>⟨σ,H1,I1,q1⟩) I.quiet hs
def tRet (te:TE):TS:=fun D σ H=>te σ H D.rt
theorem ps_ret (he:PE X e te):PS X (.Return (some e) pos) (tRet te):=by
  intro pins s σ H D I h
  exact wpAny_Return_some (thn (he pins s σ H _ I h) fun v s1 ⟨x,H1,I1,r1,q1⟩=>⟨x,σ,H1,I1,r1,q1⟩)
def tIfS (c:TT) (t u:TS):TS:=fun D σ H=>c σ H fun b H1=>if b=true then t D σ H1 else u D σ H1
theorem ps_if {c:Expr} {a b:List Stmt} {tc:TT} (hc:PT X c tc) (ha:PSs X a t) (hb:PSs X b u):PS X (.If c a b pos) (tIfS tc t u):=by
  intro pins s σ H D I h
  refine wpAny_If (thn (hc pins s σ H _ I h) fun d s1 ⟨H1,I1,q1⟩=>?_)
  cases d with
  | true=>exact ha pins s1 σ H1 D I1 q1
  | false=>exact hb pins s1 σ H1 D I1 q1
end
abbrev TG:=V→St→Hp→(St→Hp→Prop)→Prop
abbrev TGs:=List V→St→Hp→(St→Hp→Prop)→Prop
def PG (X:Cx) (target:Expr) (t:TG):Prop :=
  ∀ (pins:List (Addr×Obj)) (s:Shared) (σ:St) (H:Hp) (v:V) (u:Value) (Q:St→Hp→Prop),Inv X pins σ H s→RelV v u→t v σ H Q →
    wpAny (model X.prog X.w) X.A (assign target X.env u) (fun _ s'=>∃ σ' H',Inv X pins σ' H' s'∧Q σ' H') X.xe s
def PGs (X:Cx) (ts:List Expr) (t:TGs):Prop :=
  ∀ (pins:List (Addr×Obj)) (s:Shared) (σ:St) (H:Hp) (vs:List V) (us:List Value) (Q:St→Hp→Prop),Inv X pins σ H s→Vals vs us→t vs σ H Q →
    wpAny (model X.prog X.w) X.A (assignInOrder ((assignEach ts X.env).map (·.2)) us) (fun _ s'=>∃ σ' H',Inv X pins σ' H' s'∧Q σ' H') X.xe s
abbrev TSet:=V→V→V→Hp→(Hp→Prop)→Prop
def PSet (X:Cx) (t:TSet):Prop :=
  ∀ (pins:List (Addr×Obj)) (s:Shared) (σ:St) (H:Hp) (o i v:V) (ov iv u:Value) (Q:Hp→Prop),Inv X pins σ H s→RelV o ov→RelV i iv→RelV v u→t o i v H Q →
    wpAny (model X.prog X.w) X.A (setItem ov iv u) (fun _ s'=>∃ H',Inv X pins σ H' s'∧Q H') X.xe s
abbrev TIp:=V→V→Hp→VK→Prop
def PIp (X:Cx) (op:Operator) (t:TIp):Prop :=
  ∀ (pins:List (Addr×Obj)) (s:Shared) (σ:St) (H:Hp) (x y:V) (v u:Value) (Q:VK),Inv X pins σ H s→RelV x v→RelV y u→t x y H Q →
    wpAny (model X.prog X.w) X.A (inplaceOp op v u) (EP X pins σ Q) X.xe s
section
variable {X:Cx} {pos:Pos}
def gName (i:Nat):TG:=fun v σ H Q=>Q (σ.set i (some v)) H
theorem pg_name {i:Nat} {x:Str} (hN:X.N.Nodup) (hi:X.N[i]?=some x) (hx:Loc X.env.scope x) (hf:X.fn x=true∨X.env.scope.names.lookup x=some .local:=by first | exact .inl rfl | exact .inr rfl | assumption):PG X (.Name x pos) (gName i):=by
  intro pins s σ H v u Q I r h
  exact wpAny_assign_Name (store_ok I hN hi hx r (fun s' I'=>⟨_,H,I',h⟩) hf)
def gNil:TGs:=fun vs σ H Q=>vs=[]∧Q σ H
def gCons (t:TG) (u:TGs):TGs:=fun vs σ H Q=>∃ v r,vs=v :: r∧t v σ H fun σ' H'=>u r σ' H' Q
theorem pgs_nil:PGs X [] gNil:=by
  intro pins s σ H vs us Q I r h
  obtain ⟨e,h⟩:=h
  subst e
  cases r
  exact assignInOrder_nil ⟨σ,H,I,h⟩
theorem pgs_cons {e:Expr} {es:List Expr} {t:TG} {u:TGs} (h1:PG X e t) (h2:PGs X es u)
    (hs:(assignEach (e :: es) X.env).map (·.2)=assign e X.env :: (assignEach es X.env).map (·.2):=by rfl):PGs X (e :: es) (gCons t u):=by
  intro pins s σ H vs us Q I r h
  obtain ⟨v,vr,e1,h⟩:=h
  subst e1
  cases r with
  | cons r rr =>
    rw [hs]
    refine assignInOrder_cons (thn (h1 pins s σ H _ _ _ I r h) fun _ s1 ⟨σ1,H1,I1,q1⟩=>?_)
    exact h2 pins s1 σ1 H1 _ _ Q I1 rr q1
def gTup (K:PySem.W.Frag) (n:Nat) (t:TGs):TG:=fun v σ H Q=>∃ a xs,v=.ref a∧SqT K H a xs∧xs.length=n∧t xs σ H Q
theorem pg_tup {es:List Expr} {k:Nat} {t:TGs} {n:Nat} (hc:X.calm=true) (h:PGs X es t)
    (hn:(assignEach es X.env).length=n:=by rfl) (hst:(assignEach es X.env).findIdx? (·.1)=none:=by rfl):PG X (.Tuple es k pos) (gTup X.K n t):=by
  intro pins s σ H v u Q I r hw
  obtain ⟨a,xs,e1,hq,hl,hw⟩:=hw
  subst e1
  cases r
  obtain ⟨its,rv,ht,hz⟩:=I.tuple hq
  refine assign_Tuple_tuple (I.ok.hd hc) ht (by simp [hn,← hl,rv.length]) hst fun h' hx=>?_
  have I1:Inv X pins σ H { s with heap:=h' }:=I.kept (t':=s.toks) fun b o e=>hx b o (Nat.ne_of_lt (Heap.lt_size e)) e
  exact h pins _ σ H xs _ Q I1 (by simpa using rv) hw
def gSub (to ti:TE) (t:TSet):TG:=fun v σ H Q=>to σ H fun o H1=>ti σ H1 fun i H2=>t o i v H2 fun H3=>Q σ H3
theorem pg_sub {o i:Expr} {to ti:TE} {t:TSet} (ho:PE X o to) (hi:PE X i ti) (hs:PSet X t)
    (ha:∀ v,assign (.Subscript o i pos) X.env v=(do
      let ov ← holding [v] (eval o X.env)
      let iv ← holding [v,ov] (eval i X.env)
      standAt pos
      holding [v,ov,iv] (setItem ov iv v)
      release [v,ov,iv] []):=by intro _; rfl):PG X (.Subscript o i pos) (gSub to ti t):=by
  intro pins s σ H v u Q I r h
  rw [ha]
  refine wpAny_bind (wpAny_holding (thn (ho pins s σ H _ I h) fun ov s1 ⟨x,H1,I1,r1,q1⟩=>?_))
  refine wpAny_bind (wpAny_holding (thn (hi pins s1 σ H1 _ I1 q1) fun iv s2 ⟨y,H2,I2,r2,q2⟩=>?_))
  refine wpAny_bind (wpAny_standAt (wpAny_bind (wpAny_holding (thn (hs pins s2 σ H2 x y v ov iv u _ I2 r1 r2 r q2) fun _ s3 ⟨H3,I3,q3⟩=>?_))))
  exact wpAny_release ⟨σ,H3,I3,q3⟩
def tAsg (te:TE) (g:TG):TS:=fun D σ H=>te σ H fun x H1=>g x σ H1 D.nx
theorem ps_asg {tg e:Expr} {te:TE} {g:TG} (he:PE X e te) (hg:PG X tg g) (hs:swapsWithSole [tg] e pos.line X.env=pure false:=by rfl) (hw:swappedStores [tg] e X.env=pure none:=by rfl)
    (h1:(assignEach [tg] X.env).map (·.2)=[assign tg X.env]:=by rfl):PS X (.Assign [tg] e pos) (tAsg te g):=by
  intro pins s σ H D I h
  refine wpAny_Assign_stores (thn (he pins s σ H _ I h) fun v s1 ⟨x,H1,I1,r1,q1⟩=>?_) hs hw
  rw [h1]
  exact thn (hg pins s1 σ H1 x v _ I1 r1 q1) fun _ s2 q=>q
theorem ps_set {i:Nat} {x:Str} {e:Expr} {te:TE} {pos':Pos} (hN:X.N.Nodup) (hi:X.N[i]?=some x) (hx:Loc X.env.scope x) (he:PE X e te) (hs:swapsWith e (some (.Name x pos')) pos.line X.env=pure false:=by rfl) (hf:X.fn x=true∨X.env.scope.names.lookup x=some .local:=by first | exact .inl rfl | exact .inr rfl | assumption) :
    PS X (.Assign [.Name x pos'] e pos) (tAsg te (gName i)):=by
  intro pins s σ H D I h
  refine wpAny_Assign_Name (thn (he pins s σ H _ I h) fun v s1 ⟨y,H1,I1,r1,q1⟩=>?_) hs
  exact store_ok I1 hN hi hx r1 (fun s2 I2=>⟨_,H1,I2,q1⟩) hf
def tPar (i j:Nat) (ta:TA):TS:=fun D σ H=>ta σ H fun vs H1=>∃ v w,vs=[v,w]∧D.nx ((σ.set i (some v)).set j (some w)) H1
theorem ps_par {i j:Nat} {x y:Str} {a b:Expr} {ta:TA} {px py pt:Pos} {kt k2 pt2} (hc:X.calm=true) (hN:X.N.Nodup) (hi:X.N[i]?=some x) (hj:X.N[j]?=some y) (hij:i≠j)
    (hx:X.env.scope.names.lookup x=some .local) (hy:X.env.scope.names.lookup y=some .local) (ha:PA X [a,b] ta)
    (hw:swappedStores [.Tuple [.Name x px,.Name y py] kt pt] (.Tuple [a,b] k2 pt2) X.env=pure (some [x,y]))
    (hs:swapsWithSole [.Tuple [.Name x px,.Name y py] kt pt] (.Tuple [a,b] k2 pt2) pos.line X.env=pure false:=by rfl) :
    PS X (.Assign [.Tuple [.Name x px,.Name y py] kt pt] (.Tuple [a,b] k2 pt2) pos) (tPar i j ta):=by
  intro pins s σ H D I h
  rw [exec_Assign_arm]
  refine wpAny_bind (wpAny_standAt ?_)
  rw [hs]
  refine wpAny_bind (wpAny_pure ?_)
  rw [if_neg (by decide)]
  refine wpAny_bind (Tuple_ (thn (ha _ pins s σ H _ I h) fun us s1 ⟨vs,H1,I1,r1,q1⟩=>?_))
  obtain ⟨v,w,e1,q1⟩:=q1
  subst e1
  obtain ⟨u1,u2,rfl,rv,rw'⟩:∃ u1 u2,us=[u1,u2]∧RelV v u1∧RelV w u2:=by
    cases r1 with
    | cons p q =>
      cases q with
      | cons p' q' =>
        cases q'
        exact ⟨_,_,rfl,p,p'⟩
  refine wpAny_newObj_type ?_ (by show 2≤sizeLine; decide)
  have I2:Inv X pins σ H1 { s1 with heap:=s1.heap.push { cls:=.type "tuple",data:=.seq [u1,u2].toArray } }:=I1.kept (t':=s1.toks) fun b o e=>Heap.get?_push_of_some _ e
  rw [hw]
  refine wpAny_bind (wpAny_pure ?_)
  show wpAny (model X.prog X.w) X.A (do rule "assign.swapped-stores"; let items ← unpackItems (.ref s1.heap.objs.size) 2 none; assignInOrder [fun v=>bindName X.env y v,fun v=>bindName X.env x v] items.reverse; pure Flow.next) _ _ _
  refine wpAny_bind (wpAny_rule (wpAny_bind (unpackItems_tuple (items:=#[u1,u2]) (I.ok.hd hc) (IsTup.new s1.heap _) fun h' hx'=>?_)))
  have I3:=I2.kept (h':=h') (t':=s1.toks) fun b o e=>hx' b o (Nat.ne_of_lt (Heap.lt_size e)) e
  show wpAny _ _ (assignInOrder [fun v=>bindName X.env y v,fun v=>bindName X.env x v] [u2,u1] >>= fun _=>pure Flow.next) _ _ _
  refine wpAny_bind (assignInOrder_cons (wpAny_bindName (store_ok I3 hN hj (.inl hy) rw' (fun s2 I4=>?_) (.inr hy))))
  refine assignInOrder_cons (wpAny_bindName (store_ok I4 hN hi (.inl hx) rv (fun s3 I5=>assignInOrder_nil (wpAny_pure ?_)) (.inr hx)))
  rw [List.set_comm _ _ (Ne.symm hij)] at I5
  exact ⟨_,H1,I5,q1⟩
def tAug (i:Nat) (te:TE) (ti:TIp):TS:=fun D σ H=>∃ x,σ[i]?=some (some x)∧te σ H fun y H1=>ti x y H1 fun z H2=>D.nx (σ.set i (some z)) H2
theorem ps_aug {i:Nat} {x:Str} {e:Expr} {te:TE} {op:Operator} {ti:TIp} {pos':Pos} (hN:X.N.Nodup) (hi:X.N[i]?=some x) (hx:Loc X.env.scope x) (he:PE X e te) (ho:PIp X op ti) (hf:X.fn x=true∨X.env.scope.names.lookup x=some .local:=by first | exact .inl rfl | exact .inr rfl | assumption) :
    PS X (.AugAssign (.Name x pos') op e pos) (tAug i te ti):=by
  intro pins s σ H D I h
  obtain ⟨v,e1,h⟩:=h
  obtain ⟨m,hn,hl⟩:=I.loc
  have vis:Vis X.env.scope x:=by rcases hx with k | k; exact .inl k; exact .inr (.inl k)
  obtain ⟨u,r,l⟩:=hl i x v hi e1 vis
  refine wpAny_AugAssign_Name ?_
  have go:wpAny (model X.prog X.w) X.A (eval e X.env) (fun w s₂=>wpAny (model X.prog X.w) X.A (inplaceOp op u w) (fun r s₃=>wpAny (model X.prog X.w) X.A (storeName X.env x r) (fun _=>SP X pins D .next) X.xe s₃) X.xe s₂) X.xe s:=by
    refine thn (he pins s σ H _ I h) fun w s1 ⟨y,H1,I1,r1,q1⟩=>?_
    refine thn (ho pins s1 σ H1 v y u w _ I1 r r1 q1) fun z s2 ⟨zv,H2,I2,r2,q2⟩=>?_
    exact store_ok I2 hN hi hx r2 (fun s3 I3=>⟨_,H2,I3,q2⟩) hf
  rcases l with ⟨hk,hm⟩ | ⟨hk,c,hc,hcell⟩
  · exact wpAny_loadName_local I.ok.kind hk hn hm go
  · rcases hk with hk | hk
    · exact wpAny_loadName_cell I.ok.kind hk hc hcell go
    · rcases hx with k | k
      · have:X.env.scope.names.lookup x=some .free:=hk
        rw [k] at this; cases this
      · have:X.env.scope.names.lookup x=some .free:=hk
        rw [k] at this; cases this
def ipI (f:Int→Int→Int):TIp:=fun x y H Q=>∃ i j,x=.int i∧y=.int j∧Q (.int (f i j)) H
theorem ip_add:PIp X .Add (ipI fun i j=>i+j):=by
  intro pins s σ H x y v u Q I r1 r2 h
  obtain ⟨i,j,e1,e2,q⟩:=h
  subst e1; subst e2
  obtain ⟨t,rfl⟩:=r1
  obtain ⟨t',rfl⟩:=r2
  exact iadd_int ⟨.int _,H,I.tok _,⟨_,rfl⟩,q⟩
end
structure It where
  go:Nat→Hp→Prop
  yld:Nat→Hp→V→Hp→Prop
  stop:Nat→Hp→Prop
def FpOk (X:Cx) (pins:List (Addr×Obj)) (H:Hp) (b:Addr):Prop :=
  H b=none∧b≠X.env.locals∧b∉X.fs∧(b∈X.ex∨X.s₀.heap.objs.size≤b)∧(∀ x c,X.env.cells.lookup x=some c→c≠b)∧∀ p∈X.pn++pins,p.1≠b
theorem Inv.fpOk {X:Cx} {pins:List (Addr×Obj)} {σ:St} {H H':Hp} {s:Shared} {b:Addr} (I:Inv X pins σ H s) (hb:s.heap.objs.size≤b) (hn:H' b=none):FpOk X pins H' b:=by
  refine ⟨hn,Nat.ne_of_gt (Nat.lt_of_lt_of_le I.lt hb),I.nofs hb,.inr (Nat.le_trans I.sz hb),fun x c e z=>?_,fun p hp z=>?_⟩
  · obtain ⟨v,q⟩:=I.cell x c e
    exact absurd (Nat.lt_of_lt_of_le q.lt (by rw [z]; exact hb)) (Nat.lt_irrefl _)
  · exact absurd (Nat.lt_of_lt_of_le (Heap.lt_size (I.pin p hp).1) (by rw [z]; exact hb)) (Nat.lt_irrefl _)
structure Turn (P:Program) (w:World) (K:PySem.W.Frag) (tg:Expr) (J:It) (fp:List Addr) (it:Addr) (tn:Nat→Heap→Prop):Prop where
  mem:it∈fp
  obj:∀ i h,tn i h→∀ b∈fp,∃ o,h.get? b=some o∧∀ v,o.data≠.cell v
  keep:∀ i h h',tn i h→(∀ b∈fp,∀ o,h.get? b=some o→h'.get? b=some o)→tn i h'
  item:∀ (X:Cx),X.prog=P→X.w=w→X.K=K→X.calm=true→∀ (i:Nat) (pins:List (Addr×Obj)) (s:Shared) (σ:St) (H:Hp) (E:Value→Shared→Prop),Inv X pins σ H s→(∀ b∈fp,FpOk X pins H b)→tn i s.heap→J.go i H →
    wpAny (model P w) X.A (pyNext (.ref it)) (fun r s1=>∃ u,r=some u ∧
      wpAny (model P w) X.A (letOwnedTupleGo tg (.ref it) u) (fun _ s2=>∃ x H',Inv X pins σ H' s2∧RelV x u∧J.yld i H x H'∧tn (i+1) s2.heap∧∀ b∈fp,H' b=none) E s1) E s
  done:∀ (X:Cx),X.prog=P→X.w=w→X.K=K→X.calm=true→∀ (i:Nat) (pins:List (Addr×Obj)) (s:Shared) (σ:St) (H:Hp) (E:Value→Shared→Prop),Inv X pins σ H s→(∀ b∈fp,FpOk X pins H b)→tn i s.heap→J.stop i H →
    wpAny (model P w) X.A (pyNext (.ref it)) (fun r s1=>r=none∧Inv X pins σ H s1) E s
  self:∀ (A:Around) (i:Nat) (s:Shared) (Q:Value→Shared→Prop) (E:Value→Shared→Prop),tn i s.heap→Q (.ref it) s→wpAny (model P w) A (pyIter (.ref it)) Q E s
abbrev TI:=St→Hp→(It→Hp→Prop)→Prop
def PIE (X:Cx) (pins:List (Addr×Obj)) (σ:St) (tg:Expr) (R:It→Hp→Prop) (itv:Value) (s2:Shared):Prop :=
  ∃ (it:Addr) (fp:List Addr) (tn:Nat→Heap→Prop) (J:It) (H':Hp),itv=.ref it∧Inv X pins σ H' s2∧Turn X.prog X.w X.K tg J fp it tn∧tn 0 s2.heap∧(∀ b∈fp,FpOk X pins H' b)∧R J H'
def PI (X:Cx) (tg iter:Expr) (wi:TI):Prop :=
  ∀ (pins:List (Addr×Obj)) (s:Shared) (σ:St) (H:Hp) (R:It→Hp→Prop),Inv X pins σ H s→wi σ H R →
    wpAny (model X.prog X.w) X.A (eval iter X.env) (fun v s1=>wpAny (model X.prog X.w) X.A (pyIter v) (PIE X pins σ tg R) X.xe s1) X.xe s
theorem go_of {M:Model} {A:Around} {E:Value→Shared→Prop} {s:Shared} {tg:Expr} {it:Addr} {u:Value} {o:Obj} {n:String} {vs:Array Value} {Q:Unit→Shared→Prop} (ho:s.heap.get? it=some o) (hc:o.cls=.type n) (hd:o.data=.fields vs)
    (hn:["enumerate", "zip", "dict_itemiterator", "dict_reverseitemiterator", "odict_iterator", "itertools.zip_longest", "itertools.pairwise"].contains n=false) (hQ:Q () s):wpAny M A (letOwnedTupleGo tg (.ref it) u) Q E s:=by
  unfold letOwnedTupleGo
  cases tg <;> first
    | exact wpAny_pure hQ
    | (cases u <;> first
        | exact wpAny_pure hQ
        | (refine wpAny_bind (wpAny_load ho ?_)
           rw [hc,hd]
           show wpAny M A (if (["enumerate", "zip", "dict_itemiterator", "dict_reverseitemiterator", "odict_iterator", "itertools.zip_longest", "itertools.pairwise"].contains n && vs[0]? == some (rawInt _))=true then _ else _) Q E s
           rw [if_neg (by intro h; rw [hn,Bool.false_and] at h; cases h)]
           exact wpAny_pure hQ))
def Itl (K:PySem.W.Frag) (a:Addr):It :=
  ⟨fun i H=>∃ xs x,SqL K H a xs∧xs[i]?=some x,fun i H x H'=>H'=H∧∀ xs,SqL K H a xs→xs[i]?=some x,fun i H=>∃ xs,SqL K H a xs∧xs.length≤i⟩
def Itt (K:PySem.W.Frag) (a:Addr):It :=
  ⟨fun i H=>∃ xs x,SqT K H a xs∧xs[i]?=some x,fun i H x H'=>H'=H∧∀ xs,SqT K H a xs→xs[i]?=some x,fun i H=>∃ xs,SqT K H a xs∧xs.length≤i⟩
def Itr (lo:Int) (n:Nat):It:=⟨fun i _=>i<n,fun i H x H'=>H'=H∧x=.int (lo+i),fun i _=>n≤i⟩
theorem turn_list {P:Program} {w:World} {K:PySem.W.Frag} {tg:Expr} (a it:Addr):Turn P w K tg (Itl K a) [it] it (fun i h=>h.IsListIter it a i) where
  mem:=by simp
  obj:=fun i h st b hb=>by
    have e:b=it:=by simpa using hb
    subst e
    obtain ⟨o,e,c,d⟩:=st
    exact ⟨o,e,fun v z=>by rw [d] at z; cases z⟩
  keep:=fun i h h' st k=>st.at fun o e=>k it (by simp) o e
  item:=by
    intro X hP hw hK hc i pins s σ H E I hf st hg
    subst hP hw hK
    obtain ⟨xs,x,hq,hx⟩:=hg
    obtain ⟨its,rv,p,hz⟩:=I.list hq
    obtain ⟨u,hu,ru⟩:=rv.get hx
    obtain ⟨f0,f1,f2,f3,f4,f5⟩:=hf it (by simp)
    refine wpAny_pyNext_list_item st p.isList (x:=u) (by simpa using hu) fun h' st' sb=>?_
    have I1:Inv X pins σ H { s with heap:=h' }:=I.turned (t':=s.toks) (fun b o hb e=>(sb.2 b hb).trans e) f0 f1 f3 f4 f5
    obtain ⟨o,e,c,d⟩:=id st'
    exact ⟨u,rfl,go_of (s:={ s with heap:=h' }) e c d (by decide) ⟨x,H,I1,ru,⟨rfl,fun ys hy=>by rw [I.list_inj hy hq]; exact hx⟩,st',fun b hb=>(hf b hb).1⟩⟩
  done:=by
    intro X hP hw hK hc i pins s σ H E I hf st hg
    subst hP hw hK
    obtain ⟨xs,hq,hx⟩:=hg
    obtain ⟨its,rv,p,hz⟩:=I.list hq
    obtain ⟨f0,f1,f2,f3,f4,f5⟩:=hf it (by simp)
    have hl:=rv.length
    exact wpAny_pyNext_list_end (I.ok.hd hc) st p.isList (by simp; omega) fun h' eb=>⟨rfl,I.turned (t':=s.toks) (fun b o hb e=>eb b o hb e) f0 f1 f3 f4 f5⟩
  self:=fun _ _ _ _ _ st h=>wpAny_pyIter_listiter st h
theorem turn_tuple {P:Program} {w:World} {K:PySem.W.Frag} {tg:Expr} (a it:Addr):Turn P w K tg (Itt K a) [it] it (fun i h=>h.IsTupleIter it a i) where
  mem:=by simp
  obj:=fun i h st b hb=>by
    have e:b=it:=by simpa using hb
    subst e
    obtain ⟨o,e,c,d⟩:=st
    exact ⟨o,e,fun v z=>by rw [d] at z; cases z⟩
  keep:=fun i h h' st k=>st.at fun o e=>k it (by simp) o e
  item:=by
    intro X hP hw hK hc i pins s σ H E I hf st hg
    subst hP hw hK
    obtain ⟨xs,x,hq,hx⟩:=hg
    obtain ⟨its,rv,p,hz⟩:=I.tuple hq
    obtain ⟨u,hu,ru⟩:=rv.get hx
    obtain ⟨f0,f1,f2,f3,f4,f5⟩:=hf it (by simp)
    refine wpAny_pyNext_tuple_item st (show s.heap.IsTuple a its.toArray from p) (x:=u) (by simpa using hu) fun h' st' sb=>?_
    have I1:Inv X pins σ H { s with heap:=h' }:=I.turned (t':=s.toks) (fun b o hb e=>(sb.2 b hb).trans e) f0 f1 f3 f4 f5
    obtain ⟨o,e,c,d⟩:=id st'
    exact ⟨u,rfl,go_of (s:={ s with heap:=h' }) e c d (by decide) ⟨x,H,I1,ru,⟨rfl,fun ys hy=>by rw [I.tuple_inj hy hq]; exact hx⟩,st',fun b hb=>(hf b hb).1⟩⟩
  done:=by
    intro X hP hw hK hc i pins s σ H E I hf st hg
    subst hP hw hK
    obtain ⟨xs,hq,hx⟩:=hg
    obtain ⟨its,rv,p,hz⟩:=I.tuple hq
    obtain ⟨f0,f1,f2,f3,f4,f5⟩:=hf it (by simp)
    have hl:=rv.length
    exact wpAny_pyNext_tuple_end (I.ok.hd hc) st (show s.heap.IsTuple a its.toArray from p) (by simp; omega) fun h' eb=>⟨rfl,I.turned (t':=s.toks) (fun b o hb e=>eb b o hb e) f0 f1 f3 f4 f5⟩
  self:=fun _ _ _ _ _ st h=>wpAny_pyIter_tupleiter st h
theorem turn_range {P:Program} {w:World} {K:PySem.W.Frag} {tg:Expr} (it:Addr) (lo:Int) (n:Nat):Turn P w K tg (Itr lo n) [it] it (fun i h=>IsRangeIter h it (lo+(i:Nat) * 1) ((n:Int) - (i:Nat)) 1) where
  mem:=by simp
  obj:=fun i h st b hb=>by
    have e:b=it:=by simpa using hb
    subst e
    exact ⟨_,st,fun v z=>by
      have z':Data.fields _=Data.cell v:=z
      cases z'⟩
  keep:=fun i h h' st k=>k it (by simp) _ st
  item:=by
    intro X hP hw hK hc i pins s σ H E I hf st hg
    subst hP hw hK
    obtain ⟨f0,f1,f2,f3,f4,f5⟩:=hf it (by simp)
    have W:=Walks.range (prog:=X.prog) (w:=X.w) (I.ok.hd hc) it lo 1 n
    refine W.item i s _ _ hg st fun v h' tk hv st' kk=>?_
    obtain ⟨t,rfl⟩:=hv
    have I1:Inv X pins σ H { s with heap:=h',toks:=tk }:=I.turned (fun b o hb e=>kk b o (by simpa using hb) e) f0 f1 f3 f4 f5
    refine ⟨_,rfl,go_of (s:={ s with heap:=h',toks:=tk }) (n := "range_iterator") st' rfl rfl (by decide) ⟨.int (lo+i),H,I1,⟨t,?_⟩,⟨rfl,rfl⟩,st',fun b hb=>(hf b hb).1⟩⟩
    rw [Int.mul_one]
  done:=by
    intro X hP hw hK hc i pins s σ H E I hf st hg
    subst hP hw hK
    obtain ⟨f0,f1,f2,f3,f4,f5⟩:=hf it (by simp)
    exact wpAny_pyNext_range_end (I.ok.hd hc) st (by have:n≤i:=hg; omega) fun h' eb=>⟨rfl,I.turned (t':=s.toks) (fun b o hb e=>eb b o hb e) f0 f1 f3 f4 f5⟩
  self:=fun _ _ _ _ _ st h=>wpAny_pyIter_rangeiter st h
end L2
namespace L2
open PySem PySem.Spec PyProof.Rows
section
variable {X:Cx} {tg:Expr}
def iList (K:PySem.W.Frag) (tl:TE):TI:=fun σ H R=>tl σ H fun x H1=>∃ a,x=.ref a∧(∃ xs,SqL K H1 a xs)∧R (Itl K a) H1
def iTup (K:PySem.W.Frag) (tl:TE):TI:=fun σ H R=>tl σ H fun x H1=>∃ a,x=.ref a∧(∃ xs,SqT K H1 a xs)∧R (Itt K a) H1
theorem pi_list {l:Expr} {tl:TE} (hl:PE X l tl):PI X tg l (iList X.K tl):=by
  intro pins s σ H R I h
  refine thn (hl pins s σ H _ I h) fun v s1 ⟨x,H1,I1,r1,q1⟩=>?_
  obtain ⟨a,e,⟨xs,hq⟩,q⟩:=q1
  subst e
  cases r1
  obtain ⟨its,rv,p,hz⟩:=I1.list hq
  refine wpAny_pyIter_list p.isList ?_
  refine ⟨s1.heap.objs.size,[s1.heap.objs.size],_,_,H1,rfl,I1.kept (t':=s1.toks) fun b o e=>Heap.get?_push_of_some _ e,turn_list a _,⟨_,Heap.get?_push_size _ rfl,rfl,rfl⟩,fun b hb=>?_,q⟩
  have e:b=s1.heap.objs.size:=by simpa using hb
  subst e
  exact I1.fpOk (Nat.le_refl _) (I1.hok.fresh (Nat.le_refl _))
theorem pi_tup {l:Expr} {tl:TE} (hl:PE X l tl):PI X tg l (iTup X.K tl):=by
  intro pins s σ H R I h
  refine thn (hl pins s σ H _ I h) fun v s1 ⟨x,H1,I1,r1,q1⟩=>?_
  obtain ⟨a,e,⟨xs,hq⟩,q⟩:=q1
  subst e
  cases r1
  obtain ⟨its,rv,p,hz⟩:=I1.tuple hq
  refine wpAny_pyIter_tuple (show s1.heap.IsTuple a its.toArray from p) ?_
  refine ⟨s1.heap.objs.size,[s1.heap.objs.size],_,_,H1,rfl,I1.kept (t':=s1.toks) fun b o e=>Heap.get?_push_of_some _ e,turn_tuple a _,⟨_,Heap.get?_push_size _ rfl,rfl,rfl⟩,fun b hb=>?_,q⟩
  have e:b=s1.heap.objs.size:=by simpa using hb
  subst e
  exact I1.fpOk (Nat.le_refl _) (I1.hok.fresh (Nat.le_refl _))
theorem range_it {pins:List (Addr×Obj)} {σ:St} {H:Hp} {s:Shared} {R:It→Hp→Prop} {E:Value→Shared→Prop} {lo hi:Int} {t u v:Tok} {tk:Nat} (I:Inv X pins σ H s) (h1 : -(2 ^ 62)≤lo) (h2:lo<2 ^ 62) (h3 : -(2 ^ 62)≤hi) (h4:hi<2 ^ 62)
    (q:R (Itr lo (hi - lo).toNat) H):wpAny (model X.prog X.w) X.A (pyIter (.ref s.heap.objs.size)) (PIE X pins σ tg R) E { s with heap:=s.heap.push { cls:=.type "range",data:=.fields #[.int lo t,.int hi u,.int 1 v] },toks:=tk }:=by
  refine wpAny_pyIter_range (IsRange.new ..) (small_one h1 h2 h3 h4) ?_
  have I1:Inv X pins σ H { s with heap:=s.heap.push { cls:=.type "range",data:=.fields #[.int lo t,.int hi u,.int 1 v] },toks:=tk }:=I.kept fun b o e=>Heap.get?_push_of_some _ e
  refine ⟨(s.heap.push { cls:=.type "range",data:=.fields #[.int lo t,.int hi u,.int 1 v] }).objs.size,[(s.heap.push { cls:=.type "range",data:=.fields #[.int lo t,.int hi u,.int 1 v] }).objs.size],_,_,H,rfl,
    I1.kept (t':=tk) fun b o e=>Heap.get?_push_of_some _ e,turn_range _ lo (hi - lo).toNat,?_,fun b hb=>?_,q⟩
  · have e1:lo+((0:Nat):Int) * 1=lo:=by simp
    have e2:(((hi - lo).toNat:Nat):Int) - ((0:Nat):Int)=Builtin.Range.rangeSize lo hi 1:=by rw [rangeSize_one]; split <;> omega
    show IsRangeIter _ _ (lo+((0:Nat):Int) * 1) ((((hi - lo).toNat:Nat):Int) - ((0:Nat):Int)) 1
    rw [e1,e2]
    exact Heap.get?_push_size _ rfl
  · have e:b=(s.heap.push { cls:=.type "range",data:=.fields #[.int lo t,.int hi u,.int 1 v] }).objs.size:=by simpa using hb
    subst e
    exact I1.fpOk (Nat.le_refl _) (I1.hok.fresh (Nat.le_refl _))
def iRng1 (ta:TA):TI:=fun σ H R=>ta σ H fun vs H1=>∃ j:Int,vs=[.int j] ∧ -(2 ^ 62)≤j∧j<2 ^ 62∧R (Itr 0 j.toNat) H1
theorem pi_range1 {a:Expr} {ta:TA} {p pos:Pos} (hg:Gl X "range") (hm:X.mg "range" = none) (ha:PA X [a] ta) (hs:starEach [a] X.env=[(false,eval a X.env)]:=by rfl):PI X tg (.Call (.Name "range" p) [a] [] pos) (iRng1 ta):=by
  intro pins s σ H R I h
  refine Call_ (ld_blt I hg hm boot_range (PyProof.Rows.callWith_type1 (thn (ha pos pins s σ H _ I h) fun us s1 ⟨vs,H1,I1,r1,q1⟩=>?_) hs rfl))
  obtain ⟨j,e,q1,q2,q⟩:=q1
  subst e
  cases r1 with
  | cons r rr =>
    cases rr
    obtain ⟨t,rfl⟩:=r
    exact call_range_1 (range_it I1 (by omega) (by omega) q1 q2 (by simpa using q))
def tFor (wi:TI) (g:TG) (tb:TS):TS:=fun D σ H=>wi σ H fun J H1=>∃ W:Nat→Nat→St→Hp→Prop,(∃ m,W 0 m σ H1)∧∀ i m σ H,W i m σ H →
  (J.stop i H∧D.nx σ H)∨(J.go i H∧∃ N:St→Hp→Prop,(∀ σ' H',N σ' H'→∃ m',m'<m∧W (i+1) m' σ' H')∧∀ x H',J.yld i H x H'→g x σ H' fun σ2 H2=>tb { D with nx:=N,ct:=N,bk:=D.nx } σ2 H2)
def pinsAt (fp:List Addr) (h:Heap):List (Addr×Obj):=fp.filterMap fun b=>(h.get? b).map fun o=>(b,o)
theorem mem_pinsAt {fp:List Addr} {h:Heap} {b:Addr} {o:Obj} (hb:b∈fp) (e:h.get? b=some o):(b,o)∈pinsAt fp h:=List.mem_filterMap.mpr ⟨b,hb,by rw [e]; rfl⟩
theorem of_pinsAt {fp:List Addr} {h:Heap} {p:Addr×Obj} (hp:p∈pinsAt fp h):p.1∈fp∧h.get? p.1=some p.2:=by
  obtain ⟨b,hb,e⟩:=List.mem_filterMap.mp hp
  cases q:h.get? b with
  | none=>rw [q] at e; cases e
  | some o =>
    rw [q] at e
    have e':(b,o)=p:=Option.some.inj e
    subst e'
    exact ⟨hb,q⟩
theorem Inv.pinned {pins:List (Addr×Obj)} {σ:St} {H:Hp} {s:Shared} {fp:List Addr} (I:Inv X pins σ H s) (hf:∀ b∈fp,FpOk X pins H b) (ho:∀ b∈fp,∃ o,s.heap.get? b=some o∧∀ v,o.data≠.cell v):Inv X (pins++pinsAt fp s.heap) σ H s :=
  I.pins_of fun p hp=>(List.mem_append.mp hp).elim (fun z=>I.pin p (List.mem_append_right _ z)) fun z=>by
    obtain ⟨hb,e⟩:=of_pinsAt z
    obtain ⟨f0,f1,f2,_⟩:=hf p.1 hb
    obtain ⟨o,e',d⟩:=ho p.1 hb
    rw [e] at e'; cases e'
    exact ⟨e,f0,f1,f2,d⟩
theorem Inv.unpinned {pins pl:List (Addr×Obj)} {σ:St} {H:Hp} {s:Shared} (I:Inv X (pins++pl) σ H s):Inv X pins σ H s:=I.pins_of fun p hp=>I.pin p (List.mem_append_right _ (List.mem_append_left _ hp))
theorem ps_for {iter:Expr} {body:List Stmt} {wi:TI} {g:TG} {tb:TS} {pos:Pos} (hp:PassesOwn (model X.prog X.w) X.A X.env X.xe) (hc:X.calm=true) (hi:PI X tg iter wi) (hg:PG X tg g) (hb:PSs X body tb)
    (hs:∀ x,foldedSetIterable iter X.env x=pure x:=by intro _; rfl):PS X (.For tg iter body [] pos) (tFor wi g tb):=by
  intro pins s σ H D I h
  refine wpAny_For (thn (hi pins s σ H _ I h) fun v s1 h1=>thn h1 fun itv s2 h2=>?_) hs
  obtain ⟨it,fp,tn,J,H2,e,I2,T,st2,f2,W,⟨m0,w0⟩,turn⟩:=h2
  subst e
  have stat:∀ {H':Hp},(∀ b∈fp,H' b=none)→∀ b∈fp,FpOk X pins H' b:=fun hn b hb=>⟨hn b hb,(f2 b hb).2⟩
  refine codeAny_forLoop_any (fun n s'=>∃ i σ' H',Inv X pins σ' H' s'∧tn i s'.heap∧(∀ b∈fp,H' b=none)∧W i n σ' H') ?_ m0 ⟨0,σ,H2,I2,st2,fun b hb=>(f2 b hb).1,w0⟩
  rintro n s3 ⟨i,σ3,H3,I3,st3,fr3,w3⟩
  rcases turn i n σ3 H3 w3 with ⟨stop,qn⟩ | ⟨go,N,hN,step⟩
  · refine wpAny_passesOwn hp (thn (T.done X rfl rfl rfl hc i pins s3 σ3 H3 X.xe I3 (stat fr3) st3 stop) fun r s4 ⟨hr,I4⟩=>?_)
    subst hr
    exact wpAny_execs_nil ⟨σ3,H3,I4,qn⟩
  · refine wpAny_passesOwn hp (thn (T.item X rfl rfl rfl hc i pins s3 σ3 H3 X.xe I3 (stat fr3) st3 go) fun r s4 ⟨u,hr,h4⟩=>?_)
    subst hr
    refine wpAny_passesOwn hp (thn h4 fun _ s5 ⟨x,H5,I5,r5,y5,st5,fr5⟩=>?_)
    have I5':=I5.pinned (stat fr5) (T.obj _ _ st5)
    refine wpAny_passesOwn hp (thn (hg _ s5 σ3 H5 x u _ I5' r5 (step x H5 y5)) fun _ s6 ⟨σ6,H6,I6,q6⟩=>?_)
    refine wpAny_passesOwn hp (thn (hb _ s6 σ6 H6 _ I6 q6) fun f s7 q7=>?_)
    have again:∀ {σ7:St} {H7:Hp},Inv X (pins++pinsAt fp s5.heap) σ7 H7 s7→N σ7 H7→∃ m,m<n∧∃ i σ' H',Inv X pins σ' H' s7∧tn i s7.heap∧(∀ b∈fp,H' b=none)∧W i m σ' H':=fun {σ7 H7} I7 n7=>by
      obtain ⟨m',hm,w7⟩:=hN σ7 H7 n7
      refine ⟨m',hm,i+1,σ7,H7,I7.unpinned,T.keep _ _ _ st5 fun b hb o e=>(I7.pin (b,o) (List.mem_append_right _ (List.mem_append_right _ (mem_pinsAt hb e)))).1,fun b hb=>?_,w7⟩
      obtain ⟨o,e,d⟩:=T.obj _ _ st5 b hb
      exact (I7.pin (b,o) (List.mem_append_right _ (List.mem_append_right _ (mem_pinsAt hb e)))).2.1
    cases f with
    | next=>obtain ⟨σ7,H7,I7,n7⟩:=q7; exact again I7 n7
    | cont=>obtain ⟨σ7,H7,I7,n7⟩:=q7; exact again I7 n7
    | brk=>obtain ⟨σ7,H7,I7,q7⟩:=q7; exact ⟨σ7,H7,I7.unpinned,q7⟩
    | ret v=>obtain ⟨x7,σ7,H7,I7,r7,q7⟩:=q7; exact ⟨x7,σ7,H7,I7.unpinned,r7,q7⟩
end
theorem for_list {K:PySem.W.Frag} {a:Addr} {xs:List V} {g:TG} {tb:TS} {D:Ends} {σ:St} {H:Hp} (Pv:Nat→St→Hp→Prop) (h0:Pv 0 σ H) (hl:∀ i σ H,i≤xs.length→Pv i σ H→SqL K H a xs)
    (hs:∀ i x σ H,xs[i]?=some x→Pv i σ H→g x σ H fun σ2 H2=>tb { D with nx:=Pv (i+1),ct:=Pv (i+1),bk:=D.nx } σ2 H2) (hd:∀ σ H,Pv xs.length σ H→D.nx σ H) :
    ∃ W:Nat→Nat→St→Hp→Prop,(∃ m,W 0 m σ H)∧∀ i m σ H,W i m σ H →
      ((Itl K a).stop i H∧D.nx σ H)∨((Itl K a).go i H∧∃ N:St→Hp→Prop,(∀ σ' H',N σ' H'→∃ m',m'<m∧W (i+1) m' σ' H')∧∀ x H',(Itl K a).yld i H x H'→g x σ H' fun σ2 H2=>tb { D with nx:=N,ct:=N,bk:=D.nx } σ2 H2):=by
  refine ⟨fun i m σ H=>m=xs.length - i∧i≤xs.length∧Pv i σ H,⟨xs.length,by simp,Nat.zero_le _,h0⟩,?_⟩
  rintro i m σ H ⟨rfl,hi,p⟩
  have q:=hl i σ H hi p
  by_cases hlt:i<xs.length
  · refine .inr ⟨⟨xs,xs[i],q,by simp [hlt]⟩,Pv (i+1),fun σ' H' p'=>⟨xs.length - (i+1),by omega,rfl,hlt,p'⟩,fun x H' y=>?_⟩
    obtain ⟨e,y⟩:=y
    subst e
    exact hs i x σ _ (y xs q) p
  · have e:i=xs.length:=by omega
    subst e
    exact .inl ⟨⟨xs,q,Nat.le_refl _⟩,hd σ H p⟩
theorem for_range {lo:Int} {n:Nat} {g:TG} {tb:TS} {D:Ends} {σ:St} {H:Hp} (Pv:Nat→St→Hp→Prop) (h0:Pv 0 σ H)
    (hs:∀ i σ H,i<n→Pv i σ H→g (.int (lo+i)) σ H fun σ2 H2=>tb { D with nx:=Pv (i+1),ct:=Pv (i+1),bk:=D.nx } σ2 H2) (hd:∀ σ H,Pv n σ H→D.nx σ H) :
    ∃ W:Nat→Nat→St→Hp→Prop,(∃ m,W 0 m σ H)∧∀ i m σ H,W i m σ H →
      ((Itr lo n).stop i H∧D.nx σ H)∨((Itr lo n).go i H∧∃ N:St→Hp→Prop,(∀ σ' H',N σ' H'→∃ m',m'<m∧W (i+1) m' σ' H')∧∀ x H',(Itr lo n).yld i H x H'→g x σ H' fun σ2 H2=>tb { D with nx:=N,ct:=N,bk:=D.nx } σ2 H2):=by
  refine ⟨fun i m σ H=>m=n - i∧i≤n∧Pv i σ H,⟨n,by simp,Nat.zero_le _,h0⟩,?_⟩
  rintro i m σ H ⟨rfl,hi,p⟩
  by_cases hlt:i<n
  · refine .inr ⟨hlt,Pv (i+1),fun σ' H' p'=>⟨n - (i+1),by omega,rfl,hlt,p'⟩,fun x H' y=>?_⟩
    obtain ⟨e,y⟩:=y
    subst e y
    exact hs i σ _ hlt p
  · have e:i=n:=by omega
    subst e
    exact .inl ⟨Nat.le_refl _,hd σ H p⟩
end L2
namespace L2
open PySem PySem.Spec PyProof.Rows
abbrev R2:=V→V→Hp→VK→Prop
def OpR (X:Cx) (f:Value→Value→Sem Value) (r:R2):Prop :=
  ∀ (pins:List (Addr×Obj)) (s:Shared) (σ:St) (H:Hp) (x y:V) (v u:Value) (Q:VK),Inv X pins σ H s→RelV x v→RelV y u→r x y H Q →
    wpAny (model X.prog X.w) X.A (f v u) (EP X pins σ Q) X.xe s
def UnR (X:Cx) (f:Value→Sem Value) (r:V→Hp→VK→Prop):Prop :=
  ∀ (pins:List (Addr×Obj)) (s:Shared) (σ:St) (H:Hp) (x:V) (v:Value) (Q:VK),Inv X pins σ H s→RelV x v→r x H Q →
    wpAny (model X.prog X.w) X.A (f v) (EP X pins σ Q) X.xe s
def CallR (X:Cx) (f:Value) (r:List V→Hp→VK→Prop):Prop :=
  ∀ (pins:List (Addr×Obj)) (s:Shared) (σ:St) (H:Hp) (xs:List V) (us:List Value) (Q:VK),Inv X pins σ H s→Vals xs us→r xs H Q →
    wpAny (model X.prog X.w) X.A (call f us) (EP X pins σ Q) X.xe s
def tOp (r:R2) (ta tb:TE):TE:=fun σ H Q=>ta σ H fun x H1=>tb σ H1 fun y H2=>r x y H2 Q
def tUn (r:V→Hp→VK→Prop) (ta:TE):TE:=fun σ H Q=>ta σ H fun x H1=>r x H1 Q
def rI (C:Int→Int→Prop) (g:Int→Int→V):R2:=fun x y H Q=>∃ i j,x=.int i∧y=.int j∧C i j∧Q (g i j) H
def rI0 (g:Int→Int→V):R2:=fun x y H Q=>∃ i j,x=.int i∧y=.int j∧Q (g i j) H
def rU (g:Int→V):V→Hp→VK→Prop:=fun x H Q=>∃ i,x=.int i∧Q (g i) H
section
variable {X:Cx} {a b c:Expr} {ta tb tc:TE} {pos:Pos}
theorem binT (ha:PE X a ta) (hb:PE X b tb) {pins:List (Addr×Obj)} {s:Shared} {σ:St} {H:Hp} {R:V→V→Hp→Prop} (I:Inv X pins σ H s)
    (h:ta σ H fun x H1=>tb σ H1 fun y H2=>R x y H2) {Q:Value→Shared→Prop} {f:Value→Value→Sem Value}
    (hf:∀ v u s2 x y H2,Inv X pins σ H2 s2→RelV x v→RelV y u→R x y H2→wpAny (model X.prog X.w) X.A (f v u) Q X.xe s2) :
    wpAny (model X.prog X.w) X.A (eval a X.env) (fun v s₁=>wpAny (model X.prog X.w) X.A (eval b X.env) (fun u s₂=>wpAny (model X.prog X.w) X.A (f v u) Q X.xe s₂) X.xe s₁) X.xe s:=by
  refine thn (ha pins s σ H _ I h) fun v s1 ⟨x,H1,I1,r1,q1⟩=>?_
  refine thn (hb pins s1 σ H1 _ I1 q1) fun u s2 ⟨y,H2,I2,r2,q2⟩=>?_
  exact hf v u s2 x y H2 I2 r1 r2 q2
theorem pe_op {op:Operator} {r:R2} (ho:OpR X (binaryOp op) r) (ha:PE X a ta) (hb:PE X b tb):PE X (.BinOp a op b pos) (tOp r ta tb):=by
  intro pins s σ H Q I h
  exact wpAny_BinOp (binT ha hb I h fun v u s2 x y H2 I2 rx ry q=>ho pins s2 σ H2 x y v u Q I2 rx ry q)
theorem pe_un {op:UnaryOp} {r:V→Hp→VK→Prop} (ho:UnR X (unaryOp op) r) (ha:PE X a ta):PE X (.UnaryOp op a pos) (tUn r ta):=by
  intro pins s σ H Q I h
  exact UnaryOp_ (thn (ha pins s σ H _ I h) fun v s1 ⟨x,H1,I1,r1,q1⟩=>ho pins s1 σ H1 x v Q I1 r1 q1)
theorem opI {f:Value→Value→Sem Value} {C:Int→Int→Prop} {g:Int→Int→Int}
    (rule:∀ (i j:Int) (t u:Tok) (s:Shared) (Q:Value→Shared→Prop) (E:Value→Shared→Prop),C i j→Q (.int (g i j) s.toks) { s with toks:=s.toks+1 }→wpAny (model X.prog X.w) X.A (f (.int i t) (.int j u)) Q E s) :
    OpR X f (rI C fun i j=>.int (g i j)):=by
  intro pins s σ H x y v u Q I rx ry h
  obtain ⟨i,j,rfl,rfl,hc,q⟩:=h
  obtain ⟨t,rfl⟩:=rx
  obtain ⟨t',rfl⟩:=ry
  exact rule i j t t' s _ _ hc ⟨.int (g i j),H,I.tok _,⟨_,rfl⟩,q⟩
theorem opI0 {f:Value→Value→Sem Value} {g:Int→Int→Int}
    (rule:∀ (i j:Int) (t u:Tok) (s:Shared) (Q:Value→Shared→Prop) (E:Value→Shared→Prop),Q (.int (g i j) s.toks) { s with toks:=s.toks+1 }→wpAny (model X.prog X.w) X.A (f (.int i t) (.int j u)) Q E s) :
    OpR X f (rI0 fun i j=>.int (g i j)):=by
  intro pins s σ H x y v u Q I rx ry h
  obtain ⟨i,j,rfl,rfl,q⟩:=h
  obtain ⟨t,rfl⟩:=rx
  obtain ⟨t',rfl⟩:=ry
  exact rule i j t t' s _ _ ⟨.int (g i j),H,I.tok _,⟨_,rfl⟩,q⟩
theorem opB0 {f:Value→Value→Sem Value} {g:Int→Int→Bool}
    (rule:∀ (i j:Int) (t u:Tok) (s:Shared) (Q:Value→Shared→Prop) (E:Value→Shared→Prop),Q (.bool (g i j)) s→wpAny (model X.prog X.w) X.A (f (.int i t) (.int j u)) Q E s) :
    OpR X f (rI0 fun i j=>.bl (g i j)):=by
  intro pins s σ H x y v u Q I rx ry h
  obtain ⟨i,j,rfl,rfl,q⟩:=h
  obtain ⟨t,rfl⟩:=rx
  obtain ⟨t',rfl⟩:=ry
  exact rule i j t t' s _ _ ⟨.bl (g i j),H,I,rfl,q⟩
def CDiv (i j:Int):Prop:=0<j∧j<1073741824
def CPow (i j:Int):Prop:=0≤j∧j≤1000000∧i.natAbs<2 ^ 64
def CMul (i j:Int):Prop:=(-(2 ^ 64)<i∧i<2 ^ 64)∨(-(2 ^ 64)<j∧j<2 ^ 64)
theorem CMul.ok {i j:Int} (h:CMul i j):IntMulOk i j:=by
  rcases h with ⟨h1,h2⟩ | ⟨h1,h2⟩
  · exact .of_left (intBits_le_64 h1 h2)
  · exact .of_right (intBits_le_64 h1 h2)
theorem op_add:OpR X (binaryOp .Add) (rI0 fun i j=>.int (i+j)):=opI0 fun _ _ _ _ _ _ _ q=>add_int q
theorem op_sub:OpR X (binaryOp .Sub) (rI0 fun i j=>.int (i - j)):=opI0 fun _ _ _ _ _ _ _ q=>sub_int q
theorem op_mul:OpR X (binaryOp .Mult) (rI CMul fun i j=>.int (i * j)):=opI fun _ _ _ _ _ _ _ hc q=>mul_int q hc.ok
theorem op_fdiv:OpR X (binaryOp .FloorDiv) (rI CDiv fun i j=>.int (i / j)):=opI fun i j _ _ _ _ _ hc q=>by
  have h1:(0:Int)<j:=hc.1
  have h2:j<1073741824:=hc.2
  exact floordiv_int (by omega) (by rw [Int.fdiv_eq_ediv_of_nonneg i (by omega)]; exact q) (.inl (PyProof.noPylong_small (by omega)))
theorem op_mod:OpR X (binaryOp .Mod) (rI (fun _ j=>0<j) fun i j=>.int (i % j)):=opI fun i j _ _ _ _ _ hc q=>by
  have h1:(0:Int)<j:=hc
  exact mod_int' (by omega) (by rw [Int.fmod_eq_emod_of_nonneg i (by omega)]; exact q)
theorem op_pow:OpR X (binaryOp .Pow) (rI CPow fun i j=>.int (i ^ j.toNat)):=opI fun _ _ _ _ _ _ _ hc q=>pow_int_small hc.1 hc.2.1 hc.2.2 q
theorem unI {f:Value→Sem Value} {g:Int→Int}
    (rule:∀ (i:Int) (t:Tok) (s:Shared) (Q:Value→Shared→Prop) (E:Value→Shared→Prop),Q (.int (g i) s.toks) { s with toks:=s.toks+1 }→wpAny (model X.prog X.w) X.A (f (.int i t)) Q E s) :
    UnR X f (rU fun i=>.int (g i)):=by
  intro pins s σ H x v Q I rx h
  obtain ⟨i,rfl,q⟩:=h
  obtain ⟨t,rfl⟩:=rx
  exact rule i t s _ _ ⟨.int (g i),H,I.tok _,⟨_,rfl⟩,q⟩
theorem un_neg:UnR X (unaryOp .USub) (rU fun i=>.int (-i)):=unI fun _ _ _ _ _ q=>neg_int q
end
def scal:V→V→Bool
  | .non,.non=>true | .non,.int _=>true | .int _,.non=>true | .non,.bl _=>true | .bl _,.non=>true | .non,.str _=>true | .str _,.non=>true
  | .int _,.int _=>true | .bl _,.bl _=>true | .str _,.str _=>true | .byt _,.byt _=>true
  | .int _,.str _=>true | .str _,.int _=>true | .bl _,.str _=>true | .str _,.bl _=>true
  | _,_=>false
def rEq:R2:=fun x y H Q=>scal x y=true∧Q (.bl (decide (x=y))) H
def rNe:R2:=fun x y H Q=>scal x y=true∧Q (.bl (!decide (x=y))) H
theorem dec_int {i j:Int}:decide (V.int i=V.int j)=(i == j):=by
  rw [Bool.eq_iff_iff]
  simp
theorem dec_bl {i j:Bool}:decide (V.bl i=V.bl j)=(i == j):=by
  rw [Bool.eq_iff_iff]
  simp
theorem dec_str {i j:Str}:decide (V.str i=V.str j)=(i == j):=by
  rw [Bool.eq_iff_iff]
  simp
theorem dec_byt {i j:Array UInt8}:decide (V.byt i=V.byt j)=(i.toList == j.toList):=by
  rw [Bool.eq_iff_iff]
  cases i
  cases j
  simp
section
variable {X:Cx} {a b c:Expr} {ta tb tc:TE} {pos:Pos}
theorem fin_bl {pins:List (Addr×Obj)} {σ:St} {H:Hp} {s:Shared} {Q:VK} {k k':Bool} (I:Inv X pins σ H s) (q:Q (.bl k) H) (e:k=k'):EP X pins σ Q (.bool k') s:=by
  subst e
  exact ⟨.bl k,H,I,rfl,q⟩
theorem op_eq:OpR X (compareOp .Eq) rEq:=by
  intro pins s σ H x y v u Q I rx ry h
  obtain ⟨hs,q⟩:=h
  cases x with
  | non =>
    cases rx
    cases y with
    | non=>cases ry; exact PySem.EqNone.eq_none_none (fin_bl I q (by simp))
    | bl j=>cases ry; exact PySem.EqNone.eq_none_bool (fin_bl I q (by simp))
    | int j=>obtain ⟨t',rfl⟩:=ry; exact PySem.EqNone.eq_none_int (fin_bl I q (by simp))
    | str j=>obtain ⟨t',rfl⟩:=ry; exact PySem.EqNone.eq_none_str (fin_bl I q (by simp))
    | _=>exact absurd (show false=true from hs) Bool.false_ne_true
  | bl i =>
    cases rx
    cases y with
    | non=>cases ry; exact PySem.EqNone.eq_bool_none (fin_bl I q (by simp))
    | bl j=>cases ry; exact eq_bool (fin_bl I q dec_bl)
    | str j=>obtain ⟨t',rfl⟩:=ry; exact PySem.EqMixed.eq_bool_str (fin_bl I q (by simp))
    | _=>exact absurd (show false=true from hs) Bool.false_ne_true
  | int i =>
    obtain ⟨t,rfl⟩:=rx
    cases y with
    | non=>cases ry; exact PySem.EqNone.eq_int_none (fin_bl I q (by simp))
    | int j=>obtain ⟨t',rfl⟩:=ry; exact eq_int (fin_bl I q dec_int)
    | str j=>obtain ⟨t',rfl⟩:=ry; exact PySem.EqMixed.eq_int_str (fin_bl I q (by simp))
    | _=>exact absurd (show false=true from hs) Bool.false_ne_true
  | str i =>
    obtain ⟨t,rfl⟩:=rx
    cases y with
    | non=>cases ry; exact PySem.EqNone.eq_str_none (fin_bl I q (by simp))
    | bl j=>cases ry; exact PySem.EqMixed.eq_str_bool (fin_bl I q (by simp))
    | int j=>obtain ⟨t',rfl⟩:=ry; exact PySem.EqMixed.eq_str_int (fin_bl I q (by simp))
    | str j=>obtain ⟨t',rfl⟩:=ry; exact eq_str (fin_bl I q dec_str)
    | _=>exact absurd (show false=true from hs) Bool.false_ne_true
  | byt i =>
    obtain ⟨t,rfl⟩:=rx
    cases y with
    | byt j=>obtain ⟨t',rfl⟩:=ry; exact PySem.W.eq_bytes (fin_bl I q dec_byt)
    | _=>exact absurd (show false=true from hs) Bool.false_ne_true
  | _=>cases y <;> exact absurd (show false=true from hs) Bool.false_ne_true
theorem op_ne:OpR X (compareOp .NotEq) rNe:=by
  intro pins s σ H x y v u Q I rx ry h
  obtain ⟨hs,q⟩:=h
  cases x with
  | non =>
    cases rx
    cases y with
    | non=>cases ry; exact PySem.EqNone.ne_none_none (fin_bl I q (by simp))
    | bl j=>cases ry; exact PySem.EqNone.ne_none_bool (fin_bl I q (by simp))
    | int j=>obtain ⟨t',rfl⟩:=ry; exact PySem.EqNone.ne_none_int (fin_bl I q (by simp))
    | str j=>obtain ⟨t',rfl⟩:=ry; exact PySem.EqNone.ne_none_str (fin_bl I q (by simp))
    | _=>exact absurd (show false=true from hs) Bool.false_ne_true
  | bl i =>
    cases rx
    cases y with
    | non=>cases ry; exact PySem.EqNone.ne_bool_none (fin_bl I q (by simp))
    | bl j=>cases ry; exact ne_bool (fin_bl I q (congrArg not dec_bl))
    | str j=>obtain ⟨t',rfl⟩:=ry; exact PySem.EqMixed.ne_bool_str (fin_bl I q (by simp))
    | _=>exact absurd (show false=true from hs) Bool.false_ne_true
  | int i =>
    obtain ⟨t,rfl⟩:=rx
    cases y with
    | non=>cases ry; exact PySem.EqNone.ne_int_none (fin_bl I q (by simp))
    | int j=>obtain ⟨t',rfl⟩:=ry; exact ne_int (fin_bl I q (congrArg not dec_int))
    | str j=>obtain ⟨t',rfl⟩:=ry; exact PySem.EqMixed.ne_int_str (fin_bl I q (by simp))
    | _=>exact absurd (show false=true from hs) Bool.false_ne_true
  | str i =>
    obtain ⟨t,rfl⟩:=rx
    cases y with
    | non=>cases ry; exact PySem.EqNone.ne_str_none (fin_bl I q (by simp))
    | bl j=>cases ry; exact PySem.EqMixed.ne_str_bool (fin_bl I q (by simp))
    | int j=>obtain ⟨t',rfl⟩:=ry; exact PySem.EqMixed.ne_str_int (fin_bl I q (by simp))
    | str j=>obtain ⟨t',rfl⟩:=ry; exact ne_str (fin_bl I q (congrArg not dec_str))
    | _=>exact absurd (show false=true from hs) Bool.false_ne_true
  | byt i =>
    obtain ⟨t,rfl⟩:=rx
    cases y with
    | byt j=>obtain ⟨t',rfl⟩:=ry; exact PySem.W.ne_bytes (fin_bl I q (congrArg not dec_byt))
    | _=>exact absurd (show false=true from hs) Bool.false_ne_true
  | _=>cases y <;> exact absurd (show false=true from hs) Bool.false_ne_true
theorem op_lt:OpR X (compareOp .Lt) (rI0 fun i j=>.bl (decide (i<j))):=opB0 fun _ _ _ _ _ _ _ q=>lt_int q
theorem op_gt:OpR X (compareOp .Gt) (rI0 fun i j=>.bl (decide (j<i))):=opB0 fun _ _ _ _ _ _ _ q=>gt_int q
theorem op_ge:OpR X (compareOp .GtE) (rI0 fun i j=>.bl (decide (j≤i))):=opB0 fun _ _ _ _ _ _ _ q=>ge_int q
theorem nomark (b:Expr) {op:CmpOp} (h:op≠.In:=by decide) (h2:op≠.NotIn:=by decide):behindInMarks op b=false:=by
  have e1:(op == CmpOp.In)=false:=by cases op <;> first | rfl | exact absurd rfl h
  have e2:(op == CmpOp.NotIn)=false:=by cases op <;> first | rfl | exact absurd rfl h2
  cases b <;> simp [behindInMarks,e1,e2]
theorem pe_cmpR {op:CmpOp} {r:R2} (ho:OpR X (compareOp op) r) (ha:PE X a ta) (hb:PE X b tb) (hm:behindInMarks op b=false):PE X (.Compare a [op] [b] pos) (tOp r ta tb):=by
  intro pins s σ H Q I h
  exact wpAny_Compare1 (binT ha hb I h fun v u s2 x y H2 I2 rx ry q=>ho pins s2 σ H2 x y v u Q I2 rx ry q) hm
def tTest (t:TE):TT:=fun σ H Q=>t σ H fun x H'=>∃ k,x=.bl k∧Q k H'
theorem pt_cmpR {op:CmpOp} {r:R2} (ho:OpR X (compareOp op) r) (ha:PE X a ta) (hb:PE X b tb) (hm:behindInMarks op b=false):PT X (.Compare a [op] [b] pos) (tTest (tOp r ta tb)):=by
  intro pins s σ H Q I h
  refine wpAny_isTrue_Compare1 (thn (ha pins s σ H _ I h) fun v s1 ⟨x,H1,I1,r1,q1⟩=>thn (hb pins s1 σ H1 _ I1 q1) fun u s2 ⟨y,H2,I2,r2,q2⟩ =>
    thn (ho pins s2 σ H2 x y v u _ I2 r1 r2 q2) fun c s3 ⟨z,H3,I3,r3,k,e,q3⟩=>?_) hm
  subst e
  cases r3
  exact wpAny_truthy_bool ⟨H3,I3,q3⟩
theorem line63:(sizeLine:Nat)<2 ^ 63:=by rw [sizeLine_eq]; decide
theorem vals1 {x:V} {us:List Value} (r:Vals [x] us):∃ u,us=[u]∧RelV x u:=by
  cases r with
  | cons r1 r2=>cases r2; exact ⟨_,rfl,r1⟩
theorem vals2 {x y:V} {us:List Value} (r:Vals [x,y] us):∃ u w',us=[u,w']∧RelV x u∧RelV y w':=by
  cases r with
  | cons r1 r2 =>
    cases r2 with
    | cons r3 r4=>cases r4; exact ⟨_,_,rfl,r1,r3⟩
theorem call_abs:CallR X (.builtin "abs") (fun xs H Q=>∃ i,xs=[.int i]∧Q (.int (if i<0 then -i else i)) H):=by
  intro pins s σ H xs us Q I r h
  obtain ⟨i,rfl,q⟩:=h
  obtain ⟨u,rfl,t,rfl⟩:=vals1 r
  exact call_abs_int fun u tk=>⟨.int (if i<0 then -i else i),H,I.tok _,⟨_,rfl⟩,q⟩
theorem call_max2 (hc:X.calm=true):CallR X (.builtin "max") (fun xs H Q=>∃ i j,xs=[.int i,.int j]∧Q (.int (if j > i then j else i)) H):=by
  intro pins s σ H xs us Q I r h
  obtain ⟨i,j,rfl,q⟩:=h
  obtain ⟨u,w',rfl,⟨t,rfl⟩,⟨t',rfl⟩⟩:=vals2 r
  refine max_two_ints (I.ok.hd hc) fun h' tk k=>⟨_,H,I.kept k,?_,q⟩
  by_cases hj:j > i
  · rw [if_pos hj,if_pos hj]; exact ⟨_,rfl⟩
  · rw [if_neg hj,if_neg hj]; exact ⟨_,rfl⟩
theorem call_min2 (hc:X.calm=true):CallR X (.builtin "min") (fun xs H Q=>∃ i j,xs=[.int i,.int j]∧Q (.int (if j<i then j else i)) H):=by
  intro pins s σ H xs us Q I r h
  obtain ⟨i,j,rfl,q⟩:=h
  obtain ⟨u,w',rfl,⟨t,rfl⟩,⟨t',rfl⟩⟩:=vals2 r
  refine min_two_ints (I.ok.hd hc) fun h' tk k=>⟨_,H,I.kept k,?_,q⟩
  by_cases hj:j<i
  · rw [if_pos hj,if_pos hj]; exact ⟨_,rfl⟩
  · rw [if_neg hj,if_neg hj]; exact ⟨_,rfl⟩
theorem call_int1:CallR X (.type "int") (fun xs H Q=>(∃ i,xs=[.int i]∧Q (.int i) H)∨∃ k,xs=[.bl k]∧Q (.int (if k then 1 else 0)) H):=by
  intro pins s σ H xs us Q I r h
  rcases h with ⟨i,rfl,q⟩ | ⟨k,rfl,q⟩
  · obtain ⟨u,rfl,t,rfl⟩:=vals1 r
    exact call_int_int ⟨.int i,H,I,⟨_,rfl⟩,q⟩
  · obtain ⟨u,rfl,r1⟩:=vals1 r
    cases r1
    exact call_int_bool ⟨.int (if k then 1 else 0),H,I.tok _,⟨_,rfl⟩,q⟩
theorem call_divmod:CallR X (.builtin "divmod") (fun xs H Q=>∃ i j,xs=[.int i,.int j]∧CDiv i j∧∀ p,H p=none→Q (.ref p) (upd H p (.tup [.int (i / j),.int (i % j)]))):=by
  intro pins s σ H xs us Q I r h
  obtain ⟨i,j,rfl,⟨h1,h2⟩,q⟩:=h
  obtain ⟨u,w',rfl,⟨t,rfl⟩,⟨t',rfl⟩⟩:=vals2 r
  refine divmod_int (by omega) ?_ (.inl (PyProof.noPylong_small (by omega)))
  rw [Int.fdiv_eq_ediv_of_nonneg i (by omega),Int.fmod_eq_emod_of_nonneg i (by omega)]
  have hn:H s.heap.objs.size=none:=I.hok.fresh (Nat.le_refl _)
  refine ⟨.ref s.heap.objs.size,_,?_,rfl,q _ hn⟩
  refine I.laid (fun b o e=>Heap.get?_push_of_some _ e) (Nat.le_refl _) ⟨by simp only [List.length_cons,List.length_nil]; rw [sizeLine_eq]; decide,[.int (i / j) s.toks,.int (i % j) (s.toks+1)],.cons ⟨_,rfl⟩ (.cons ⟨_,rfl⟩ .nil),?_⟩
  exact ⟨_,Heap.get?_push_size s.heap rfl,rfl,0,rfl⟩
end
end L2
namespace L2
open PySem PySem.Spec PyProof.Rows
structure ObjM (h:Heap) (x dx C:Addr) (mA:Str→Option Value):Prop where
  obj:h.get? x=some (PySem.W.instObj C dx)
  ns:h.Ns1 dx mA
  ne:dx≠x
theorem lookIn_ns {h:Heap} {dx:Addr} {mA:Str→Option Value} (n:h.Ns1 dx mA):∃ od,h.get? dx=some od∧∀ name,PySem.W.lookIn name od=some (mA name):=by
  obtain ⟨o,es,ep,ho,hd,hk,_,hm⟩:=n
  refine ⟨o,ho,fun name=>?_⟩
  have e:=hm name
  unfold nsFind findBy at e
  rw [← Array.find?_toList] at e
  unfold PySem.W.lookIn
  rw [hd]
  dsimp only
  split
  · rename_i y q
    rw [q] at e
    exact congrArg some e
  · rename_i q
    rw [q] at e
    have a:es.toList.any (·.refKey)=false:=by
      rw [List.any_eq_false]
      intro y hy
      obtain ⟨z,t,hkey⟩:=hk y (Array.mem_toList_iff.mp hy)
      simp [DictEntry.refKey,hkey]
    have a':¬ es.toList.any (·.refKey)=true:=by rw [a]; exact Bool.false_ne_true
    rw [if_neg a']
    exact congrArg some e
theorem ObjM.look {h:Heap} {x dx C:Addr} {mA:Str→Option Value} (I:ObjM h x dx C mA):∃ od,PySem.W.InstAt h x (PySem.W.instObj C dx) C (some od)∧∀ name,PySem.W.lookIn name od=some (mA name) :=
  let ⟨od,ho,hl⟩:=lookIn_ns I.ns
  ⟨od,⟨I.obj,rfl,rfl,ho⟩,hl⟩
section
variable {prog:Program} {w:World} {A:Around} {E:Value→Shared→Prop} {s:Shared} {K:PySem.W.Frag} {x dx C f:Addr} {mA:Str→Option Value} {name:Str} {v:Value}
theorem get_map {expr:Bool} {Q:Value→Shared→Prop} (X:K.In s.heap) (I:ObjM s.heap x dx C mA) (hg:PySem.W.plainGet K C name=true) (hh:PySem.W.hasDictIn K C=true)
    (ha:PySem.W.findIn K (.ref C) name=some none) (hv:mA name=some v) (hv':PySem.W.handedIn v=true) (h:Q v { s with toks:=s.toks+1 }) :
    wpAny (model prog w) A (getAttr (.ref x) name expr) Q E s:=by
  obtain ⟨od,J,hl⟩:=I.look
  exact PySem.W.get_value X J (PySem.W.plainGet_of hg).1 (PySem.W.findObj_own hh ha rfl (by rw [hl,hv])) hv' h
theorem get_meth {pl:Sem Bool} {Q:Value×List Value→Shared→Prop} (X:K.In s.heap) (I:ObjM s.heap x dx C mA) (hg:PySem.W.plainGet K C name=true)
    (hf:PySem.W.findIn K (.ref C) name=some (some (.ref f))) (ht:PySem.W.isFn K (.ref f)=true) (hv:mA name=none) (h:Q (.ref f,[.ref x]) s) :
    wpAny (model prog w) A (getMethod (.ref x) name pl) Q E s:=by
  obtain ⟨od,J,hl⟩:=I.look
  exact PySem.W.method_fn X J (PySem.W.plainGet_of hg).1 (PySem.W.plainGet_of hg).2 hf (beq_iff_eq.mp ht) (by show (PySem.W.lookIn name od).map (·.isSome)=some false; rw [hl,hv]; rfl) h
theorem set_map {ns:List Str} {Q:Unit→Shared→Prop} (X:K.In s.heap) (I:ObjM s.heap x dx C mA)
    (hs:PySem.W.findIn K (.ref C) "__setattr__" = some (some (.builtin "object.__setattr__"))) (hp:PySem.W.plainOver K C=true) (ht:PySem.W.takerIn K C name=some none) (hh:PySem.W.hasDictIn K C=true)
    (hw:PySem.Within mA ns) (hsz:ns.length≤sizeLine)
    (h:∀ h',ObjM h' x dx C (fun y=>if y=name then some v else mA y)→Heap.SameBut dx s.heap h'→Q () { s with heap:=h',toks:=s.toks+2 }) :
    wpAny (model prog w) A (setAttr (.ref x) name v) Q E s:=by
  obtain ⟨od,J,hl⟩:=I.look
  refine PySem.W.set_plain X J hs (PySem.W.osa_open (s:={ s with toks:=s.toks+1 }) (r:=none) X J hp ht fun b=>?_)
  obtain ⟨cd,hc,hd'⟩:=PySem.W.any_some hh
  have hx:s.heap.get? x=some ⟨.ref C,some dx,.plain,#[]⟩:=I.obj
  refine wpAny_bind (wpAny_pure (wpAny_bind (wpAny_bind (wpAny_loadPart hx (wpAny_bind (PySem.W.Looks.here (s:={ s with toks:=s.toks+1 }) (PySem.W.looks_clsIn X hc) ?_))))))
  rw [hd']
  refine wpAny_pure (a:=some dx) (wpAny_bind (wpAny_pure (wpAny_bind ?_)))
  refine wpAny_nsSet1 (s:={ s with toks:=s.toks+1 }) I.ns fun h' hn2 hs2=>?_
  obtain ⟨oD,esD,epD,hoD,hdD,hcD⟩:=hn2.count (PySem.Within.cons name v hw)
  refine wpAny_bind (wpAny_lookBehind hoD (by rw [hdD]; exact pastItsLine_dict (Nat.le_trans hcD (by rw [List.length_cons]; omega))) ?_)
  exact wpAny_pure (h _ ⟨(hs2.2 _ (Ne.symm I.ne)).trans I.obj,hn2,I.ne⟩ hs2)
theorem make_map {R:Result→Shared→Prop} {vs:List Value} {kw:List (Str×Value)} (X:K.In s.heap) (hm:PySem.W.makesIn K C=true)
    (hi:PySem.W.findIn K (.ref C) "__init__" = some (some (.ref f))) (hf:PySem.W.typeIn K (.ref f)=some (.type "function"))
    (h:codeAny (model prog w) (A.under (.builtin "type.__call__" ⟨.ref C :: vs,kw⟩)) (.call (.ref f) ⟨.ref (s.heap.objs.size+1) :: vs,kw⟩) (PySem.W.InitBack (s.heap.objs.size+1) R)
      { s with heap:=(s.heap.push PySem.W.emptyDict).push (PySem.W.instObj C s.heap.objs.size) }) :
    codeAny (model prog w) A (.call (.ref C) ⟨vs,kw⟩) R s:=by
  obtain ⟨hh,g,d,t,os⟩:=s
  exact PySem.W.make_core (PySem.W.makes_of X hm) (PySem.W.looks_findIn X hi) (fun self=>PySem.W.bind_fn X self hf) (.inl rfl) h
end
def putF (f:Str) (v:V):List (Str×V)→List (Str×V)
  | []=>[(f,v)]
  | (g,x) :: r=>if g=f then (g,v) :: r else (g,x) :: putF f v r
theorem lookup_putF (f g:Str) (v:V):∀ fs:List (Str×V),(putF f v fs).lookup g=if g=f then some v else fs.lookup g
  | []=>by
    show List.lookup g [(f,v)]=_
    by_cases h:g=f
    · have hb:(g == f)=true:=beq_iff_eq.mpr h
      simp only [List.lookup,hb,if_pos h]
    · have hb:(g == f)=false:=beq_eq_false_iff_ne.mpr h
      simp only [List.lookup,hb,if_neg h]
  | (k,x) :: r=>by
    have ih:=lookup_putF f g v r
    rw [show putF f v ((k,x) :: r)=(if k=f then (k,v) :: r else (k,x) :: putF f v r) from rfl]
    by_cases hk:k=f
    · rw [if_pos hk]
      by_cases h:g=k
      · have hb:(g == k)=true:=beq_iff_eq.mpr h
        simp only [List.lookup,hb,if_pos (h.trans hk)]
      · have hb:(g == k)=false:=beq_eq_false_iff_ne.mpr h
        simp only [List.lookup,hb,if_neg (fun e:g=f=>h (e.trans hk.symm))]
    · rw [if_neg hk]
      by_cases h:g=k
      · have hb:(g == k)=true:=beq_iff_eq.mpr h
        simp only [List.lookup,hb,if_neg (fun e:g=f=>hk (h.symm.trans e))]
      · have hb:(g == k)=false:=beq_eq_false_iff_ne.mpr h
        simp only [List.lookup,hb]
        exact ih
theorem keys_putF (f:Str) (v:V):∀ fs:List (Str×V),f∈(putF f v fs).map (·.1)∧∀ g,g∈fs.map (·.1)→g∈(putF f v fs).map (·.1)
  | []=>⟨by simp [putF],fun g h=>by simp at h⟩
  | (k,x) :: r=>by
    obtain ⟨i1,i2⟩:=keys_putF f v r
    rw [show putF f v ((k,x) :: r)=(if k=f then (k,v) :: r else (k,x) :: putF f v r) from rfl]
    by_cases hk:k=f
    · rw [if_pos hk]
      subst hk
      exact ⟨by simp,fun g h=>by simpa using h⟩
    · rw [if_neg hk]
      refine ⟨?_,fun g h=>?_⟩
      · rw [List.map_cons]
        exact List.mem_cons_of_mem _ i1
      · rw [List.map_cons] at h ⊢
        rcases List.mem_cons.mp h with e | e
        · exact List.mem_cons.mpr (.inl e)
        · exact List.mem_cons_of_mem _ (i2 g e)
theorem length_putF (f:Str) (v:V):∀ fs:List (Str×V),(putF f v fs).length≤fs.length+1
  | []=>by simp [putF]
  | (k,x) :: r=>by
    have ih:=length_putF f v r
    rw [show putF f v ((k,x) :: r)=(if k=f then (k,v) :: r else (k,x) :: putF f v r) from rfl]
    by_cases hk:k=f
    · rw [if_pos hk,List.length_cons,List.length_cons]; omega
    · rw [if_neg hk,List.length_cons,List.length_cons]; omega
theorem RelO.some_of {v:V} {o:Option Value} (r:RelO (some v) o):∃ u,o=some u∧RelV v u:=by
  cases o with
  | none=>exact (show False from r).elim
  | some u=>exact ⟨u,rfl,r⟩
theorem RelO.none_of {o:Option Value} (r:RelO none o):o=none:=by
  cases o with
  | none=>rfl
  | some u=>exact (show False from r).elim
theorem handed_of {v:V} {u:Value} (r:RelV v u):PySem.W.handedIn u=true:=by
  cases v with
  | non=>cases (show u=Value.none from r); rfl
  | bl b=>cases (show u=Value.bool b from r); rfl
  | int i=>obtain ⟨t,e⟩:=(show ∃ t,u=Value.int i t from r); cases e; rfl
  | str x=>obtain ⟨t,e⟩:=(show ∃ t,u=Value.str x t from r); cases e; rfl
  | byt b=>obtain ⟨t,e⟩:=(show ∃ t,u=Value.bytes b t from r); cases e; rfl
  | flt b=>obtain ⟨t,e⟩:=(show ∃ t,u=Value.float b t from r); cases e; rfl
  | ref a=>cases (show u=Value.ref a from r); rfl
  | ty n=>cases (show u=Value.type n from r); rfl
section
variable {P:Program} {w:World} {H H':Hp} {h h':Heap} {a C dx:Addr} {fs fs':List (Str×V)}
theorem ins_get (hok:HOk P w H h) (e:H a=some (.ins C dx fs)):∃ mA,ObjM h a dx C mA∧(∀ f,RelO (fs.lookup f) (mA f))∧PySem.Within mA (fs.map (·.1))∧fs.length≤1000∧H dx=some (.own a):=by
  obtain ⟨d,z,ne,ob,mA,n,r,q⟩:=(show ObjOk P w H h a (.ins C dx fs) from hok a _ e)
  exact ⟨mA,⟨ob,n,ne⟩,r,q,z,d⟩
end
structure Cls (K:PySem.W.Frag) (C:Addr):Prop where
  pg:PySem.W.plainGet K C Str.empty=true
  hd:PySem.W.hasDictIn K C=true
  po:PySem.W.plainOver K C=true
  sa:PySem.W.findIn K (.ref C) "__setattr__" = some (some (.builtin "object.__setattr__"))
theorem Cls.get {K:PySem.W.Frag} {C:Addr} (c:Cls K C) (f:Str):PySem.W.plainGet K C f=true:=c.pg
def NoAttr (K:PySem.W.Frag) (C:Addr) (f:Str):Prop:=PySem.W.findIn K (.ref C) f=some none
theorem NoAttr.taker {K:PySem.W.Frag} {C:Addr} {f:Str} (n:NoAttr K C f):PySem.W.takerIn K C f=some none:=by
  unfold PySem.W.takerIn
  rw [show PySem.W.findIn K (.ref C) f=some none from n]
  rfl
structure Meth (K:PySem.W.Frag) (C:Addr) (m:Str) (f:Addr):Prop where
  at_:PySem.W.findIn K (.ref C) m=some (some (.ref f))
  fn:PySem.W.isFn K (.ref f)=true
  kp:PySem.W.keepIn K (.ref f)=true
section
variable {X:Cx} {pins:List (Addr×Obj)} {σ:St} {H:Hp} {s:Shared} {a C dx:Addr} {fs:List (Str×V)} {f:Str} {v:V} {A:Around} {E:Value→Shared→Prop}
theorem getattr_ok {b:Bool} {Q:Value→Shared→Prop} (I:Inv X pins σ H s) (e:H a=some (.ins C dx fs)) (c:Cls X.K C) (n:NoAttr X.K C f) (l:fs.lookup f=some v)
    (h:∀ u s',Inv X pins σ H s'→RelV v u→Q u s'):wpAny (model X.prog X.w) A (getAttr (.ref a) f b) Q E s:=by
  obtain ⟨mA,O,r,_,_,_⟩:=ins_get I.hok e
  obtain ⟨u,hu,ru⟩:=RelO.some_of (v:=v) (o:=mA f) (by rw [← l]; exact r f)
  exact get_map I.kIn O (c.get f) c.hd n hu (handed_of ru) (h u _ (I.tok _) ru)
theorem getmeth_ok {m:Str} {g:Addr} {pl:Sem Bool} {Q:Value×List Value→Shared→Prop} (I:Inv X pins σ H s) (e:H a=some (.ins C dx fs)) (c:Cls X.K C) (k:Meth X.K C m g) (l:fs.lookup m=none)
    (h:Q (.ref g,[.ref a]) s):wpAny (model X.prog X.w) A (getMethod (.ref a) m pl) Q E s:=by
  obtain ⟨mA,O,r,_,_,_⟩:=ins_get I.hok e
  have hn:mA m=none:=RelO.none_of (by rw [← l]; exact r m)
  exact get_meth I.kIn O (c.get m) k.at_ k.fn hn h
theorem setattr_ok {y:V} {u:Value} {Q:Unit→Shared→Prop} (I:Inv X pins σ H s) (e:H a=some (.ins C dx fs)) (c:Cls X.K C) (n:NoAttr X.K C f) (hl:fs.length<1000) (ry:RelV y u)
    (h:∀ s',Inv X pins σ (upd H a (.ins C dx (putF f y fs))) s'→Q () s'):wpAny (model X.prog X.w) A (setAttr (.ref a) f u) Q E s:=by
  obtain ⟨mA,O,r,wi,_,ho⟩:=ins_get I.hok e
  have hz:(fs.map (·.1)).length≤sizeLine:=by rw [List.length_map,sizeLine_eq]; omega
  refine set_map I.kIn O c.sa c.po n.taker c.hd wi hz fun h' O' sb=>h _ ?_
  have hd:∃ o,h'.get? dx=some o:=let ⟨o,_,_,e',_⟩:=O'.ns; ⟨o,e'⟩
  refine I.write (x:=a) (e:=dx) (by rw [e]; exact True.intro) (.inr ho) (fun b q hb z=>(sb.2 b hb).trans z) hd ?_
  refine ⟨by rw [upd_ne O.ne]; exact ho,?_,O.ne,O'.obj,_,O'.ns,fun g=>?_,fun g hg=>?_⟩
  · have:=length_putF f y fs; omega
  · show RelO ((putF f y fs).lookup g) (if g=f then some u else mA g)
    rw [lookup_putF]
    by_cases q:g=f
    · rw [if_pos q,if_pos q]; exact ry
    · rw [if_neg q,if_neg q]; exact r g
  · by_cases q:g=f
    · rw [q]; exact (keys_putF f y fs).1
    · refine (keys_putF f y fs).2 g (wi g fun z=>hg ?_)
      show (if g=f then some u else mA g)=none
      rw [if_neg q]; exact z
theorem Inv.made (I:Inv X pins σ H s):Inv X pins σ (upd (upd H s.heap.objs.size (.own (s.heap.objs.size+1))) (s.heap.objs.size+1) (.ins C s.heap.objs.size []))
    { s with heap:=(s.heap.push PySem.W.emptyDict).push (PySem.W.instObj C s.heap.objs.size) }:=by
  have e1:(s.heap.push PySem.W.emptyDict).get? s.heap.objs.size=some PySem.W.emptyDict:=Heap.get?_push_size s.heap rfl
  have e2:((s.heap.push PySem.W.emptyDict).push (PySem.W.instObj C s.heap.objs.size)).get? (s.heap.objs.size+1)=some (PySem.W.instObj C s.heap.objs.size):=by
    have:=Heap.get?_push_size (s.heap.push PySem.W.emptyDict) (o:=PySem.W.instObj C s.heap.objs.size) rfl
    rwa [Heap.size_push] at this
  have e3:(s.heap.push PySem.W.emptyDict).Ns s.heap.objs.size (fun _=>none):=⟨PySem.W.emptyDict,#[],_,e1,rfl,(fun e he=>absurd he (by simp)),fun _=>rfl⟩
  have I1:=I.laid (a:=s.heap.objs.size) (o:=.own (s.heap.objs.size+1)) (h':=s.heap.push PySem.W.emptyDict) (t':=s.toks) (fun b u q=>Heap.get?_push_of_some _ q) (Nat.le_refl _) ⟨_,e1⟩
  refine I1.laid (a:=s.heap.objs.size+1) (o:=.ins C s.heap.objs.size []) (t':=s.toks) (fun b u q=>Heap.get?_push_of_some _ q) (Nat.le_of_eq (Heap.size_push _ _)) ?_
  have ne:s.heap.objs.size≠s.heap.objs.size+1:=Nat.ne_of_lt (Nat.lt_succ_self _)
  refine ⟨by rw [upd_ne ne,upd_same],Nat.zero_le _,ne,e2,fun _=>none,(Heap.Ns1.of_empty e3).at fun o q=>Heap.get?_push_of_some _ q,fun _=>True.intro,fun y hy=>absurd rfl hy⟩
theorem attr_of {prog:Program} {w:World} {env:Env} {e:Expr} {f:Str} {pos:Pos} {s:Shared} {Q:Value→Shared→Prop} (hb:attributeBase e f env (eval e env)=eval e env)
    (h:wpAny (model prog w) A (eval e env) (fun o s₁=>wpAny (model prog w) A (getAttr o f true) Q E s₁) E s):wpAny (model prog w) A (eval (.Attribute e f pos) env) Q E s :=
  Attribute_any_ h (by rw [arm_eval_Attribute,hb])
end
def tFld (K:PySem.W.Frag) (ta:TE) (f:Str):TE:=fun σ H Q=>ta σ H fun x H1=>∃ a C dx fs v,x=.ref a∧H1 a=some (.ins C dx fs)∧Cls K C∧NoAttr K C f∧fs.lookup f=some v∧Q v H1
def sFld (K:PySem.W.Frag) (ta tv:TE) (f:Str):TS:=fun D σ H=>tv σ H fun y H1=>ta σ H1 fun x H2=>∃ a C dx fs,x=.ref a∧H2 a=some (.ins C dx fs)∧Cls K C∧NoAttr K C f∧fs.length<1000 ∧
  D.nx σ (upd H2 a (.ins C dx (putF f y fs)))
def InOp (X:Cx) (op:Operator) (rd:V→V→Hp→VK→Prop):Prop :=
  ∀ (pins:List (Addr×Obj)) (s:Shared) (σ:St) (H:Hp) (x y:V) (u v:Value) (Q:VK),Inv X pins σ H s→RelV x u→RelV y v→rd x y H Q→wpAny (model X.prog X.w) X.A (inplaceOp op u v) (EP X pins σ Q) X.xe s
section
variable {X:Cx} {o e value:Expr} {f:Str} {pos pos' tpos:Pos} {ta tv:TE}
theorem pe_fld (he:PE X e ta) (hb:attributeBase e f X.env (eval e X.env)=eval e X.env):PE X (.Attribute e f pos) (tFld X.K ta f):=by
  intro pins s σ H Q I h
  refine attr_of hb (thn (he pins s σ H _ I h) fun u s1 ⟨x,H1,I1,rx,a,C,dx,fs,v,ex,ea,c,n,l,q⟩=>?_)
  subst ex
  obtain rfl:u=Value.ref a:=rx
  exact getattr_ok I1 ea c n l fun u' s2 I2 ru=>⟨v,H1,I2,ru,q⟩
theorem ps_fld (ha:PE X o ta) (hv:PE X value tv) (hs:swapsWith value (some (.Attribute o f pos')) pos.line X.env=pure false):PS X (.Assign [.Attribute o f pos'] value pos) (sFld X.K ta tv f):=by
  intro pins s σ H D I h
  refine plainObj_wpAny_Assign_Attribute (thn (hv pins s σ H _ I h) fun u s1 ⟨y,H1,I1,ry,q⟩=>thn (ha pins s1 σ H1 _ I1 q) fun ov s2 ⟨x,H2,I2,rx,a,C,dx,fs,ex,ea,c,n,l,q2⟩=>?_) hs
  subst ex
  obtain rfl:ov=Value.ref a:=rx
  exact setattr_ok I2 ea c n l ry fun s3 I3=>⟨σ,_,I3,q2⟩
def rAdd:V→V→Hp→VK→Prop:=fun x y H Q=>∃ i j,x=.int i∧y=.int j∧Q (.int (i+j)) H
theorem in_add:InOp X .Add rAdd:=by
  rintro pins s σ H x y u v Q I rx ry ⟨i,j,rfl,rfl,q⟩
  obtain ⟨t,rfl⟩:=(show ∃ t,u=Value.int i t from rx)
  obtain ⟨t',rfl⟩:=(show ∃ t',v=Value.int j t' from ry)
  exact PyProof.Rows.iadd_int ⟨.int (i+j),H,I.tok _,⟨_,rfl⟩,q⟩
end
section
variable {X:Cx} {pins:List (Addr×Obj)} {σ:St} {H:Hp} {s:Shared} {A:Around} {E:Value→Shared→Prop} {Q:Value→Shared→Prop} {c:Value} {b:Bool}
inductive TyOf (K:PySem.W.Frag) (H:Hp):V→Value→Prop where
  | non:TyOf K H .non (.type "NoneType")
  | bl (x:Bool):TyOf K H (.bl x) (.type "bool")
  | int (i:Int):TyOf K H (.int i) (.type "int")
  | str (x:Str):TyOf K H (.str x) (.type "str")
  | flt (x:UInt64):TyOf K H (.flt x) (.type "float")
  | lst {a:Addr} {xs:List V} (e:H a=some (.lst xs)):TyOf K H (.ref a) (.type "list")
  | frz {a:Addr} {o:Obj} {xs:List V} (e:H a=some (.frz o (.lst xs))):TyOf K H (.ref a) (.type "list")
  | tup {a:Addr} {xs:List V} (e:H a=some (.tup xs)):TyOf K H (.ref a) (.type "tuple")
  | dK {a:Addr} {kvs:List (Key×V)} (e:H a=some (.dK kvs)):TyOf K H (.ref a) (.type "dict")
  | dT {a:Addr} {kvs:List (List Key×V)} (e:H a=some (.dT kvs)):TyOf K H (.ref a) (.type "dict")
  | ins {a C dx:Addr} {fs:List (Str×V)} (e:H a=some (.ins C dx fs)) (cl:Cls K C) (ha:PySem.W.findIn K (.ref C) "__class__" = some (some (.builtin "object.__class__")))
      (hn:PySem.W.specialIn K (.builtin "object.__class__") "__get__" = some (some (.builtin "getset_descriptor.__get__"))) (htk:PySem.W.takesIn K (.builtin "object.__class__")=some true)
      (hm:PySem.W.mroIn K C (.type "object")=some true):TyOf K H (.ref a) (.ref C)
theorem isinst_ok {x:V} {u t:Value} (I:Inv X pins σ H s) (rx:RelV x u) (ty:TyOf X.K H x t) (e:PySem.W.kitOne X.K t c=some b) (h:∀ tk,Q (.bool b) { s with toks:=tk }) :
    wpAny (model X.prog X.w) A (call (.builtin "isinstance") [u,c]) Q E s:=by
  cases ty with
  | non=>cases (show u=Value.none from rx); exact PySem.W.kia_one PySem.W.kitx_none I.kIn True.intro e (fun z=>nomatch z) h
  | bl y=>cases (show u=Value.bool y from rx); exact PySem.W.kia_one PySem.W.kitx_bool I.kIn True.intro e (fun z=>nomatch z) h
  | int i=>obtain ⟨t,q⟩:=(show ∃ t,u=Value.int i t from rx); cases q; exact PySem.W.kia_one PySem.W.kitx_int I.kIn True.intro e (fun z=>nomatch z) h
  | str y=>obtain ⟨t,q⟩:=(show ∃ t,u=Value.str y t from rx); cases q; exact PySem.W.kia_one PySem.W.kitx_str I.kIn True.intro e (fun z=>nomatch z) h
  | flt y=>obtain ⟨t,q⟩:=(show ∃ t,u=Value.float y t from rx); cases q; exact PySem.W.kia_one PySem.W.kitx_float I.kIn True.intro e (fun z=>nomatch z) h
  | @lst a xs ea =>
    cases (show u=Value.ref a from rx)
    obtain ⟨_,_,n,_,h1⟩:=(show ObjOk X.prog X.w H s.heap a (.lst xs) from I.hok a _ ea)
    exact PySem.W.kia_one PySem.W.kitx_list I.kIn ⟨_,h1,rfl⟩ e (fun z=>nomatch z) h
  | @frz a ob xs ea =>
    cases (show u=Value.ref a from rx)
    obtain ⟨_,_,_,n,_,h1⟩:=(show ObjOk X.prog X.w H s.heap a (.frz ob (.lst xs)) from I.hok a _ ea)
    exact PySem.W.kia_one PySem.W.kitx_list I.kIn ⟨_,h1,rfl⟩ e (fun z=>nomatch z) h
  | @tup a xs ea =>
    cases (show u=Value.ref a from rx)
    obtain ⟨_,_,_,p⟩:=(show ObjOk X.prog X.w H s.heap a (.tup xs) from I.hok a _ ea)
    obtain ⟨o,h1,h2,_⟩:=p
    exact PySem.W.kia_one PySem.W.kitx_tuple I.kIn ⟨o,h1,h2⟩ e (fun z=>nomatch z) h
  | @dK a kvs ea =>
    cases (show u=Value.ref a from rx)
    obtain ⟨_,_,vs,_,p⟩:=(show ObjOk X.prog X.w H s.heap a (.dK kvs) from I.hok a _ ea)
    obtain ⟨o,es,ep,h1,h2,_⟩:=p
    exact PySem.W.kia_one PySem.W.kitx_dict I.kIn ⟨o,h1,h2.1⟩ e (fun z=>nomatch z) h
  | @dT a kvs ea =>
    cases (show u=Value.ref a from rx)
    obtain ⟨_,_,xs,_,o,es,ep,h1,h2,_⟩:=(show ObjOk X.prog X.w H s.heap a (.dT kvs) from I.hok a _ ea)
    exact PySem.W.kia_one PySem.W.kitx_dict I.kIn ⟨o,h1,h2.1⟩ e (fun z=>nomatch z) h
  | @ins a C dx fs ea cl ha hn htk hm =>
    cases (show u=Value.ref a from rx)
    obtain ⟨mA,O,_⟩:=ins_get I.hok ea
    obtain ⟨od,J,_⟩:=O.look
    exact PySem.W.kia_one (PySem.W.kitx_own (cl.get _) cl.hd ha hn htk hm) I.kIn J e (fun z=>nomatch z) h
end
end L2
namespace L2
open PySem PySem.Spec PyProof.Rows
structure Room (k:Nat) (A:Around):Prop where
  hd:A.handled=none
  dp:A.depth+3 * k+5<recursionLimit
  un:A.units+16 * k+200<cLine
  gd:A.guards=some []
theorem Room.mono {j k:Nat} {A:Around} (r:Room k A) (h:j≤k):Room j A:=⟨r.hd,by have:=r.dp; omega,by have:=r.un; omega,r.gd⟩
theorem Room.deeper {k:Nat} {A:Around} (r:Room (k+1) A) (env:Env):Room k (A.deeper env) :=
  ⟨r.hd,by have:=r.dp; show A.depth+1+3 * k+5<_; omega,by have:=r.un; show A.units+3+16 * k+200<_; omega,r.gd⟩
theorem make_depth {A:Around} {C:Addr} {us:List Value} {kw:List (Str×Value)}:(A.under (.builtin "type.__call__" ⟨.ref C :: us,kw⟩)).depth=A.depth+1:=by
  first | rfl | simp [Around.under,Code.weight,Code.isCreation,Code.isGuard,Code.isCaller,Code.frames,Code.isFrame,guardIds]
theorem make_units {A:Around} {C:Addr} {us:List Value} {kw:List (Str×Value)}:(A.under (.builtin "type.__call__" ⟨.ref C :: us,kw⟩)).units=A.units+1:=by
  first | rfl | simp [Around.under,Code.cUnits,Code.frames,Code.isFrame]
theorem Room.make {k:Nat} {A:Around} (r:Room (k+1) A) (C:Addr) (us:List Value) (kw:List (Str×Value)):Room k (A.under (.builtin "type.__call__" ⟨.ref C :: us,kw⟩)) :=
  ⟨r.hd,by have:=r.dp; rw [make_depth]; omega,by have:=r.un; rw [make_units]; omega,r.gd⟩
theorem Room.depth {k:Nat} {A:Around} (r:Room k A):A.depth<recursionLimit:=by have:=r.dp; omega
theorem Room.units {k:Nat} {A:Around} (r:Room k A):A.units+64<cLine:=by have:=r.un; omega
def tNil:TA:=fun _ H Q=>Q [] H
def tCons (ta:TE) (tr:TA):TA:=fun σ H Q=>ta σ H fun x H1=>tr σ H1 fun xs H2=>Q (x :: xs) H2
section
variable {X:Cx} {e:Expr} {es:List Expr} {te:TE} {t:TA} {pos:Pos}
theorem pa_nil:PA X [] tNil:=fun _ _ _ _ H Q I h=>Calls.spliced_nil ⟨[],H,I,.nil,h⟩
theorem pa_cons (ha:PE X e te) (hr:PA X es t) (hs:starEach (e :: es) X.env=(false,eval e X.env) :: starEach es X.env:=by rfl):PA X (e :: es) (tCons te t):=by
  intro pos pins s σ H Q I h
  rw [hs]
  show wpAny _ _ (spliced ((false,eval e X.env) :: backTo pos (starEach es X.env))) _ _ s
  refine Calls.spliced_cons (thn (ha pins s σ H _ I h) fun u s1 ⟨x,H1,I1,r1,q1⟩=>?_)
  exact thn (hr pos pins s1 σ H1 _ I1 q1) fun us s2 ⟨xs,H2,I2,r2,q2⟩=>⟨x :: xs,H2,I2,.cons r1 r2,q2⟩
def tTup (t:TA):TE:=fun σ H Q=>t σ H fun xs H1=>xs.length≤sizeLine∧∀ p,H1 p=none→Q (.ref p) (upd H1 p (.tup xs))
def tLst (t:TA):TE:=fun σ H Q=>t σ H fun xs H1=>xs.length≤sizeLine∧∀ p,H1 p=none→Q (.ref p) (upd H1 p (.lst xs))
theorem pe_tup {x1} (h:PA X es t):PE X (.Tuple es x1 pos) (tTup t):=by
  intro pins s σ H Q I hq
  refine wpAny_Tuple_spliced (thn (h pos pins s σ H _ I hq) fun us s1 ⟨xs,H1,I1,r,z,q⟩=>⟨by rw [← r.length]; exact z,?_⟩)
  have hf:H1 s1.heap.objs.size=none:=I1.hok.fresh (Nat.le_refl _)
  refine ⟨.ref s1.heap.objs.size,upd H1 s1.heap.objs.size (.tup xs),I1.laid (t':=s1.toks) (fun b u e=>Heap.get?_push_of_some _ e) (Nat.le_refl _) ?_,rfl,q _ hf⟩
  exact ⟨z,us,r,⟨_,Heap.get?_push_size _ rfl,rfl,_,rfl⟩⟩
theorem pe_lst (h:PA X es t):PE X (.List es pos) (tLst t):=by
  intro pins s σ H Q I hq
  refine wpAny_List_spliced (thn (h pos pins s σ H _ I hq) fun us s1 ⟨xs,H1,I1,r,z,q⟩=>⟨by rw [← r.length]; exact z,?_⟩)
  have hf:H1 s1.heap.objs.size=none:=I1.hok.fresh (Nat.le_refl _)
  refine ⟨.ref s1.heap.objs.size,upd H1 s1.heap.objs.size (.lst xs),I1.laid (t':=s1.toks) (fun b u e=>Heap.get?_push_of_some _ e) (Nat.le_refl _) ?_,rfl,q _ hf⟩
  exact ⟨z,us,0,r,Heap.get?_push_size _ rfl⟩
end
abbrev Sp:=List V→Hp→VK→XK→Prop
abbrev CXT:=List Env→Hp→Shared→XK→Value→Shared→Prop
structure Env0 (P:Program) (w:World) (K:PySem.W.Frag) (mg:Str→Option Value) (base:Heap) (A:Around) (outer:List Env) (s:Shared) (H:Hp):Prop where
  frames:A.frames=some outer
  mod:Mod K mg base
  bs:∀ b o,base.get? b=some o→s.heap.get? b=some o∧H b=none
  bsz:base.objs.size≤s.heap.objs.size
  funs:s.heap.FunFrames base outer
  frf:∀ b∈frs outer,H b=none
  hok:HOk P w H s.heap
  bare:AllBare s.gens
def CE (outer:List Env) (P:Program) (w:World) (H:Hp) (s:Shared) (Q:VK) (u:Value) (s':Shared):Prop :=
  ∃ v H',s'.os=s.os∧AllBare s'.gens∧Un (frs outer) [] H H' s.heap s'.heap∧HOk P w H' s'.heap∧RelV v u∧Q v H'
def CR (CX:CXT) (outer:List Env) (P:Program) (w:World) (H:Hp) (s:Shared) (Q:VK) (E:XK) (r:Result) (s':Shared):Prop :=
  match r with
  | .ok (.ret u)=>CE outer P w H s Q u s'
  | .ok _=>False
  | .error e=>CX outer H s E e s'
structure FnOk (P:Program) (w:World) (K:PySem.W.Frag) (mg:Str→Option Value) (base:Heap) (CX:CXT) (k:Nat) (f:Addr) (fd:FuncData) (ps:List Str) (sp:Sp):Prop where
  len:∀ vs H Q E,sp vs H Q E→vs.length=ps.length
  run:∀ (A:Around) (outer:List Env) (s:Shared) (H:Hp) (args:Args) (us:List Value) (vs:List V) (Q:VK) (E:XK),Room k A→Env0 P w K mg base A outer s H→BindsTo s fd args (ps.zip us)→Vals vs us→sp vs H Q E →
    codeAny (model P w) A (.call (.ref f) args) (CR CX outer P w H s Q E) s
theorem Env0.make {P:Program} {w:World} {K:PySem.W.Frag} {mg:Str→Option Value} {base:Heap} {A:Around} {outer:List Env} {s:Shared} {H:Hp} (e:Env0 P w K mg base A outer s H) (C:Addr) (us:List Value) (kw:List (Str×Value)) :
    Env0 P w K mg base (A.under (.builtin "type.__call__" ⟨.ref C :: us,kw⟩)) outer s H:=⟨by first | exact e.frames | (simpa [Around.under,Code.envs,Code.isFrame,pushEnvs] using e.frames),e.mod,e.bs,e.bsz,e.funs,e.frf,e.hok,e.bare⟩
section
variable {X:Cx} {pins:List (Addr×Obj)} {σ:St} {H:Hp} {s s':Shared}
theorem Inv.env0 (I:Inv X pins σ H s):Env0 X.prog X.w X.K X.mg X.base X.A X.stack s H :=
  ⟨I.ok.frames,I.ok.mod,I.bs,Nat.le_trans I.ok.bsz I.sz,I.stack,I.stkFree,I.hok,I.bare⟩
theorem Inv.after {Q:VK} {u:Value} (I:Inv X pins σ H s) (h:CE X.stack X.prog X.w H s Q u s'):EP X pins σ Q u s':=by
  obtain ⟨v,H',os,bare,un,hok,r,q⟩:=h
  obtain ⟨hh,g,d,t,os'⟩:=s'
  obtain rfl:os'=s.os:=os
  exact ⟨v,H',I.call (h':=hh) (g':=g) (d':=d) (t':=t) (ch:=[]) un hok bare (fun b z=>absurd z (by simp)),r,q⟩
end
def tCall (sp:Sp) (dvs:List V) (E:XK) (t:TA):TE:=fun σ H Q=>t σ H fun vs H1=>sp (vs++dvs) H1 Q E
def tMeth (C:Addr) (m:Str) (sp:Sp) (dvs:List V) (E:XK) (ta:TE) (t:TA):TE:=fun σ H Q=>ta σ H fun x H1=>∃ a dx fs,x=.ref a∧H1 a=some (.ins C dx fs)∧fs.lookup m=none ∧
  t σ H1 fun vs H2=>sp (x :: (vs++dvs)) H2 Q E
def tMake (C:Addr) (sp:Sp) (dvs:List V) (E:XK) (t:TA):TE:=fun σ H Q=>t σ H fun vs H1=>∀ x dx,H1 x=none→H1 dx=none→dx≠x →
  sp (.ref x :: (vs++dvs)) (upd (upd H1 dx (.own x)) x (.ins C dx [])) (fun v H2=>v=.non∧Q (.ref x) H2) E
def Binds (K:PySem.W.Frag) (fd:FuncData) (ps:List Str) (ds:List Value):Prop :=
  ∀ (s:Shared) (us:List Value),K.In s.heap→(us++ds).length=ps.length→BindsTo s fd ⟨us,[]⟩ (ps.zip (us++ds))
theorem Binds.all {K:PySem.W.Frag} {fd:FuncData} {ps:List Str} (h:∀ us:List Value,us.length=ps.length→bindArgs fd ⟨us,[]⟩=pure (ps.zip us)):Binds K fd ps []:=fun s us _ hl=>by
  rw [List.append_nil] at hl ⊢
  exact .of_eq (h us hl)
def Passes (CX:CXT) (X:Cx) (E:XK):Prop:=∀ (pins:List (Addr×Obj)) (σ:St) (H:Hp) (s:Shared) (e:Value) (s':Shared),Inv X pins σ H s→CX X.stack H s E e s'→X.xe e s'
section
variable {X:Cx} {CX:CXT} {k:Nat} {f C:Addr} {fd:FuncData} {ps:List Str} {sp:Sp} {dvs:List V} {ds:List Value} {E:XK} {x m:Str} {p pos apos:Pos} {e o:Expr} {es:List Expr} {ta:TE} {t:TA}
theorem run_fn {pins:List (Addr×Obj)} {σ:St} {H:Hp} {s:Shared} {Q:VK} {us:List Value} {vs:List V} (F:FnOk X.prog X.w X.K X.mg X.base CX k f fd ps sp) (hr:Room k X.A) (hb:Binds X.K fd ps ds) (hd:Vals dvs ds) (hx:Passes CX X E)
    (I:Inv X pins σ H s) (r:Vals vs us) (h:sp (vs++dvs) H Q E):wpAny (model X.prog X.w) X.A (call (.ref f) us) (EP X pins σ Q) X.xe s:=by
  have r2:Vals (vs++dvs) (us++ds):=r.append hd
  have hl:(us++ds).length=ps.length:=by rw [← r2.length]; exact F.len _ _ _ _ h
  refine wpAny_call (codeAny_mono (F.run X.A X.stack s H ⟨us,[]⟩ (us++ds) (vs++dvs) Q E hr I.env0 (hb s us I.kIn hl) r2 h) fun r s' hq=>?_)
  cases r with
  | error e=>exact hx pins σ H s e s' I hq
  | ok fl =>
    cases fl with
    | ret u=>exact I.after hq
    | next=>exact False.elim hq
    | brk=>exact False.elim hq
    | cont=>exact False.elim hq
theorem pe_call (F:FnOk X.prog X.w X.K X.mg X.base CX k f fd ps sp) (hr:Room k X.A) (hg:Gl X x) (hm:X.mg x=some (.ref f)) (hk:PySem.W.keepIn X.K (.ref f)=true) (hb:Binds X.K fd ps ds) (hd:Vals dvs ds) (hx:Passes CX X E)
    (ha:PA X (e :: es) t) (hdb:(x == ("__debug__" : Str))=false:=by decide) (he:starEach (e :: es) X.env=(false,eval e X.env) :: starEach es X.env:=by rfl) (hpl:(backTo pos (starEach es X.env)).any (·.1)=false:=by rfl) :
    PE X (.Call (.Name x p) (e :: es) [] pos) (tCall sp dvs E t):=by
  intro pins s σ H Q I h
  refine wpAny_Call_Name_kw (ld_glob I hg hm ?_ hdb)
  refine PySem.W.callWith_K (h₀:=X.base) I.ok.mod.kin hk (thn (ha pos pins s σ H _ I h) fun us s1 ⟨vs,H1,I1,r,q⟩=>⟨I1.kIn,?_⟩) he hpl
  exact run_fn F hr hb hd hx I1 r q
theorem pe_meth {pl:Sem Bool} (he:PE X o ta) (c:Cls X.K C) (hm:Meth X.K C m f) (F:FnOk X.prog X.w X.K X.mg X.base CX k f fd ps sp) (hr:Room k X.A) (hb:Binds X.K fd ps ds) (hd:Vals dvs ds) (hx:Passes CX X E) (ha:PA X (e :: es) t)
    (hst:starEach (e :: es) X.env=(false,eval e X.env) :: starEach es X.env:=by rfl) (hpl:(backTo pos (starEach es X.env)).any (·.1)=false:=by rfl)
    (ht:eval (.Call (.Attribute o m apos) (e :: es) [] pos) X.env=(do
      let ov ← eval o X.env
      standAt apos.atName
      let (f,first) ← holding [ov] (getMethod ov m pl)
      callWith pos f first (backTo pos (starEach (e :: es) X.env)) (backToKw pos (keywordEach [] X.env))):=by rfl) :
    PE X (.Call (.Attribute o m apos) (e :: es) [] pos) (tMeth C m sp dvs E ta t):=by
  intro pins s σ H Q I h
  refine PySem.W.methodCall_KW (pl:=pl) (thn (he pins s σ H _ I h) fun u s1 ⟨x,H1,I1,rx,a,dx,fs,ex,ea,l,q⟩=>?_) ht
  subst ex
  obtain rfl:u=Value.ref a:=rx
  refine getmeth_ok I1 ea c hm l ?_
  refine PySem.W.callWith_K (first:=[.ref a]) (h₀:=X.base) I.ok.mod.kin hm.kp (thn (ha pos pins s1 σ H1 _ I1 q) fun us s2 ⟨vs,H2,I2,r,q2⟩=>⟨I2.kIn,?_⟩) hst hpl
  exact run_fn (us:=.ref a :: us) (vs:=.ref a :: vs) F hr hb hd hx I2 (.cons rfl r) q2
structure Mk (K:PySem.W.Frag) (C f:Addr):Prop where
  makes:PySem.W.makesIn K C=true
  init:PySem.W.findIn K (.ref C) "__init__" = some (some (.ref f))
  fn:PySem.W.isFn K (.ref f)=true
  kp:PySem.W.keepIn K (.ref C)=true
theorem run_make {pins:List (Addr×Obj)} {σ:St} {H:Hp} {s:Shared} {Q:VK} {us:List Value} {vs:List V} (M:Mk X.K C f) (F:FnOk X.prog X.w X.K X.mg X.base CX k f fd ps sp) (hr:Room (k+1) X.A) (hb:Binds X.K fd ps ds) (hd:Vals dvs ds)
    (hx:Passes CX X E) (I:Inv X pins σ H s) (r:Vals vs us)
    (h:∀ x dx,H x=none→H dx=none→dx≠x→sp (.ref x :: (vs++dvs)) (upd (upd H dx (.own x)) x (.ins C dx [])) (fun v H2=>v=.non∧Q (.ref x) H2) E) :
    wpAny (model X.prog X.w) X.A (call (.ref C) us) (EP X pins σ Q) X.xe s:=by
  have hq:=h (s.heap.objs.size+1) s.heap.objs.size (I.hok.fresh (Nat.le_succ _)) (I.hok.fresh (Nat.le_refl _)) (Nat.ne_of_lt (Nat.lt_succ_self _))
  have I2:=Inv.made (C:=C) I
  have r2:Vals (V.ref (s.heap.objs.size+1) :: (vs++dvs)) (Value.ref (s.heap.objs.size+1) :: (us++ds)):=.cons rfl (r.append hd)
  have hl:(Value.ref (s.heap.objs.size+1) :: us++ds).length=ps.length:=by
    have e:=r2.length
    rw [F.len _ _ _ _ hq] at e
    exact e.symm
  refine wpAny_call (make_map (f:=f) I.kIn M.makes M.init (beq_iff_eq.mp M.fn) (codeAny_mono (F.run _ X.stack _ _ ⟨Value.ref (s.heap.objs.size+1) :: us,[]⟩ (Value.ref (s.heap.objs.size+1) :: (us++ds)) _ _ E (hr.make C us [])
    (I2.env0.make C us []) (hb _ (Value.ref (s.heap.objs.size+1) :: us) I2.kIn hl) r2 hq) fun r s' hq'=>?_))
  cases r with
  | error e=>exact hx pins σ _ _ e s' I2 hq'
  | ok fl =>
    cases fl with
    | ret u =>
      obtain ⟨v,H',I3,rv,ev,q3⟩:=I2.after hq'
      subst ev
      exact ⟨rv,⟨V.ref (s.heap.objs.size+1),H',I3,rfl,q3⟩⟩
    | next=>exact False.elim hq'
    | brk=>exact False.elim hq'
    | cont=>exact False.elim hq'
theorem pe_make (M:Mk X.K C f) (F:FnOk X.prog X.w X.K X.mg X.base CX k f fd ps sp) (hr:Room (k+1) X.A) (hg:Gl X x) (hm:X.mg x=some (.ref C)) (hb:Binds X.K fd ps ds) (hd:Vals dvs ds) (hx:Passes CX X E)
    (ha:PA X (e :: es) t) (hdb:(x == ("__debug__" : Str))=false:=by decide) (he:starEach (e :: es) X.env=(false,eval e X.env) :: starEach es X.env:=by rfl) (hpl:(backTo pos (starEach es X.env)).any (·.1)=false:=by rfl) :
    PE X (.Call (.Name x p) (e :: es) [] pos) (tMake C sp dvs E t):=by
  intro pins s σ H Q I h
  refine wpAny_Call_Name_kw (ld_glob I hg hm ?_ hdb)
  refine PySem.W.callWith_K (h₀:=X.base) I.ok.mod.kin M.kp (thn (ha pos pins s σ H _ I h) fun us s1 ⟨vs,H1,I1,r,q⟩=>⟨I1.kIn,?_⟩) he hpl
  exact run_make M F hr hb hd hx I1 r q
end
structure FnScope (N P:List Str) (sc:Scope):Prop where
  kind:sc.kind=.function
  co:sc.isCoroutine=false
  gen:sc.isGenerator=false
  nd:N.Nodup
  pre:N.take P.length=P
  par:∀ x∈P,sc.names.lookup x=some .local∨sc.names.lookup x=some .cell
  nofree:∀ y∈sc.names,y.2≠.free
theorem bindL_out {kindOf:Str→Option NameKind} {x:Str}:∀ {binds:List (Str×Value)} {m:Str→Option Value},(∀ v,(x,v)∉binds)→bindL kindOf binds m x=m x
  | [],_,_=>rfl
  | (n,v) :: r,m,h=>by
    unfold bindL
    rw [bindL_out fun w hw=>h w (List.mem_cons_of_mem _ hw)]
    split
    · have:x≠n:=by rintro rfl; exact h v List.mem_cons_self
      simp [this]
    · rfl
theorem bindC_out {kindOf:Str→Option NameKind} {x:Str}:∀ {binds:List (Str×Value)} {m:Str→Option Value},(∀ v,(x,v)∉binds)→bindC kindOf binds m x=m x
  | [],_,_=>rfl
  | (n,v) :: r,m,h=>by
    unfold bindC
    rw [bindC_out fun w hw=>h w (List.mem_cons_of_mem _ hw)]
    split
    · rfl
    · have:x≠n:=by rintro rfl; exact h v List.mem_cons_self
      simp [this]
theorem bindL_get {kindOf:Str→Option NameKind} {x:Str} {v:Value}:∀ {P:List Str} {vs:List Value} {i:Nat} {m:Str→Option Value},P.Nodup→P[i]?=some x→vs[i]?=some v→kindOf x=some .local →
    bindL kindOf (P.zip vs) m x=some v
  | [],_,_,_,_,h,_,_=>by simp at h
  | _ :: _,[],_,_,_,_,h,_=>by simp at h
  | p :: P,w :: vs,0,m,nd,h1,h2,hk=>by
    simp at h1 h2; subst h1; subst h2
    show bindL kindOf ((p,w) :: P.zip vs) m p=_
    unfold bindL
    rw [bindL_out fun v hv=>(List.nodup_cons.mp nd).1 (List.of_mem_zip hv).1,if_pos hk]
    simp
  | p :: P,w :: vs,i+1,m,nd,h1,h2,hk=>by
    show bindL kindOf ((p,w) :: P.zip vs) m x=_
    unfold bindL
    exact bindL_get (i:=i) (List.nodup_cons.mp nd).2 (by simpa using h1) (by simpa using h2) hk
theorem bindC_get {kindOf:Str→Option NameKind} {x:Str} {v:Value}:∀ {P:List Str} {vs:List Value} {i:Nat} {m:Str→Option Value},P.Nodup→P[i]?=some x→vs[i]?=some v→kindOf x≠some .local →
    bindC kindOf (P.zip vs) m x=some v
  | [],_,_,_,_,h,_,_=>by simp at h
  | _ :: _,[],_,_,_,_,h,_=>by simp at h
  | p :: P,w :: vs,0,m,nd,h1,h2,hk=>by
    simp at h1 h2; subst h1; subst h2
    show bindC kindOf ((p,w) :: P.zip vs) m p=_
    unfold bindC
    rw [bindC_out fun v hv=>(List.nodup_cons.mp nd).1 (List.of_mem_zip hv).1,if_neg hk]
    simp
  | p :: P,w :: vs,i+1,m,nd,h1,h2,hk=>by
    show bindC kindOf ((p,w) :: P.zip vs) m x=_
    unfold bindC
    exact bindC_get (i:=i) (List.nodup_cons.mp nd).2 (by simpa using h1) (by simpa using h2) hk
def start (N:List Str) (vs:List V):St:=vs.map some++List.replicate (N.length - vs.length) none
def cxOf (CX:CXT) (P:Program) (w:World) (K:PySem.W.Frag) (mg:Str→Option Value) (base:Heap) (N:List Str) (qual:Str) (scope:Scope) (f:Addr) (cd:Value) (A:Around) (outer:List Env) (s:Shared) (H:Hp) (E:XK):Cx where
  prog:=P
  w:=w
  K:=K
  mg:=mg
  base:=base
  A:=A.deeper (envOfC qual scope s.heap.objs.size f cd)
  N:=N
  s₀:=s
  H₀:=H
  env:=envOfC qual scope s.heap.objs.size f cd
  outer:=outer
  stack:=envOfC qual scope s.heap.objs.size f cd :: outer
  ex:=[]
  calm:=true
  fn:=fun _=>true
  pn:=[]
  xe:=fun e s'=>wpAny (model P w) (A.deeper (envOfC qual scope s.heap.objs.size f cd)) (leaving (envOfC qual scope s.heap.objs.size f cd) e) (fun _ s''=>CX outer H s E e s'') (fun e' s''=>CX outer H s E e' s'') s'
theorem cell_has {sc:Scope} {n:Nat} {x:Str} (h:sc.names.lookup x=some .cell):∃ c,(cellsFrom n sc.names []).lookup x=some c:=by
  have q:=PySem.W.cellsFrom_some sc.names n [] (.inl h)
  exact Option.isSome_iff_exists.mp q
theorem inv_start {CX:CXT} {P:Program} {w:World} {K:PySem.W.Frag} {mg:Str→Option Value} {base:Heap} {N ps:List Str} {qual:Str} {scope:Scope} {f:Addr} {cd:Value} {A:Around} {outer:List Env} {s s1:Shared} {H:Hp} {E:XK} {us:List Value} {vs:List V}
    (S:FnScope N ps scope) (hd:A.handled=none) (e0:Env0 P w K mg base A outer s H) (hl:vs.length=ps.length) (r:Vals vs us)
    (x:InCallC s s.heap.objs.size (bindL (envOfC qual scope s.heap.objs.size f cd).kindOf (ps.zip us) fun _=>none) (cellsFrom (s.heap.objs.size+1) scope.names []) (bindC (envOfC qual scope s.heap.objs.size f cd).kindOf (ps.zip us) fun _=>none) s1) :
    Inv (cxOf CX P w K mg base N qual scope f cd A outer s H E) [] (start N vs) H s1:=by
  have hpl:ps.length≤N.length:=by have:=congrArg List.length S.pre; rw [List.length_take] at this; omega
  obtain ⟨h1,tk,rfl,hk⟩:=x.done
  have noA:∀ b:Addr,b∉(cxOf CX P w K mg base N qual scope f cd A outer s H E).ex:=fun b z=>absurd (show b∈([]:List Addr) from z) (by simp)
  refine ⟨⟨e0.mod,S.kind,rfl,rfl,Nat.le_refl _,fun y z c h1 h2=>?_,fun y hy=>?_,fun y c _ h=>?_,fun _=>hd,Around.frames_deeper e0.frames,.inr ⟨rfl,rfl⟩,fun b z=>absurd z (noA b),e0.bs,e0.bsz,fun b _ _=>noA b,fun b z=>absurd z (noA b),e0.funs,e0.frf⟩,
    rfl,e0.bare,Un.kept hk,⟨_,x.toInCall.ns,fun i y v h1 h2 h3=>?_⟩,fun y c h=>⟨_,x.cell y c h⟩,e0.hok.fresh (Nat.le_refl _),fun y c h=>?_,fun p hp=>absurd (show p∈([]:List (Addr×Obj)) from hp) (by simp),e0.hok.kept hk,?_⟩
  · exact name_of_addr x.apart (PySem.mem_of_lookup h1) (PySem.mem_of_lookup h2)
  · have hy:scope.names.lookup y=some .cell∨scope.names.lookup y=some .free:=hy
    rcases hy with hy | hy
    · exact cell_has hy
    · exact absurd rfl (S.nofree _ (PySem.mem_of_lookup hy))
  · exact Nat.le_of_lt (x.above y c (PySem.mem_of_lookup h))
  · have hi:i<vs.length:=by
      unfold start at h2
      by_cases hi:i<vs.length
      · exact hi
      · rw [List.getElem?_append_right (by simpa using hi)] at h2
        rw [List.getElem?_replicate] at h2
        split at h2 <;> cases h2
    have ha:vs[i]?=some v:=by
      unfold start at h2
      rw [List.getElem?_append_left (by simpa using hi),List.getElem?_map] at h2
      cases e:vs[i]? with
      | none=>rw [e] at h2; cases h2
      | some a=>rw [e] at h2; cases h2; rfl
    obtain ⟨u,hu,rv⟩:=r.get ha
    have hp:ps[i]?=some y:=by
      rw [← S.pre,List.getElem?_take_of_lt (by omega)]; exact h1
    have ndP:ps.Nodup:=by rw [← S.pre]; exact S.nd.sublist (List.take_sublist _ _)
    refine ⟨u,rv,?_⟩
    rcases S.par y (List.mem_of_getElem? hp) with k | k
    · exact .inl ⟨k,bindL_get ndP hp hu k⟩
    · obtain ⟨c,e⟩:=cell_has (n:=s.heap.objs.size+1) k
      refine .inr ⟨.inl k,c,e,?_⟩
      have q:=x.cell y c e
      rw [bindC_get ndP hp hu (by show scope.names.lookup y≠_; rw [k]; decide)] at q
      exact q
  · exact e0.hok.fresh (Nat.le_of_lt (x.above y c (PySem.mem_of_lookup h)))
  · unfold start
    show _=N.length
    rw [List.length_append,List.length_map,List.length_replicate]
    omega
theorem fn_of {CX:CXT} {P:Program} {w:World} {K:PySem.W.Frag} {mg:Str→Option Value} {base:Heap} {k:Nat} {f:Addr} {name qual:Str} {params:Arguments} {body:List Stmt} {scope:Scope} {dV kV doc pm cdv ct oc:Value} {an od:Option Addr}
    {osl:Array (Option Value)} {N ps:List Str} {sp:Sp} (lk:K.lookup f=some ⟨oc,od,.func (PySem.W.fnOf name qual params body scope dV kV doc pm an cdv ct),osl⟩) (hcd:PySem.W.codeIn K cdv qual=true) (S:FnScope N ps scope)
    (len:∀ vs H Q E,sp vs H Q E→vs.length=ps.length)
    (hbody:∀ (A:Around) (outer:List Env) (s:Shared) (H:Hp) (vs:List V) (Q:VK) (E:XK),Room k (A.deeper (envOfC qual scope s.heap.objs.size f cdv))→sp vs H Q E →
      ∃ t,PSs (cxOf CX P w K mg base N qual scope f cdv A outer s H E) body t∧t { nx:=fun _ H'=>Q .non H',rt:=Q } (start N vs) H) :
    FnOk P w K mg base CX (k+1) f (PySem.W.fnOf name qual params body scope dV kV doc pm an cdv ct) ps sp:=by
  refine ⟨len,fun A outer s H args us vs Q E hr e0 hb r hsp=>?_⟩
  have hl:=len _ _ _ _ hsp
  have KX:K.In s.heap:=e0.mod.kin.keeps fun b o e=>(e0.bs b o e).1
  have lim:s.heap.NoLimit:=e0.mod.nolimit.keeps fun b o e=>(e0.bs b o e).1
  have hkind:∀ y∈ps.zip us,scope.names.lookup y.1=some .local∨(scope.names.lookup y.1=some .cell∧((cellsFrom (s.heap.objs.size+1) scope.names []).lookup y.1).isSome=true):=fun ⟨n,v⟩ hy=>by
    rcases S.par n (List.of_mem_zip hy).1 with q | q
    · exact .inl q
    · exact .inr ⟨q,PySem.W.cellsFrom_some _ _ _ (.inl q)⟩
  refine codeAny_call_function hr.depth (KX _ _ lk) rfl S.co S.gen rfl (PySem.W.codeRec_of KX hcd) (hb _ _ _ _ ?_)
  refine wpAny_newFunctionEnv_cells S.kind hkind fun env he s1 x=>?_
  subst he
  refine ⟨lim.keeps x.toInCall.keep,codeAny_func ?_⟩
  obtain ⟨t,ht,hq⟩:=hbody A outer s H vs Q E (hr.deeper _) hsp
  have I:Inv (cxOf CX P w K mg base N qual scope f cdv A outer s H E) [] (start N vs) H s1:=inv_start S hr.hd e0 hl r x
  refine wpAny_mono (ht [] s1 (start N vs) H _ I hq) (fun fl s' hs=>?_) fun e s' hs=>hs
  have fin:∀ {σ':St} {H':Hp} {v:V} {u:Value},Inv (cxOf CX P w K mg base N qual scope f cdv A outer s H E) [] σ' H' s'→RelV v u→Q v H'→CE outer P w H s Q u s' :=
    fun {σ' H' v u} J rv q=>⟨v,H',J.os,J.bare,J.base,J.hok,rv,q⟩
  cases fl with
  | ret u =>
    obtain ⟨v,σ',H',J,rv,q⟩:=hs
    exact fin J rv q
  | next =>
    obtain ⟨σ',H',J,q⟩:=hs
    exact fin (v:=V.non) (u:=Value.none) J rfl q
  | brk =>
    obtain ⟨_,_,_,q⟩:=hs
    exact False.elim q
  | cont =>
    obtain ⟨_,_,_,q⟩:=hs
    exact False.elim q
end L2
namespace L2
open PySem PySem.Spec PyProof.Rows
section
variable {X:Cx} {x:Str} {p pos:Pos} {e:Expr} {es:List Expr} {t:TA} {id T:String} {r:List V→Hp→VK→Prop}
def tCB (r:List V→Hp→VK→Prop) (t:TA):TE:=fun σ H Q=>t σ H fun vs H1=>r vs H1 Q
theorem pe_callB (hc:CallR X (.builtin id) r) (hg:Gl X x) (hm:X.mg x=none) (hv:bootBuiltins x=some (.builtin id)) (ha:PA X (e :: es) t) (hn:x ≠ "__name__" := by decide) (hdb:(x == ("__debug__" : Str))=false:=by decide)
    (he:starEach (e :: es) X.env=(false,eval e X.env) :: starEach es X.env:=by rfl) (hpl:(backTo pos (starEach es X.env)).any (·.1)=false:=by rfl):PE X (.Call (.Name x p) (e :: es) [] pos) (tCB r t):=by
  intro pins s σ H Q I h
  refine wpAny_Call_Name_kw (ld_blt I hg hm hv ?_ hn hdb)
  exact PyProof.Rows.callWith_builtin1 (thn (ha pos pins s σ H _ I h) fun us s1 ⟨vs,H1,I1,r1,q1⟩=>hc pins s1 σ H1 vs us Q I1 r1 q1) he hpl
theorem pe_callTy (hc:CallR X (.type T) r) (hg:Gl X x) (hm:X.mg x=none) (hv:bootBuiltins x=some (.type T)) (ha:PA X (e :: es) t) (hn:x ≠ "__name__" := by decide) (hdb:(x == ("__debug__" : Str))=false:=by decide)
    (he:starEach (e :: es) X.env=(false,eval e X.env) :: starEach es X.env:=by rfl) (hpl:(backTo pos (starEach es X.env)).any (·.1)=false:=by rfl):PE X (.Call (.Name x p) (e :: es) [] pos) (tCB r t):=by
  intro pins s σ H Q I h
  refine wpAny_Call_Name_kw (ld_blt I hg hm hv ?_ hn hdb)
  exact PyProof.Rows.callWith_type1 (thn (ha pos pins s σ H _ I h) fun us s1 ⟨vs,H1,I1,r1,q1⟩=>hc pins s1 σ H1 vs us Q I1 r1 q1) he hpl
end
end L2
namespace HT
open PySem PyProof.Rows
def lexLt:List Int→List Int→Bool
  | [],[]=>false
  | [],_ :: _=>true
  | _ :: _,[]=>false
  | x :: xs,y :: ys=>if x=y then lexLt xs ys else decide (x<y)
theorem lexLt_cons (x y:Int) (xs ys:List Int):lexLt (x :: xs) (y :: ys)=if x=y then lexLt xs ys else decide (x<y):=rfl
theorem lexLt_nil_nil:lexLt [] []=false:=rfl
theorem lexLt_nil_cons (y:Int) (ys:List Int):lexLt [] (y :: ys)=true:=rfl
theorem lexLt_cons_nil (x:Int) (xs:List Int):lexLt (x :: xs) []=false:=rfl
theorem eqAt_int (A:Around) (s:Shared) (a:Int) (t:Tok) (c:Int) (u:Tok):∃ e,SeqAt.EqAt A s (.int a t) (.int c u) e∧(e=true↔a=c) :=
  ⟨(a == c),SeqAt.EqAt.int_int a t c u,by simp⟩
section
open PySem.SeqAt
open PySem.AutoSeq1 (wpAny_loadPart')
open PySem.MeetsSeq PySem.MeetsSeq2 PySem.MeetsSeq3
end
section
variable {prog:Program} {w:World} {A:Around} {E:Value→Shared→Prop} {s:Shared}
theorem cat_tup {t b:Addr} {vs ws:List Value} {Q:Value→Shared→Prop} (ht:IsTup s.heap t vs.toArray) (hb:IsTup s.heap b ws.toArray) (hv:vs≠[])
    (h1:ws=[]→Q (.ref t) s) (h2:ws≠[]→Q (.ref s.heap.objs.size) { s with heap:=s.heap.push { cls:=.type "tuple",data:=.seq (vs++ws).toArray } })
    (hsz:vs.length+ws.length≤sizeLine):wpAny (model prog w) A (binaryOp .Add (.ref t) (.ref b)) Q E s:=by
  obtain ⟨⟨cls,dd,data,sl⟩,ho,hc,n,hd⟩:=id ht
  obtain ⟨⟨cls2,dd2,data2,sl2⟩,ho2,hc2,n2,hd2⟩:=id hb
  simp only at hc hd hc2 hd2
  subst hc hd hc2 hd2
  have e:vs.toArray++ws.toArray=(vs++ws).toArray:=by simp
  by_cases hw:ws=[]
  · exact concat_meets ⟨_,ho,rfl⟩ ⟨_,ho2,rfl⟩ noFill_tuple_add seq_tuple_add PySem.F.slot_tuple_add PySem.F.entry_tuple_add (PySem.F.args_tuple_add_2 _ _)
      (tuple_addW1 t b vs.toArray ws.toArray n n2 dd dd2 sl sl2 (by simpa using hv) (by simp [hw])) ⟨ho,ho2,h1 hw⟩
  · refine concat_meets ⟨_,ho,rfl⟩ ⟨_,ho2,rfl⟩ noFill_tuple_add seq_tuple_add PySem.F.slot_tuple_add PySem.F.entry_tuple_add (PySem.F.args_tuple_add_2 _ _)
      (tuple_addW2 t b vs.toArray ws.toArray n n2 dd dd2 sl sl2 (by simpa using hv) (by simpa using hw) (by rw [List.size_toArray,List.size_toArray]; exact hsz)) ⟨ho,ho2,?_⟩
    rw [e]
    exact h2 hw
def sIx (n d:Nat):Option Int→Nat
  | none=>d
  | some v=>if v<0 then (v+(n:Int)).toNat else min v.toNat n
theorem sIx_none (n d:Nat):sIx n d none=d:=rfl
theorem sIx_nat (n d k:Nat):sIx n d (some (k:Int))=min k n:=by
  show (if (k:Int)<0 then ((k:Int)+(n:Int)).toNat else min (k:Int).toNat n)=min k n
  rw [if_neg (by omega),Int.toNat_natCast]
end
end HT
namespace L2
open PySem PySem.Spec PyProof.Rows
abbrev TO:=St→Hp→(Option Int→Hp→Prop)→Prop
def PO (X:Cx) (e:Option Expr) (t:TO):Prop :=
  ∀ (pins:List (Addr×Obj)) (s:Shared) (σ:St) (H:Hp) (Q:Option Int→Hp→Prop),Inv X pins σ H s→t σ H Q →
    wpAny (model X.prog X.w) X.A (evalPart e X.env) (fun u s'=>∃ o H',Inv X pins σ H' s'∧IsPart u o∧Q o H') X.xe s
def tNoPart:TO:=fun _ H Q=>Q none H
def tPart (t:TE):TO:=fun σ H Q=>t σ H fun x H1=>∃ i,x=.int i∧Q (some i) H1
theorem intsAre_of {ns:List Int}:∀ {us:List Value},Vals (ns.map V.int) us→IntsAre us ns:=by
  induction ns with
  | nil=>intro us r; rw [List.map_nil] at r; cases r; exact .nil
  | cons n ns ih =>
    intro us r
    rw [List.map_cons] at r
    cases r with
    | cons r1 r2 =>
      obtain ⟨t,e⟩:=r1
      subst e
      exact .cons n t (ih r2)
section
variable {X:Cx} {e:Expr} {te:TE} {lo hi:Option Expr} {tl th:TO} {pos p2:Pos}
theorem po_none:PO X none tNoPart:=by
  intro pins s σ H Q I h
  rw [evalPart_none]
  exact wpAny_pure ⟨none,H,I,.none,h⟩
theorem po_some (h:PE X e te):PO X (some e) (tPart te):=by
  intro pins s σ H Q I hw
  rw [evalPart_some]
  refine thn (h pins s σ H _ I hw) fun u s1 ⟨x,H1,I1,r1,q1⟩=>?_
  obtain ⟨i,rfl,q⟩:=q1
  obtain ⟨t,rfl⟩:=r1
  exact ⟨some i,H1,I1,.int i t,q⟩
def SlR (X:Cx) (r:V→Option Int→Option Int→Hp→VK→Prop):Prop :=
  ∀ (pins:List (Addr×Obj)) (s:Shared) (σ:St) (H:Hp) (x:V) (v vl vu:Value) (lo hi:Option Int) (sl:Addr) (Q:VK),Inv X pins σ H s→RelV x v→s.heap.IsSliceOf sl vl vu .none→IsPart vl lo→IsPart vu hi→r x lo hi H Q →
    ∃ T id,typeLookup (.type T) "__getitem__" = pure (some (.builtin id))∧s.TypeIs v T∧wpAny (model X.prog X.w) X.A (getItem v (.ref sl)) (EP X pins σ Q) X.xe s
def tSl (r:V→Option Int→Option Int→Hp→VK→Prop) (te:TE) (tl th:TO):TE:=fun σ H Q=>te σ H fun x H1=>tl σ H1 fun l H2=>th σ H2 fun u H3=>r x l u H3 Q
theorem pe_slice {r:V→Option Int→Option Int→Hp→VK→Prop} (hr:SlR X r) (he:PE X e te) (hl:PO X lo tl) (hu:PO X hi th):PE X (.Subscript e (.Slice lo hi none p2) pos) (tSl r te tl th):=by
  intro pins s σ H Q I h
  refine Subscript_ (thn (he pins s σ H _ I h) fun v s1 ⟨x,H1,I1,r1,q1⟩=>?_)
  refine wpAny_Slice (thn (hl pins s1 σ H1 _ I1 q1) fun vl s2 ⟨l,H2,I2,pl,q2⟩=>thn (hu pins s2 σ H2 _ I2 q2) fun vu s3 ⟨u,H3,I3,pu,q3⟩=>?_)
  rw [evalPart_none]
  refine wpAny_pure ?_
  have I4:Inv X pins σ H3 { s3 with heap:=s3.heap.push { cls:=.type "slice",data:=.fields #[vl,vu,.none] } }:=I3.kept (t':=s3.toks) fun b ob q=>Heap.get?_push_of_some _ q
  obtain ⟨T,id,hT,ht,hg⟩:=hr pins { s3 with heap:=s3.heap.push { cls:=.type "slice",data:=.fields #[vl,vu,.none] } } σ H3 x v vl vu l u s3.heap.objs.size Q I4 r1 (Heap.IsSliceOf.new ..) pl pu q3
  show wpAny (model X.prog X.w) X.A (subscriptTail e (.Slice lo hi none p2) v (.ref s3.heap.objs.size)) (EP X pins σ Q) X.xe { s3 with heap:=s3.heap.push { cls:=.type "slice",data:=.fields #[vl,vu,.none] } }
  exact tail_any (ops:=[.ref s3.heap.objs.size,v]) ht hT hg (by with_unfolding_all rfl)
def cutV (xs:List V) (lo hi:Option Int):List V:=(xs.drop (HT.sIx xs.length 0 lo)).take (HT.sIx xs.length xs.length hi - HT.sIx xs.length 0 lo)
theorem cutV_length (xs:List V) (lo hi:Option Int):(cutV xs lo hi).length≤xs.length:=by
  unfold cutV
  rw [List.length_take,List.length_drop]
  omega
def rCatT (K:PySem.W.Frag):R2:=fun x y H Q=>∃ a b xs ys,x=.ref a∧y=.ref b∧SqT K H a xs∧SqT K H b ys∧xs≠[]∧xs.length+ys.length≤sizeLine ∧
  (ys=[]→Q (.ref a) H)∧(ys≠[]→∀ p,H p=none→Q (.ref p) (upd H p (.tup (xs++ys))))
theorem Vals.nil_iff {xs:List V} {us:List Value} (r:Vals xs us):us=[]↔xs=[]:=by
  cases r with
  | nil=>simp
  | cons _ _=>simp
theorem op_catT:OpR X (binaryOp .Add) (rCatT X.K):=by
  intro pins s σ H x y v u Q I rx ry h
  obtain ⟨a,b,xs,ys,rfl,rfl,ha,hb,hx,hz,q1,q2⟩:=h
  cases rx
  cases ry
  obtain ⟨its,r1,p1,_⟩:=I.tuple ha
  obtain ⟨its2,r2,p2,_⟩:=I.tuple hb
  refine HT.cat_tup p1 p2 (fun z=>hx (r1.nil_iff.mp z)) (fun z=>⟨.ref a,H,I,rfl,q1 (r2.nil_iff.mp z)⟩) (fun z=>?_) (by rw [← r1.length,← r2.length]; exact hz)
  refine ⟨.ref s.heap.objs.size,_,I.laid (t':=s.toks) (o:=.tup (xs++ys)) (fun b ob q=>Heap.get?_push_of_some _ q) (Nat.le_refl _) ?_,rfl,q2 (fun w=>z (r2.nil_iff.mpr w)) _ (I.hok.fresh (Nat.le_refl _))⟩
  exact ⟨by rw [List.length_append]; exact hz,_,r1.append r2,IsTup.new _ _⟩
end
end L2
namespace L2
open PySem PySem.Spec PyProof.Rows
def ixN (n:Nat) (i:Int):Option Nat:=if 0≤i then (if i<n then some i.toNat else none) else if -(n:Int)≤i then some (i+n).toNat else none
def atI {α:Type} (xs:List α) (i:Int):Option α:=(ixN xs.length i).bind fun j=>xs[j]?
theorem ixN_seq {n:Nat} {i:Int} {j:Nat} (h:ixN n i=some j):seqIndex? i n=some j∧j<n ∧ -(n:Int)≤i∧i<n:=by
  unfold ixN at h
  by_cases h0:0≤i
  · rw [if_pos h0] at h
    by_cases h1:i<n
    · rw [if_pos h1] at h
      have e:i.toNat=j:=Option.some.inj h
      exact ⟨by rw [seqIndex_of h0 h1,e],by omega,by omega,h1⟩
    · rw [if_neg h1] at h; cases h
  · rw [if_neg h0] at h
    by_cases h1 : -(n:Int)≤i
    · rw [if_pos h1] at h
      have e:(i+n).toNat=j:=Option.some.inj h
      exact ⟨by rw [seqIndex_neg (by omega) h1,e],by omega,h1,by omega⟩
    · rw [if_neg h1] at h; cases h
theorem atI_get {α:Type} {xs:List α} {i:Int} {v:α} (h:atI xs i=some v):∃ j,seqIndex? i xs.length=some j∧xs[j]?=some v∧j<xs.length ∧ -(xs.length:Int)≤i∧i<xs.length:=by
  unfold atI at h
  cases e:ixN xs.length i with
  | none=>rw [e] at h; cases h
  | some j =>
    rw [e] at h
    obtain ⟨h1,h2,h3,h4⟩:=ixN_seq e
    exact ⟨j,h1,h,h2,h3,h4⟩
theorem atI_nat {α:Type} {xs:List α} {j:Nat} {v:α} (h:xs[j]?=some v):atI xs (j:Int)=some v:=by
  have hj:j<xs.length:=(List.getElem?_eq_some_iff.mp h).1
  have e:ixN xs.length (j:Int)=some j:=by
    unfold ixN
    rw [if_pos (by omega),if_pos (by omega)]; simp
  unfold atI; rw [e]; exact h
def PlainIx (b:Expr):Prop:=∀ o i,subscripted b false o i=operate [o,i] (getItem o i)
def IxR (X:Cx) (r:R2):Prop :=
  ∀ (value slice:Expr) (pins:List (Addr×Obj)) (s:Shared) (σ:St) (H:Hp) (x y:V) (v u:Value) (Q:VK),Inv X pins σ H s→RelV x v→RelV y u→r x y H Q →
    subscripted slice false v u=operate [v,u] (getItem v u)→wpAny (model X.prog X.w) X.A (subscriptTail value slice v u) (EP X pins σ Q) X.xe s
def MtR (X:Cx) (id:String) (r:V→List V→Hp→VK→Prop):Prop :=
  ∀ (pins:List (Addr×Obj)) (s:Shared) (σ:St) (H:Hp) (x:V) (xs:List V) (v:Value) (us:List Value) (Q:VK),Inv X pins σ H s→RelV x v→Vals xs us→r x xs H Q →
    wpAny (model X.prog X.w) X.A (call (.builtin id) (v :: us)) (EP X pins σ Q) X.xe s
section
variable {X:Cx} {a b:Expr} {ta tb:TE} {pos:Pos}
theorem pe_ix {r:R2} (hr:IxR X r) (ha:PE X a ta) (hb:PE X b tb) (hs:PlainIx b):PE X (.Subscript a b pos) (tOp r ta tb):=by
  intro pins s σ H Q I h
  exact Subscript_ (binT ha hb I h fun v u s2 x y H2 I2 rx ry q=>hr a b pins s2 σ H2 x y v u Q I2 rx ry q (hs _ _))
def rIxL (K:PySem.W.Frag):R2:=fun x y H Q=>∃ p xs i v,x=.ref p∧y=.int i∧SqL K H p xs∧atI xs i=some v∧Q v H
theorem ix_list:IxR X (rIxL X.K):=by
  intro value slice pins s σ H x y v u Q I rx ry h hs
  obtain ⟨p,xs,i,z,rfl,rfl,hq,he,q⟩:=h
  cases rx
  obtain ⟨t,rfl⟩:=ry
  obtain ⟨its,r,pl,hz⟩:=I.list hq
  obtain ⟨j,h1,h2,h3,h4,h5⟩:=atI_get he
  obtain ⟨w,ew,rw'⟩:=r.get h2
  have hl:=r.length
  have hn:=line63
  have fin:EP X pins σ Q w s:=⟨z,H,I,rw',q⟩
  by_cases h0:0≤i
  · have hj:i.toNat=j:=by
      rw [seqIndex_of h0 h5] at h1
      exact Option.some.inj h1
    exact item_listR pl.isList h0 (by omega) (by rw [hj]; simpa using ew) fin hs
  · have hj:(i+(its.toArray.size:Int)).toNat=j:=by
      rw [seqIndex_neg (by omega) h4] at h1
      rw [List.size_toArray,← hl]
      exact Option.some.inj h1
    exact subscriptTail_builtinR (x:=w) pl.isList.typeIs slot_list_getitem.lookup
      (wpAny_getItem_list_neg (Q:=fun r s'=>r=w∧EP X pins σ Q r s') pl.isList (by omega) (by rw [List.size_toArray] <;> omega) (by omega) (by rw [hj]; simpa using ew) ⟨rfl,fin⟩) hs
theorem mapSeq_set (its:List Value) (n j:Nat) (u:Value):Obj.mapSeq (·.setIfInBounds j u) { cls:=.type "list",data:=.seq its.toArray n }={ cls:=.type "list",data:=.seq (its.set j u).toArray n }:=by
  simp [Obj.mapSeq]
theorem Inv.lst {pins:List (Addr×Obj)} {σ:St} {H:Hp} {s:Shared} {p:Addr} {xs:List V} (I:Inv X pins σ H s) (h:H p=some (.lst xs)) :
    ∃ (its:List Value) (n:Nat),Vals xs its∧s.heap.get? p=some { cls:=.type "list",data:=.seq its.toArray n }∧xs.length≤sizeLine:=by
  obtain ⟨z,its,n,r,e⟩:=I.hok p _ h
  exact ⟨its,n,r,e,z⟩
theorem Inv.lstUpd {pins:List (Addr×Obj)} {σ:St} {H:Hp} {s:Shared} {p:Addr} {xs ys:List V} {its its':List Value} {n n':Nat} {f:Obj→Obj} (I:Inv X pins σ H s) (h:H p=some (.lst xs))
    (ho:s.heap.get? p=some { cls:=.type "list",data:=.seq its.toArray n }) (hf:f { cls:=.type "list",data:=.seq its.toArray n }={ cls:=.type "list",data:=.seq its'.toArray n' }) (r:Vals ys its') (hz:ys.length≤sizeLine) (t:Nat) :
    Inv X pins σ (upd H p (.lst ys)) { s with heap:=s.heap.update p f,toks:=t }:=by
  have e:(s.heap.update p f).get? p=some { cls:=.type "list",data:=.seq its'.toArray n' }:=by
    rw [Heap.get?_update_self f ho (by rw [hf] <;> rfl),hf]
  refine I.write (x:=p) (e:=p) (by rw [h]; trivial) (.inl rfl) (fun b u hb q=>(Heap.get?_update_other _ _ (Ne.symm hb)).trans q) ⟨_,e⟩ ?_
  exact ⟨hz,its',n',r,e⟩
def rSetL:V→V→V→Hp→(Hp→Prop)→Prop:=fun o i v H Q=>∃ p xs k j,o=.ref p∧i=.int k∧H p=some (.lst xs)∧ixN xs.length k=some j∧Q (upd H p (.lst (xs.set j v)))
theorem set_list:PSet X rSetL:=by
  intro pins s σ H o i v ov iv u Q I ro ri rv h
  obtain ⟨p,xs,k,j,rfl,rfl,hp,hj,q⟩:=h
  cases ro
  obtain ⟨t,rfl⟩:=ri
  obtain ⟨its,n,r,ho,hz⟩:=I.lst hp
  obtain ⟨h1,h2,h3,h4⟩:=ixN_seq hj
  have hl:=r.length
  have hn:=line63
  have I':Inv X pins σ (upd H p (.lst (xs.set j v))) { s with heap:=s.heap.update p (Obj.mapSeq (·.setIfInBounds j u)) } :=
    I.lstUpd hp ho (mapSeq_set its n j u) (r.set rv j) (by rw [List.length_set]; exact hz) s.toks
  by_cases h0:0≤k
  · have hk:k.toNat=j:=by
      rw [seqIndex_of h0 h4] at h1
      exact Option.some.inj h1
    exact PySem.W.ki_setAt ho h0 (by omega) (by rw [List.size_toArray,← hl]; exact h4) (by rw [hk]; exact ⟨_,I',q⟩)
  · have hk:(k+(its.toArray.size:Int)).toNat=j:=by
      rw [seqIndex_neg (by omega) h3] at h1
      rw [List.size_toArray,← hl]
      exact Option.some.inj h1
    exact PySem.W.ki_setBack ho (by omega) (by rw [List.size_toArray,← hl]; exact h3) (by omega) (by rw [hk]; exact ⟨_,I',q⟩)
theorem slice_bounds (lo hi:Option Int) (n:Nat):(sliceBounds lo hi none n).1=((HT.sIx n 0 lo:Nat):Int)∧(sliceBounds lo hi none n).2.1=((HT.sIx n n hi:Nat):Int)∧(sliceBounds lo hi none n).2.2=1:=by
  refine ⟨?_,?_,rfl⟩
  · cases lo with
    | none=>simp [sliceBounds,HT.sIx]
    | some i =>
      simp only [sliceBounds,HT.sIx,Option.getD_none,show (1:Int) > 0 by decide,if_true]
      by_cases h:i<0
      · simp only [h,if_true] <;> omega
      · simp only [h,if_false] <;> omega
  · cases hi with
    | none=>simp [sliceBounds,HT.sIx]
    | some i =>
      simp only [sliceBounds,HT.sIx,Option.getD_none,show (1:Int) > 0 by decide,if_true]
      by_cases h:i<0
      · simp only [h,if_true] <;> omega
      · simp only [h,if_false] <;> omega
theorem slicePick_cut (its:List Value) (lo hi:Option Int):slicePick its.toArray lo hi none=((its.drop (HT.sIx its.length 0 lo)).take (HT.sIx its.length its.length hi - HT.sIx its.length 0 lo)).toArray:=by
  obtain ⟨h1,h2,h3⟩:=slice_bounds lo hi its.toArray.size
  unfold slicePick
  rw [h1,h2,h3]
  simp only [sliceRange_one,pick_run,List.size_toArray] <;> rfl
def rSlL (K:PySem.W.Frag):V→Option Int→Option Int→Hp→VK→Prop:=fun x lo hi H Q=>∃ a xs,x=.ref a∧SqL K H a xs∧∀ p,H p=none→Q (.ref p) (upd H p (.lst (cutV xs lo hi)))
theorem sl_list:SlR X (rSlL X.K):=by
  intro pins s σ H x v vl vu lo hi sl Q I rx hs pl pu h
  obtain ⟨a,xs,rfl,hx,q⟩:=h
  cases rx
  obtain ⟨its,r,ht,hz⟩:=I.list hx
  have hlen:=r.length
  refine ⟨"list",_,slot_list_getitem.lookup,ht.isList.typeIs,?_⟩
  refine wpAny_getItem_list_slice ht.isList hs pl pu .none (by simp) ?_ (by rw [List.size_toArray] <;> omega)
  rw [slicePick_cut,← hlen]
  refine ⟨.ref s.heap.objs.size,_,I.laid (t':=s.toks) (o:=.lst (cutV xs lo hi)) (fun b ob q=>Heap.get?_push_of_some _ q) (Nat.le_refl _) ?_,rfl,q _ (I.hok.fresh (Nat.le_refl _))⟩
  exact ⟨Nat.le_trans (cutV_length xs lo hi) hz,_,0,(r.drop (HT.sIx xs.length 0 lo)).take (HT.sIx xs.length xs.length hi - HT.sIx xs.length 0 lo),Heap.get?_push_size _ rfl⟩
def flatV:V→Bool
  | .non=>true
  | .bl _=>true
  | .int _=>true
  | .str _=>true
  | _=>false
def eqV:V→V→Bool
  | .non,.non=>true
  | .bl a,.bl b=>a == b
  | .bl a,.int b=>(if a then 1 else 0) == b
  | .int a,.bl b=>a == (if b then 1 else 0)
  | .int a,.int b=>a == b
  | .str a,.str b=>a == b
  | _,_=>false
theorem eqAt_V {A:Around} {s:Shared} {y x:V} {u v:Value} (ry:RelV y u) (rx:RelV x v) (fy:flatV y=true) (fx:flatV x=true):SeqAt.EqAt A s u v (eqV y x):=by
  cases y with
  | non =>
    cases ry
    cases x with
    | non=>cases rx; exact SeqAt.EqAt.same _
    | bl b=>cases rx; exact SeqAt.EqAt.none_bool b
    | int b=>obtain ⟨t,rfl⟩:=rx; exact SeqAt.EqAt.none_int b t
    | str b=>obtain ⟨t,rfl⟩:=rx; exact SeqAt.EqAt.none_str b t
    | _=>exact absurd (show false=true from fx) Bool.false_ne_true
  | bl a =>
    cases ry
    cases x with
    | non=>cases rx; exact SeqAt.EqAt.bool_none a
    | bl b=>cases rx; exact SeqAt.EqAt.bool_bool a b
    | int b=>obtain ⟨t,rfl⟩:=rx; exact SeqAt.EqAt.bool_int a b t
    | str b=>obtain ⟨t,rfl⟩:=rx; exact SeqAt.EqAt.bool_str a b t
    | _=>exact absurd (show false=true from fx) Bool.false_ne_true
  | int a =>
    obtain ⟨t',rfl⟩:=ry
    cases x with
    | non=>cases rx; exact SeqAt.EqAt.int_none a t'
    | bl b=>cases rx; exact SeqAt.EqAt.int_bool a t' b
    | int b=>obtain ⟨t,rfl⟩:=rx; exact SeqAt.EqAt.int_int a t' b t
    | str b=>obtain ⟨t,rfl⟩:=rx; exact SeqAt.EqAt.int_str a t' b t
    | _=>exact absurd (show false=true from fx) Bool.false_ne_true
  | str a =>
    obtain ⟨t',rfl⟩:=ry
    cases x with
    | non=>cases rx; exact SeqAt.EqAt.str_none a t'
    | bl b=>cases rx; exact SeqAt.EqAt.str_bool a t' b
    | int b=>obtain ⟨t,rfl⟩:=rx; exact SeqAt.EqAt.str_int a t' b t
    | str b=>obtain ⟨t,rfl⟩:=rx; exact SeqAt.EqAt.str_str a t' b t
    | _=>exact absurd (show false=true from fx) Bool.false_ne_true
  | _=>exact absurd (show false=true from fy) Bool.false_ne_true
def eqU (x:V) (u:Value):Bool:=match u with
  | .none=>eqV .non x
  | .bool b=>eqV (.bl b) x
  | .int i _=>eqV (.int i) x
  | .str z _=>eqV (.str z) x
  | _=>false
theorem eqU_of {x y:V} {u:Value} (r:RelV y u) (f:flatV y=true):eqU x u=eqV y x:=by
  cases y with
  | non=>cases r; rfl
  | bl b=>cases r; rfl
  | int i=>obtain ⟨t,rfl⟩:=r; rfl
  | str z=>obtain ⟨t,rfl⟩:=r; rfl
  | _=>exact absurd (show false=true from f) Bool.false_ne_true
theorem any_eqU {x:V}:∀ {xs:List V} {us:List Value},Vals xs us→xs.all flatV=true→us.any (eqU x)=xs.any fun y=>eqV y x
  | _,_,.nil,_=>rfl
  | y :: xs,u :: us,.cons r t,f=>by
    rw [List.all_cons,Bool.and_eq_true] at f
    rw [List.any_cons,List.any_cons,eqU_of r f.1,any_eqU t f.2]
theorem mem_eqAt {A:Around} {s:Shared} {x:V} {v:Value} (rx:RelV x v) (fx:flatV x=true):∀ {xs:List V} {us:List Value},Vals xs us→xs.all flatV=true→∀ u∈us,SeqAt.EqAt A s u v (eqU x u)
  | _,_,.nil,_=>fun u hu=>by cases hu
  | y :: xs,u :: us,.cons r t,f=>fun u' hu=>by
    rw [List.all_cons,Bool.and_eq_true] at f
    rcases List.mem_cons.mp hu with rfl | hu
    · rw [eqU_of r f.1]; exact eqAt_V r rx f.1 fx
    · exact mem_eqAt rx fx t f.2 u' hu
def inV (x:V) (xs:List V):Bool:=xs.any fun y=>eqV y x
def rIn (K:PySem.W.Frag) (neg:Bool):R2:=fun x y H Q=>∃ p xs,y=.ref p∧(SqL K H p xs∨SqT K H p xs)∧flatV x=true∧xs.all flatV=true∧Q (.bl (if neg then !inV x xs else inV x xs)) H
theorem op_in_seq:OpR X (compareOp .In) (rIn X.K false):=by
  intro pins s σ H x y v u Q I rx ry h
  obtain ⟨p,xs,rfl,hq,fx,fs,q⟩:=h
  cases ry
  rcases hq with hq | hq
  · obtain ⟨its,r,pl,hz⟩:=I.list hq
    refine SeqAt.in_listAt (eqU x) pl.isList (fun w hw=>mem_eqAt rx fx r fs w (by simpa using hw)) ⟨.bl _,H,I,rfl,?_⟩
    rw [show its.toArray.any (eqU x)=its.any (eqU x) by simp,any_eqU r fs]
    exact q
  · obtain ⟨its,r,pl,hz⟩:=I.tuple hq
    refine SeqAt.in_tupleAt (eqU x) pl (fun w hw=>mem_eqAt rx fx r fs w (by simpa using hw)) ⟨.bl _,H,I,rfl,?_⟩
    rw [show its.toArray.any (eqU x)=its.any (eqU x) by simp,any_eqU r fs]
    exact q
theorem op_notIn_seq:OpR X (compareOp .NotIn) (rIn X.K true):=by
  intro pins s σ H x y v u Q I rx ry h
  obtain ⟨p,xs,rfl,hq,fx,fs,q⟩:=h
  cases ry
  rcases hq with hq | hq
  · obtain ⟨its,r,pl,hz⟩:=I.list hq
    refine SeqAt.notIn_listAt (eqU x) pl.isList (fun w hw=>mem_eqAt rx fx r fs w (by simpa using hw)) ⟨.bl _,H,I,rfl,?_⟩
    rw [show its.toArray.any (eqU x)=its.any (eqU x) by simp,any_eqU r fs]
    exact q
  · obtain ⟨its,r,pl,hz⟩:=I.tuple hq
    refine SeqAt.notIn_tupleAt (eqU x) pl (fun w hw=>mem_eqAt rx fx r fs w (by simpa using hw)) ⟨.bl _,H,I,rfl,?_⟩
    rw [show its.toArray.any (eqU x)=its.any (eqU x) by simp,any_eqU r fs]
    exact q
theorem call_len_seq:CallR X (.builtin "len") (fun xs H Q=>∃ p ys,xs=[.ref p]∧(SqL X.K H p ys∨SqT X.K H p ys)∧Q (.int ys.length) H):=by
  intro pins s σ H xs us Q I r h
  obtain ⟨p,ys,rfl,hq,q⟩:=h
  obtain ⟨u,rfl,rx⟩:=vals1 r
  cases rx
  have hn:=line63
  rcases hq with hq | hq
  · obtain ⟨its,r',pl,hz⟩:=I.list hq
    have hlen:=r'.length
    exact Calls.call_len_list pl.isList (by simp only [List.size_toArray] <;> omega) ⟨.int ys.length,H,I.tok _,⟨s.toks+1,by rw [List.size_toArray,hlen]⟩,q⟩
  · obtain ⟨its,r',pl,hz⟩:=I.tuple hq
    have hlen:=r'.length
    exact len_tuple pl (by simp only [List.size_toArray] <;> omega) ⟨.int ys.length,H,I.tok _,⟨s.toks+1,by rw [List.size_toArray,hlen]⟩,q⟩
theorem call_list_of:CallR X (.type "list") (fun xs H Q=>∃ p ys,xs=[.ref p]∧(SqL X.K H p ys∨SqT X.K H p ys)∧∀ l,H l=none→Q (.ref l) (upd H l (.lst ys))):=by
  intro pins s σ H xs us Q I r h
  obtain ⟨p,ys,rfl,hq,q⟩:=h
  obtain ⟨u,rfl,rx⟩:=vals1 r
  cases rx
  have fin:∀ (its:List Value),Vals ys its→ys.length≤sizeLine→∀ (h':Heap) (c':Nat),(∀ b o',s.heap.get? b=some o'→h'.get? b=some o') →
      h'.get? s.heap.objs.size=some { cls:=.type "list",dict:=none,data:=.seq its.toArray c',slots:=#[] }→EP X pins σ Q (.ref s.heap.objs.size) { s with heap:=h' }:=fun its r' hz h' c' kp e =>
    ⟨.ref s.heap.objs.size,_,I.laid (t':=s.toks) kp (Nat.le_refl _) (show ObjOk X.prog X.w _ h' _ (.lst ys) from ⟨hz,its,c',r',e⟩),rfl,q _ (I.hok.fresh (Nat.le_refl _))⟩
  rcases hq with hq | hq
  · obtain ⟨its,r',pl,hz⟩:=I.list hq
    have hlen:=r'.length
    obtain ⟨o,ho,hc,n,hd⟩:=pl.isList
    exact call_list_seq p (.inl rfl) ho hc hd (fun h' c' kp e=>fin its r' hz h' c' kp e) (by simp only [List.size_toArray] <;> omega)
  · obtain ⟨its,r',pl,hz⟩:=I.tuple hq
    have hlen:=r'.length
    obtain ⟨o,ho,hc,n,hd⟩:=pl
    exact call_list_seq p (.inr rfl) ho hc hd (fun h' c' kp e=>fin its r' hz h' c' kp e) (by simp only [List.size_toArray] <;> omega)
theorem call_tuple_of:CallR X (.type "tuple") (fun xs H Q=>∃ p ys,xs=[.ref p]∧((SqL X.K H p ys∧∀ l,H l=none→Q (.ref l) (upd H l (.tup ys)))∨(SqT X.K H p ys∧Q (.ref p) H))):=by
  intro pins s σ H xs us Q I r h
  obtain ⟨p,ys,rfl,h⟩:=h
  obtain ⟨u,rfl,rx⟩:=vals1 r
  cases rx
  rcases h with ⟨hq,q⟩ | ⟨hq,q⟩
  · obtain ⟨its,r',pl,hz⟩:=I.list hq
    have hlen:=r'.length
    refine call_tuple_list pl.isList (fun h' kp=>?_) (by simp only [List.size_toArray] <;> omega)
    have I1:Inv X pins σ H { s with heap:=h' }:=I.kept (t':=s.toks) kp
    have I2:Inv X pins σ (upd H h'.objs.size (.tup ys)) { s with heap:=h'.push { cls:=.type "tuple",data:=.seq its.toArray } } :=
      I1.laid (t':=s.toks) (fun b o e=>Heap.get?_push_of_some _ e) (Nat.le_refl _) (show ObjOk X.prog X.w _ _ _ (.tup ys) from ⟨hz,its,r',IsTup.new _ _⟩)
    exact ⟨.ref h'.objs.size,_,I2,rfl,q _ (I1.hok.fresh (Nat.le_refl _))⟩
  · obtain ⟨its,r',pl,hz⟩:=I.tuple hq
    exact call_tuple_same pl ⟨.ref p,H,I,rfl,q⟩
def tyV (K:PySem.W.Frag) (T:String) (x:V) (H:Hp):Prop:=match x with
  | .str _=>T = "str"
  | .int _=>T = "int"
  | .ref p=>(T = "list" ∧ ∃ xs,SqL K H p xs)∨(T = "tuple" ∧ ∃ o,K.lookup p=some o∧o.cls=.type "tuple" ∧ o.dict=none) ∨
      (T = "dict" ∧ ((∃ kvs,H p=some (.dK kvs))∨∃ kvs,H p=some (.dT kvs)))∨(T = "set" ∧ ∃ S n,H p=some (.set S n))
  | _=>False
theorem tyV_is {pins:List (Addr×Obj)} {σ:St} {H:Hp} {s:Shared} {T:String} {x:V} {v:Value} (I:Inv X pins σ H s) (r:RelV x v) (ty:tyV X.K T x H) :
    s.TypeIs v T∧∀ a,v=.ref a→∃ ob,s.heap.get? a=some ob∧ob.dict=none:=by
  cases x with
  | str z =>
    obtain ⟨t,rfl⟩:=r
    cases (show T = "str" from ty)
    exact ⟨typeIs_str s z t,fun _ e=>nomatch e⟩
  | int i =>
    obtain ⟨t,rfl⟩:=r
    cases (show T = "int" from ty)
    exact ⟨typeIs_int s i t,fun _ e=>nomatch e⟩
  | ref p =>
    cases r
    rcases ty with ⟨rfl,xs,hq⟩ | ⟨rfl,o,hk,hc,hd⟩ | ⟨rfl,hk⟩ | ⟨rfl,S,n,hk⟩
    · obtain ⟨its,_,pl,_⟩:=I.list hq
      refine ⟨pl.isList.typeIs,fun a e=>?_⟩
      cases e
      obtain ⟨o,n,e,c,hd,_⟩:=pl
      exact ⟨o,e,hd⟩
    · refine ⟨⟨o,I.kIn p o hk,hc⟩,fun a e=>?_⟩
      cases e
      exact ⟨o,I.kIn _ o hk,hd⟩
    · have z:∃ o,s.heap.get? p=some o∧o.ExactDict:=by
        rcases hk with ⟨kvs,hk⟩ | ⟨kvs,hk⟩
        · obtain ⟨_,_,_,_,o,_,_,e,ex,_⟩:=I.hok p _ hk
          exact ⟨o,e,ex⟩
        · obtain ⟨_,_,_,_,o,_,_,e,ex,_⟩:=I.hok p _ hk
          exact ⟨o,e,ex⟩
      obtain ⟨o,e,ex⟩:=z
      refine ⟨⟨o,e,ex.1⟩,fun a e2=>?_⟩
      cases e2
      exact ⟨o,e,ex.2.1⟩
    · obtain ⟨o,_,_,_,e,ex,_⟩:=I.hok p _ hk
      refine ⟨⟨o,e,ex.1⟩,fun a e2=>?_⟩
      cases e2
      exact ⟨o,e,ex.2.1⟩
  | _=>exact False.elim ty
def tBM (K:PySem.W.Frag) (T:String) (r:V→List V→Hp→VK→Prop) (to:TE) (t:TA):TE:=fun σ H Q=>to σ H fun x H1=>tyV K T x H1∧t σ H1 fun xs H2=>r x xs H2 Q
variable {o e:Expr} {es:List Expr} {to:TE} {t:TA} {name:Str} {apos cpos:Pos} {T id:String} {r:V→List V→Hp→VK→Prop}
theorem pe_bm (pa:PlainAttrs T) (slot:Slot T name id) (hty:typeOf (.builtin id)=pure (.type "method_descriptor")) (hm:MtR X id r) (ho:PE X o to) (ha:PA X (e :: es) t)
    (hbase:attributeBase o name X.env (eval o X.env)=eval o X.env:=by rfl)
    (hfew:((backTo cpos (starEach (e :: es) X.env)).all (fun x=>!x.1) && (backToKw cpos (keywordEach [] X.env)).all (fun x=>x.1.isSome)
      && decide ((e :: es).length+([]:List Keyword).length+(if ([]:List Keyword).isEmpty then 0 else 1)<30))=true:=by rfl)
    (hline:(apos.endLine == cpos.line)=true:=by rfl) (hs:starEach (e :: es) X.env=(false,eval e X.env) :: starEach es X.env:=by rfl) (hplain:(backTo cpos (starEach es X.env)).any (·.1)=false:=by rfl) :
    PE X (.Call (.Attribute o name apos) (e :: es) [] cpos) (tBM X.K T r to t):=by
  intro pins s σ H Q I h
  refine wpAny_Call_method_late hbase hfew hline rfl (thn (ho pins s σ H _ I h) fun v s1 ⟨x,H1,I1,r1,ty,q1⟩=>?_)
  obtain ⟨h1,h2⟩:=tyV_is I1 r1 ty
  refine ⟨T,id,pa,slot,hty,h1,h2,?_⟩
  have hA:=ha cpos pins s1 σ H1 _ I1 q1
  rw [hs] at hA ⊢
  refine Calls.callWith_builtin (by show (false || (backTo cpos (starEach es X.env)).any (·.1))=false; rw [hplain] <;> rfl) (Calls.evalArgs_plain ?_)
  exact thn hA fun us s2 ⟨vs,H2,I2,r2,q2⟩=>hm pins s2 σ H2 x vs v us Q I2 r1 r2 q2
/- xs.append(e),list.index on a module's tuple .. are MtR facts of 06m -/
end
end L2
namespace L2
open PySem PySem.Spec PyProof.Rows
def MtM (X:Cx) (id:String) (r:V→List V→Hp→VK→Prop):Prop :=
  ∀ (pins:List (Addr×Obj)) (s:Shared) (σ:St) (H:Hp) (x:V) (xs:List V) (v:Value) (us:List Value) (Q:VK),Inv X pins σ H s→RelV x v→Vals xs us→r x xs H Q →
    wpAny (model X.prog X.w) X.A (call (.builtin id) (v :: us)) (EP X pins σ Q) X.xe s
theorem Vals.one:∀ {x:V} {us:List Value},Vals [x] us→∃ u,us=[u]∧RelV x u
  | _,_,.cons r .nil=>⟨_,rfl,r⟩
section
variable {X:Cx} {pins:List (Addr×Obj)} {σ:St} {H:Hp} {s:Shared} {l b:Addr} {xs ys zs:List V}
theorem Inv.lset {its its':List Value} {n:Nat} {f:Array Value→Array Value} {t':Nat} (I:Inv X pins σ H s) (hH:H l=some (.lst xs))
    (e:s.heap.get? l=some { cls:=.type "list",data:=.seq its.toArray n }) (hf:f its.toArray=its'.toArray) (hv:Vals ys its') (hz:ys.length≤sizeLine) :
    Inv X pins σ (upd H l (.lst ys)) { s with heap:=s.heap.update l (Obj.mapSeq f),toks:=t' }:=by
  have q:=PySem.IsL.update e f
  rw [hf] at q
  refine I.write (x:=l) (e:=l) (by rw [hH]; exact trivial) (.inl rfl) (fun b' u hb hu=>(Heap.get?_update_other s.heap (Obj.mapSeq f) (Ne.symm hb)).trans hu) ⟨_,q⟩ ?_
  exact ⟨hz,its',_,hv,q⟩
theorem Inv.lnew {its:List Value} {t':Nat} (I:Inv X pins σ H s) (hv:Vals ys its) (hz:ys.length≤sizeLine) :
    Inv X pins σ (upd H s.heap.objs.size (.lst ys)) { s with heap:=s.heap.push { cls:=.type "list",data:=.seq its.toArray },toks:=t' } :=
  I.laid (fun _ _ q=>Heap.get?_push_of_some _ q) (Nat.le_refl _) ⟨hz,its,0,hv,Heap.get?_push_size _ rfl⟩
theorem Inv.fresh (I:Inv X pins σ H s):H s.heap.objs.size=none:=I.hok.fresh (Nat.le_refl _)
theorem Inv.lstM (I:Inv X pins σ H s) (hH:H l=some (.lst xs)):xs.length≤sizeLine∧∃ (its:List Value) (n:Nat),Vals xs its∧xs.length=its.length∧s.heap.get? l=some { cls:=.type "list",data:=.seq its.toArray n }:=by
  obtain ⟨z,its,n,r,e⟩:=I.hok l _ hH
  exact ⟨z,its,n,r,r.length,e⟩
end
section
variable {X:Cx}
def rAppend:V→List V→Hp→VK→Prop:=fun x vs H Q=>∃ l xs y,x=.ref l∧vs=[y]∧H l=some (.lst xs)∧xs.length<sizeLine∧Q .non (upd H l (.lst (xs++[y])))
theorem mt_append:MtM X "list.append" rAppend:=by
  intro pins s σ H x vs v us Q I rx rv h
  obtain ⟨l,xs,y,rfl,rfl,hH,hz,q⟩:=h
  cases rx
  obtain ⟨u,rfl,ru⟩:=rv.one
  obtain ⟨z,its,n,r,hl,e⟩:=I.lstM hH
  refine call_meets F.slot_list_append ⟨_,e,rfl⟩ F.entry_list_append (F.args_list_append_2 _ _) (PySem.list_append l its.toArray n u (by rw [List.size_toArray]; omega)) ⟨e,?_⟩
  refine ⟨.non,_,I.lset (its':=its++[u]) hH e (by simp) (r.append (.cons ru .nil)) ?_,rfl,q⟩
  rw [List.length_append,List.length_singleton]
  omega
def rCat:R2:=fun x y H Q=>∃ l b xs zs,x=.ref l∧y=.ref b∧H l=some (.lst xs)∧H b=some (.lst zs)∧xs.length+zs.length≤sizeLine∧∀ p,H p=none→Q (.ref p) (upd H p (.lst (xs++zs)))
theorem op_cat:OpR X (binaryOp .Add) rCat:=by
  intro pins s σ H x y v u Q I rx ry h
  obtain ⟨l,b,xs,zs,rfl,rfl,hH,hB,hz,q⟩:=h
  cases rx
  cases ry
  obtain ⟨z,its,n,r,hl,e⟩:=I.lstM hH
  obtain ⟨z2,its2,n2,r2,hl2,e2⟩:=I.lstM hB
  refine PySem.P.add_list e e2 ?_ (by rw [List.size_toArray,List.size_toArray]; omega)
  have ea:its.toArray++its2.toArray=(its++its2).toArray:=by simp
  rw [ea]
  exact ⟨.ref _,_,I.lnew (t':=s.toks) (r.append r2) (by rw [List.length_append]; omega),rfl,q _ I.fresh⟩
end
end L2
namespace Att
open PySem PySem.W PySem.Calls PyProof.Rows
theorem ints_of_wellAll {P:Params} {h:Heap}:∀ (ns:List Int) (vs:List Value),WellAll P h vs (ns.map WData.int)→IntsAre vs ns:=by
  intro ns
  induction ns with
  | nil =>
    intro vs w
    rw [List.map_nil] at w
    cases w
    exact .nil
  | cons n ns ih =>
    intro vs w
    rw [List.map_cons] at w
    cases w with
    | cons a b =>
      cases a
      exact .cons _ _ (ih _ b)
theorem script_of {l:OpenLaw} {n:Nat} (hn:l.most=some n) {P:Params} {h:Heap} {args:List WData} {vals:List Value}
    (hpre:l.row.toRowW.claim.pre args=true) (hwl:WellAll P h vals args) :
    ∃ a vs ns,vals=[Value.ref a]∧args=[WData.list (ns.map WData.int)]∧h.get? a=some { cls:=.type "list",data:=.seq vs.toArray }∧IntsAre vs ns∧ns.length≤n:=by
  have hsh:WShape.hasAll [] args [.list .int]=true:=(pre_splitW hpre).1
  have hc:l.pre.holds [] { args:=args }=true:=(pre_splitW hpre).2
  obtain ⟨d,r,rfl,h1,h2⟩:=hasAllW_cons hsh
  obtain rfl:=hasAllW_nil h2
  obtain ⟨xs,rfl,h3⟩:=hasW_list h1
  obtain ⟨ns,rfl⟩:=items_int h3
  have hlen:ns.length≤n:=by
    unfold OpenLaw.pre at hc
    have h4:(WTm.not (.lt (.lit (.int (n:Int))) (.len (.arg 0)))).holds [] { args:=[.list (ns.map .int)] }=true:=by
      have h4:=(holds_andW hc).1
      rw [hn] at h4
      exact h4
    have h5:=condW_of h4 (w_not (w_lt w_lit (w_len_list (w_arg rfl))))
    rw [List.length_map] at h5
    refine Nat.le_of_not_lt fun q=>?_
    have q':(n:Int)<((ns.length:Nat):Int):=by omega
    first
      | (rw [decide_eq_true q'] at h5; exact absurd h5 (by decide))
      | (simp at h5; omega)
  cases hwl with
  | cons w1 w2 =>
    cases w2
    cases w1 with
    | list ho hall=>exact ⟨_,_,ns,rfl,rfl,ho,ints_of_wellAll ns _ hall,hlen⟩
theorem post_true (l:OpenLaw) (args:List WData):l.row.toRowW.claim.post args (.bool true) args=true :=
  postW_of (r:=l.row.toRowW) (X:=(true == true))
    (show WShape.has [] (.bool true) .bool=true by first | rfl | decide | simp [WShape.has,WShape.arms,WShape.armsAll])
    (show (WTm.eq .res (.lit (.bool true))).value [] { args:=args,res:=some (.bool true),after:=args }=some (.bool (true == true)) from w_eq_bool (w_res rfl) w_lit) rfl
theorem attach_call {l:OpenLaw} {n:Nat} {q:Program} {loose:List Str} {XP:(Str→Option Value)→Heap→Prop} {YP:World→Heap→Prop} {d:DefRec}
    (hn:l.most=some n) (hdf:d.params.defaults=[])
    (call:∀ (w:World) (s₀ s₁:Shared) (mg mb:Str→Option Value) (fa:Addr) (o:Obj) (pm cd doc:Value) (a:Addr) (vs:List Value) (ns:List Int),
      Ground q loose [] XP w s₀ mg mb s₁.heap→YP w s₁.heap →
      s₁.heap.get? fa=some o→o.data=.func (docDef d.name d.params d.body d.scope pm cd doc)→s₁.heap.CodeRec cd d.name→mg d.name=some (.ref fa) →
      s₁.heap.get? a=some { cls:=.type "list",data:=.seq vs.toArray }→IntsAre vs ns→ns.length≤n→s₁.gens=#[] →
      codeAny (model l.prog w) callerA (.call (.ref fa) ⟨[.ref a],[]⟩) (fun r s'=>r=.ok (.ret (.bool true))∧OldK s₁.heap s'.heap∧s'.os=s₁.os∧AllBare s'.gens) s₁) :
    WalkO q loose XP YP l.row.toRowW d [] (fun f vs=>PySem.call f vs):=by
  intro w s₀ s₁ mg mb G Y fa o pm cd doc dV kV ho hd hcd hD hmg hg args vals as hpre hlay hrd hwl hlo
  obtain rfl:dV=.none:=Dflts.none hD hdf
  obtain rfl:kV=.none:=Dflts.noKw hD
  obtain ⟨a,vs,ns,rfl,rfl,hobj,hints,hlen⟩:=script_of hn hpre hwl
  refine enter_call (codeAny_mono (call w s₀ s₁ mg mb fa o pm cd doc a vs ns G Y ho (fd_plain hd) hcd hmg hobj hints hlen hg) fun r s' hq=>?_)
  obtain ⟨rfl,h2,h3,h4⟩:=hq
  exact ⟨.inl ⟨.bool true,.bool true,[],rfl,fun _=>rfl,.bool true,post_true l _,fun _=>⟨List.Pairwise.nil,fun _ hm=>(nomatch hm)⟩⟩,h2,h3,h4⟩
end Att
namespace L2
open PySem PySem.Spec PyProof.Rows
theorem vals_ints:∀ {vs:List Value} {ns:List Int},IntsAre vs ns→Vals (ns.map V.int) vs
  | _,_,.nil=>.nil
  | _,_,.cons n t h=>.cons ⟨t,rfl⟩ (vals_ints h)
end L2
namespace L2
open PySem PySem.Spec PyProof.Rows
end L2
namespace L2
open PySem PySem.Spec PyProof.Rows
def inClass (s:Stmt) (j:Nat):Stmt:=match s with
  | .ClassDef _ _ _ body _ _ _ _ _ _ _=>body.getD j (.Pass ⟨0,0,0,0⟩)
  | _=>.Pass ⟨0,0,0,0⟩
def defArgs (s:Stmt):Arguments:=match s with
  | .FunctionDef _ a _ _ _ _ _ _ _ _=>a
  | _=>{ posonlyargs:=[],args:=[],vararg:=none,kwonlyargs:=[],kw_defaults:=[],kwarg:=none,defaults:=[] }
def defBody (s:Stmt):List Stmt:=match s with
  | .FunctionDef _ _ b _ _ _ _ _ _ _=>b
  | _=>[]
def defScope (s:Stmt):Scope:=match s with
  | .FunctionDef _ _ _ _ _ _ sc _ _ _=>sc
  | _=>{ kind:=.function,names:=[],isGenerator:=false,isCoroutine:=false }
abbrev CX0:CXT:=fun _ _ _ _ _ _=>False
abbrev E0:XK:=fun _ _ _=>False
theorem pass0 {X:Cx}:Passes CX0 X E0:=fun _ _ _ _ _ _ _ h=>h.elim
structure Fun (K:PySem.W.Frag) (x qual:Str) (st:Stmt) (f:Addr) (fd:FuncData):Prop where
  ex:∃ (oc:Value) (od:Option Addr) (kV doc pm:Value) (an:Option Addr) (cdv ct:Value) (osl:Array (Option Value)),
    fd=PySem.W.fnOf x qual (defArgs st) (defBody st) (defScope st) .none kV doc pm an cdv ct∧K.lookup f=some ⟨oc,od,.func fd,osl⟩∧PySem.W.codeIn K cdv qual=true
  kp:PySem.W.keepIn K (.ref f)=true
section
variable {P:Program} {w:World} {K:PySem.W.Frag} {mg:Str→Option Value} {base:Heap}
theorem Fun.ok {x qual:Str} {st:Stmt} {f:Addr} {fd:FuncData} {N ps:List Str} {k:Nat} {sp:Sp} (F:Fun K x qual st f fd) (S:FnScope N ps (defScope st)) (len:∀ vs H Q E,sp vs H Q E→vs.length=ps.length)
    (hbody:∀ (cdv:Value) (A:Around) (outer:List Env) (s:Shared) (H:Hp) (vs:List V) (Q:VK) (E:XK),Room k (A.deeper (envOfC qual (defScope st) s.heap.objs.size f cdv))→sp vs H Q E →
      ∃ t,PSs (cxOf CX0 P w K mg base N qual (defScope st) f cdv A outer s H E).nox (defBody st) t∧t { nx:=fun _ H'=>Q .non H',rt:=Q } (start N vs) H):FnOk P w K mg base CX0 (k+1) f fd ps sp:=by
  obtain ⟨oc,od,kV,doc,pm,an,cdv,ct,osl,rfl,lk,hcd⟩:=F.ex
  refine fn_of lk hcd S len fun A outer s H vs Q E hr hsp=>?_
  obtain ⟨t,h,q⟩:=hbody cdv A outer s H vs Q E hr hsp
  exact ⟨t,h.nox,q⟩
theorem Fun.binds {x qual:Str} {st:Stmt} {f:Addr} {fd:FuncData} {ps:List Str} (F:Fun K x qual st f fd)
    (h:∀ (kV doc pm:Value) (an:Option Addr) (cdv ct:Value) (us:List Value),us.length=ps.length→bindArgs (PySem.W.fnOf x qual (defArgs st) (defBody st) (defScope st) .none kV doc pm an cdv ct) ⟨us,[]⟩=pure (ps.zip us)):Binds K fd ps []:=by
  obtain ⟨oc,od,kV,doc,pm,an,cdv,ct,osl,rfl,lk,hcd⟩:=F.ex
  exact .all (h kV doc pm an cdv ct)
theorem fun_mk {x qual:Str} {st:Stmt} {f:Addr} {oc:Value} {od an:Option Addr} {osl:Array (Option Value)} {kV doc pm cdv ct:Value} (l:K.lookup f=some ⟨oc,od,.func (PySem.W.fnOf x qual (defArgs st) (defBody st) (defScope st) .none kV doc pm an cdv ct),osl⟩)
    (c:PySem.W.codeIn K cdv qual=true) (k:PySem.W.keepIn K (.ref f)=true):Fun K x qual st f (PySem.W.fnOf x qual (defArgs st) (defBody st) (defScope st) .none kV doc pm an cdv ct):=⟨⟨oc,od,kV,doc,pm,an,cdv,ct,osl,rfl,l,c⟩,k⟩
end
theorem hu_of {A:Around} {k:Nat} (hr:Room k A):A.units+1<cLine:=Nat.lt_of_le_of_lt (Nat.add_le_add_left (by decide:1≤64) _) hr.units
theorem small1000 {n:Nat} (h:n≤1000):n<sizeLine:=Nat.lt_of_le_of_lt h (by decide)
section
variable {X:Cx}
theorem pv (i:Nat) {x:Str} {pos:Pos} (hN:X.N[i]?=some x:=by rfl) (hv:Vis X.env.scope x:=by first | exact Or.inl rfl | exact Or.inr (Or.inl rfl) | exact Or.inr (Or.inr rfl)) (hd:(x == ("__debug__" : Str))=false:=by decide)
    (hcd:(x == ("__classdict__" : Str))=false:=by decide):PE X (.Name x pos) (tVar i):=pe_var hN hv hd hcd
end
def Same (H H':Hp):Prop:=∀ b o,H b=some o→H' b=some o
theorem Same.refl (H:Hp):Same H H:=fun _ _ h=>h
theorem Same.trans {H H1 H2:Hp} (a:Same H H1) (b:Same H1 H2):Same H H2:=fun c o h=>b c o (a c o h)
theorem Same.free {H H':Hp} (e:Same H H') {l:Addr} (h:H' l=Option.none):H l=Option.none:=by
  cases q:H l with
  | none=>rfl
  | some o =>
    rw [e l o q] at h
    cases h
theorem Same.seq {K:PySem.W.Frag} {H H':Hp} {a:Addr} {xs:List V} (e:Same H H') (h:SqL K H a xs):SqL K H' a xs:=by
  rcases h with (h | ⟨o,h⟩) | h
  · exact .inl (.inl (e _ _ h))
  · exact .inl (.inr ⟨o,e _ _ h⟩)
  · exact .inr h
end L2
set_option Elab.async false
set_option linter.all false
set_option maxRecDepth 100000
set_option maxHeartbeats 4000000
namespace L2
open PySem PySem.Spec PyProof.Rows
def cxIn (X:Cx) (N:List Str) (scope:Scope) (cl:List (Str×Addr)) (C:Addr) (s0:Shared) (H0:Hp) (fp:List Addr) (pins:List (Addr×Obj)):Cx :=
  { X with N:=N,s₀:=s0,H₀:=H0,env:=compEnvC scope cl C X.env,outer:=X.stack,stack:=X.stack,ex:=fp,fn:=fun x=>scope.names.lookup x == some .cell,pn:=X.pn++pins,xe:=fun _ _=>False }
theorem closure_for {env:Env}:∀ (names:List (Str×NameKind)) (acc:List (Str×Addr)),(∀ p∈names,p.2=.free→∃ c,env.cells.lookup p.1=some c)→(∀ x c,acc.lookup x=some c→env.cells.lookup x=some c) →
    ∃ cl,(forIn names acc fun (x:Str×NameKind) cs=>(match x with | (name,kind)=>if (kind == NameKind.free)=true then do let a ← cellOf env name; pure (ForInStep.yield ((name,a) :: cs)) else pure (ForInStep.yield cs):Sem (ForInStep (List (Str×Addr)))))=(pure cl:Sem (List (Str×Addr))) ∧
      (∀ x c,cl.lookup x=some c→env.cells.lookup x=some c)∧(∀ x c,acc.lookup x=some c→cl.lookup x=some c)∧∀ p∈names,p.2=.free→∃ c,cl.lookup p.1=some c
  | [],acc,_,h=>⟨acc,rfl,h,fun _ _ e=>e,fun _ z=>nomatch z⟩
  | (n,k) :: r,acc,h,ha=>by
    by_cases hk:k=.free
    · subst hk
      obtain ⟨c,hc⟩:=h (n,.free) List.mem_cons_self rfl
      have ha':∀ x d,((n,c) :: acc).lookup x=some d→env.cells.lookup x=some d:=fun x d e=>by
        rw [List.lookup_cons] at e
        cases q:x == n with
        | true =>
          rw [q] at e
          have hxn:x=n:=by simpa using q
          subst hxn
          cases e
          exact hc
        | false =>
          rw [q] at e
          exact ha x d e
      obtain ⟨cl,e1,e2,e3,e4⟩:=closure_for r ((n,c) :: acc) (fun p hp=>h p (List.mem_cons_of_mem _ hp)) ha'
      have top:∃ d,cl.lookup n=some d:=⟨c,e3 n c (by rw [List.lookup_cons]; simp)⟩
      refine ⟨cl,?_,e2,fun x d e=>?_,fun p hp hf=>?_⟩
      · rw [List.forIn_cons]
        simp only [cellOf,hc,beq_self_eq_true,if_true]
        exact e1
      · cases q:x == n with
        | true =>
          have hxn:x=n:=by simpa using q
          subst hxn
          have z:=ha x d e
          rw [hc] at z; cases z
          exact e3 x c (by rw [List.lookup_cons]; simp)
        | false=>exact e3 x d (by rw [List.lookup_cons,q]; exact e)
      · rcases List.mem_cons.mp hp with rfl | hp
        · exact top
        · exact e4 p hp hf
    · obtain ⟨cl,e1,e2,e3,e4⟩:=closure_for r acc (fun p hp=>h p (List.mem_cons_of_mem _ hp)) ha
      have hb:(k == NameKind.free)=false:=by simpa using hk
      refine ⟨cl,?_,e2,e3,fun p hp hf=>?_⟩
      · rw [List.forIn_cons]
        simp only [hb,Bool.false_eq_true,if_false]
        exact e1
      · rcases List.mem_cons.mp hp with rfl | hp
        · exact absurd hf hk
        · exact e4 p hp hf
theorem lookup_keep {α:Type} (f:Str→α→α) (x:Str):∀ l:List (Str×α),(l.map fun p=>(p.1,f p.1 p.2)).lookup x=(l.lookup x).map (f x)
  | []=>rfl
  | (n,k) :: r=>by
    have ih:=lookup_keep f x r
    rw [List.map_cons,List.lookup_cons,List.lookup_cons]
    cases q:x == n with
    | true =>
      have e:x=n:=by simpa using q
      subst e
      rfl
    | false=>exact ih
def kindIn (env:Env) (n:Str) (k:NameKind):NameKind:=if (k == NameKind.free && env.scope.kind == .function && env.kindOf n == some .cell)=true then .cell else k
theorem relabel_look (scope:Scope) (env:Env) (x:Str):(relabel scope env).names.lookup x=(scope.names.lookup x).map (kindIn env x):=by
  rw [← lookup_keep (kindIn env) x scope.names]
  show (scope.names.map _).lookup x=_
  congr 1
  refine List.map_congr_left fun p _=>?_
  show (if _ then _ else _)=_
  unfold kindIn
  split <;> rfl
theorem kindIn_cases (env:Env) (n:Str) (k:NameKind):kindIn env n k=k∨(k=.free∧kindIn env n k=.cell):=by
  unfold kindIn
  by_cases h:(k == NameKind.free && env.scope.kind == .function && env.kindOf n == some .cell)=true
  · refine .inr ⟨?_,if_pos h⟩
    rw [Bool.and_eq_true,Bool.and_eq_true] at h
    exact beq_iff_eq.mp h.1.1
  · exact .inl (if_neg h)
theorem lookup_relabel_kind {scope:Scope} {env:Env} {x:Str} {k:NameKind} (h:scope.names.lookup x=some k) :
    (relabel scope env).names.lookup x=some k∨(k=.free∧(relabel scope env).names.lookup x=some .cell):=by
  rw [relabel_look,h]
  rcases kindIn_cases env x k with q | ⟨q,q'⟩
  · exact .inl (congrArg some q)
  · exact .inr ⟨q,congrArg some q'⟩
theorem relabel_back {scope:Scope} {env:Env} {x:Str} {k:NameKind} (h:(relabel scope env).names.lookup x=some k):∃ k',scope.names.lookup x=some k'∧(k'=k∨k'=.free):=by
  rw [relabel_look] at h
  cases q:scope.names.lookup x with
  | none=>rw [q] at h; cases h
  | some k' =>
    rw [q] at h
    have h':kindIn env x k'=k:=Option.some.inj h
    rcases kindIn_cases env x k' with z | ⟨z,_⟩
    · exact ⟨k',rfl,.inl (z.symm.trans h')⟩
    · exact ⟨k',rfl,.inr z⟩
theorem lookup_mem {α:Type} {x:Str}:∀ {l:List (Str×α)} {k:α},l.lookup x=some k→(x,k)∈l
  | [],_,h=>by simp at h
  | (n,k) :: r,k',h=>by
    rw [List.lookup_cons] at h
    cases hx:x == n with
    | true =>
      rw [hx] at h; cases h
      have:x=n:=by simpa using hx
      subst this
      exact List.mem_cons_self
    | false =>
      rw [hx] at h
      exact List.mem_cons_of_mem _ (lookup_mem h)
theorem comp_loop {prog:Program} {w:World} {A:Around} {s:Shared} {elt target iter:PySem.Expr} {ifs:List PySem.Expr} {scope:Scope} {pos:Pos} {it acc:Value} {env:Env} {R:Result→Shared→Prop} (I:Nat→Shared→Prop)
    (turn:∀ n s,I n s→wpAny (model prog w) A (pyNext it) (fun r s1=>match r with
      | none=>R (.ok .next) s1
      | some v=>wpAny (model prog w) A (letOwnedTupleGo target it v) (fun _ s0=>wpAny (model prog w) A (assign target env v) (fun _ s2 =>
          wpAny (model prog w) A (forIn ifs true fun c r=>if r=true then do let ok ← isTrue c env (eval c env); pure (ForInStep.yield ok) else pure (ForInStep.yield r)) (fun ok s3 =>
            if ok=true then wpAny (model prog w) A (eval elt env) (fun x s4 =>
              wpAny (model prog w) A (call (.builtin "list.append") [acc,x]) (fun _ s5=>∃ m,m<n∧I m s5) (fun _ _=>False) s4) (fun _ _=>False) s3
            else ∃ m,m<n∧I m s3) (fun _ _=>False) s2) (fun _ _=>False) s0) (fun _ _=>False) s1) (fun _ _=>False) s)
    (n:Nat) (h:I n s):codeAny (model prog w) A (.compLoop (.ListComp elt [⟨target,iter,ifs,0⟩] scope pos) 0 it acc env) R s:=by
  have body:∀ n s,I n s→wpAny (model prog w) A (compTurn (.ListComp elt [⟨target,iter,ifs,0⟩] scope pos) 0 it acc env)
      (fun fin s'=>match fin with | .done f=>R (.ok f) s' | .again c=>c=.compLoop (.ListComp elt [⟨target,iter,ifs,0⟩] scope pos) 0 it acc env∧∃ m,m<n∧I m s') (fun _ _=>False) s:=fun n s hI=>by
    rw [compTurn_list]
    refine wpAny_bind (wpAny_standAt (wpAny_bind (thn (turn n s hI) fun r s1 h1=>?_)))
    cases r with
    | none=>exact wpAny_pure h1
    | some v =>
      refine wpAny_bind (thn h1 fun _ s0 h0=>wpAny_bind (thn h0 fun _ s2 h2=>wpAny_bind (thn h2 fun ok s3 h3=>?_)))
      cases ok with
      | true=>exact wpAny_bind (wpAny_bind (thn h3 fun x s4 h4=>wpAny_bind (thn h4 fun _ s5 h5=>wpAny_pure (wpAny_pure ⟨rfl,h5⟩))))
      | false=>exact wpAny_pure ⟨rfl,h3⟩
  exact codeAny_loop rfl I (fun n s hI=>wpAny_noted (wpAny_mono (body n s hI) (fun _ _ q=>q) fun _ _ q=>q.elim)) n h
def tComp (own:Nat) (js:List Nat) (wi:TI) (g:TG) (tc:TT) (te:TE):TE:=fun σ H Q=>wi σ H fun J H1=>∀ l,H1 l=none →
  ∃ W:Nat→Nat→List V→St→Hp→Prop,(∃ m,W 0 m [] (List.replicate own none++js.map fun j=>(σ[j]?).join) (upd H1 l (.lst [])))∧∀ i m ys σ' H',W i m ys σ' H' →
    (J.stop i H'∧Q (.ref l) H')∨(J.go i H'∧∀ x H2,J.yld i H' x H2→g x σ' H2 fun σ2 H3=>tc σ2 H3 fun b H4 =>
      if b=true then te σ2 H4 fun y H5=>H5 l=some (.lst ys)∧ys.length<sizeLine∧∃ m',m'<m∧W (i+1) m' (ys++[y]) σ2 (upd H5 l (.lst (ys++[y])))
      else ∃ m',m'<m∧W (i+1) m' ys σ2 H4)
def tTrue:TT:=fun _ H Q=>Q true H
structure CompOk (X:Cx) (scope:Scope) (N:List Str) (own:Nat) (js:List Nat):Prop where
  kind:scope.kind=.function
  cell:∀ y∈scope.names,y.2=.cell→scope.names.lookup y.1=some .cell
  names:∀ y∈scope.names,y.2=.local→scope.names.lookup y.1=some .local
  free:∀ y∈scope.names,y.2=.free→X.env.kindOf y.1=some .cell∨X.env.kindOf y.1=some .free
  len:N.length=own+js.length
  js:∀ k j,js[k]?=some j→N[own+k]?=X.N[j]?
  jf:∀ k x,N[own+k]?=some x→scope.names.lookup x=some .free
theorem Un.but {fs ex:List Addr} {H H':Hp} {h h1 h2:Heap} {C:Addr} (u:Un fs ex H H' h h1) (hc:h.objs.size≤C) (sb:∀ b o,b≠C→h1.get? b=some o→h2.get? b=some o):Un fs ex H H' h h2:=by
  have ne:∀ b o,h.get? b=some o→b≠C:=fun b o e=>Nat.ne_of_lt (Nat.lt_of_lt_of_le (Heap.lt_size e) hc)
  refine ⟨fun b o q n hb hx=>sb b o (ne b o q) (u.keep b o q n hb hx),fun b o q n hb hx=>?_,u.free,fun b o q hx=>?_,u.tups,u.frzs,u.tbls⟩
  · obtain ⟨sl,e⟩:=u.slot b o q n hb hx
    exact ⟨sl,sb b _ (ne b o q) e⟩
  · obtain ⟨o',e⟩:=u.there b o q hx
    exact ⟨o',sb b o' (ne b o q) e⟩
theorem cf_app:∀ (names:List (Str×NameKind)) (n:Nat) (acc:List (Str×Addr)),cellsFrom n names acc=cellsFrom n names []++acc
  | [],_,_=>rfl
  | (x,k) :: r,n,acc=>by
    unfold cellsFrom
    by_cases hk:(k == NameKind.cell)=true
    · rw [if_pos hk,if_pos hk,cf_app r (n+1) ((x,n) :: acc),cf_app r (n+1) [(x,n)],List.append_assoc]
      rfl
    · rw [if_neg hk,if_neg hk]
      exact cf_app r n acc
theorem cf_from:∀ (names:List (Str×NameKind)) (n:Nat) (x:Str) (c:Addr),(x,c)∈cellsFrom n names []→(x,NameKind.cell)∈names
  | [],_,_,_,h=>nomatch h
  | (y,k) :: r,n,x,c,h=>by
    unfold cellsFrom at h
    by_cases hk:(k == NameKind.cell)=true
    · rw [if_pos hk,cf_app] at h
      rcases List.mem_append.mp h with q | q
      · exact List.mem_cons_of_mem _ (cf_from r _ x c q)
      · have e:(x,c)=(y,n):=by simpa using q
        cases e
        have hk':k=.cell:=by simpa using hk
        subst hk'
        exact List.mem_cons_self
    · rw [if_neg hk] at h
      exact List.mem_cons_of_mem _ (cf_from r _ x c h)
theorem lookup_of_mem {α:Type}:∀ {l:List (Str×α)} {x:Str} {c:α},(x,c)∈l→∃ d,l.lookup x=some d
  | (y,v) :: r,x,c,h=>by
    rw [List.lookup_cons]
    cases q:x == y with
    | true=>exact ⟨v,rfl⟩
    | false =>
      rcases List.mem_cons.mp h with e | e
      · cases e; simp at q
      · exact lookup_of_mem e
theorem cf_has:∀ (names:List (Str×NameKind)) (n:Nat) (x:Str),(x,NameKind.cell)∈names→∃ c,(x,c)∈cellsFrom n names []
  | [],_,_,h=>nomatch h
  | (y,k) :: r,n,x,h=>by
    unfold cellsFrom
    rcases List.mem_cons.mp h with e | e
    · cases e
      rw [if_pos (show (NameKind.cell == NameKind.cell)=true from rfl),cf_app]
      exact ⟨n,List.mem_append_right _ (by simp)⟩
    · by_cases hk:(k == NameKind.cell)=true
      · rw [if_pos hk,cf_app]
        obtain ⟨c,q⟩:=cf_has r (n+1) x e
        exact ⟨c,List.mem_append_left _ q⟩
      · rw [if_neg hk]
        exact cf_has r n x e
theorem lookup_two {α:Type}:∀ (l m:List (Str×α)) (x:Str),(l++m).lookup x=match l.lookup x with | some c=>some c | none=>m.lookup x
  | [],m,x=>rfl
  | (y,v) :: r,m,x=>by
    rw [List.cons_append,List.lookup_cons,List.lookup_cons]
    cases x == y with
    | true=>rfl
    | false=>exact lookup_two r m x
theorem newEnv_cells {M:Model} {A:Around} {E:Value→Shared→Prop} {s:Shared} {scope:Scope} {globals:Addr} {cl:List (Str×Addr)} {qual:Str} {env:Env} {Q:Env→Shared→Prop}
    (h:Q (newEnv scope s.heap.objs.size globals (cellsFrom (s.heap.objs.size+1) scope.names cl) qual none .none (some env) builtinsNs) { s with heap:=pushCells (s.heap.push { cls:=.type "dict",data:=.dict #[] }) scope.names }) :
    wpAny M A (newFunctionEnv scope globals cl [] qual none .none (some env)) Q E s:=by
  simp only [newFunctionEnv,Option.isSome_some,if_true]
  refine wpAny_bind (wpAny_alloc (wpAny_bind (wpAny_layCells _ (fun name kind cells=>by cases hkc:kind == NameKind.cell <;> simp [hkc]) _ _ _ _ ?_)))
  rw [show ({ s with heap:=s.heap.push { cls:=.type "dict",data:=.dict #[] } }:Shared).heap.objs.size=s.heap.objs.size+1 from Heap.size_push ..]
  rw [List.forIn_nil]
  exact wpAny_bind (wpAny_pure (wpAny_pure h))
structure CellsIn (X:Cx) (scope:Scope) (cl':List (Str×Addr)) (n:Nat) (h':Heap):Prop where
  k1:∀ x c,cl'.lookup x=some c→X.env.cells.lookup x=some c∨(n<c∧h'.IsCell c none∧(x,NameKind.cell)∈scope.names)
  k2:∀ x,scope.names.lookup x=some .free→∃ c,cl'.lookup x=some c∧X.env.cells.lookup x=some c
  k3:∀ p∈scope.names,p.2=.cell∨p.2=.free→∃ c,cl'.lookup p.1=some c
  k4:∀ x y c,cl'.lookup x=some c→cl'.lookup y=some c→x=y
  k5:∀ x c,scope.names.lookup x=some .cell→cl'.lookup x=some c→n<c
section
variable {X:Cx} {scope:Scope} {N:List Str} {own:Nat} {js:List Nat}
theorem cellsIn_mk {cl:List (Str×Addr)} {n:Nat} {h0:Heap} (c:CompOk X scope N own js) (cl1:∀ x c,cl.lookup x=some c→X.env.cells.lookup x=some c) (cl2:∀ p∈scope.names,p.2=.free→∃ c,cl.lookup p.1=some c)
    (inj:∀ x y c,X.env.cells.lookup x=some c→X.env.cells.lookup y=some c→x=y) (lt:∀ x c,X.env.cells.lookup x=some c→c<n) (hn:h0.objs.size=n+1):CellsIn X scope (cellsFrom (n+1) scope.names cl) n (pushCells h0 scope.names):=by
  have ok:=cellsFrom_ok scope.names h0 (n+1) [] ⟨fun _ _ hm=>(nomatch hm),List.Pairwise.nil⟩ (by rw [hn]; exact Nat.le_refl _)
  rw [hn] at ok
  have two:∀ x,(cellsFrom (n+1) scope.names cl).lookup x=match (cellsFrom (n+1) scope.names []).lookup x with | some c=>some c | none=>cl.lookup x:=fun x=>by
    rw [cf_app,lookup_two]
    cases (cellsFrom (n+1) scope.names []).lookup x <;> rfl
  have own':∀ x d,(cellsFrom (n+1) scope.names []).lookup x=some d→(pushCells h0 scope.names).IsCell d none∧n<d∧(x,NameKind.cell)∈scope.names:=fun x d e =>
    ⟨(ok.empty x d (mem_of_lookup e)).1,(ok.empty x d (mem_of_lookup e)).2,cf_from _ _ x d (mem_of_lookup e)⟩
  have part:∀ x d,(cellsFrom (n+1) scope.names cl).lookup x=some d→(cellsFrom (n+1) scope.names []).lookup x=some d∨((cellsFrom (n+1) scope.names []).lookup x=none∧cl.lookup x=some d):=fun x d e=>by
    rw [two] at e
    cases q:(cellsFrom (n+1) scope.names []).lookup x with
    | some d'=>rw [q] at e; exact .inl e
    | none=>rw [q] at e; exact .inr ⟨rfl,e⟩
  have has:∀ x,(x,NameKind.cell)∈scope.names→∃ d,(cellsFrom (n+1) scope.names []).lookup x=some d:=fun x m=>by
    obtain ⟨d,q⟩:=cf_has scope.names (n+1) x m
    exact lookup_of_mem q
  refine ⟨fun x d e=>?_,fun x e=>?_,fun p hp hk=>?_,fun x y d e1 e2=>?_,fun x d e1 e2=>?_⟩
  · rcases part x d e with q | ⟨_,q⟩
    · exact .inr ⟨(own' x d q).2.1,(own' x d q).1,(own' x d q).2.2⟩
    · exact .inl (cl1 x d q)
  · obtain ⟨d,q⟩:=cl2 _ (lookup_mem e) rfl
    have no:(cellsFrom (n+1) scope.names []).lookup x=none:=by
      cases z:(cellsFrom (n+1) scope.names []).lookup x with
      | none=>rfl
      | some d' =>
        have y:=c.cell _ (own' x d' z).2.2 rfl
        rw [show scope.names.lookup x=_ from e] at y
        cases y
    exact ⟨d,by rw [two,no]; exact q,cl1 x d q⟩
  · rw [two]
    cases z:(cellsFrom (n+1) scope.names []).lookup p.1 with
    | some d'=>exact ⟨d',rfl⟩
    | none =>
      rcases hk with hk | hk
      · obtain ⟨d,q⟩:=has p.1 (by rw [← hk]; exact hp)
        rw [z] at q; cases q
      · exact cl2 p hp hk
  · rcases part x d e1 with q1 | ⟨_,q1⟩
    · rcases part y d e2 with q2 | ⟨_,q2⟩
      · exact name_of_addr ok.apart (mem_of_lookup q1) (mem_of_lookup q2)
      · exact absurd (Nat.lt_trans (own' x d q1).2.1 (lt y d (cl1 y d q2))) (Nat.lt_irrefl _)
    · rcases part y d e2 with q2 | ⟨_,q2⟩
      · exact absurd (Nat.lt_trans (own' y d q2).2.1 (lt x d (cl1 x d q1))) (Nat.lt_irrefl _)
      · exact inj x y d (cl1 x d q1) (cl1 y d q2)
  · obtain ⟨d',q⟩:=has x (lookup_mem e1)
    rw [two,q] at e2
    cases e2
    exact (own' x d q).2.1
theorem comp_start {pins:List (Addr×Obj)} {σ:St} {H:Hp} {s:Shared} {cl:List (Str×Addr)} {fp:List Addr} {h':Heap} {t':Nat} (c:CompOk X scope N own js) (I:Inv X pins σ H s) (hf:∀ b∈fp,FpOk X pins H b)
    (fo:∀ b∈fp,b<s.heap.objs.size)
    (ci:CellsIn X scope cl s.heap.objs.size h')
    (hn:h'.Ns s.heap.objs.size (fun _=>none)) (hk:∀ b o,s.heap.get? b=some o→h'.get? b=some o) :
    Inv (cxIn X N scope cl s.heap.objs.size s H fp pins) [] (List.replicate own none++js.map fun j=>(σ[j]?).join) H { s with heap:=h',toks:=t' }:=by
  have cne:∀ x c,cl.lookup x=some c→c≠s.heap.objs.size:=fun x c e=>by
    rcases ci.k1 x c e with q | ⟨q,_⟩
    · obtain ⟨v,q⟩:=I.cell x c q
      exact Nat.ne_of_lt q.lt
    · exact Nat.ne_of_gt q
  have ok:(cxIn X N scope cl s.heap.objs.size s H fp pins).Ok:=by
    refine ⟨I.ok.mod,c.kind,I.ok.glob,I.ok.blt,Nat.le_refl _,ci.k4,fun x hx=>?_,fun x d z e=>Nat.le_of_lt (ci.k5 x d (beq_iff_eq.mp (show (scope.names.lookup x == some .cell)=true from z)) e),I.ok.hd,I.ok.frames,.inl rfl,fun b hb=>⟨Nat.ne_of_lt (fo b hb),fun x d e=>(ci.k1 x d e).elim (fun q=>(hf b hb).2.2.2.2.1 x d q) fun q=>Nat.ne_of_gt (Nat.lt_trans (fo b hb) q.1)⟩,I.bs,
      Nat.le_trans I.ok.bsz I.sz,fun b o e hb=>?_,fun b hb z=>?_,I.stack,I.stkFree⟩
    · have back:∀ k,(relabel scope X.env).names.lookup x=some k→k=.cell∨k=.free→∃ k',(x,k')∈scope.names∧(k'=NameKind.cell∨k'=NameKind.free):=fun k e hk=>by
        obtain ⟨k',e',z⟩:=relabel_back e
        refine ⟨k',lookup_mem e',?_⟩
        rcases z with z | z
        · subst z; exact hk
        · exact .inr z
      obtain ⟨k',m,hk'⟩:∃ k',(x,k')∈scope.names∧(k'=NameKind.cell∨k'=NameKind.free):=by
        rcases hx with hx | hx
        · exact back _ hx (.inl rfl)
        · exact back _ hx (.inr rfl)
      exact ci.k3 _ m hk'
    · rcases (hf b hb).2.2.2.1 with z | z
      · exact I.ok.noex b o e z
      · exact absurd (Nat.lt_of_lt_of_le (Nat.lt_of_lt_of_le (Heap.lt_size e) I.ok.bsz) z) (Nat.lt_irrefl _)
    · rcases List.mem_cons.mp (I.stkSub b z) with q | q
      · exact (hf b hb).2.1 q
      · exact (hf b hb).2.2.1 q
  refine ⟨ok,rfl,I.bare,Un.kept hk,⟨_,hn,fun i x v e1 e2 e3=>?_⟩,fun x d e=>?_,I.hok.fresh (Nat.le_refl _),fun x d e=>(ci.k1 x d e).elim (fun q=>I.freeC x d q) fun q=>I.hok.fresh (Nat.le_of_lt q.1),fun p hp=>?_,I.hok.kept hk,?_⟩
  · -- a name with a value is one that the block closes over
    have hi:own≤i:=by
      by_cases hi:i<own
      · rw [List.getElem?_append_left (by simpa using hi),List.getElem?_replicate] at e2
        split at e2 <;> cases e2
      · omega
    obtain ⟨k,rfl⟩:∃ k,i=own+k:=⟨i - own,by omega⟩
    rw [List.getElem?_append_right (by simp),List.length_replicate,Nat.add_sub_cancel_left,List.getElem?_map] at e2
    cases q:js[k]? with
    | none=>rw [q] at e2; cases e2
    | some j =>
      rw [q] at e2
      have e2':(σ[j]?).join=some v:=by simpa using e2
      have e4:σ[j]?=some (some v):=by
        cases z:σ[j]? with
        | none=>rw [z] at e2'; cases e2'
        | some o=>rw [z] at e2'; rw [show o=some v from e2']
      have e1':N[own+k]?=some x:=e1
      have hXN:X.N[j]?=some x:=(c.js k j q).symm.trans e1'
      have hfr:=c.jf k x e1'
      have hmem:=lookup_mem hfr
      have hk2:=c.free _ hmem rfl
      have vis:Vis X.env.scope x:=by
        rcases hk2 with z | z
        · exact .inr (.inl z)
        · exact .inr (.inr z)
      obtain ⟨m,_,hl⟩:=I.loc
      obtain ⟨u,r,l⟩:=hl j x v hXN e4 vis
      refine ⟨u,r,?_⟩
      rcases l with ⟨z,_⟩ | ⟨_,d,e,⟨od,ho,hd⟩⟩
      · rcases hk2 with y | y
        · rw [show X.env.kindOf x=_ from z] at y; cases y
        · rw [show X.env.kindOf x=_ from z] at y; cases y
      · obtain ⟨d',e',z'⟩:=ci.k2 x hfr
        have:d'=d:=by have z:=z'; rw [e] at z; exact (Option.some.inj z).symm
        subst this
        refine .inr ⟨?_,d',e',⟨od,hk _ _ ho,hd⟩⟩
        rcases lookup_relabel_kind (scope:=scope) (env:=X.env) hfr with z | ⟨_,z⟩
        · exact .inr z
        · exact .inl z
  · rcases ci.k1 x d e with q | ⟨_,q,_⟩
    · obtain ⟨v,⟨o,ho,hd⟩⟩:=I.cell x d q
      exact ⟨v,o,hk _ _ ho,hd⟩
    · exact ⟨none,q⟩
  · have hp':p∈X.pn++pins:=by
      have z:p∈(X.pn++pins)++[]:=hp
      rwa [List.append_nil] at z
    obtain ⟨a1,a2,a3,a4,a5⟩:=I.pin p hp'
    refine ⟨hk _ _ a1,a2,Nat.ne_of_lt (Heap.lt_size a1),fun z=>?_,a5⟩
    rcases List.mem_cons.mp (I.stkSub p.1 z) with q | q
    · exact a3 q
    · exact a4 q
  · show _=N.length
    rw [c.len]; simp
theorem comp_block {pins:List (Addr×Obj)} {σ:St} {H:Hp} {s:Shared} {elt target iter:PySem.Expr} {ifs:List PySem.Expr} {pos:Pos} {it:Addr} {fp:List Addr} {tn:Nat→Heap→Prop} {J:It} {cl:List (Str×Addr)} {g:TG} {tc:TT} {te:TE} {E:Value→Shared→Prop} {Q:VK}
    {RR:Value→Addr→Result→Shared→Prop}
    (c:CompOk X scope N own js) (hc:X.calm=true) (I:Inv X pins σ H s) (T:Turn X.prog X.w X.K target J fp it tn) (st:tn 0 s.heap) (hf:∀ b∈fp,FpOk X pins H b)
    (cl1:∀ x c,cl.lookup x=some c→X.env.cells.lookup x=some c) (cl2:∀ p∈scope.names,p.2=.free→∃ c,cl.lookup p.1=some c)
    (hg:∀ cl C s0 H0 fp pins,PG (cxIn X N scope cl C s0 H0 fp pins) target g)
    (ht:∀ cl C s0 H0 fp pins pins' s σ H Q,Inv (cxIn X N scope cl C s0 H0 fp pins) pins' σ H s→tc σ H Q→wpAny (model X.prog X.w) X.A (forIn ifs true fun c r=>if r=true then do let ok ← isTrue c (compEnvC scope cl C X.env) (eval c (compEnvC scope cl C X.env)); pure (ForInStep.yield ok) else pure (ForInStep.yield r))
      (TP (cxIn X N scope cl C s0 H0 fp pins) pins' σ Q) (fun _ _=>False) s)
    (he:∀ cl C s0 H0 fp pins,PE (cxIn X N scope cl C s0 H0 fp pins) elt te)
    (h:∀ l,H l=none→∃ W:Nat→Nat→List V→St→Hp→Prop,(∃ m,W 0 m [] (List.replicate own none++js.map fun j=>(σ[j]?).join) (upd H l (.lst [])))∧∀ i m ys σ' H',W i m ys σ' H' →
      (J.stop i H'∧Q (.ref l) H')∨(J.go i H'∧∀ x H2,J.yld i H' x H2→g x σ' H2 fun σ2 H3=>tc σ2 H3 fun b H4 =>
        if b=true then te σ2 H4 fun y H5=>H5 l=some (.lst ys)∧ys.length<sizeLine∧∃ m',m'<m∧W (i+1) m' (ys++[y]) σ2 (upd H5 l (.lst (ys++[y])))
        else ∃ m',m'<m∧W (i+1) m' ys σ2 H4))
    (hRR:∀ l C H' s' m',s.heap.objs.size≤C→s'.heap.Ns C m'→H' C=none→C≠X.env.locals→C∉X.fs→(∀ h2,Heap.SameBut C s'.heap h2→Inv X pins σ H' { s' with heap:=h2 })→Q (.ref l) H'→RR (.ref l) C (.ok .next) s') :
    wpAny (model X.prog X.w) X.A (newList []) (fun acc s3=>wpAny (model X.prog X.w) X.A (newFunctionEnv scope X.env.globals cl [] X.env.qual none .none (some X.env)) (fun cenv s4 =>
      codeAny (model X.prog X.w) X.A (.compStart (.ListComp elt [⟨target,iter,ifs,0⟩] scope pos) 0 (.ref it) acc { cenv with scope:=relabel scope X.env }) (RR acc cenv.locals) s4) E s3) E s:=by
  have I2:Inv X pins σ (upd H s.heap.objs.size (.lst [])) { s with heap:=s.heap.push { cls:=.type "list",dict:=none,data:=.seq ([]:List Value).toArray },toks:=s.toks }:=I.lnew (ys:=[]) .nil (Nat.zero_le _)
  obtain ⟨W,⟨m0,w0⟩,turn⟩:=h s.heap.objs.size I.fresh
  refine wpAny_newObj_type (newEnv_cells ?_)
  dsimp only
  generalize hS:({ s with heap:=s.heap.push { cls:=.type "list",dict:=none,data:=.seq ([]:List Value).toArray },toks:=s.toks }:Shared)=s2 at I2
  have e2:s2.heap=s.heap.push { cls:=.type "list",dict:=none,data:=.seq ([]:List Value).toArray }:=by rw [← hS]
  have sz2:s2.heap.objs.size=s.heap.objs.size+1:=by rw [e2,Heap.size_push]
  rw [← e2]
  have ci:=cellsIn_mk (h0:=s2.heap.push { cls:=.type "dict",data:=.dict #[] }) (n:=s2.heap.objs.size) c cl1 cl2 I2.ok.inj (fun x d e=>by obtain ⟨v,q⟩:=I2.cell x d e; exact q.lt) (Heap.size_push ..)
  have hns1':(pushCells (s2.heap.push { cls:=.type "dict",data:=.dict #[] }) scope.names).Ns s2.heap.objs.size (fun _=>none):=(Heap.Ns.new s2.heap (.type "dict")).keeps (pushCells_keeps _ _)
  have old:∀ b o,s2.heap.get? b=some o→(pushCells (s2.heap.push { cls:=.type "dict",data:=.dict #[] }) scope.names).get? b=some o:=fun b o e=>pushCells_keeps _ _ b o (Heap.get?_push_of_some _ e)
  generalize pushCells (s2.heap.push { cls:=.type "dict",data:=.dict #[] }) scope.names=h1 at ci hns1' old ⊢
  generalize hcl:cellsFrom (s2.heap.objs.size+1) scope.names cl=cl' at ci ⊢
  have lt1:∀ b,b∈fp→b<s.heap.objs.size:=fun b hb=>by
    obtain ⟨o,e,_⟩:=T.obj 0 _ st b hb
    exact Heap.lt_size e
  have hf2:∀ b∈fp,FpOk X pins (upd H s.heap.objs.size (.lst [])) b:=fun b hb=>⟨by rw [upd_ne (Nat.ne_of_lt (lt1 b hb))]; exact (hf b hb).1,(hf b hb).2⟩
  have lt2:∀ b∈fp,b<s2.heap.objs.size:=fun b hb=>by rw [sz2]; exact Nat.lt_succ_of_lt (lt1 b hb)
  have st2:tn 0 s2.heap:=T.keep 0 _ _ st fun b _ o e=>by rw [e2]; exact Heap.get?_push_of_some _ e
  have I4:=comp_start (t':=s.toks) c I2 hf2 lt2 ci hns1' old
  have st4:tn 0 h1:=T.keep 0 _ _ st2 fun b _ o e=>old b o e
  have es:({ s2 with heap:=h1,toks:=s.toks }:Shared)={ s with heap:=h1,toks:=s.toks }:=by rw [← hS]
  rw [es] at I4
  generalize hs4:({ s with heap:=h1,toks:=s.toks }:Shared)=s4 at I4
  have st4':tn 0 s4.heap:=by rw [← hs4]; exact st4
  have loop:codeAny (model X.prog X.w) X.A (.compLoop (.ListComp elt [⟨target,iter,ifs,0⟩] scope pos) 0 (.ref it) (.ref s.heap.objs.size) (compEnvC scope cl' s2.heap.objs.size X.env)) (RR (.ref s.heap.objs.size) s2.heap.objs.size) s4:=by
    refine comp_loop (fun n s'=>∃ i ys σ' H',Inv (cxIn X N scope cl' s2.heap.objs.size s2 (upd H s.heap.objs.size (.lst [])) fp pins) [] σ' H' s'∧tn i s'.heap∧(∀ b∈fp,H' b=none)∧W i n ys σ' H') ?_ m0
      ⟨0,[],_,_,I4,st4',fun b hb=>(hf2 b hb).1,w0⟩
    rintro n s5 ⟨i,ys,σ5,H5,I5,st5,fr5,w5⟩
    have stat:∀ {H':Hp} {s':Shared} {σ':St},Inv (cxIn X N scope cl' s2.heap.objs.size s2 (upd H s.heap.objs.size (.lst [])) fp pins) [] σ' H' s'→(∀ b∈fp,H' b=none)→∀ b∈fp,FpOk (cxIn X N scope cl' s2.heap.objs.size s2 (upd H s.heap.objs.size (.lst [])) fp pins) [] H' b:=fun J' hn b hb =>
      ⟨hn b hb,(J'.ok.exf b hb).1,J'.ok.exfs b hb,.inl hb,(J'.ok.exf b hb).2,fun p hp z=>by
        have hp':p∈X.pn++pins:=by
          have q:p∈(X.pn++pins)++[]:=hp
          rwa [List.append_nil] at q
        exact (hf b hb).2.2.2.2.2 p hp' z⟩
    rcases turn i n ys σ5 H5 w5 with ⟨stop,q⟩ | ⟨go,step⟩
    · refine wpAny_mono (T.done (cxIn X N scope cl' s2.heap.objs.size s2 (upd H s.heap.objs.size (.lst [])) fp pins) rfl rfl rfl hc i [] s5 σ5 H5 (fun _ _=>False) I5 (stat I5 fr5) st5 stop) (fun r s6 ⟨hr,I6⟩=>?_) fun _ _ z=>z
      subst hr
      obtain ⟨m',hn',_⟩:=I6.loc
      have hC:s.heap.objs.size≤s2.heap.objs.size:=by rw [sz2]; exact Nat.le_succ _
      refine hRR _ _ H5 s6 m' hC hn' I6.free ?_ ?_ (fun h2 sb=>?_) q
      · exact Nat.ne_of_gt I2.lt
      · exact I2.nofs (Nat.le_refl _)
      · have u:Un (frs X.stack) fp (upd H s.heap.objs.size (.lst [])) H5 s2.heap h2:=I6.base.but (Nat.le_refl _) sb.extBut
        have z6:H5 s2.heap.objs.size=none:=I6.free
        have hok:HOk X.prog X.w H5 h2:=fun b ob e=>(I6.hok b ob e).stay (fun d w' hd z=>sb.extBut d w' (by
          rintro rfl
          rcases hd with rfl | hd
          · rw [z6] at e; cases e
          · rw [z6] at hd; cases hd) z) (fun _ z=>z) fun _ _ z=>z
        have J:=I2.call' (s':={ s6 with heap:=h2 }) (ch:=fp) (by show s6.os=s2.os; exact I6.os) u hok I6.bare fun b hb=>⟨(hf b hb).2.2.2.1,(hf b hb).2.1,(hf b hb).2.2.2.2.1,(hf b hb).2.2.2.2.2⟩
        exact J
    · refine wpAny_mono (T.item (cxIn X N scope cl' s2.heap.objs.size s2 (upd H s.heap.objs.size (.lst [])) fp pins) rfl rfl rfl hc i [] s5 σ5 H5 (fun _ _=>False) I5 (stat I5 fr5) st5 go) (fun r s6 ⟨u,hr,h6⟩=>?_) fun _ _ z=>z
      subst hr
      refine wpAny_mono h6 (fun _ s7 ⟨x,H7,I7,r7,y7,st7,fr7⟩=>?_) fun _ _ z=>z
      have I7':=I7.pinned (stat I7 fr7) (T.obj _ _ st7)
      refine wpAny_mono (hg _ _ _ _ _ _ _ s7 σ5 H7 x u _ I7' r7 (step x H7 y7)) (fun _ s8 ⟨σ8,H8,I8,q8⟩=>?_) fun _ _ z=>z
      refine wpAny_mono (ht _ _ _ _ _ _ _ s8 σ8 H8 _ I8 q8) (fun b s9 ⟨H9,I9,q9⟩=>?_) fun _ _ z=>z
      have fin:∀ {s':Shared} {H':Hp} {m':Nat} {ys':List V},Inv (cxIn X N scope cl' s2.heap.objs.size s2 (upd H s.heap.objs.size (.lst [])) fp pins) ([]++pinsAt fp s7.heap) σ8 H' s'→m'<n→W (i+1) m' ys' σ8 H' →
          ∃ m,m<n∧∃ i ys σ' H',Inv (cxIn X N scope cl' s2.heap.objs.size s2 (upd H s.heap.objs.size (.lst [])) fp pins) [] σ' H' s'∧tn i s'.heap∧(∀ b∈fp,H' b=none)∧W i m ys σ' H':=fun {s' H' m' ys'} J' hm w'=>by
        refine ⟨m',hm,i+1,ys',σ8,H',J'.unpinned,T.keep _ _ _ st7 fun b hb o e=>(J'.pin (b,o) (List.mem_append_right _ (List.mem_append_right _ (mem_pinsAt hb e)))).1,fun b hb=>?_,w'⟩
        obtain ⟨o,e,d⟩:=T.obj _ _ st7 b hb
        exact (J'.pin (b,o) (List.mem_append_right _ (List.mem_append_right _ (mem_pinsAt hb e)))).2.1
      cases b with
      | false =>
        rw [if_neg Bool.false_ne_true] at q9 ⊢
        obtain ⟨m',hm,w'⟩:=q9
        exact fin I9 hm w'
      | true =>
        rw [if_pos rfl] at q9 ⊢
        refine wpAny_mono (he _ _ _ _ _ _ _ s9 σ8 H9 _ I9 q9) (fun y s10 ⟨z,H10,I10,r10,el,ez,m',hm,w'⟩=>?_) fun _ _ z=>z
        refine wpAny_mono (mt_append (X:=cxIn X N scope cl' s2.heap.objs.size s2 (upd H s.heap.objs.size (.lst [])) fp pins) _ s10 σ8 H10 (.ref s.heap.objs.size) [z] _ [y] (fun _ H'=>H'=upd H10 s.heap.objs.size (.lst (ys++[z]))) I10 rfl (.cons r10 .nil) ⟨_,_,_,rfl,rfl,el,ez,rfl⟩) (fun _ s11 ⟨_,H11,I11,_,e11⟩=>?_) fun _ _ z=>z
        subst e11
        exact fin I11 hm w'
  have fin:codeAny (model X.prog X.w) X.A (.compStart (.ListComp elt [⟨target,iter,ifs,0⟩] scope pos) 0 (.ref it) (.ref s.heap.objs.size) (compEnvC scope cl' s2.heap.objs.size X.env)) (RR (.ref s.heap.objs.size) s2.heap.objs.size) s4 :=
    codeAny_compStart_list loop (T.self X.A 0 s4 _ _ st4' loop)
  exact fin
theorem pe_compG {elt target iter:PySem.Expr} {ifs:List PySem.Expr} {pos:Pos} {wi:TI} {g:TG} {tc:TT} {te:TE} (c:CompOk X scope N own js) (hc:X.calm=true) (hi:PI X target iter wi)
    (hg:∀ cl C s0 H0 fp pins,PG (cxIn X N scope cl C s0 H0 fp pins) target g)
    (ht:∀ cl C s0 H0 fp pins pins' s σ H Q,Inv (cxIn X N scope cl C s0 H0 fp pins) pins' σ H s→tc σ H Q→wpAny (model X.prog X.w) X.A (forIn ifs true fun c r=>if r=true then do let ok ← isTrue c (compEnvC scope cl C X.env) (eval c (compEnvC scope cl C X.env)); pure (ForInStep.yield ok) else pure (ForInStep.yield r))
      (TP (cxIn X N scope cl C s0 H0 fp pins) pins' σ Q) (fun _ _=>False) s)
    (he:∀ cl C s0 H0 fp pins,PE (cxIn X N scope cl C s0 H0 fp pins) elt te)
    (hs:∀ x,foldedSetIterable iter X.env x=pure x:=by intro _; rfl):PE X (.ListComp elt [⟨target,iter,ifs,0⟩] scope pos) (tComp own js wi g tc te):=by
  intro pins s σ H Q I h
  obtain ⟨cl,e1,cl1,_,cl2⟩:=closure_for (env:=X.env) scope.names [] (fun p hp hf=>I.ok.has _ (c.free p hp hf)) (fun x d e=>by simp at e)
  have hclos:closureFor scope X.env=pure cl:=by
    unfold closureFor
    refine (congrArg (fun z=>z >>= fun cs=>pure cs) e1).trans ?_
    rfl
  rw [eval_ListComp]
  refine wpAny_comprehension_free (use:=none) rfl hs hclos c.kind c.names (wpAny_mono (hi pins s σ H _ I h) (fun x s1 h1=>wpAny_mono h1 (fun itv s2 h2=>?_) fun _ _ e=>e) fun _ _ e=>e)
  obtain ⟨it,fp,tn,J,H2,e,I2,T,st2,f2,q⟩:=h2
  subst e
  refine comp_block (Q:=Q) (RR:=fun acc C=>compPost (model X.prog X.w) X.A X.xe none (EP X pins σ Q) acc C) c hc I2 T st2 f2 cl1 cl2 hg ht he q ?_
  intro l C H' s' m' hC hn hf hL hfs hI hq
  exact ⟨m',hn,fun h2 sb=>⟨.ref l,H',hI h2 sb,rfl,hq⟩⟩
theorem ps_compG {elt target iter:PySem.Expr} {ifs:List PySem.Expr} {pos pos' spos:Pos} {y:Str} {k:Nat} {wi:TI} {g:TG} {tc:TT} {te:TE} (c:CompOk X scope N own js) (hc:X.calm=true) (hN:X.N.Nodup) (hk:X.N[k]?=some y) (hy:X.env.scope.names.lookup y=some .local) (hi:PI X target iter wi)
    (hg:∀ cl C s0 H0 fp pins,PG (cxIn X N scope cl C s0 H0 fp pins) target g)
    (ht:∀ cl C s0 H0 fp pins pins' s σ H Q,Inv (cxIn X N scope cl C s0 H0 fp pins) pins' σ H s→tc σ H Q→wpAny (model X.prog X.w) X.A (forIn ifs true fun c r=>if r=true then do let ok ← isTrue c (compEnvC scope cl C X.env) (eval c (compEnvC scope cl C X.env)); pure (ForInStep.yield ok) else pure (ForInStep.yield r))
      (TP (cxIn X N scope cl C s0 H0 fp pins) pins' σ Q) (fun _ _=>False) s)
    (he:∀ cl C s0 H0 fp pins,PE (cxIn X N scope cl C s0 H0 fp pins) elt te)
    (hs:∀ x,foldedSetIterable iter X.env x=pure x:=by intro _; rfl)
    (hsw:swapsWith (.ListComp elt [⟨target,iter,ifs,0⟩] scope pos) (some (.Name y pos')) spos.line X.env=pure true:=by rfl):PS X (.Assign [.Name y pos'] (.ListComp elt [⟨target,iter,ifs,0⟩] scope pos) spos) (tAsg (tComp own js wi g tc te) (gName k)):=by
  intro pins s σ H D I h
  obtain ⟨cl,e1,cl1,_,cl2⟩:=closure_for (env:=X.env) scope.names [] (fun p hp hf=>I.ok.has _ (c.free p hp hf)) (fun x d e=>by simp at e)
  have hclos:closureFor scope X.env=pure cl:=by
    unfold closureFor
    refine (congrArg (fun z=>z >>= fun cs=>pure cs) e1).trans ?_
    rfl
  rw [exec_Assign_Name_used _ _ _ _ hsw]
  refine wpAny_bind (wpAny_standAt (wpAny_bind ?_))
  show wpAny _ X.A (do let _ ← comprehension (.ListComp elt [⟨target,iter,ifs,0⟩] scope pos) scope X.env _ (newList []) false (eval iter X.env) (some (assign (.Name y pos') X.env))) _ _ s
  refine wpAny_bind (wpAny_mono (wpAny_comprehension_free (use:=some (assign (.Name y pos') X.env)) (Q:=fun _ s'=>SP X pins D .next s') rfl hs hclos c.kind c.names
    (wpAny_mono (hi pins s σ H _ I h) (fun xv s1 h1=>wpAny_mono h1 (fun it s2 h2=>?_) fun _ _ e=>e) fun _ _ e=>e)) (fun _ s' hq=>wpAny_pure (wpAny_pure hq)) fun _ _ e=>e)
  obtain ⟨it,fp,tn,J,H2,e,I2,T,st2,f2,q⟩:=h2
  subst e
  refine comp_block (Q:=fun x H1=>gName k x σ H1 D.nx) (RR:=fun acc C=>compPost (model X.prog X.w) X.A X.xe (some (assign (.Name y pos') X.env)) (fun _ s'=>SP X pins D .next s') acc C) c hc I2 T st2 f2 cl1 cl2 hg ht he q ?_
  intro l C H' s' m' hC hn hf hL hfs hI hq
  have J0:=hI s'.heap (Heap.SameBut.refl ..)
  show wpAny _ X.A (assign (.Name y pos') X.env (.ref l)) _ _ _
  have J1:Inv X pins σ H' s':=J0
  refine wpAny_assign_Name (store_ok2 (v:=.ref l) J1 hN hk (.inl hy) rfl (fun s'' I'' hsb=>?_) (.inr hy))
  obtain ⟨a,sb,ha⟩:=hsb
  have hne:C≠a:=by
    rcases ha with rfl | ha
    · exact hL
    · rintro rfl
      obtain ⟨v,⟨o,ho,hd⟩⟩:=J1.cell y C ha
      obtain ⟨o',es,ep,ho',hd',_⟩:=hn
      rw [ho] at ho'; cases ho'
      rw [hd] at hd'; cases hd'
  refine ⟨m',hn.sameBut sb hne,fun h2 sb2=>?_⟩
  have hok:HOk X.prog X.w H' h2:=fun b ob e=>(I''.hok b ob e).stay (fun d w' hd z=>sb2.extBut d w' (by
    rintro rfl
    rcases hd with rfl | hd
    · rw [hf] at e; cases e
    · rw [hf] at hd; cases hd) z) (fun _ z=>z) fun _ _ z=>z
  have cne:∀ x d,X.env.cells.lookup x=some d→d≠C:=fun x d e z=>by
    subst z
    obtain ⟨v,⟨o,ho,hd⟩⟩:=J1.cell x d e
    obtain ⟨o',es,ep,ho',hd',_⟩:=hn
    rw [ho] at ho'; cases ho'
    rw [hd] at hd'; cases hd'
  have hpn:∀ p∈X.pn++pins,p.1≠C:=fun p hp z=>by
    have a1:=(I2.pin p hp).1
    exact absurd (Nat.lt_of_lt_of_le (Heap.lt_size a1) (by rw [z]; exact hC)) (Nat.lt_irrefl _)
  have fin:Inv X pins (σ.set k (some (.ref l))) H' { s'' with heap:=h2 }:=I''.turned (t':=s''.toks) (it:=C) (fun b o hb e=>sb2.extBut b o hb e) hf hL (.inr (Nat.le_trans I2.sz hC)) cne hpn
  exact ⟨_,H',fin,hq⟩
theorem pe_comp0 {elt target iter:PySem.Expr} {pos:Pos} {wi:TI} {g:TG} {te:TE} (c:CompOk X scope N own js) (hc:X.calm=true) (hi:PI X target iter wi)
    (hg:∀ cl C s0 H0 fp pins,PG (cxIn X N scope cl C s0 H0 fp pins) target g) (he:∀ cl C s0 H0 fp pins,PE (cxIn X N scope cl C s0 H0 fp pins) elt te)
    (hs:∀ x,foldedSetIterable iter X.env x=pure x:=by intro _; rfl):PE X (.ListComp elt [⟨target,iter,[],0⟩] scope pos) (tComp own js wi g tTrue te) :=
  pe_compG c hc hi hg (fun cl C s0 H0 fp pins pins' s σ H Q I h=>wpAny_tests_nil ⟨H,I,h⟩) he hs
theorem pe_comp1 {elt target iter tst:PySem.Expr} {pos:Pos} {wi:TI} {g:TG} {tc:TT} {te:TE} (c:CompOk X scope N own js) (hc:X.calm=true) (hi:PI X target iter wi)
    (hg:∀ cl C s0 H0 fp pins,PG (cxIn X N scope cl C s0 H0 fp pins) target g) (ht:∀ cl C s0 H0 fp pins,PT (cxIn X N scope cl C s0 H0 fp pins) tst tc) (he:∀ cl C s0 H0 fp pins,PE (cxIn X N scope cl C s0 H0 fp pins) elt te)
    (hs:∀ x,foldedSetIterable iter X.env x=pure x:=by intro _; rfl):PE X (.ListComp elt [⟨target,iter,[tst],0⟩] scope pos) (tComp own js wi g tc te) :=
  pe_compG c hc hi hg (fun cl C s0 H0 fp pins pins' s σ H Q I h=>wpAny_tests_one (ht cl C s0 H0 fp pins pins' s σ H Q I h)) he hs
theorem ps_comp0 {elt target iter:PySem.Expr} {pos pos' spos:Pos} {y:Str} (k:Nat) {wi:TI} {g:TG} {te:TE} (c:CompOk X scope N own js) (hc:X.calm=true) (hN:X.N.Nodup) (hk:X.N[k]?=some y) (hy:X.env.scope.names.lookup y=some .local) (hi:PI X target iter wi)
    (hg:∀ cl C s0 H0 fp pins,PG (cxIn X N scope cl C s0 H0 fp pins) target g) (he:∀ cl C s0 H0 fp pins,PE (cxIn X N scope cl C s0 H0 fp pins) elt te)
    (hs:∀ x,foldedSetIterable iter X.env x=pure x:=by intro _; rfl)
    (hsw:swapsWith (.ListComp elt [⟨target,iter,[],0⟩] scope pos) (some (.Name y pos')) spos.line X.env=pure true:=by rfl):PS X (.Assign [.Name y pos'] (.ListComp elt [⟨target,iter,[],0⟩] scope pos) spos) (tAsg (tComp own js wi g tTrue te) (gName k)) :=
  ps_compG c hc hN hk hy hi hg (fun cl C s0 H0 fp pins pins' s σ H Q I h=>wpAny_tests_nil ⟨H,I,h⟩) he hs hsw
theorem ps_comp1 {elt target iter tst:PySem.Expr} {pos pos' spos:Pos} {y:Str} (k:Nat) {wi:TI} {g:TG} {tc:TT} {te:TE} (c:CompOk X scope N own js) (hc:X.calm=true) (hN:X.N.Nodup) (hk:X.N[k]?=some y) (hy:X.env.scope.names.lookup y=some .local) (hi:PI X target iter wi)
    (hg:∀ cl C s0 H0 fp pins,PG (cxIn X N scope cl C s0 H0 fp pins) target g) (ht:∀ cl C s0 H0 fp pins,PT (cxIn X N scope cl C s0 H0 fp pins) tst tc) (he:∀ cl C s0 H0 fp pins,PE (cxIn X N scope cl C s0 H0 fp pins) elt te)
    (hs:∀ x,foldedSetIterable iter X.env x=pure x:=by intro _; rfl)
    (hsw:swapsWith (.ListComp elt [⟨target,iter,[tst],0⟩] scope pos) (some (.Name y pos')) spos.line X.env=pure true:=by rfl):PS X (.Assign [.Name y pos'] (.ListComp elt [⟨target,iter,[tst],0⟩] scope pos) spos) (tAsg (tComp own js wi g tc te) (gName k)) :=
  ps_compG c hc hN hk hy hi hg (fun cl C s0 H0 fp pins pins' s σ H Q I h=>wpAny_tests_one (ht cl C s0 H0 fp pins pins' s σ H Q I h)) he hs hsw
end
end L2
set_option Elab.async false
set_option linter.all false
set_option maxRecDepth 100000
set_option maxHeartbeats 4000000
namespace L2
open PySem PySem.Spec PyProof.Rows
section
variable {X:Cx} {pins:List (Addr×Obj)} {σ:St} {H:Hp} {s:Shared}
theorem HOk.offCh {P:Program} {w:World} {h h':Heap} {ch:List Addr} (hok:HOk P w H h) (hn:∀ b∈ch,H b=none) (k:∀ b o,b∉ch→h.get? b=some o→h'.get? b=some o):HOk P w H h':=fun b ob e =>
  (hok b ob e).stay (fun d u hd z=>k d u (fun m=>by
    rcases hd with rfl | hd
    · rw [hn _ m] at e; cases e
    · rw [hn _ m] at hd; cases hd) z) (fun _ z=>z) fun _ _ z=>z
theorem Inv.turnedCh {ch:List Addr} {h':Heap} {t':Nat} (I:Inv X pins σ H s) (hch:∀ b∈ch,FpOk X pins H b) (k:∀ b o,b∉ch→s.heap.get? b=some o→h'.get? b=some o) :
    Inv X pins σ H { s with heap:=h',toks:=t' }:=by
  have u:Un (frs X.stack) ch H H s.heap h':=⟨fun b o q _ _ hx=>k b o hx q,fun b o q _ _ hx=>⟨o.slots,k b o hx q⟩,fun _ _ _ n _=>n,fun b o q hx=>⟨o,k b o hx q⟩,fun _ _ q=>q,fun _ _ _ q=>q,fun _ _ _ q=>q⟩
  exact I.call (g':=s.gens) (d':=s.drawn) (t':=t') u (I.hok.offCh (fun b hb=>(hch b hb).1) k) I.bare fun b hb=>⟨(hch b hb).2.2.2.1,(hch b hb).2.1,(hch b hb).2.2.2.2.1,(hch b hb).2.2.2.2.2⟩
theorem Inv.laidCh {ch:List Addr} {h':Heap} {t':Nat} {o:HO} (I:Inv X pins σ H s) (hch:∀ b∈ch,FpOk X pins H b) (k:∀ b o,b∉ch→s.heap.get? b=some o→h'.get? b=some o)
    (new:ObjOk X.prog X.w (upd H s.heap.objs.size o) h' s.heap.objs.size o):Inv X pins σ (upd H s.heap.objs.size o) { s with heap:=h',toks:=t' }:=by
  have fr:H s.heap.objs.size=none:=I.hok.fresh (Nat.le_refl _)
  have ne:∀ b ob,s.heap.get? b=some ob→b≠s.heap.objs.size:=fun b ob e=>Nat.ne_of_lt (Heap.lt_size e)
  have nt:∀ b ob,H b=some ob→b≠s.heap.objs.size:=fun b ob e=>ne_of_none e fr
  have u:Un (frs X.stack) ch H (upd H s.heap.objs.size o) s.heap h':=⟨fun b o q _ _ hx=>k b o hx q,fun b o q _ _ hx=>⟨o.slots,k b o hx q⟩,fun b ob q n _=>by rw [upd_ne (ne b ob q)]; exact n,fun b o q hx=>⟨o,k b o hx q⟩,
    fun b xs q=>by rw [upd_ne (nt b _ q)]; exact q,fun b ob xs q=>by rw [upd_ne (nt b _ q)]; exact q,fun b _ _ q=>by rw [upd_ne (nt b _ q)]; exact q⟩
  have hok:HOk X.prog X.w (upd H s.heap.objs.size o) h':=fun b ob e=>by
    by_cases hb:b=s.heap.objs.size
    · subst hb
      rw [upd_same] at e; cases e
      exact new
    · rw [upd_ne hb] at e
      refine (I.hok b ob e).stay (fun d u hd z=>k d u (fun m=>?_) z) (fun d z=>by rw [upd_ne (nt d _ z)]; exact z) (fun d xs z=>by rw [upd_ne (nt d _ z)]; exact z) fun d oz z=>by rw [upd_ne (nt d _ z)]; exact z
      have hn:=(hch d m).1
      rcases hd with rfl | hd
      · rw [hn] at e; cases e
      · rw [hn] at hd; cases hd
  exact I.call (g':=s.gens) (d':=s.drawn) (t':=t') u hok I.bare fun b hb=>⟨(hch b hb).2.2.2.1,(hch b hb).2.1,(hch b hb).2.2.2.2.1,(hch b hb).2.2.2.2.2⟩
end
theorem nne {a b:Nat} (h:a<b∨b<a):@Ne Addr a b:=fun e=>by
  have e':a=b:=e
  omega
theorem zip_apart (n l1 l2:Nat) (h1:l1<n) (h2:l2<n):ZipApart (n+4) (n+2) (n+3) n (n+1) l1 l2 :=
  ⟨nne (by omega),nne (by omega),nne (by omega),nne (by omega),nne (by omega),nne (by omega),nne (by omega),nne (by omega),nne (by omega),nne (by omega),nne (by omega),nne (by omega),nne (by omega),nne (by omega),nne (by omega),nne (by omega),nne (by omega),nne (by omega)⟩
def Itz (K:PySem.W.Frag) (a b:Addr):It :=
  ⟨fun i H=>∃ xs ys x y,SqL K H a xs∧SqL K H b ys∧xs[i]?=some x∧ys[i]?=some y,
   fun i H v H'=>∃ t x y,H t=none∧v=.ref t∧H'=upd H t (.tup [x,y])∧(∀ xs,SqL K H a xs→xs[i]?=some x)∧∀ ys,SqL K H b ys→ys[i]?=some y,
   fun i H=>∃ xs ys,SqL K H a xs∧SqL K H b ys∧(xs.length≤i∨ys.length≤i)⟩
theorem iter_obj {h:Heap} {it l:Addr} {i:Nat} (x:h.IsListIter it l i):∃ o,h.get? it=some o∧∀ v,o.data≠.cell v:=by
  obtain ⟨o,e,c,d⟩:=x
  exact ⟨o,e,fun v z=>by rw [d] at z; cases z⟩
theorem turn_zip {P:Program} {w:World} {K:PySem.W.Frag} {elts:List PySem.Expr} {x1} {pos:Pos} (z TI TO i1 i2 a b:Addr) (D:ZipApart z TI TO i1 i2 a b) :
    Turn P w K (.Tuple elts x1 pos) (Itz K a b) [z,TI,TO,i1,i2] z (fun i h=>IsZip h z TI TO .none∧IsPair h TI (.ref i1) (.ref i2)∧(∃ u v,IsPair h TO u v)∧h.IsListIter i1 a i∧h.IsListIter i2 b i) where
  mem:=by simp
  obj:=fun i h st c hc=>by
    obtain ⟨hz,hTI,⟨u,v,hTO⟩,h1,h2⟩:=st
    simp only [List.mem_cons,List.not_mem_nil,or_false] at hc
    rcases hc with rfl | rfl | rfl | rfl | rfl
    · exact ⟨_,hz,fun v e=>by cases e⟩
    · exact ⟨_,hTI,fun v e=>by cases e⟩
    · exact ⟨_,hTO,fun v e=>by cases e⟩
    · exact iter_obj h1
    · exact iter_obj h2
  keep:=fun i h h' st k=>by
    obtain ⟨hz,hTI,⟨u,v,hTO⟩,h1,h2⟩:=st
    exact ⟨k z (by simp) _ hz,k TI (by simp) _ hTI,⟨u,v,k TO (by simp) _ hTO⟩,h1.at fun o e=>k i1 (by simp) o e,h2.at fun o e=>k i2 (by simp) o e⟩
  item:=by
    intro X hP hw hK hc i pins s σ H E I hf st hg
    subst hP hw hK
    obtain ⟨xs,ys,x,y,hqa,hqb,hx,hy⟩:=hg
    obtain ⟨hz,hTI,⟨u0,v0,hTO⟩,h1,h2⟩:=st
    obtain ⟨itsa,ra,pa,za⟩:=I.list hqa
    obtain ⟨itsb,rb,pb,zb⟩:=I.list hqb
    obtain ⟨ux,hux,rux⟩:=ra.get hx
    obtain ⟨uy,huy,ruy⟩:=rb.get hy
    refine wpAny_pyNext_zip_item D hz hTI hTO h1 h2 pa.isList pb.isList (x:=ux) (y:=uy) (by simpa using hux) (by simpa using huy) fun h' a1 a2 a3 a4 a5 a6 a7=>?_
    refine ⟨.ref s.heap.objs.size,rfl,?_⟩
    refine wpAny_letOwnedTupleGo_zip a1 fun h2' hz' hs'=>?_
    have hzlt:z<s.heap.objs.size:=Heap.lt_size hz
    have kk:∀ c o,c∉[z,TI,TO,i1,i2]→s.heap.get? c=some o→h2'.get? c=some o:=fun c o hc e=>by
      simp only [List.mem_cons,List.not_mem_nil,or_false,not_or] at hc
      exact hs'.extBut c o hc.1 (a7 c o hc.1 hc.2.2.1 hc.2.2.2.1 hc.2.2.2.2 e)
    have tp:h2'.get? s.heap.objs.size=some { cls:=.type "tuple",data:=.seq #[ux,uy] }:=hs'.extBut _ _ (Nat.ne_of_gt hzlt) a5
    have I1:Inv X pins σ (upd H s.heap.objs.size (.tup [x,y])) { s with heap:=h2',toks:=s.toks } :=
      I.laidCh hf kk ⟨by show 2≤sizeLine; decide,[ux,uy],.cons rux (.cons ruy .nil),⟨_,tp,rfl,_,rfl⟩⟩
    have TIk:h2'.get? TI=s.heap.get? TI:=by
      rw [hTI]
      exact hs'.extBut _ _ D.TIz (a7 _ _ D.TIz D.TITO D.TIi1 D.TIi2 hTI)
    refine ⟨.ref s.heap.objs.size,_,I1,rfl,⟨s.heap.objs.size,x,y,I.hok.fresh (Nat.le_refl _),rfl,rfl,fun xs' h=>by rw [I.list_inj h hqa]; exact hx,fun ys' h=>by rw [I.list_inj h hqb]; exact hy⟩,⟨hz',?_,⟨ux,uy,hs'.extBut _ _ D.TOz a2⟩,a3.at fun o e=>hs'.extBut _ o D.i1z e,a4.at fun o e=>hs'.extBut _ o D.i2z e⟩,fun c hc=>?_⟩
    · show h2'.get? TI=_
      rw [TIk]; exact hTI
    · have hc':=hc
      have hlt:c<s.heap.objs.size:=by
        simp only [List.mem_cons,List.not_mem_nil,or_false] at hc'
        rcases hc' with rfl | rfl | rfl | rfl | rfl
        · exact hzlt
        · exact Heap.lt_size hTI
        · exact Heap.lt_size hTO
        · obtain ⟨o,e,_⟩:=iter_obj h1; exact Heap.lt_size e
        · obtain ⟨o,e,_⟩:=iter_obj h2; exact Heap.lt_size e
      rw [upd_ne (Nat.ne_of_lt hlt)]
      exact (hf c hc).1
  done:=by
    intro X hP hw hK hc i pins s σ H E I hf st hg
    subst hP hw hK
    obtain ⟨xs,ys,hqa,hqb,hend⟩:=hg
    obtain ⟨hz,hTI,⟨u0,v0,hTO⟩,h1,h2⟩:=st
    obtain ⟨itsa,ra,pa,za⟩:=I.list hqa
    obtain ⟨itsb,rb,pb,zb⟩:=I.list hqb
    have la:=ra.length
    have lb:=rb.length
    refine wpAny_pyNext_zip_end (I.ok.hd hc) D hz hTI hTO h1 h2 pa.isList pb.isList ?_ fun h' hk=>⟨rfl,?_⟩
    · rcases hend with q | q
      · exact .inl (by simp; omega)
      · exact .inr (by simp; omega)
    · refine I.turnedCh (t':=s.toks) hf fun c o hc e=>?_
      simp only [List.mem_cons,List.not_mem_nil,or_false,not_or] at hc
      exact hk c o hc.1 hc.2.2.1 hc.2.2.2.1 hc.2.2.2.2 e
  self:=fun _ _ _ _ _ st h=>wpAny_pyIter_zip st.1 h
def iZip (K:PySem.W.Frag) (ta:TA):TI:=fun σ H R=>ta σ H fun vs H1=>∃ a b,vs=[.ref a,.ref b]∧(∃ xs,SqL K H1 a xs)∧(∃ ys,SqL K H1 b ys)∧R (Itz K a b) H1
section
variable {X:Cx}
theorem boot_zip:bootBuiltins "zip" = some (.type "zip"):=by first | rfl | decide +kernel | kernel_rfl
theorem boot_enumerate:bootBuiltins "enumerate" = some (.type "enumerate"):=by first | rfl | decide +kernel | kernel_rfl
theorem pi_zip {elts:List PySem.Expr} {x1} {tpos:Pos} {a b:PySem.Expr} {ta:TA} {p pos:Pos} (hg:Gl X "zip") (hm:X.mg "zip" = none) (ha:PA X [a,b] ta) (hs:starEach [a,b] X.env=[(false,eval a X.env),(false,eval b X.env)]:=by rfl) (hs2:starEach [b] X.env=[(false,eval b X.env)]:=by rfl) :
    PI X (.Tuple elts x1 tpos) (.Call (.Name "zip" p) [a,b] [] pos) (iZip X.K ta):=by
  intro pins s σ H R I h
  refine Call_ (ld_blt I hg hm boot_zip (PyProof.Rows.callWith_type1 (thn (ha pos pins s σ H _ I h) fun us s1 ⟨vs,H1,I1,r1,q1⟩=>?_) (by rw [hs,hs2]) (by rw [hs2]; rfl)))
  obtain ⟨l1,l2,e,⟨xs,hqa⟩,⟨ys,hqb⟩,q⟩:=q1
  subst e
  obtain ⟨v1,v2,rfl,r,r'⟩:=vals2 r1
  cases r
  cases r'
  obtain ⟨itsa,ra,pa,za⟩:=I1.list hqa
  obtain ⟨itsb,rb,pb,zb⟩:=I1.list hqb
  have lt1:l1<s1.heap.objs.size:=by obtain ⟨o,e,_⟩:=pa.isList; exact Heap.lt_size e
  have lt2:l2<s1.heap.objs.size:=by obtain ⟨o,e,_⟩:=pb.isList; exact Heap.lt_size e
  refine call_zip_2 pa.isList pb.isList fun h' g5 g3 g4 g1 g2 hsz kp=>wpAny_pyIter_zip g5 ?_
  refine ⟨_,[_,_,_,_,_],_,_,H1,rfl,I1.kept (t':=s1.toks) kp,turn_zip _ _ _ _ _ l1 l2 (zip_apart s1.heap.objs.size l1 l2 lt1 lt2),⟨g5,g3,⟨_,_,g4⟩,g1,g2⟩,fun c hc=>?_,q⟩
  have hc':s1.heap.objs.size≤c:=by
    simp only [List.mem_cons,List.not_mem_nil,or_false] at hc
    rcases hc with rfl | rfl | rfl | rfl | rfl <;> first | exact Nat.le_refl _ | exact Nat.le_add_right _ _
  exact I1.fpOk hc' (I1.hok.fresh hc')
def Ite (K:PySem.W.Frag) (a:Addr):It :=
  ⟨fun i H=>∃ xs x,SqL K H a xs∧xs[i]?=some x,
   fun i H v H'=>∃ t x,H t=none∧v=.ref t∧H'=upd H t (.tup [.int i,x])∧∀ xs,SqL K H a xs→xs[i]?=some x,
   fun i H=>∃ xs,SqL K H a xs∧xs.length=i⟩
theorem turn_enum {P:Program} {w:World} {K:PySem.W.Frag} {elts:List PySem.Expr} {x1} {pos:Pos} (e it a:Addr) (hei:e≠it) (hae:a≠e) (hai:a≠it) :
    Turn P w K (.Tuple elts x1 pos) (Ite K a) [e,it] e (fun i h=>(∃ old,IsEnum h e it i old)∧h.IsListIter it a i) where
  mem:=by simp
  obj:=fun i h st c hc=>by
    obtain ⟨⟨old,he⟩,h1⟩:=st
    simp only [List.mem_cons,List.not_mem_nil,or_false] at hc
    rcases hc with rfl | rfl
    · exact ⟨_,he,fun v z=>by cases z⟩
    · obtain ⟨o,q,c,d⟩:=h1; exact ⟨o,q,fun v z=>by rw [d] at z; cases z⟩
  keep:=fun i h h' st k=>by
    obtain ⟨⟨old,he⟩,h1⟩:=st
    exact ⟨⟨old,k e (by simp) _ he⟩,h1.at fun o q=>k it (by simp) o q⟩
  item:=by
    intro X hP hw hK hc i pins s σ H E I hf st hg
    subst hP hw hK
    obtain ⟨xs,x,hq,hx⟩:=hg
    obtain ⟨⟨old,he⟩,h1⟩:=st
    obtain ⟨its,rv,p,hz⟩:=I.list hq
    obtain ⟨u,hu,ru⟩:=rv.get hx
    have hlt:i<its.toArray.size:=by
      have:=(List.getElem?_eq_some_iff.mp hu).1
      simpa using this
    refine wpAny_pyNext_enum_itemD (Draws.list (A:=X.A.in1) (show X.A.in1.handled=none from I.ok.hd hc) it a hai its.toArray) he ⟨h1,p.isList⟩ hlt hei (by simp [hei,Ne.symm hae]) fun v h' tk hP ho hs' hT hsz hk=>?_
    have hP':v=u:=by
      have z:its[i]?=some v:=by simpa using hP
      rw [hu] at z; exact (Option.some.inj z).symm
    subst hP'
    refine ⟨.ref s.heap.objs.size,rfl,?_⟩
    refine wpAny_letOwnedTupleGo_enum ho fun h2 he2 sb2=>?_
    have helt:e<s.heap.objs.size:=Heap.lt_size he
    have kk:∀ c o,c∉[e,it]→s.heap.get? c=some o→h2.get? c=some o:=fun c o hc q=>by
      simp only [List.mem_cons,List.not_mem_nil,or_false,not_or] at hc
      exact (sb2.2 c hc.1).trans (hk c o hc.1 hc.2 q)
    have tp:h2.get? s.heap.objs.size=some { cls:=.type "tuple",data:=.seq #[.int i tk,v] }:=(sb2.2 _ (Nat.ne_of_gt helt)).trans hT
    have I1:Inv X pins σ (upd H s.heap.objs.size (.tup [.int i,x])) { s with heap:=h2,toks:=tk+1 } :=
      I.laidCh hf kk ⟨by show 2≤sizeLine; decide,[.int i tk,v],.cons ⟨tk,rfl⟩ (.cons ru .nil),⟨_,tp,rfl,_,rfl⟩⟩
    refine ⟨.ref s.heap.objs.size,_,I1,rfl,⟨s.heap.objs.size,x,I.hok.fresh (Nat.le_refl _),rfl,rfl,fun ys hy=>by rw [I.list_inj hy hq]; exact hx⟩,⟨⟨v,by simpa using he2⟩,hs'.1.at fun o q=>(sb2.2 _ (Ne.symm hei)).trans q⟩,fun c hc=>?_⟩
    have hlt':c<s.heap.objs.size:=by
      simp only [List.mem_cons,List.not_mem_nil,or_false] at hc
      rcases hc with rfl | rfl
      · exact helt
      · obtain ⟨o,q,_⟩:=h1; exact Heap.lt_size q
    rw [upd_ne (Nat.ne_of_lt hlt')]
    exact (hf c hc).1
  done:=by
    intro X hP hw hK hc i pins s σ H E I hf st hg
    subst hP hw hK
    obtain ⟨xs,hq,hx⟩:=hg
    obtain ⟨⟨old,he⟩,h1⟩:=st
    obtain ⟨its,rv,p,hz⟩:=I.list hq
    have hl:=rv.length
    have ei:i=its.toArray.size:=by simp; omega
    subst ei
    refine wpAny_pyNext_enum_endD (Draws.list (A:=X.A.in1) (show X.A.in1.handled=none from I.ok.hd hc) it a hai its.toArray) he ⟨h1,p.isList⟩ fun h' hx'=>⟨rfl,?_⟩
    refine I.turnedCh (t':=s.toks) hf fun c o hc q=>?_
    simp only [List.mem_cons,List.not_mem_nil,or_false,not_or] at hc
    exact hx' c o hc.2 q
  self:=fun _ _ _ _ _ st h=>by
    obtain ⟨⟨old,he⟩,_⟩:=st
    exact wpAny_pyIter_enum he h
def iEnum (K:PySem.W.Frag) (ta:TA):TI:=fun σ H R=>ta σ H fun vs H1=>∃ a,vs=[.ref a]∧(∃ xs,SqL K H1 a xs)∧R (Ite K a) H1
theorem pi_enum {elts:List PySem.Expr} {x1} {tpos:Pos} {a:PySem.Expr} {ta:TA} {p pos:Pos} (hg:Gl X "enumerate") (hm:X.mg "enumerate" = none) (ha:PA X [a] ta) (hs:starEach [a] X.env=[(false,eval a X.env)]:=by rfl) :
    PI X (.Tuple elts x1 tpos) (.Call (.Name "enumerate" p) [a] [] pos) (iEnum X.K ta):=by
  intro pins s σ H R I h
  refine Call_ (ld_blt I hg hm boot_enumerate (PyProof.Rows.callWith_type1 (thn (ha pos pins s σ H _ I h) fun us s1 ⟨vs,H1,I1,r1,q1⟩=>?_) hs rfl))
  obtain ⟨l,e,⟨xs,hq⟩,q⟩:=q1
  subst e
  cases r1 with
  | cons r rr =>
    cases rr
    cases r
    obtain ⟨its,rv,pl,hz⟩:=I1.list hq
    have lt1:l<s1.heap.objs.size:=by obtain ⟨o,e,_⟩:=pl.isList; exact Heap.lt_size e
    refine call_enumerate_list pl.isList fun h' he hi hsz hk=>?_
    refine wpAny_pyIter_enum he ?_
    refine ⟨s1.heap.objs.size+1,[s1.heap.objs.size+1,s1.heap.objs.size],_,_,H1,rfl,I1.kept (t':=s1.toks) hk,turn_enum (s1.heap.objs.size+1) s1.heap.objs.size l (Nat.succ_ne_self _) (nne (.inl (Nat.lt_succ_of_lt lt1))) (Nat.ne_of_lt lt1),⟨⟨_,he⟩,hi⟩,fun c hc=>?_,q⟩
    have hc':s1.heap.objs.size≤c:=by
      simp only [List.mem_cons,List.not_mem_nil,or_false] at hc
      rcases hc with rfl | rfl <;> omega
    exact I1.fpOk hc' (I1.hok.fresh hc')
end
end L2
set_option Elab.async false
set_option linter.all false
set_option maxRecDepth 100000
set_option maxHeartbeats 4000000
namespace L2
open PySem PySem.Spec PyProof.Rows
def tyN (H:Hp):V→Option String
  | .non=>some "NoneType"
  | .bl _=>some "bool"
  | .int _=>some "int"
  | .str _=>some "str"
  | .ref a=>match H a with
    | some (.lst _)=>some "list"
    | some (.frz _ (.lst _))=>some "list"
    | some (.tup _)=>some "tuple"
    | some (.dK _)=>some "dict"
    | some (.dT _)=>some "dict"
    | _=>none
  | _=>none
theorem tyN_of {K:PySem.W.Frag} {H:Hp} {x:V} {t:String} (h:tyN H x=some t):TyOf K H x (.type t):=by
  cases x with
  | non=>cases h; exact .non
  | bl b=>cases h; exact .bl b
  | int i=>cases h; exact .int i
  | str z=>cases h; exact .str z
  | ref a =>
    simp only [tyN] at h
    split at h
    · rename_i e; cases h; exact .lst e
    · rename_i e; cases h; exact .frz e
    · rename_i e; cases h; exact .tup e
    · rename_i e; cases h; exact .dK e
    · rename_i e; cases h; exact .dT e
    · cases h
  | _=>cases h
def subT (t c:String):Bool:=t == c || (t == "bool" && c == "int")
def knownT:List String:=["NoneType", "bool", "int", "str", "list", "tuple", "dict"]
def askedT:List String:=["bool", "int", "str", "list", "tuple", "dict"]
theorem kit_known (K:PySem.W.Frag):∀ t∈knownT,∀ c∈askedT,PySem.W.kitOne K (.type t) (.type c)=some (subT t c):=by
  intro t ht c hc
  simp only [knownT,List.mem_cons,List.not_mem_nil,or_false] at ht
  simp only [askedT,List.mem_cons,List.not_mem_nil,or_false] at hc
  rcases ht with rfl | rfl | rfl | rfl | rfl | rfl | rfl <;> rcases hc with rfl | rfl | rfl | rfl | rfl | rfl <;> rfl
theorem tyN_known {H:Hp} {x:V} {t:String} (h:tyN H x=some t):t∈knownT:=by
  cases x with
  | non=>cases h; decide
  | bl b=>cases h; decide
  | int i=>cases h; decide
  | str z=>cases h; decide
  | ref a =>
    simp only [tyN] at h
    split at h <;> first | (cases h; decide) | cases h
  | _=>cases h
section
variable {X:Cx}
def rIsi:List V→Hp→VK→Prop:=fun xs H Q=>∃ x t c,xs=[x,.ty c]∧tyN H x=some t∧c∈askedT∧Q (.bl (subT t c)) H
theorem call_isi:CallR X (.builtin "isinstance") rIsi:=by
  intro pins s σ H xs us Q I r h
  obtain ⟨x,t,c,rfl,ht,hc,q⟩:=h
  obtain ⟨u,w',rfl,rx,rc⟩:=vals2 r
  cases rc
  exact isinst_ok I rx (tyN_of ht) (kit_known X.K t (tyN_known ht) c hc) fun tk=>⟨.bl _,H,I.tok tk,rfl,q⟩
def rIsi2:List V→Hp→VK→Prop:=fun xs H Q=>∃ x t c d p,xs=[x,.ref p]∧H p=some (.tup [.ty c,.ty d])∧tyN H x=some t∧c∈askedT∧d∈askedT∧Q (.bl (subT t c || subT t d)) H
theorem kit_any2 (K:PySem.W.Frag) {t c d:String} (ht:t∈knownT) (hc:c∈askedT) (hd:d∈askedT):PySem.W.kitAny K (.type t) [.type c,.type d]=some (subT t c || subT t d):=by
  unfold PySem.W.kitAny
  rw [kit_known K t ht c hc]
  cases subT t c with
  | true=>rfl
  | false =>
    show PySem.W.kitAny K (.type t) [.type d]=some (subT t d)
    unfold PySem.W.kitAny
    rw [kit_known K t ht d hd]
    cases subT t d <;> rfl
theorem call_isi2:CallR X (.builtin "isinstance") rIsi2:=by
  intro pins s σ H xs us Q I r h
  obtain ⟨x,t,c,d,p,rfl,hp,ht,hc,hd,q⟩:=h
  obtain ⟨u,w',rfl,rx,rc⟩:=vals2 r
  cases rc
  obtain ⟨_,its,rv,⟨o,ho,hcl,n,hdt⟩⟩:=(show ObjOk X.prog X.w H s.heap p (.tup [.ty c,.ty d]) from I.hok p _ hp)
  obtain ⟨u1,u2,rfl,r1,r2⟩:=vals2 rv
  cases r1
  cases r2
  have e:=kit_any2 X.K (tyN_known ht) hc hd
  have fin:∀ tk,EP X pins σ Q (.bool (subT t c || subT t d)) { s with toks:=tk }:=fun tk=>⟨.bl _,H,I.tok tk,rfl,q⟩
  have htp:s.heap.get? p=some ⟨.type "tuple",o.dict,.seq [Value.type c,Value.type d].toArray n,o.slots⟩:=by
    rw [ho]
    obtain ⟨oc,od,odt,osl⟩:=o
    cases hcl; cases hdt
    rfl
  have ty:=tyN_of (K:=X.K) ht
  generalize hT:Value.type t=T at ty e
  cases ty with
  | non=>cases (show u=Value.none from rx); exact PySem.W.kia_tup PySem.W.kitx_none I.kIn True.intro htp e (fun z=>nomatch z) fin
  | bl y=>cases (show u=Value.bool y from rx); exact PySem.W.kia_tup PySem.W.kitx_bool I.kIn True.intro htp e (fun z=>nomatch z) fin
  | int i=>obtain ⟨t,q⟩:=(show ∃ t,u=Value.int i t from rx); cases q; exact PySem.W.kia_tup PySem.W.kitx_int I.kIn True.intro htp e (fun z=>nomatch z) fin
  | str y=>obtain ⟨t,q⟩:=(show ∃ t,u=Value.str y t from rx); cases q; exact PySem.W.kia_tup PySem.W.kitx_str I.kIn True.intro htp e (fun z=>nomatch z) fin
  | flt y=>obtain ⟨t,q⟩:=(show ∃ t,u=Value.float y t from rx); cases q; exact PySem.W.kia_tup PySem.W.kitx_float I.kIn True.intro htp e (fun z=>nomatch z) fin
  | @lst a xs ea =>
    cases (show u=Value.ref a from rx)
    obtain ⟨_,_,n,_,h1⟩:=(show ObjOk X.prog X.w H s.heap a (.lst xs) from I.hok a _ ea)
    exact PySem.W.kia_tup PySem.W.kitx_list I.kIn ⟨_,h1,rfl⟩ htp e (fun z=>nomatch z) fin
  | @frz a ob xs ea =>
    cases (show u=Value.ref a from rx)
    obtain ⟨_,_,_,n,_,h1⟩:=(show ObjOk X.prog X.w H s.heap a (.frz ob (.lst xs)) from I.hok a _ ea)
    exact PySem.W.kia_tup PySem.W.kitx_list I.kIn ⟨_,h1,rfl⟩ htp e (fun z=>nomatch z) fin
  | @tup a xs ea =>
    cases (show u=Value.ref a from rx)
    obtain ⟨_,_,_,p⟩:=(show ObjOk X.prog X.w H s.heap a (.tup xs) from I.hok a _ ea)
    obtain ⟨o,h1,h2,_⟩:=p
    exact PySem.W.kia_tup PySem.W.kitx_tuple I.kIn ⟨o,h1,h2⟩ htp e (fun z=>nomatch z) fin
  | @dK a kvs ea =>
    cases (show u=Value.ref a from rx)
    obtain ⟨_,_,vs,_,p⟩:=(show ObjOk X.prog X.w H s.heap a (.dK kvs) from I.hok a _ ea)
    obtain ⟨o,es,ep,h1,h2,_⟩:=p
    exact PySem.W.kia_tup PySem.W.kitx_dict I.kIn ⟨o,h1,h2.1⟩ htp e (fun z=>nomatch z) fin
  | @dT a kvs ea =>
    cases (show u=Value.ref a from rx)
    obtain ⟨_,_,xs,_,o,es,ep,h1,h2,_⟩:=(show ObjOk X.prog X.w H s.heap a (.dT kvs) from I.hok a _ ea)
    exact PySem.W.kia_tup PySem.W.kitx_dict I.kIn ⟨o,h1,h2.1⟩ htp e (fun z=>nomatch z) fin
  | ins e'=>cases hT
theorem boot_isi:bootBuiltins "isinstance" = some (.builtin "isinstance"):=by first | rfl | decide +kernel | kernel_rfl
theorem boot_all:bootBuiltins "all" = some (.builtin "all"):=by first | rfl | decide +kernel | kernel_rfl
theorem boot_any:bootBuiltins "any" = some (.builtin "any"):=by first | rfl | decide +kernel | kernel_rfl
theorem boot_max:bootBuiltins "max" = some (.builtin "max"):=by first | rfl | decide +kernel | kernel_rfl
theorem boot_min:bootBuiltins "min" = some (.builtin "min"):=by first | rfl | decide +kernel | kernel_rfl
theorem boot_abs:bootBuiltins "abs" = some (.builtin "abs"):=by first | rfl | decide +kernel | kernel_rfl
theorem boot_divmod:bootBuiltins "divmod" = some (.builtin "divmod"):=by first | rfl | decide +kernel | kernel_rfl
theorem boot_intT:bootBuiltins "int" = some (.type "int"):=by first | rfl | decide +kernel | kernel_rfl
theorem boot_boolT:bootBuiltins "bool" = some (.type "bool"):=by first | rfl | decide +kernel | kernel_rfl
theorem boot_strT:bootBuiltins "str" = some (.type "str"):=by first | rfl | decide +kernel | kernel_rfl
theorem boot_listT:bootBuiltins "list" = some (.type "list"):=by first | rfl | decide +kernel | kernel_rfl
theorem boot_tupleT:bootBuiltins "tuple" = some (.type "tuple"):=by first | rfl | decide +kernel | kernel_rfl
theorem bool_vals:∀ {bs:List Bool} {its:List Value},Vals (bs.map V.bl) its→its=bs.map Value.bool
  | [],_,.nil=>rfl
  | b :: bs,_,.cons r t=>by rw [bool_vals t]; cases r; rfl
theorem range_getD {bs:List Bool} (f:Nat→Bool) (hf:∀ i b,bs[i]?=some b→f i=b):(List.range bs.length).map f=bs:=by
  apply List.ext_getElem?
  intro i
  rw [List.getElem?_map]
  by_cases h:i<bs.length
  · rw [List.getElem?_range h,List.getElem?_eq_getElem h]
    simp only [Option.map_some]
    rw [hf i _ (List.getElem?_eq_getElem h)]
  · rw [List.getElem?_eq_none (by simpa using h),List.getElem?_eq_none (by omega)]; rfl
theorem call_allL (hc:X.calm=true):CallR X (.builtin "all") (fun xs H Q=>∃ (p:Addr) (bs:List Bool),xs=[.ref p]∧SqL X.K H p (bs.map V.bl)∧Q (.bl (bs.all id)) H):=by
  intro pins s σ H xs us Q I r h
  obtain ⟨p,bs,rfl,hq,q⟩:=h
  obtain ⟨u,rfl,rx⟩:=vals1 r
  cases rx
  obtain ⟨its,rv,pl,hz⟩:=I.list hq
  have e:=bool_vals rv
  subst e
  refine call_all_walk (wpAny_pyIter_list pl.isList ?_)
  refine ⟨s.heap.objs.size,_,[s.heap.objs.size],_,_,_,fun i=>bs.getD i true,rfl,Walks.list (A:=X.A.in1) (show X.A.in1.handled=none from I.ok.hd hc) s.heap.objs.size p ?_ (bs.map Value.bool).toArray,⟨⟨_,Heap.get?_push_size _ rfl,rfl,rfl⟩,pl.isList.at fun o e=>Heap.get?_push_of_some _ e⟩,?_,?_⟩
  · obtain ⟨o,e,_⟩:=pl.isList; exact Nat.ne_of_lt (Heap.lt_size e)
  · intro i v s' Q' E' hP hQ
    have hP':(bs.map Value.bool)[i]?=some v:=by simpa using hP
    rw [List.getElem?_map] at hP'
    cases z:bs[i]? with
    | none=>rw [z] at hP'; cases hP'
    | some b =>
      rw [z] at hP'
      cases hP'
      have:bs.getD i true=b:=by rw [List.getD_eq_getElem?_getD,z]; rfl
      have hQ':Q' (bs.getD i true) s':=hQ
      rw [this] at hQ'
      exact wpAny_truthy_bool hQ'
  · intro h' tk hk
    refine ⟨.bl (bs.all id),H,I.kept (t':=tk) (fun b o e=>hk b o (by simpa using Nat.ne_of_lt (Heap.lt_size e)) (Heap.get?_push_of_some _ e)),?_,q⟩
    have z:(List.range bs.length).map (fun i=>bs.getD i true)=bs:=range_getD _ fun i b e=>by rw [List.getD_eq_getElem?_getD,e]; rfl
    have z2:(List.range bs.length).all (fun i=>bs.getD i true)=bs.all id:=by
      conv=>rhs; rw [← z]
      rw [List.all_map]; rfl
    show Value.bool _=Value.bool _
    have z3:(bs.map Value.bool).toArray.size=bs.length:=by simp
    rw [z3,z2]
end
end L2
set_option Elab.async false
set_option linter.all false
set_option maxRecDepth 100000
set_option maxHeartbeats 4000000
namespace L2
open PySem PySem.Spec PyProof.Rows
structure Def (P:Program) (w:World) (K:PySem.W.Frag) (mg:Str→Option Value) (base:Heap) (x:Str) (k:Nat) (ps:List Str) (sp:Sp):Prop where
  ex:∃ (f:Addr) (fd:FuncData),FnOk P w K mg base CX0 k f fd ps sp∧mg x=some (.ref f)∧PySem.W.keepIn K (.ref f)=true∧Binds K fd ps []
section
variable {X:Cx} {x:Str} {p pos:Pos} {e:PySem.Expr} {es:List PySem.Expr} {t:TA} {k:Nat} {ps:List Str} {sp:Sp}
theorem pe_def (D:Def X.prog X.w X.K X.mg X.base x k ps sp) (hr:Room k X.A) (hg:Gl X x) (ha:PA X (e :: es) t)
    (he:starEach (e :: es) X.env=(false,eval e X.env) :: starEach es X.env:=by rfl) (hpl:(backTo pos (starEach es X.env)).any (·.1)=false:=by rfl) (hd:(x == ("__debug__" : Str))=false:=by decide) :
    PE X (.Call (.Name x p) (e :: es) [] pos) (tCall sp [] E0 t):=by
  obtain ⟨f,fd,F,hm,hk,hb⟩:=D.ex
  exact pe_call F hr hg hm hk hb .nil pass0 ha (hdb:=hd) (he:=he) (hpl:=hpl)
end
theorem pg_tupK {X:Cx} {K:PySem.W.Frag} {es:List PySem.Expr} {k:Nat} {t:TGs} {n:Nat} {pos:Pos} (hK:X.K=K) (hc:X.calm=true) (h:PGs X es t)
    (hn:(assignEach es X.env).length=n:=by rfl) (hst:(assignEach es X.env).findIdx? (·.1)=none:=by rfl):PG X (.Tuple es k pos) (gTup K n t):=by
  subst hK
  exact pg_tup hc h hn hst
def compB (osc:Scope) (oN:List Str) (scope:Scope) (N:List Str) (own:Nat) (js:List Nat):Bool :=
  scope.kind == .function && scope.names.all (fun y=>y.2 != .cell || scope.names.lookup y.1 == some .cell) && scope.names.all (fun y=>y.2 != .local || scope.names.lookup y.1 == some .local) &&
  scope.names.all (fun y=>y.2 != .free || (osc.names.lookup y.1 == some .cell || osc.names.lookup y.1 == some .free)) && N.length == own+js.length &&
  (js.map fun j=>oN[j]?) == (N.drop own).map some && (N.drop own).all fun x=>scope.names.lookup x == some .free
theorem compOk_of {X:Cx} {osc:Scope} {oN:List Str} {scope:Scope} {N:List Str} {own:Nat} {js:List Nat} (h:compB osc oN scope N own js=true) (hs:X.env.scope=osc) (hN:X.N=oN):CompOk X scope N own js:=by
  unfold compB at h
  simp only [Bool.and_eq_true,List.all_eq_true,Bool.or_eq_true,beq_iff_eq,bne_iff_ne,ne_eq] at h
  obtain ⟨⟨⟨⟨⟨⟨h1,h2⟩,h3⟩,h4⟩,h5⟩,h6⟩,h7⟩:=h
  refine ⟨h1,fun y hy hl=>?_,fun y hy hl=>?_,fun y hy hf=>?_,h5,fun k j e=>?_,fun k x e=>?_⟩
  · rcases h2 y hy with q | q
    · exact absurd hl q
    · exact q
  · rcases h3 y hy with q | q
    · exact absurd hl q
    · exact q
  · rcases h4 y hy with q | q
    · exact absurd hf q
    · show X.env.scope.names.lookup y.1=_∨X.env.scope.names.lookup y.1=_
      rw [hs]; exact q
  · rw [hN]
    have z:=congrArg (fun l=>l[k]?) h6
    simp only [List.getElem?_map,e,Option.map_some,List.getElem?_drop] at z
    cases q:N[own+k]? with
    | none=>rw [q] at z; cases z
    | some y=>rw [q] at z; exact (Option.some.inj z).symm
  · refine h7 x ?_
    exact List.mem_of_getElem? (i:=k) (by rw [List.getElem?_drop]; exact e)
def SB (b:Addr) (H H':Hp):Prop:=∀ a o,a≠b→H a=some o→H' a=some o
theorem SB.trans {b:Addr} {H H1 H2:Hp} (x:SB b H H1) (y:SB b H1 H2):SB b H H2:=fun a o n h=>y a o n (x a o n h)
theorem Same.sb {H H':Hp} (x:Same H H') (b:Addr):SB b H H':=fun a o _ h=>x a o h
theorem sb_upd (b:Addr) (H:Hp) (o:HO):SB b H (upd H b o):=fun a u n h=>by rw [upd_ne n]; exact h
theorem same_upd {H:Hp} {p:Addr} (h:H p=none) (o:HO):Same H (upd H p o):=fun b u q=>by rw [upd_ne (ne_of_none q h)]; exact q
def CNx (n:Nat) (l:Addr) (Pv:Nat→List V→St→Hp→Prop) (i:Nat) (ys:List V) (σ:St) (y:V) (H:Hp):Prop :=
  H l=some (.lst ys)∧ys.length<sizeLine∧∃ m',m'<n - i∧(m'=n - (i+1)∧i+1≤n∧(ys++[y]).length≤i+1∧Pv (i+1) (ys++[y]) σ (upd H l (.lst (ys++[y]))))
def CNo (n:Nat) (Pv:Nat→List V→St→Hp→Prop) (i:Nat) (ys:List V) (σ:St) (H:Hp):Prop:=∃ m',m'<n - i∧(m'=n - (i+1)∧i+1≤n∧ys.length≤i+1∧Pv (i+1) ys σ H)
theorem CNx.of {n:Nat} {l:Addr} {Pv:Nat→List V→St→Hp→Prop} {i:Nat} {ys:List V} {σ:St} {y:V} {H:Hp} (hn:n≤sizeLine) (hi:i<n) (hy:ys.length≤i) (h1:H l=some (.lst ys)) (h2:Pv (i+1) (ys++[y]) σ (upd H l (.lst (ys++[y])))):CNx n l Pv i ys σ y H :=
  ⟨h1,by omega,n - (i+1),by omega,rfl,hi,by rw [List.length_append,List.length_singleton]; omega,h2⟩
theorem CNo.of {n:Nat} {Pv:Nat→List V→St→Hp→Prop} {i:Nat} {ys:List V} {σ:St} {H:Hp} (hi:i<n) (hy:ys.length≤i) (h2:Pv (i+1) ys σ H):CNo n Pv i ys σ H :=
  ⟨n - (i+1),by omega,rfl,hi,by omega,h2⟩
theorem comp_range {lo:Int} {n:Nat} {l:Addr} {g:TG} {tc:TT} {te:TE} {σ0:St} {H0:Hp} {Qf:Hp→Prop} (Pv:Nat→List V→St→Hp→Prop) (h0:Pv 0 [] σ0 H0)
    (hs:∀ i ys σ' H',i<n→ys.length≤i→Pv i ys σ' H'→g (.int (lo+i)) σ' H' fun σ2 H3=>tc σ2 H3 fun b H4=>if b=true then te σ2 H4 fun y H5=>CNx n l Pv i ys σ2 y H5 else CNo n Pv i ys σ2 H4)
    (hd:∀ ys σ' H',ys.length≤n→Pv n ys σ' H'→Qf H') :
    ∃ W:Nat→Nat→List V→St→Hp→Prop,(∃ m,W 0 m [] σ0 H0)∧∀ i m ys σ' H',W i m ys σ' H' →
    ((Itr lo n).stop i H'∧Qf H')∨((Itr lo n).go i H'∧∀ x H2,(Itr lo n).yld i H' x H2→g x σ' H2 fun σ2 H3=>tc σ2 H3 fun b H4 =>
      if b=true then te σ2 H4 fun y H5=>H5 l=some (.lst ys)∧ys.length<sizeLine∧∃ m',m'<m∧W (i+1) m' (ys++[y]) σ2 (upd H5 l (.lst (ys++[y])))
      else ∃ m',m'<m∧W (i+1) m' ys σ2 H4):=by
  refine ⟨fun i m ys σ' H'=>m=n - i∧i≤n∧ys.length≤i∧Pv i ys σ' H',⟨n,rfl,Nat.zero_le _,Nat.le_refl _,h0⟩,?_⟩
  rintro i m ys σ' H' ⟨rfl,hi,hy,p⟩
  by_cases hlt:i<n
  · refine .inr ⟨hlt,fun x H2 q=>?_⟩
    obtain ⟨rfl,rfl⟩:=q
    exact hs i ys σ' _ hlt hy p
  · have e:i=n:=by omega
    subst e
    exact .inl ⟨Nat.le_refl _,hd ys σ' H' hy p⟩
theorem comp_list {K:PySem.W.Frag} {a:Addr} {xs:List V} {l:Addr} {g:TG} {tc:TT} {te:TE} {σ0:St} {H0:Hp} {Qf:Hp→Prop} (Pv:Nat→List V→St→Hp→Prop) (h0:Pv 0 [] σ0 H0)
    (hl:∀ i ys σ' H',i≤xs.length→Pv i ys σ' H'→SqL K H' a xs)
    (hs:∀ i x ys σ' H',i<xs.length→xs[i]?=some x→ys.length≤i→Pv i ys σ' H'→g x σ' H' fun σ2 H3=>tc σ2 H3 fun b H4=>if b=true then te σ2 H4 fun y H5=>CNx xs.length l Pv i ys σ2 y H5 else CNo xs.length Pv i ys σ2 H4)
    (hd:∀ ys σ' H',ys.length≤xs.length→Pv xs.length ys σ' H'→Qf H') :
    ∃ W:Nat→Nat→List V→St→Hp→Prop,(∃ m,W 0 m [] σ0 H0)∧∀ i m ys σ' H',W i m ys σ' H' →
    ((Itl K a).stop i H'∧Qf H')∨((Itl K a).go i H'∧∀ x H2,(Itl K a).yld i H' x H2→g x σ' H2 fun σ2 H3=>tc σ2 H3 fun b H4 =>
      if b=true then te σ2 H4 fun y H5=>H5 l=some (.lst ys)∧ys.length<sizeLine∧∃ m',m'<m∧W (i+1) m' (ys++[y]) σ2 (upd H5 l (.lst (ys++[y])))
      else ∃ m',m'<m∧W (i+1) m' ys σ2 H4):=by
  refine ⟨fun i m ys σ' H'=>m=xs.length - i∧i≤xs.length∧ys.length≤i∧Pv i ys σ' H',⟨xs.length,rfl,Nat.zero_le _,Nat.le_refl _,h0⟩,?_⟩
  rintro i m ys σ' H' ⟨rfl,hi,hy,p⟩
  have q:=hl i ys σ' H' hi p
  by_cases hlt:i<xs.length
  · refine .inr ⟨⟨xs,xs[i],q,by simp [hlt]⟩,fun x H2 z=>?_⟩
    obtain ⟨rfl,z⟩:=z
    exact hs i x ys σ' _ hlt (z xs q) hy p
  · have e:i=xs.length:=by omega
    subst e
    exact .inl ⟨⟨xs,q,Nat.le_refl _⟩,hd ys σ' H' hy p⟩
theorem comp_zip {K:PySem.W.Frag} {a b:Addr} {xs zs:List V} {l:Addr} {g:TG} {tc:TT} {te:TE} {σ0:St} {H0:Hp} {Qf:Hp→Prop} (hlen:xs.length=zs.length) (Pv:Nat→List V→St→Hp→Prop) (h0:Pv 0 [] σ0 H0)
    (hl:∀ i ys σ' H',i≤xs.length→Pv i ys σ' H'→SqL K H' a xs∧SqL K H' b zs)
    (hs:∀ i x z t ys σ' H',i<xs.length→xs[i]?=some x→zs[i]?=some z→ys.length≤i→Pv i ys σ' H'→H' t=none→g (.ref t) σ' (upd H' t (.tup [x,z])) fun σ2 H3=>tc σ2 H3 fun b H4=>if b=true then te σ2 H4 fun y H5=>CNx xs.length l Pv i ys σ2 y H5 else CNo xs.length Pv i ys σ2 H4)
    (hd:∀ ys σ' H',ys.length≤xs.length→Pv xs.length ys σ' H'→Qf H') :
    ∃ W:Nat→Nat→List V→St→Hp→Prop,(∃ m,W 0 m [] σ0 H0)∧∀ i m ys σ' H',W i m ys σ' H' →
    ((Itz K a b).stop i H'∧Qf H')∨((Itz K a b).go i H'∧∀ x H2,(Itz K a b).yld i H' x H2→g x σ' H2 fun σ2 H3=>tc σ2 H3 fun b H4 =>
      if b=true then te σ2 H4 fun y H5=>H5 l=some (.lst ys)∧ys.length<sizeLine∧∃ m',m'<m∧W (i+1) m' (ys++[y]) σ2 (upd H5 l (.lst (ys++[y])))
      else ∃ m',m'<m∧W (i+1) m' ys σ2 H4):=by
  refine ⟨fun i m ys σ' H'=>m=xs.length - i∧i≤xs.length∧ys.length≤i∧Pv i ys σ' H',⟨xs.length,rfl,Nat.zero_le _,Nat.le_refl _,h0⟩,?_⟩
  rintro i m ys σ' H' ⟨rfl,hi,hy,p⟩
  have q:=hl i ys σ' H' hi p
  by_cases hlt:i<xs.length
  · have hz:i<zs.length:=by omega
    refine .inr ⟨⟨xs,zs,xs[i],zs[i],q.1,q.2,by simp [hlt],by simp [hz]⟩,fun x H2 z=>?_⟩
    obtain ⟨t,u,v,ht,rfl,rfl,z1,z2⟩:=z
    exact hs i u v t ys σ' _ hlt (z1 xs q.1) (z2 zs q.2) hy p ht
  · have e:i=xs.length:=by omega
    subst e
    exact .inl ⟨⟨xs,zs,q.1,q.2,.inl (Nat.le_refl _)⟩,hd ys σ' H' hy p⟩
theorem for_enum {K:PySem.W.Frag} {a:Addr} {xs:List V} {g:TG} {tb:TS} {D:Ends} {σ:St} {H:Hp} (Pv:Nat→St→Hp→Prop) (h0:Pv 0 σ H) (hl:∀ i σ H,i≤xs.length→Pv i σ H→SqL K H a xs)
    (hs:∀ i x t σ H,xs[i]?=some x→Pv i σ H→H t=none→g (.ref t) σ (upd H t (.tup [.int i,x])) fun σ2 H2=>tb { D with nx:=Pv (i+1),ct:=Pv (i+1),bk:=D.nx } σ2 H2) (hd:∀ σ H,Pv xs.length σ H→D.nx σ H) :
    ∃ W:Nat→Nat→St→Hp→Prop,(∃ m,W 0 m σ H)∧∀ i m σ H,W i m σ H →
      ((Ite K a).stop i H∧D.nx σ H)∨((Ite K a).go i H∧∃ N:St→Hp→Prop,(∀ σ' H',N σ' H'→∃ m',m'<m∧W (i+1) m' σ' H')∧∀ x H',(Ite K a).yld i H x H'→g x σ H' fun σ2 H2=>tb { D with nx:=N,ct:=N,bk:=D.nx } σ2 H2):=by
  refine ⟨fun i m σ H=>m=xs.length - i∧i≤xs.length∧Pv i σ H,⟨xs.length,by simp,Nat.zero_le _,h0⟩,?_⟩
  rintro i m σ H ⟨rfl,hi,p⟩
  have q:=hl i σ H hi p
  by_cases hlt:i<xs.length
  · refine .inr ⟨⟨xs,xs[i],q,by simp [hlt]⟩,Pv (i+1),fun σ' H' p'=>⟨xs.length - (i+1),by omega,rfl,hlt,p'⟩,fun x H' y=>?_⟩
    obtain ⟨t,u,ht,rfl,rfl,y⟩:=y
    exact hs i u t σ _ (y xs q) p ht
  · have e:i=xs.length:=by omega
    subst e
    exact .inl ⟨⟨xs,q,rfl⟩,hd σ H p⟩
theorem atI0 {α:Type} {x:α} {xs:List α}:atI (x :: xs) 0=some x:=atI_nat (j:=0) rfl
theorem atI1 {α:Type} {x y:α} {xs:List α}:atI (x :: y :: xs) 1=some y:=atI_nat (j:=1) rfl
theorem atI2 {α:Type} {x y z:α} {xs:List α}:atI (x :: y :: z :: xs) 2=some z:=atI_nat (j:=2) rfl
theorem ite_dec {p A B:Prop} [Decidable p] (h1:p→A) (h2:¬ p→B):if decide p=true then A else B:=by
  by_cases h:p
  · rw [if_pos (decide_eq_true h)]; exact h1 h
  · rw [if_neg (by rw [decide_eq_false h]; exact Bool.false_ne_true)]; exact h2 h
end L2
set_option Elab.async false
set_option linter.all false
set_option maxRecDepth 100000
set_option maxHeartbeats 4000000
namespace HT
open PySem PySem.Spec PyProof.Rows
end HT
namespace L2
open PySem PySem.Spec PyProof.Rows
def NS:PySem.Expr→Prop
  | .Starred _ _=>False
  | _=>True
theorem star_ns {e:PySem.Expr} {es:List PySem.Expr} {env:Env} (h:NS e):starEach (e :: es) env=(false,eval e env) :: starEach es env:=by
  cases e <;> first | rfl | exact h.elim
def NSs:List PySem.Expr→Prop
  | []=>True
  | e :: es=>NS e∧NSs es
theorem back_ns {pos:Pos} {env:Env}:∀ {es:List PySem.Expr},NSs es→(backTo pos (starEach es env)).any (·.1)=false
  | [],_=>rfl
  | e :: es,h=>by
    rw [star_ns h.1]
    have ih:=back_ns (pos:=pos) (env:=env) h.2
    simp only [backTo] at ih ⊢
    simpa using ih
section
variable {X:Cx} {x:Str} {p pos:Pos} {e:PySem.Expr} {es:List PySem.Expr} {te:TE} {t:TA} {k:Nat} {ps:List Str} {sp:Sp} {id T:String} {r:List V→Hp→VK→Prop}
theorem pc (ha:PE X e te) (hr:PA X es t) (hn:NS e:=by exact True.intro):PA X (e :: es) (tCons te t):=pa_cons ha hr (star_ns hn)
theorem pe_defN (D:Def X.prog X.w X.K X.mg X.base x k ps sp) (hr:Room k X.A) (hg:Gl X x) (ha:PA X (e :: es) t) (hn:NSs (e :: es):=by repeat' (first | exact True.intro | refine ⟨?_,?_⟩)) (hd:(x == ("__debug__" : Str))=false:=by decide) :
    PE X (.Call (.Name x p) (e :: es) [] pos) (tCall sp [] E0 t):=pe_def D hr hg ha (star_ns hn.1) (back_ns hn.2) hd
theorem pe_callBN (hc:CallR X (.builtin id) r) (hg:Gl X x) (hm:X.mg x=none) (hv:bootBuiltins x=some (.builtin id)) (ha:PA X (e :: es) t) (hnn:NSs (e :: es):=by repeat' (first | exact True.intro | refine ⟨?_,?_⟩)) (hn:x ≠ "__name__" := by decide) (hdb:(x == ("__debug__" : Str))=false:=by decide) :
    PE X (.Call (.Name x p) (e :: es) [] pos) (tCB r t):=pe_callB hc hg hm hv ha hn hdb (star_ns hnn.1) (back_ns hnn.2)
theorem pe_callTyN (hc:CallR X (.type T) r) (hg:Gl X x) (hm:X.mg x=none) (hv:bootBuiltins x=some (.type T)) (ha:PA X (e :: es) t) (hnn:NSs (e :: es):=by repeat' (first | exact True.intro | refine ⟨?_,?_⟩)) (hn:x ≠ "__name__" := by decide) (hdb:(x == ("__debug__" : Str))=false:=by decide) :
    PE X (.Call (.Name x p) (e :: es) [] pos) (tCB r t):=pe_callTy hc hg hm hv ha hn hdb (star_ns hnn.1) (back_ns hnn.2)
end
end L2
set_option Elab.async false
set_option linter.all false
set_option maxRecDepth 100000
set_option maxHeartbeats 4000000
namespace L2
open PySem PySem.Spec PyProof.Rows
theorem comp_tup {K:PySem.W.Frag} {a:Addr} {xs:List V} {l:Addr} {g:TG} {tc:TT} {te:TE} {σ0:St} {H0:Hp} {Qf:Hp→Prop} (Pv:Nat→List V→St→Hp→Prop) (h0:Pv 0 [] σ0 H0)
    (hl:∀ i ys σ' H',i≤xs.length→Pv i ys σ' H'→SqT K H' a xs)
    (hs:∀ i x ys σ' H',i<xs.length→xs[i]?=some x→ys.length≤i→Pv i ys σ' H'→g x σ' H' fun σ2 H3=>tc σ2 H3 fun b H4=>if b=true then te σ2 H4 fun y H5=>CNx xs.length l Pv i ys σ2 y H5 else CNo xs.length Pv i ys σ2 H4)
    (hd:∀ ys σ' H',ys.length≤xs.length→Pv xs.length ys σ' H'→Qf H') :
    ∃ W:Nat→Nat→List V→St→Hp→Prop,(∃ m,W 0 m [] σ0 H0)∧∀ i m ys σ' H',W i m ys σ' H' →
    ((Itt K a).stop i H'∧Qf H')∨((Itt K a).go i H'∧∀ x H2,(Itt K a).yld i H' x H2→g x σ' H2 fun σ2 H3=>tc σ2 H3 fun b H4 =>
      if b=true then te σ2 H4 fun y H5=>H5 l=some (.lst ys)∧ys.length<sizeLine∧∃ m',m'<m∧W (i+1) m' (ys++[y]) σ2 (upd H5 l (.lst (ys++[y])))
      else ∃ m',m'<m∧W (i+1) m' ys σ2 H4):=by
  refine ⟨fun i m ys σ' H'=>m=xs.length - i∧i≤xs.length∧ys.length≤i∧Pv i ys σ' H',⟨xs.length,rfl,Nat.zero_le _,Nat.le_refl _,h0⟩,?_⟩
  rintro i m ys σ' H' ⟨rfl,hi,hy,p⟩
  have q:=hl i ys σ' H' hi p
  by_cases hlt:i<xs.length
  · refine .inr ⟨⟨xs,xs[i],q,by simp [hlt]⟩,fun x H2 z=>?_⟩
    obtain ⟨rfl,z⟩:=z
    exact hs i x ys σ' _ hlt (z xs q) hy p
  · have e:i=xs.length:=by omega
    subst e
    exact .inl ⟨⟨xs,q,Nat.le_refl _⟩,hd ys σ' H' hy p⟩
end L2
set_option Elab.async false
set_option linter.all false
set_option maxRecDepth 100000
set_option maxHeartbeats 4000000
namespace L2
open PySem PySem.Spec PyProof.Rows
section
variable {X:Cx} {K:PySem.W.Frag}
theorem ix_listK (hK:X.K=K):IxR X (rIxL K):=hK ▸ ix_list
theorem sl_listK (hK:X.K=K):SlR X (rSlL K):=hK ▸ sl_list
theorem op_in_seqK (hK:X.K=K):OpR X (compareOp .In) (rIn K false):=hK ▸ op_in_seq
theorem op_notIn_seqK (hK:X.K=K):OpR X (compareOp .NotIn) (rIn K true):=hK ▸ op_notIn_seq
theorem call_len_seqK (hK:X.K=K):CallR X (.builtin "len") (fun xs H Q=>∃ p ys,xs=[.ref p]∧(SqL K H p ys∨SqT K H p ys)∧Q (.int ys.length) H):=hK ▸ call_len_seq
theorem call_list_ofK (hK:X.K=K):CallR X (.type "list") (fun xs H Q=>∃ p ys,xs=[.ref p]∧(SqL K H p ys∨SqT K H p ys)∧∀ l,H l=none→Q (.ref l) (upd H l (.lst ys))):=hK ▸ call_list_of
theorem call_tuple_ofK (hK:X.K=K):CallR X (.type "tuple") (fun xs H Q=>∃ p ys,xs=[.ref p]∧((SqL K H p ys∧∀ l,H l=none→Q (.ref l) (upd H l (.tup ys)))∨(SqT K H p ys∧Q (.ref p) H))):=hK ▸ call_tuple_of
theorem ints_range {ns ms:List Int} (h:ns.length=ms.length):(List.range ns.length).all (fun j=>ns.getD j 0 == ms.getD j 0)=decide (ns=ms):=by
  rw [Bool.eq_iff_iff,List.all_eq_true,decide_eq_true_eq]
  constructor
  · intro z
    refine List.ext_getElem h fun j h1 h2=>?_
    have:=z j (List.mem_range.mpr h1)
    rw [List.getD_eq_getElem?_getD,List.getD_eq_getElem?_getD,List.getElem?_eq_getElem h1,List.getElem?_eq_getElem h2] at this
    simpa using this
  · rintro rfl j _
    simp
def rEqL (K:PySem.W.Frag) (neg:Bool):R2:=fun x y H Q=>∃ (a b:Addr) (ns ms:List Int),x=.ref a∧y=.ref b∧SqL K H a (ns.map V.int)∧SqL K H b (ms.map V.int)∧Q (.bl (if neg then !decide (ns=ms) else decide (ns=ms))) H
theorem ints_eqAt {A:Around} {s:Shared} {ns:List Int} {us:List Value} (r:Vals (ns.map V.int) us) {ms:List Int} {ws:List Value} (r2:Vals (ms.map V.int) ws) (j:Nat) (h1:j<us.toArray.size) (h2:j<ws.toArray.size):SeqAt.EqAt A s us.toArray[j] ws.toArray[j] (ns.getD j 0 == ms.getD j 0):=by
  have l1:ns.length=us.length:=by have:=r.length; rwa [List.length_map] at this
  have l2:ms.length=ws.length:=by have:=r2.length; rwa [List.length_map] at this
  have k1:j<ns.length:=by rw [l1]; simpa using h1
  have k2:j<ms.length:=by rw [l2]; simpa using h2
  obtain ⟨u,hu,ru⟩:=r.get (i:=j) (x:=.int ns[j]) (by rw [List.getElem?_map,List.getElem?_eq_getElem k1]; rfl)
  obtain ⟨v,hv,rv⟩:=r2.get (i:=j) (x:=.int ms[j]) (by rw [List.getElem?_map,List.getElem?_eq_getElem k2]; rfl)
  obtain ⟨t,rfl⟩:=ru
  obtain ⟨t',rfl⟩:=rv
  have e1:us.toArray[j]=.int ns[j] t:=by
    have:us[j]?=some us[j]:=List.getElem?_eq_getElem (by simpa using h1)
    rw [hu] at this
    simpa using (Option.some.inj this).symm
  have e2:ws.toArray[j]=.int ms[j] t':=by
    have:ws[j]?=some ws[j]:=List.getElem?_eq_getElem (by simpa using h2)
    rw [hv] at this
    simpa using (Option.some.inj this).symm
  rw [e1,e2,List.getD_eq_getElem?_getD,List.getD_eq_getElem?_getD,List.getElem?_eq_getElem k1,List.getElem?_eq_getElem k2]
  exact SeqAt.EqAt.int_int _ _ _ _
theorem op_neL (hu:X.A.units<cLine) (hK:X.K=K):OpR X (compareOp .NotEq) (rEqL K true):=by
  subst hK
  intro pins s σ H x y v u Q I rx ry h
  obtain ⟨a,b,ns,ms,rfl,rfl,ha,hb,q⟩:=h
  cases rx
  cases ry
  obtain ⟨its,r1,p1,_⟩:=I.list ha
  obtain ⟨its2,r2,p2,_⟩:=I.list hb
  have l1:ns.length=its.length:=by have:=r1.length; rwa [List.length_map] at this
  have l2:ms.length=its2.length:=by have:=r2.length; rwa [List.length_map] at this
  by_cases hl:ns.length=ms.length
  · refine SeqAt.RcNeAt.lists (e:=fun j=>ns.getD j 0 == ms.getD j 0) p1.isList p2.isList (by simp; omega) hu (fun j h1 h2=>ints_eqAt r1 r2 j h1 h2) X.prog X.w X.xe _ ⟨.bl _,H,I,rfl,?_⟩
    rw [List.size_toArray,← l1,ints_range hl]
    exact q
  · refine SeqAt.RcNeAt.lists_lengths p1.isList p2.isList (by simp; omega) hu X.prog X.w X.xe _ ⟨.bl true,H,I,rfl,?_⟩
    have e:decide (ns=ms)=false:=decide_eq_false fun z=>hl (by rw [z])
    rw [e] at q
    exact q
end
end L2
set_option Elab.async false
set_option linter.all false
set_option maxRecDepth 100000
set_option maxHeartbeats 4000000
namespace L2
open PySem PySem.Spec PyProof.Rows
def pairOf (x:Value) (c:Nat):Obj:={ cls:=.type "list",dict:=none,data:=.seq #[x,x] c,slots:=#[] }
theorem max_one {P0:Program} {w0:World} {A0:Around} {R0:Result→Shared→Prop} {it box:Addr} {t:Shared} {old:Value} {c:Nat} (hx:t.heap.get? box=some (pairOf old c))
    (h:∀ E,wpAny (model P0 w0) A0.in1 (pyNext (.ref it)) (fun r t1=>(∃ c1,t1.heap.get? box=some (pairOf old c1)) ∧
      ((r=none∧R0 (.ok (.ret old)) { t1 with heap:=t1.heap.update box (Obj.mapSeq fun _=>#[]) }) ∨
       ∃ v,r=some v∧∀ E',wpAny (model P0 w0) A0.in1 (richCompare .Gt v old) (fun a t2=>∃ b,a=.bool b∧t2=t1 ∧
         codeAny (model P0 w0) A0 (.builtin "max.loop" ⟨[.ref it,.none,.ref box],[]⟩) R0 (if b=true then { t1 with heap:=t1.heap.update box (Obj.mapSeq fun _=>#[v,v]) } else t1)) E' t1)) E t) :
    codeAny (model P0 w0) A0 (.builtin "max.loop" ⟨[.ref it,.none,.ref box],[]⟩) R0 t:=by
  refine codeAny_builtin F.entry_max_loop ?_
  rw [Around.under_plainId F.plain_max_loop _]
  show wpAny _ _ (seqItems? (.ref box) >>= fun found=>_) _ _ t
  refine wpAny_bind (wpAny_seqItems hx rfl (wpAny_bind (wpAny_tryCatch (wpAny_mono (h _) (fun r t1 z=>?_) fun _ _ e=>e))))
  obtain ⟨⟨c1,hx1⟩,⟨rfl,fin⟩ | ⟨v,rfl,go⟩⟩:=z
  · exact wpAny_bind (wpAny_updateSeq hx1 rfl (wpAny_bind (wpAny_letGo (wpAny_pure fin))))
  · refine wpAny_bind (wpAny_pure (wpAny_bind (wpAny_tryCatch (wpAny_holding (wpAny_bind (wpAny_mono (go _) (fun a t2 y=>?_) fun _ _ e=>e))))))
    obtain ⟨b,rfl,rfl,nxt⟩:=y
    refine wpAny_bind (wpAny_holding (wpAny_truthy_bool (wpAny_bind (wpAny_letGo (wpAny_pure ?_)))))
    have name:(toString "max" ++ toString ".loop" : String) = "max.loop" := by decide
    cases b with
    | true=>exact wpAny_bind (wpAny_updateSeq hx1 rfl (wpAny_bind (wpAny_letGo (by rw [name]; exact wpAny_pure ⟨plainId_quiet F.plain_max_loop _,nxt⟩))))
    | false=>exact wpAny_bind (wpAny_letGo (by rw [name]; exact wpAny_pure ⟨plainId_quiet F.plain_max_loop _,nxt⟩))
theorem max_first {P0:Program} {w0:World} {A0:Around} {R0:Result→Shared→Prop} {it box:Addr} {t:Shared} {c:Nat} (hx:t.heap.get? box=some { cls:=.type "list",dict:=none,data:=.seq #[] c,slots:=#[] })
    (h:∀ E,wpAny (model P0 w0) A0.in1 (pyNext (.ref it)) (fun r t1=>∃ v c1,r=some v∧t1.heap.get? box=some { cls:=.type "list",dict:=none,data:=.seq #[] c1,slots:=#[] } ∧
      codeAny (model P0 w0) A0 (.builtin "max.loop" ⟨[.ref it,.none,.ref box],[]⟩) R0 { t1 with heap:=t1.heap.update box (Obj.mapSeq fun _=>#[v,v]) }) E t) :
    codeAny (model P0 w0) A0 (.builtin "max.loop" ⟨[.ref it,.none,.ref box],[]⟩) R0 t:=by
  refine codeAny_builtin F.entry_max_loop ?_
  rw [Around.under_plainId F.plain_max_loop _]
  show wpAny _ _ (seqItems? (.ref box) >>= fun found=>_) _ _ t
  refine wpAny_bind (wpAny_seqItems hx rfl (wpAny_bind (wpAny_tryCatch (wpAny_mono (h _) (fun r t1 z=>?_) fun _ _ e=>e))))
  obtain ⟨v,c1,rfl,hx1,nxt⟩:=z
  have name:(toString "max" ++ toString ".loop" : String) = "max.loop" := by decide
  exact wpAny_bind (wpAny_pure (wpAny_bind (wpAny_updateSeq hx1 rfl (by rw [name]; exact wpAny_pure ⟨plainId_quiet F.plain_max_loop _,nxt⟩))))
def Cmpmax (P0:Program) (w0:World) (A0:Around) (Good:Heap→Prop) (At:Nat→Value→Prop) (bt:Nat→Nat→Bool):Prop :=
  ∀ (i j:Nat) (u v:Value) (t:Shared) (Q:Value→Shared→Prop) (E:Value→Shared→Prop),Good t.heap→At i u→At j v→Q (.bool (bt i j)) t→wpAny (model P0 w0) A0.in1 (richCompare .Gt u v) Q E t
section
variable {P0:Program} {w0:World} {A0:Around} {R0:Result→Shared→Prop} {it box:Addr} {fps wrs:List Addr} {cnt:Nat} {At:Nat→Value→Prop} {Sit:Nat→Heap→Prop} {Good:Heap→Prop} {bt:Nat→Nat→Bool}
theorem max_rest (wk:Walks P0 w0 A0.in1 it fps wrs cnt At Sit) (cmp:Cmpmax P0 w0 A0 Good At bt) (off:box∉wrs) (offp:box∉fps) (keep:∀ h h':Heap,Good h→(∀ b o,b∉wrs→b≠box→h.get? b=some o→h'.get? b=some o)→Good h') (left:Nat) :
    ∀ (i:Nat) (t:Shared) (best:Value) (c:Nat),cnt=i+1+left→Sit (i+1) t.heap→Good t.heap→At (argBest bt i) best→t.heap.get? box=some (pairOf best c) →
    (∀ v h' tk,At (argBest bt (cnt - 1)) v→(∀ b o,b∉wrs→b≠box→t.heap.get? b=some o→h'.get? b=some o)→R0 (.ok (.ret v)) { t with heap:=h',toks:=tk })→codeAny (model P0 w0) A0 (.builtin "max.loop" ⟨[.ref it,.none,.ref box],[]⟩) R0 t:=by
  induction left with
  | zero =>
    intro i t best c hc hs hg hb hx hR
    exact max_one hx fun E=>wk.done t _ _ (by rw [hc]; exact hs) fun h' tk kp=>⟨⟨c,kp box _ off hx⟩,.inl ⟨rfl,hR best _ tk (by rw [show cnt - 1=i by omega]; exact hb) fun b o n1 n2 e=>(Heap.get?_update_other _ _ (Ne.symm n2)).trans (kp b o n1 e)⟩⟩
  | succ left ih =>
    intro i t best c hc hs hg hb hx hR
    refine max_one hx fun E=>wk.item (i+1) t _ _ (by omega) hs fun v h' tk hv hs' kp=>⟨⟨c,kp box _ off hx⟩,.inr ⟨v,rfl,fun E'=>?_⟩⟩
    have good:=keep _ h' hg fun b o n1 _ e=>kp b o n1 e
    refine cmp (i+1) (argBest bt i) v best _ _ _ good hv hb ⟨_,rfl,rfl,?_⟩
    by_cases hbt:bt (i+1) (argBest bt i)=true
    · rw [if_pos hbt]
      refine ih (i+1) _ v _ (by omega) (wk.frame _ _ _ hs' fun b hbf o e=>(Heap.get?_update_other _ _ (fun z=>offp (by rw [z]; exact hbf))).trans e) (keep _ _ good fun b o _ n2 e=>(Heap.get?_update_other _ _ (Ne.symm n2)).trans e) (by rw [argBest,if_pos hbt]; exact hv) (Heap.get?_update_self _ (kp box _ off hx) rfl) fun u h'' tk' hu kp'=>?_
      exact hR u h'' tk' hu fun b o n1 n2 e=>kp' b o n1 n2 ((Heap.get?_update_other _ _ (Ne.symm n2)).trans (kp b o n1 e))
    · rw [if_neg hbt]
      exact ih (i+1) _ best c (by omega) hs' good (by rw [argBest,if_neg hbt]; exact hb) (kp box _ off hx) fun u h'' tk' hu kp'=>hR u h'' tk' hu fun b o n1 n2 e=>kp' b o n1 n2 (kp b o n1 e)
end
theorem call_max_at {P0:Program} {w0:World} {A0:Around} {E0:Value→Shared→Prop} {t:Shared} {x:Value} {Q:Value→Shared→Prop}
    (h:wpAny (model P0 w0) A0.in1 (pyIter x) (fun iv t2=>∃ it fps wrs cnt At Sit bt,∃ Good:Heap→Prop,iv=.ref it∧Walks P0 w0 A0.in1 it fps wrs cnt At Sit∧Sit 0 t2.heap∧(∀ b∈fps,b<t2.heap.objs.size)∧0<cnt∧Good t2.heap ∧
      (∀ h h':Heap,Good h→(∀ b o,b∉wrs→b≠t2.heap.objs.size→h.get? b=some o→h'.get? b=some o)→Good h')∧Cmpmax P0 w0 A0 Good At bt ∧
      ∀ v h' tk,At (argBest bt (cnt - 1)) v→(∀ b o,b∉wrs→t2.heap.get? b=some o→h'.get? b=some o)→Q v { t2 with heap:=h',toks:=tk }) E0 t):wpAny (model P0 w0) A0 (call (.builtin "max") [x]) Q E0 t:=by
  have name:(toString "max" ++ toString ".loop" : String) = "max.loop" := by decide
  refine call_function_tree F.kind_max F.plain_max F.entry_max (F.args_max1 _) ?_
  show wpAny _ _ (Builtin.Builtins.bindParams "max" ["key", "default"] 0 ⟨[],[]⟩ >>= fun bound=>_) _ _ t
  refine wpAny_bind (wpAny_of_eq (show Builtin.Builtins.bindParams "max" ["key", "default"] 0 ⟨[],[]⟩=pure [none,none] from rfl) (wpAny_bind (wpAny_pure (wpAny_bind (wpAny_mono h (fun iv t2 z=>?_) fun _ _ e=>e)))))
  obtain ⟨it,fps,wrs,cnt,At,Sit,bt,Good,rfl,wk,hs,hf,pos,hg,keep,cmp,hQ⟩:=z
  have offp:t2.heap.objs.size∉fps:=fun m=>Nat.lt_irrefl _ (hf _ m)
  have off:t2.heap.objs.size∉wrs:=fun m=>offp (wk.sub _ m)
  refine wpAny_bind (wpAny_newObj_type ?_)
  rw [name]
  refine wpAny_pure ⟨plainId_quiet F.plain_max_loop _,max_first (Heap.get?_push_size _ rfl) fun E=>wk.item 0 _ _ _ pos (wk.frame _ _ _ hs fun b _ o e=>Heap.get?_push_of_some _ e) fun v h' tk hv hs' kp=>⟨v,_,rfl,kp _ _ off (Heap.get?_push_size _ rfl),?_⟩⟩
  have k1:∀ b o,b∉wrs→t2.heap.get? b=some o→h'.get? b=some o:=fun b o n1 e=>kp b o n1 (Heap.get?_push_of_some _ e)
  have k2:∀ (f:Obj→Obj) b o,b∉wrs→t2.heap.get? b=some o→(h'.update t2.heap.objs.size f).get? b=some o:=fun f b o n1 e=>(Heap.get?_update_other _ _ (Nat.ne_of_gt (Heap.lt_size e))).trans (k1 b o n1 e)
  refine max_rest wk cmp off offp keep (cnt - 1) 0 _ v _ (by omega) (wk.frame _ _ _ hs' fun b hbf o e=>(Heap.get?_update_other _ _ (fun z=>offp (by rw [z]; exact hbf))).trans e) (keep _ _ hg fun b o n1 _ e=>k2 _ b o n1 e) hv (Heap.get?_update_self _ (kp _ _ off (Heap.get?_push_size _ rfl)) rfl) fun u h'' tk' hu kp'=>?_
  exact hQ u h'' tk' hu fun b o n1 e=>kp' b o n1 (Nat.ne_of_lt (Heap.lt_size e)) (k2 _ b o n1 e)
theorem min_one {P0:Program} {w0:World} {A0:Around} {R0:Result→Shared→Prop} {it box:Addr} {t:Shared} {old:Value} {c:Nat} (hx:t.heap.get? box=some (pairOf old c))
    (h:∀ E,wpAny (model P0 w0) A0.in1 (pyNext (.ref it)) (fun r t1=>(∃ c1,t1.heap.get? box=some (pairOf old c1)) ∧
      ((r=none∧R0 (.ok (.ret old)) { t1 with heap:=t1.heap.update box (Obj.mapSeq fun _=>#[]) }) ∨
       ∃ v,r=some v∧∀ E',wpAny (model P0 w0) A0.in1 (richCompare .Lt v old) (fun a t2=>∃ b,a=.bool b∧t2=t1 ∧
         codeAny (model P0 w0) A0 (.builtin "min.loop" ⟨[.ref it,.none,.ref box],[]⟩) R0 (if b=true then { t1 with heap:=t1.heap.update box (Obj.mapSeq fun _=>#[v,v]) } else t1)) E' t1)) E t) :
    codeAny (model P0 w0) A0 (.builtin "min.loop" ⟨[.ref it,.none,.ref box],[]⟩) R0 t:=by
  refine codeAny_builtin F.entry_min_loop ?_
  rw [Around.under_plainId F.plain_min_loop _]
  show wpAny _ _ (seqItems? (.ref box) >>= fun found=>_) _ _ t
  refine wpAny_bind (wpAny_seqItems hx rfl (wpAny_bind (wpAny_tryCatch (wpAny_mono (h _) (fun r t1 z=>?_) fun _ _ e=>e))))
  obtain ⟨⟨c1,hx1⟩,⟨rfl,fin⟩ | ⟨v,rfl,go⟩⟩:=z
  · exact wpAny_bind (wpAny_updateSeq hx1 rfl (wpAny_bind (wpAny_letGo (wpAny_pure fin))))
  · refine wpAny_bind (wpAny_pure (wpAny_bind (wpAny_tryCatch (wpAny_holding (wpAny_bind (wpAny_mono (go _) (fun a t2 y=>?_) fun _ _ e=>e))))))
    obtain ⟨b,rfl,rfl,nxt⟩:=y
    refine wpAny_bind (wpAny_holding (wpAny_truthy_bool (wpAny_bind (wpAny_letGo (wpAny_pure ?_)))))
    have name:(toString "min" ++ toString ".loop" : String) = "min.loop" := by decide
    cases b with
    | true=>exact wpAny_bind (wpAny_updateSeq hx1 rfl (wpAny_bind (wpAny_letGo (by rw [name]; exact wpAny_pure ⟨plainId_quiet F.plain_min_loop _,nxt⟩))))
    | false=>exact wpAny_bind (wpAny_letGo (by rw [name]; exact wpAny_pure ⟨plainId_quiet F.plain_min_loop _,nxt⟩))
theorem min_first {P0:Program} {w0:World} {A0:Around} {R0:Result→Shared→Prop} {it box:Addr} {t:Shared} {c:Nat} (hx:t.heap.get? box=some { cls:=.type "list",dict:=none,data:=.seq #[] c,slots:=#[] })
    (h:∀ E,wpAny (model P0 w0) A0.in1 (pyNext (.ref it)) (fun r t1=>∃ v c1,r=some v∧t1.heap.get? box=some { cls:=.type "list",dict:=none,data:=.seq #[] c1,slots:=#[] } ∧
      codeAny (model P0 w0) A0 (.builtin "min.loop" ⟨[.ref it,.none,.ref box],[]⟩) R0 { t1 with heap:=t1.heap.update box (Obj.mapSeq fun _=>#[v,v]) }) E t) :
    codeAny (model P0 w0) A0 (.builtin "min.loop" ⟨[.ref it,.none,.ref box],[]⟩) R0 t:=by
  refine codeAny_builtin F.entry_min_loop ?_
  rw [Around.under_plainId F.plain_min_loop _]
  show wpAny _ _ (seqItems? (.ref box) >>= fun found=>_) _ _ t
  refine wpAny_bind (wpAny_seqItems hx rfl (wpAny_bind (wpAny_tryCatch (wpAny_mono (h _) (fun r t1 z=>?_) fun _ _ e=>e))))
  obtain ⟨v,c1,rfl,hx1,nxt⟩:=z
  have name:(toString "min" ++ toString ".loop" : String) = "min.loop" := by decide
  exact wpAny_bind (wpAny_pure (wpAny_bind (wpAny_updateSeq hx1 rfl (by rw [name]; exact wpAny_pure ⟨plainId_quiet F.plain_min_loop _,nxt⟩))))
def Cmpmin (P0:Program) (w0:World) (A0:Around) (Good:Heap→Prop) (At:Nat→Value→Prop) (bt:Nat→Nat→Bool):Prop :=
  ∀ (i j:Nat) (u v:Value) (t:Shared) (Q:Value→Shared→Prop) (E:Value→Shared→Prop),Good t.heap→At i u→At j v→Q (.bool (bt i j)) t→wpAny (model P0 w0) A0.in1 (richCompare .Lt u v) Q E t
section
variable {P0:Program} {w0:World} {A0:Around} {R0:Result→Shared→Prop} {it box:Addr} {fps wrs:List Addr} {cnt:Nat} {At:Nat→Value→Prop} {Sit:Nat→Heap→Prop} {Good:Heap→Prop} {bt:Nat→Nat→Bool}
theorem min_rest (wk:Walks P0 w0 A0.in1 it fps wrs cnt At Sit) (cmp:Cmpmin P0 w0 A0 Good At bt) (off:box∉wrs) (offp:box∉fps) (keep:∀ h h':Heap,Good h→(∀ b o,b∉wrs→b≠box→h.get? b=some o→h'.get? b=some o)→Good h') (left:Nat) :
    ∀ (i:Nat) (t:Shared) (best:Value) (c:Nat),cnt=i+1+left→Sit (i+1) t.heap→Good t.heap→At (argBest bt i) best→t.heap.get? box=some (pairOf best c) →
    (∀ v h' tk,At (argBest bt (cnt - 1)) v→(∀ b o,b∉wrs→b≠box→t.heap.get? b=some o→h'.get? b=some o)→R0 (.ok (.ret v)) { t with heap:=h',toks:=tk })→codeAny (model P0 w0) A0 (.builtin "min.loop" ⟨[.ref it,.none,.ref box],[]⟩) R0 t:=by
  induction left with
  | zero =>
    intro i t best c hc hs hg hb hx hR
    exact min_one hx fun E=>wk.done t _ _ (by rw [hc]; exact hs) fun h' tk kp=>⟨⟨c,kp box _ off hx⟩,.inl ⟨rfl,hR best _ tk (by rw [show cnt - 1=i by omega]; exact hb) fun b o n1 n2 e=>(Heap.get?_update_other _ _ (Ne.symm n2)).trans (kp b o n1 e)⟩⟩
  | succ left ih =>
    intro i t best c hc hs hg hb hx hR
    refine min_one hx fun E=>wk.item (i+1) t _ _ (by omega) hs fun v h' tk hv hs' kp=>⟨⟨c,kp box _ off hx⟩,.inr ⟨v,rfl,fun E'=>?_⟩⟩
    have good:=keep _ h' hg fun b o n1 _ e=>kp b o n1 e
    refine cmp (i+1) (argBest bt i) v best _ _ _ good hv hb ⟨_,rfl,rfl,?_⟩
    by_cases hbt:bt (i+1) (argBest bt i)=true
    · rw [if_pos hbt]
      refine ih (i+1) _ v _ (by omega) (wk.frame _ _ _ hs' fun b hbf o e=>(Heap.get?_update_other _ _ (fun z=>offp (by rw [z]; exact hbf))).trans e) (keep _ _ good fun b o _ n2 e=>(Heap.get?_update_other _ _ (Ne.symm n2)).trans e) (by rw [argBest,if_pos hbt]; exact hv) (Heap.get?_update_self _ (kp box _ off hx) rfl) fun u h'' tk' hu kp'=>?_
      exact hR u h'' tk' hu fun b o n1 n2 e=>kp' b o n1 n2 ((Heap.get?_update_other _ _ (Ne.symm n2)).trans (kp b o n1 e))
    · rw [if_neg hbt]
      exact ih (i+1) _ best c (by omega) hs' good (by rw [argBest,if_neg hbt]; exact hb) (kp box _ off hx) fun u h'' tk' hu kp'=>hR u h'' tk' hu fun b o n1 n2 e=>kp' b o n1 n2 (kp b o n1 e)
end
theorem call_min_at {P0:Program} {w0:World} {A0:Around} {E0:Value→Shared→Prop} {t:Shared} {x:Value} {Q:Value→Shared→Prop}
    (h:wpAny (model P0 w0) A0.in1 (pyIter x) (fun iv t2=>∃ it fps wrs cnt At Sit bt,∃ Good:Heap→Prop,iv=.ref it∧Walks P0 w0 A0.in1 it fps wrs cnt At Sit∧Sit 0 t2.heap∧(∀ b∈fps,b<t2.heap.objs.size)∧0<cnt∧Good t2.heap ∧
      (∀ h h':Heap,Good h→(∀ b o,b∉wrs→b≠t2.heap.objs.size→h.get? b=some o→h'.get? b=some o)→Good h')∧Cmpmin P0 w0 A0 Good At bt ∧
      ∀ v h' tk,At (argBest bt (cnt - 1)) v→(∀ b o,b∉wrs→t2.heap.get? b=some o→h'.get? b=some o)→Q v { t2 with heap:=h',toks:=tk }) E0 t):wpAny (model P0 w0) A0 (call (.builtin "min") [x]) Q E0 t:=by
  have name:(toString "min" ++ toString ".loop" : String) = "min.loop" := by decide
  refine call_function_tree F.kind_min F.plain_min F.entry_min (F.args_min1 _) ?_
  show wpAny _ _ (Builtin.Builtins.bindParams "min" ["key", "default"] 0 ⟨[],[]⟩ >>= fun bound=>_) _ _ t
  refine wpAny_bind (wpAny_of_eq (show Builtin.Builtins.bindParams "min" ["key", "default"] 0 ⟨[],[]⟩=pure [none,none] from rfl) (wpAny_bind (wpAny_pure (wpAny_bind (wpAny_mono h (fun iv t2 z=>?_) fun _ _ e=>e)))))
  obtain ⟨it,fps,wrs,cnt,At,Sit,bt,Good,rfl,wk,hs,hf,pos,hg,keep,cmp,hQ⟩:=z
  have offp:t2.heap.objs.size∉fps:=fun m=>Nat.lt_irrefl _ (hf _ m)
  have off:t2.heap.objs.size∉wrs:=fun m=>offp (wk.sub _ m)
  refine wpAny_bind (wpAny_newObj_type ?_)
  rw [name]
  refine wpAny_pure ⟨plainId_quiet F.plain_min_loop _,min_first (Heap.get?_push_size _ rfl) fun E=>wk.item 0 _ _ _ pos (wk.frame _ _ _ hs fun b _ o e=>Heap.get?_push_of_some _ e) fun v h' tk hv hs' kp=>⟨v,_,rfl,kp _ _ off (Heap.get?_push_size _ rfl),?_⟩⟩
  have k1:∀ b o,b∉wrs→t2.heap.get? b=some o→h'.get? b=some o:=fun b o n1 e=>kp b o n1 (Heap.get?_push_of_some _ e)
  have k2:∀ (f:Obj→Obj) b o,b∉wrs→t2.heap.get? b=some o→(h'.update t2.heap.objs.size f).get? b=some o:=fun f b o n1 e=>(Heap.get?_update_other _ _ (Nat.ne_of_gt (Heap.lt_size e))).trans (k1 b o n1 e)
  refine min_rest wk cmp off offp keep (cnt - 1) 0 _ v _ (by omega) (wk.frame _ _ _ hs' fun b hbf o e=>(Heap.get?_update_other _ _ (fun z=>offp (by rw [z]; exact hbf))).trans e) (keep _ _ hg fun b o n1 _ e=>k2 _ b o n1 e) hv (Heap.get?_update_self _ (kp _ _ off (Heap.get?_push_size _ rfl)) rfl) fun u h'' tk' hu kp'=>?_
  exact hQ u h'' tk' hu fun b o n1 e=>kp' b o n1 (Nat.ne_of_lt (Heap.lt_size e)) (k2 _ b o n1 e)
end L2
set_option Elab.async false
set_option linter.all false
set_option maxRecDepth 100000
set_option maxHeartbeats 4000000
namespace HT
open PySem PyProof.Rows
theorem rcGt_int (A:Around) (s:Shared) (a:Int) (t:Tok) (c:Int) (u:Tok) (prog:Program) (w:World) (E:Value→Shared→Prop) (Q:Value→Shared→Prop) (h:Q (.bool (decide (c<a))) s) :
    wpAny (model prog w) A (richCompare .Gt (.int a t) (.int c u)) Q E s :=
  (PyProof.Rows.gt_int h:wpAny (model prog w) A (compareOp .Gt (.int a t) (.int c u)) Q E s)
section
open PySem.SeqAt
open PySem.AutoSeq1 (wpAny_loadPart')
open PySem.MeetsSeq PySem.MeetsSeq2 PySem.MeetsSeq3
theorem tuple_gt_ints (l b:Addr) (items items2:Array Value) (n n2:Nat) (dd dd2:Option Addr) (sl sl2:Array (Option Value)) (ns ms:List Int) (hi:IntsAre items.toList ns) (hj:IntsAre items2.toList ms) :
    Meets (Builtin.«tuple.__gt__» ⟨[.ref l,.ref b],[]⟩)
      (fun _ R s=>s.heap.get? l=some { cls:=.type "tuple",dict:=dd,data:=.seq items n,slots:=sl }∧s.heap.get? b=some { cls:=.type "tuple",dict:=dd2,data:=.seq items2 n2,slots:=sl2 } ∧
        R (.ok (.ret (.bool (lexLt ms ns)))) s) :=
  .of_wp fun prog w A R s h=>by
    obtain ⟨hp,g,d,tk,os⟩:=s; obtain ⟨hl,hb,h⟩:=h
    have f2:=AutoSeq1.sub_tuple_tuple
    have z1:items.size=ns.length:=by rw [← hi.length]; simp
    have z2:items2.size=ms.length:=by rw [← hj.length]; simp
    wp_walk using wpAny_loadPart' hl,wpAny_loadPart' hb,wpAny_forIn_list _ (fun rest b s'=>b.1=none∧s'=⟨hp,g,d,tk,os⟩∧∃ (vs ws:List Value) (ns' ms':List Int),rest=vs.zip ws ∧
      IntsAre vs ns'∧IntsAre ws ms'∧ns'.length+items2.size=ms'.length+items.size∧R (.ok (.ret (.bool (lexLt ms' ns')))) ⟨hp,g,d,tk,os⟩) _
    case turn =>
      rintro ⟨y,x⟩ rest b s' ⟨hb',rfl,vs,ws,ns',ms',hz,hvi,hwi,hlen,hR⟩
      cases hvi with
      | nil=>rw [List.zip_nil_left] at hz; cases hz
      | cons a t hvi' =>
        cases hwi with
        | nil=>rw [List.zip_nil_right] at hz; cases hz
        | cons c u hwi' =>
          rw [List.zip_cons_cons] at hz
          injection hz with hyx hrest
          injection hyx with hy hx
          subst hy hx
          rw [lexLt_cons] at hR
          simp only [List.length_cons] at hlen
          obtain ⟨e,he,hiff⟩:=eqAt_int A.in1 ⟨hp,g,d,tk,os⟩ a t c u
          refine wpAny_bind (he prog w _ _ ?_)
          cases e with
          | true =>
            rw [if_pos (hiff.mp rfl).symm] at hR
            wp_walk
            exact ⟨rfl,rfl,_,_,_,_,hrest,hvi',hwi',by omega,hR⟩
          | false =>
            rw [if_neg (fun q=>absurd (hiff.mpr q.symm) Bool.false_ne_true)] at hR
            have hri:=rcGt_int A.in1 ⟨hp,g,d,tk,os⟩ a t c u prog w
            wp_walk using hri
            exact ⟨_,rfl,by simpa using hR⟩
    case fin =>
      rintro ⟨b1,b2⟩ s' ⟨hb',rfl,vs,ws,ns',ms',hz,hvi,hwi,hlen,hR⟩
      simp only at hb'
      subst hb'
      have hv:lexLt ms' ns'=decide (items2.size<items.size):=by
        cases hvi with
        | nil =>
          cases hwi with
          | nil =>
            simp only [List.length_nil] at hlen
            rw [lexLt_nil_nil]
            exact (decide_eq_false (by omega)).symm
          | cons c u hw =>
            simp only [List.length_nil,List.length_cons] at hlen
            rw [lexLt_cons_nil]
            exact (decide_eq_false (by omega)).symm
        | cons a t hv =>
          cases hwi with
          | nil =>
            simp only [List.length_nil,List.length_cons] at hlen
            rw [lexLt_nil_cons]
            exact (decide_eq_true (by omega)).symm
          | cons c u hw =>
            rw [List.zip_cons_cons] at hz
            cases hz
      rw [hv] at hR
      wp_walk
      exact ⟨_,rfl,by simpa [Builtin.Tuple.tupleCompareSizes] using hR⟩
    case h =>
      exact ⟨rfl,rfl,items.toList,items2.toList,ns,ms,rfl,hi,hj,by omega,h⟩
end
section
variable {prog:Program} {w:World} {A:Around} {E:Value→Shared→Prop} {s:Shared}
theorem gt_tupInts {l b:Addr} {items items2:Array Value} {ns ms:List Int} {Q:Value→Shared→Prop} (hl:IsTup s.heap l items) (hb:IsTup s.heap b items2) (hi:IntsAre items.toList ns) (hj:IntsAre items2.toList ms)
    (hu:A.units<cLine) (h:Q (.bool (lexLt ms ns)) s):wpAny (model prog w) A (compareOp .Gt (.ref l) (.ref b)) Q E s:=by
  obtain ⟨⟨cls,dd,data,sl⟩,ho,hc,n,hd⟩:=id hl
  obtain ⟨⟨cls2,dd2,data2,sl2⟩,ho2,hc2,n2,hd2⟩:=id hb
  simp only at hc hd hc2 hd2
  subst hc hd hc2 hd2
  exact richCompare_meets_room (op:=.Gt) ⟨_,ho,rfl⟩ ⟨_,ho2,rfl⟩ PySem.F.slot_tuple_gt PySem.F.entry_tuple_gt (PySem.F.args_tuple_gt_2 _ _) (tuple_gt_ints l b items items2 n n2 dd dd2 sl sl2 ns ms hi hj)
    ⟨ho,ho2,show Value.bool (lexLt ms ns)≠Value.notImplemented∧Q (.bool (lexLt ms ns)) s from ⟨(fun x=>nomatch x),h⟩⟩ hu
end
end HT
namespace L2
open PySem PySem.Spec PyProof.Rows
def rBest (K:PySem.W.Frag) (bt:List Int→List Int→Bool):List V→Hp→VK→Prop:=fun xs H Q=>∃ (p:Addr) (as:List Addr) (vs:List (List Int)),xs=[.ref p]∧SqL K H p (as.map V.ref)∧as≠[]∧as.length=vs.length ∧
  (∀ (i:Nat) (a:Addr) (ns:List Int),as[i]?=some a→vs[i]?=some ns→SqT K H a (ns.map V.int)) ∧
  ∀ (m:Nat) (a:Addr),m=argBest (fun i j=>bt (vs.getD i []) (vs.getD j [])) (as.length - 1)→as[m]?=some a→Q (.ref a) H
theorem tup_at {h h':Heap} {a:Addr} {us:Array Value} (x:IsTup h a us) (k:∀ o,h.get? a=some o→h'.get? a=some o):IsTup h' a us:=by
  obtain ⟨o,ho,r⟩:=x
  exact ⟨o,k o ho,r⟩
theorem tup_lt {h:Heap} {a:Addr} {us:Array Value} (x:IsTup h a us):a<h.objs.size:=by
  obtain ⟨o,ho,_⟩:=x
  exact Heap.lt_size ho
def GoodT (as:List Addr) (vs:List (List Int)) (h:Heap):Prop:=∀ (i:Nat) (a:Addr) (ns:List Int),as[i]?=some a→vs[i]?=some ns→∃ us:List Value,IsTup h a us.toArray∧IntsAre us.toArray.toList ns
theorem at_ref {as:List Addr} {us:List Value} (r:Vals (as.map V.ref) us) {i:Nat} {v:Value} (h:us.toArray[i]?=some v):∃ a,as[i]?=some a∧v=.ref a:=by
  have h':us[i]?=some v:=by simpa using h
  have hi:i<as.length:=by
    have:=r.length
    rw [List.length_map] at this
    rw [this]; exact (List.getElem?_eq_some_iff.mp h').1
  obtain ⟨u,hu,ru⟩:=r.get (i:=i) (x:=.ref as[i]) (by rw [List.getElem?_map,List.getElem?_eq_getElem hi]; rfl)
  rw [h'] at hu; cases hu
  cases ru
  exact ⟨as[i],List.getElem?_eq_getElem hi,rfl⟩
theorem getD_of {vs:List (List Int)} {i:Nat} {ns:List Int} (h:vs[i]?=some ns):vs.getD i []=ns:=by rw [List.getD_eq_getElem?_getD,h]; rfl
section
variable {X:Cx} {K:PySem.W.Frag}
theorem call_maxT (hc:X.calm=true) (hu:X.A.units+1<cLine) (hK:X.K=K):CallR X (.builtin "max") (rBest K fun a b=>HT.lexLt b a):=by
  subst hK
  intro pins s σ H xs us Q I r h
  obtain ⟨p,as,vs,rfl,hq,hne,hlen,ht,q⟩:=h
  obtain ⟨u,rfl,rx⟩:=vals1 r
  cases rx
  obtain ⟨its,rv,pl,hz⟩:=I.list hq
  have hl:as.length=its.length:=by have:=rv.length; rwa [List.length_map] at this
  have hu1:X.A.in1.units<cLine:=hu
  have good0:GoodT as vs s.heap:=fun i a ns h1 h2=>by
    obtain ⟨us,r1,p1,_⟩:=I.tuple (ht i a ns h1 h2)
    exact ⟨us,p1,intsAre_of r1⟩
  have small:∀ (i:Nat) (a:Addr) (ns:List Int),as[i]?=some a→vs[i]?=some ns→a<s.heap.objs.size:=fun i a ns h1 h2=>by
    obtain ⟨us,p1,_⟩:=good0 i a ns h1 h2
    exact tup_lt p1
  have pos:0<its.length:=by rw [← hl]; exact List.length_pos_iff.mpr hne
  refine call_max_at (wpAny_pyIter_list pl.isList ?_)
  refine ⟨s.heap.objs.size,_,[s.heap.objs.size],_,_,_,fun i j=>HT.lexLt (vs.getD j []) (vs.getD i []),GoodT as vs,rfl,Walks.list (A:=X.A.in1) (show X.A.in1.handled=none from I.ok.hd hc) s.heap.objs.size p ?_ its.toArray,⟨⟨_,Heap.get?_push_size _ rfl,rfl,rfl⟩,pl.isList.at fun o e=>Heap.get?_push_of_some _ e⟩,?_,by simpa using pos,?_,?_,?_,?_⟩
  · obtain ⟨o,e,_⟩:=pl.isList; exact Nat.ne_of_lt (Heap.lt_size e)
  · intro b hb'
    have lt:p<s.heap.objs.size:=by obtain ⟨o,e,_⟩:=pl.isList; exact Heap.lt_size e
    show b<(s.heap.push _).objs.size
    rw [Heap.size_push]
    simp only [List.mem_cons,List.not_mem_nil,or_false] at hb'
    rcases hb' with rfl | rfl
    · exact Nat.lt_succ_self _
    · exact Nat.lt_succ_of_lt lt
  · intro i a ns h1 h2
    obtain ⟨us,p1,i1⟩:=good0 i a ns h1 h2
    exact ⟨us,tup_at p1 fun o e=>Heap.get?_push_of_some _ e,i1⟩
  · intro h h' g kp i a ns h1 h2
    obtain ⟨us,p1,i1⟩:=g i a ns h1 h2
    have lt:=small i a ns h1 h2
    refine ⟨us,tup_at p1 fun o e=>kp a o (by simpa using Nat.ne_of_lt lt) (fun z=>?_) e,i1⟩
    have z':a=s.heap.objs.size+1:=by rw [z]; exact Heap.size_push ..
    rw [z'] at lt
    exact absurd lt (Nat.not_lt.mpr (Nat.le_succ _))
  · intro i j u v t Q' E' g ai aj q'
    obtain ⟨a,ha,rfl⟩:=at_ref rv ai
    obtain ⟨b,hb,rfl⟩:=at_ref rv aj
    have vi:i<vs.length:=by rw [← hlen]; exact (List.getElem?_eq_some_iff.mp ha).1
    have vj:j<vs.length:=by rw [← hlen]; exact (List.getElem?_eq_some_iff.mp hb).1
    obtain ⟨us,p1,i1⟩:=g i a _ ha (List.getElem?_eq_getElem vi)
    obtain ⟨ws,p2,i2⟩:=g j b _ hb (List.getElem?_eq_getElem vj)
    refine (HT.gt_tupInts p1 p2 i1 i2 hu1 ?_:wpAny (model X.prog X.w) X.A.in1 (compareOp .Gt (.ref a) (.ref b)) Q' E' t)
    have q2:=q'
    dsimp only at q2
    rw [getD_of (List.getElem?_eq_getElem vi),getD_of (List.getElem?_eq_getElem vj)] at q2
    exact q2
  · intro v h' tk hv hk
    obtain ⟨a,ha,rfl⟩:=at_ref rv hv
    exact ⟨.ref a,H,I.kept (t':=tk) (fun b o e=>hk b o (by simpa using Nat.ne_of_lt (Heap.lt_size e)) (Heap.get?_push_of_some _ e)),rfl,q _ a (by rw [List.size_toArray,← hl]) ha⟩
end
end L2
namespace L2
open PySem PySem.Spec PyProof.Rows
section
variable {X:Cx}
def rRemove:V→List V→Hp→VK→Prop:=fun x vs H Q=>∃ (l:Addr) (ns:List Int) (k:Int),x=.ref l∧vs=[.int k]∧H l=some (.lst (ns.map V.int))∧k∈ns∧Q .non (upd H l (.lst ((ns.erase k).map V.int)))
theorem first_at (k:Int):∀ (ns:List Int),k∈ns→∃ j,ns[j]?=some k∧(∀ m z,m<j→ns[m]?=some z→z≠k)∧ns.erase k=ns.eraseIdx j
  | [],h=>nomatch h
  | x :: ns,h=>by
    by_cases hx:x=k
    · subst hx
      exact ⟨0,rfl,fun m z hm=>absurd hm (Nat.not_lt_zero _),by rw [List.erase_cons_head,List.eraseIdx_cons_zero]⟩
    · have hm:k∈ns:=by
        rcases List.mem_cons.mp h with e | e
        · exact absurd e.symm hx
        · exact e
      obtain ⟨j,h1,h2,h3⟩:=first_at k ns hm
      refine ⟨j+1,by simpa using h1,fun m z hm hz=>?_,?_⟩
      · cases m with
        | zero =>
          have e:x=z:=by simpa using hz
          rw [← e]; exact hx
        | succ m=>exact h2 m z (by omega) (by simpa using hz)
      · rw [List.erase_cons_tail (by simpa using hx),h3,List.eraseIdx_cons_succ]
theorem vals_erase {xs:List V} {us:List Value}:∀ (j:Nat),Vals xs us→Vals (xs.eraseIdx j) (us.eraseIdx j):=by
  intro j r
  induction r generalizing j with
  | nil=>exact .nil
  | cons h t ih =>
    cases j with
    | zero=>exact t
    | succ j=>exact .cons h (ih j)
theorem mt_remove:MtM X "list.remove" rRemove:=by
  intro pins s σ H x vs v us Q I rx rv h
  obtain ⟨l,ns,k,rfl,rfl,hH,hk,q⟩:=h
  cases rx
  obtain ⟨u,rfl,ru⟩:=rv.one
  obtain ⟨tk,rfl⟩:=ru
  obtain ⟨z,its,n,r,hl,e⟩:=I.lstM hH
  rw [List.length_map] at hl z
  obtain ⟨j,h1,h2,h3⟩:=first_at k ns hk
  have get:∀ (m:Nat) (hm:m<its.toArray.size),∃ (i:Int) (t:Tok),ns[m]?=some i∧its.toArray[m]=.int i t:=fun m hm=>by
    have hm':m<ns.length:=by rw [hl]; simpa using hm
    obtain ⟨w,hw,rw'⟩:=r.get (i:=m) (x:=.int ns[m]) (by rw [List.getElem?_map,List.getElem?_eq_getElem hm']; rfl)
    obtain ⟨t,rfl⟩:=rw'
    refine ⟨ns[m],t,List.getElem?_eq_getElem hm',?_⟩
    have:its[m]?=some its[m]:=List.getElem?_eq_getElem (by simpa using hm)
    rw [hw] at this
    simpa using (Option.some.inj this).symm
  have hj:j<its.toArray.size:=by
    have:=(List.getElem?_eq_some_iff.mp h1).1
    rw [hl] at this; simpa using this
  refine call_meets F.slot_list_remove ⟨_,e,rfl⟩ F.entry_list_remove (F.args_list_remove_2 _ _) (MeetsSeq.list_remove l its.toArray n (.int k tk) (fun y=>match y with | .int i _=>i == k | _=>false) (fun y hy=>?_) j hj ?_ (fun m hm hmj=>?_) (by rw [List.size_toArray,← hl]; exact z)) ⟨e,?_⟩
  · obtain ⟨m,hm,rfl⟩:=Array.getElem_of_mem hy
    obtain ⟨i,t,_,e2⟩:=get m hm
    rw [e2]
    exact MeetsSeq.EqGives.int i k t tk
  · obtain ⟨i,t,e1,e2⟩:=get j hj
    rw [h1] at e1; cases e1
    rw [e2]
    simp
  · obtain ⟨i,t,e1,e2⟩:=get m hm
    rw [e2]
    simpa using h2 m i hmj e1
  · refine ⟨.non,_,I.lset (its':=its.eraseIdx j) (ys:=(ns.erase k).map V.int) hH e ?_ ?_ ?_,rfl,q⟩
    · rw [List.eraseIdxIfInBounds_toArray]
    · rw [h3]
      have em:∀ (xs:List Int) (i:Nat),(xs.eraseIdx i).map V.int=(xs.map V.int).eraseIdx i:=fun xs=>by
        induction xs with
        | nil=>intro i; rfl
        | cons y xs ih=>intro i; cases i with
          | zero=>rfl
          | succ i=>rw [List.eraseIdx_cons_succ,List.map_cons,List.map_cons,List.eraseIdx_cons_succ,ih]
      rw [em]
      exact vals_erase j r
    · rw [List.length_map]
      exact Nat.le_trans List.length_erase_le z
end
end L2
set_option Elab.async false
set_option linter.all false
set_option maxRecDepth 100000
set_option maxHeartbeats 4000000
namespace L2
open PySem PySem.Spec PyProof.Rows
section
variable {κ:Type} [DecidableEq κ]
def valV (kvs:List (κ×V)) (k:κ):Option V:=(kvs.find? fun kv=>decide (kv.1=k)).map (·.2)
def putK (kvs:List (κ×V)) (k:κ) (v:V):List (κ×V) :=
  if (kvs.any fun kv=>decide (kv.1=k))=true then kvs.map (fun kv=>if kv.1=k then (kv.1,v) else kv) else kvs++[(k,v)]
def dropK (kvs:List (κ×V)) (k:κ):List (κ×V):=kvs.filter fun kv=>decide (kv.1≠k)
theorem valV_pos {p:κ×V} {r:List (κ×V)} {k:κ} (e:p.1=k):valV (p :: r) k=some p.2:=by simp [valV,List.find?_cons,e]
theorem valV_neg {p:κ×V} {r:List (κ×V)} {k:κ} (e:¬ p.1=k):valV (p :: r) k=valV r k:=by simp [valV,List.find?_cons,e]
theorem valV_any (k:κ):∀ kvs:List (κ×V),(kvs.any fun kv=>decide (kv.1=k))=(valV kvs k).isSome
  | []=>rfl
  | p :: r=>by
    rw [List.any_cons]
    by_cases e:p.1=k
    · simp only [valV_pos e,decide_eq_true e,Bool.true_or,Option.isSome_some]
    · rw [valV_neg e,decide_eq_false e,Bool.false_or]; exact valV_any k r
theorem valV_map (k j:κ) (y:V):∀ kvs:List (κ×V),valV (kvs.map fun kv=>if kv.1=k then (kv.1,y) else kv) j=(valV kvs j).map fun x=>if j=k then y else x
  | []=>rfl
  | p :: r=>by
    have ih:=valV_map k j y r
    rw [List.map_cons]
    by_cases h:p.1=k
    · rw [if_pos h]
      by_cases e:p.1=j
      · rw [valV_pos (p:=(p.1,y)) e,valV_pos e,Option.map_some,if_pos (e.symm.trans h)]
      · rw [valV_neg (p:=(p.1,y)) e,valV_neg e,ih]
    · rw [if_neg h]
      by_cases e:p.1=j
      · rw [valV_pos (p:=p) e,valV_pos e,Option.map_some,if_neg (fun z=>h (e.trans z))]
      · rw [valV_neg (p:=p) e,valV_neg e,ih]
theorem valV_snoc (k j:κ) (y:V):∀ kvs:List (κ×V),valV kvs k=none→valV (kvs++[(k,y)]) j=if j=k then some y else valV kvs j
  | [],_=>by
    by_cases e:k=j
    · rw [if_pos e.symm]; exact valV_pos (p:=(k,y)) e
    · rw [if_neg (fun z=>e z.symm)]; exact valV_neg (p:=(k,y)) e
  | p :: r,hn=>by
    rw [List.cons_append]
    have hk:¬ p.1=k:=fun z=>by rw [valV_pos z] at hn; cases hn
    rw [valV_neg hk] at hn
    have ih:=valV_snoc k j y r hn
    by_cases e:p.1=j
    · rw [valV_pos e,valV_pos e,if_neg (fun z=>hk (e.trans z))]
    · rw [valV_neg e,valV_neg e,ih]
theorem valV_put (kvs:List (κ×V)) (k j:κ) (y:V):valV (putK kvs k y) j=if j=k then some y else valV kvs j:=by
  unfold putK
  by_cases a:(kvs.any fun kv=>decide (kv.1=k))=true
  · rw [if_pos a,valV_map]
    rw [valV_any] at a
    by_cases e:j=k
    · obtain ⟨x,hx⟩:=Option.isSome_iff_exists.mp a
      rw [if_pos e,e,hx,Option.map_some,if_pos rfl]
    · rw [if_neg e]
      cases valV kvs j with
      | none=>rfl
      | some x=>rw [Option.map_some,if_neg e]
  · rw [if_neg a]
    refine valV_snoc k j y kvs ?_
    rw [valV_any] at a
    cases q:valV kvs k with
    | none=>rfl
    | some x=>rw [q] at a; exact (a rfl).elim
theorem length_putK (kvs:List (κ×V)) (k:κ) (v:V):(putK kvs k v).length≤kvs.length+1:=by
  unfold putK
  split
  · rw [List.length_map]; omega
  · rw [List.length_append,List.length_cons,List.length_nil]; omega
theorem RelO.isSome_eq {o:Option V} {u:Option Value} (r:RelO o u):o.isSome=u.isSome:=by
  cases o with
  | none=>cases u with
    | none=>rfl
    | some _=>exact (show False from r).elim
  | some _=>cases u with
    | none=>exact (show False from r).elim
    | some _=>rfl
theorem RelO.getD {o:Option V} {u:Option Value} {d:V} {d':Value} (r:RelO o u) (rd:RelV d d'):RelV (o.getD d) (u.getD d'):=by
  cases o with
  | none=>cases u with
    | none=>exact rd
    | some _=>exact (show False from r).elim
  | some _=>cases u with
    | none=>exact (show False from r).elim
    | some _=>exact r
theorem KV.val {kvs:List (κ×V)} {vs:List (κ×Value)} (r:KV kvs vs) (k:κ):RelO (valV kvs k) (valueAt vs k):=by
  unfold KV at r
  induction r with
  | nil=>exact True.intro
  | @cons p q ps qs h t ih =>
    obtain ⟨h1,h2⟩:=h
    by_cases e:p.1=k
    · have e':q.1=k:=h1.symm.trans e
      have b:valueAt (q :: qs) k=some q.2:=by simp [valueAt,List.find?_cons,e']
      rw [valV_pos e,b]; exact h2
    · have e':¬ q.1=k:=fun z=>e (h1.trans z)
      have b:valueAt (q :: qs) k=valueAt qs k:=by simp [valueAt,List.find?_cons,e']
      rw [valV_neg e,b]; exact ih
theorem KV.any {kvs:List (κ×V)} {vs:List (κ×Value)} (r:KV kvs vs) (k:κ):(kvs.any fun kv=>decide (kv.1=k))=vs.any fun kv=>decide (kv.1=k):=by
  unfold KV at r
  induction r with
  | nil=>rfl
  | cons h t ih=>rw [List.any_cons,List.any_cons,ih,h.1]
theorem KV.repl {kvs:List (κ×V)} {vs:List (κ×Value)} (r:KV kvs vs) (k:κ) {y:V} {u:Value} (ry:RelV y u) :
    KV (kvs.map fun kv=>if kv.1=k then (kv.1,y) else kv) (vs.map fun kv=>if kv.1=k then (kv.1,u) else kv):=by
  unfold KV at r ⊢
  induction r with
  | nil=>exact .nil
  | @cons p q ps qs h t ih =>
    rw [List.map_cons,List.map_cons]
    refine .cons ?_ ih
    obtain ⟨h1,h2⟩:=h
    by_cases e:p.1=k
    · rw [if_pos e,if_pos (h1.symm.trans e)]; exact ⟨h1,ry⟩
    · rw [if_neg e,if_neg (fun z=>e (h1.trans z))]; exact ⟨h1,h2⟩
theorem KV.put {kvs:List (κ×V)} {vs:List (κ×Value)} (r:KV kvs vs) (k:κ) {y:V} {u:Value} (ry:RelV y u):KV (putK kvs k y) (stored vs k u):=by
  unfold putK stored
  rw [r.any k]
  by_cases e:(vs.any fun kv=>decide (kv.1=k))=true
  · rw [if_pos e,if_pos e]; exact r.repl k ry
  · rw [if_neg e,if_neg e]; exact Paired.snoc r ⟨rfl,ry⟩
theorem KV.drop {kvs:List (κ×V)} {vs:List (κ×Value)} (r:KV kvs vs) (k:κ):KV (dropK kvs k) (without vs k):=by
  unfold KV at r ⊢
  unfold dropK without
  induction r with
  | nil=>exact .nil
  | @cons p q ps qs h t ih =>
    obtain ⟨h1,h2⟩:=h
    rw [List.filter_cons,List.filter_cons]
    by_cases e:p.1=k
    · have a:¬ decide (p.1≠k)=true:=by simp [e]
      have b:¬ decide (q.1≠k)=true:=by simp [h1.symm.trans e]
      rw [if_neg a,if_neg b]; exact ih
    · have e':¬ q.1=k:=fun z=>e (h1.trans z)
      have a:decide (p.1≠k)=true:=by simp [e]
      have b:decide (q.1≠k)=true:=by simp [e']
      rw [if_pos a,if_pos b]; exact .cons ⟨h1,h2⟩ ih
theorem KV.length {kvs:List (κ×V)} {vs:List (κ×Value)} (r:KV kvs vs):kvs.length=vs.length:=Paired.length r
theorem dropK_le (kvs:List (κ×V)) (k:κ):(dropK kvs k).length≤kvs.length:=List.length_filter_le _ _
end
theorem kV_is {P:Program} {w:World} {k:Key} {u:Value} (r:RelV (kV k) u):(mixKind P w).is k u=true:=by
  cases k with
  | inl i=>obtain ⟨t,e⟩:=(show ∃ t,u=Value.int i t from r); subst e; exact mixKind_int P w i t
  | inr x=>obtain ⟨t,e⟩:=(show ∃ t,u=Value.str x t from r); subst e; exact mixKind_str P w x t
theorem items_are {P:Program} {w:World}:∀ {ks:List Key} {us:List Value},Vals (ks.map kV) us→ItemsAre (mixKind P w) ks us
  | [],_,r=>by rw [List.map_nil] at r; cases r; exact .nil
  | k :: ks,_,r=>by
    rw [List.map_cons] at r
    cases r with
    | cons h t=>exact .cons (kV_is h) (items_are t)
abbrev KT (H:Hp):List (List Key×V)→List (List Key×Addr×Value)→Prop:=Paired fun p q=>p.1=q.1∧H q.2.1=some (.tup (p.1.map kV))∧RelV p.2 q.2.2
theorem KT.val {H:Hp} {kvs:List (List Key×V)} {xs:List (List Key×Addr×Value)} (r:KT H kvs xs) (k:List Key):RelO (valV kvs k) ((atKey xs k).map (·.2)):=by
  induction r with
  | nil=>exact True.intro
  | @cons p q ps qs h t ih =>
    obtain ⟨h1,_,h2⟩:=h
    by_cases e:p.1=k
    · have e':q.1=k:=h1.symm.trans e
      have b:atKey (q :: qs) k=some q.2:=by simp [atKey,List.find?_cons,e']
      rw [valV_pos e,b]; exact h2
    · have e':¬ q.1=k:=fun z=>e (h1.trans z)
      have b:atKey (q :: qs) k=atKey qs k:=by simp [atKey,List.find?_cons,e']
      rw [valV_neg e,b]; exact ih
theorem KT.repl {H:Hp} {kvs:List (List Key×V)} {xs:List (List Key×Addr×Value)} (r:KT H kvs xs) (k:List Key) {y:V} {u:Value} (ry:RelV y u) :
    KT H (kvs.map fun kv=>if kv.1=k then (kv.1,y) else kv) (xs.map (putAt k u)):=by
  induction r with
  | nil=>exact .nil
  | @cons p q ps qs h t ih =>
    rw [List.map_cons,List.map_cons]
    refine .cons ?_ ih
    obtain ⟨h1,h2,h3⟩:=h
    unfold putAt
    by_cases e:p.1=k
    · rw [if_pos e,if_pos (h1.symm.trans e)]; exact ⟨h1,h2,ry⟩
    · rw [if_neg e,if_neg (fun z=>e (h1.trans z))]; exact ⟨h1,h2,h3⟩
theorem KT.put {H:Hp} {kvs:List (List Key×V)} {xs:List (List Key×Addr×Value)} (r:KT H kvs xs) (k:List Key) {b:Addr} {y:V} {u:Value} (hb:H b=some (.tup (k.map kV))) (ry:RelV y u) :
    KT H (putK kvs k y) (storedH xs k b u):=by
  have e:(kvs.any fun kv=>decide (kv.1=k))=(atKey xs k).isSome:=by
    rw [valV_any,(r.val k).isSome_eq,Option.isSome_map]
  unfold putK storedH
  rw [e]
  by_cases q:(atKey xs k).isSome=true
  · rw [if_pos q,if_pos q]; exact r.repl k ry
  · rw [if_neg q,if_neg q]; exact Paired.snoc r ⟨rfl,hb,ry⟩
theorem KT.keeps {H H':Hp} {kvs:List (List Key×V)} {xs:List (List Key×Addr×Value)} (r:KT H kvs xs) (ht:∀ b ys,H b=some (.tup ys)→H' b=some (.tup ys)):KT H' kvs xs :=
  Paired.mapP r fun _ _ z=>⟨z.1,ht _ _ z.2.1,z.2.2⟩
section
variable {P:Program} {w:World} {H:Hp} {h:Heap} {a:Addr}
theorem rd_of {u:HO} (ok:HOk P w H h) (e:Rd H a u):ObjOk P w H h a u:=e.ok ok
theorem dk_rd {kvs:List (Key×V)} (ok:HOk P w H h) (e:Rd H a (.dK kvs)):kvs.length≤sizeLine∧(a == sysModules)=false∧∃ vs,KV kvs vs∧h.DictOf (mixKind P w) a vs :=
  show ObjOk P w H h a (.dK kvs) from rd_of ok e
theorem dk_of {kvs:List (Key×V)} (ok:HOk P w H h) (e:H a=some (.dK kvs)):kvs.length≤sizeLine∧(a == sysModules)=false∧∃ vs,KV kvs vs∧h.DictOf (mixKind P w) a vs:=dk_rd ok (.inl e)
theorem key_of {ks:List Key} (ok:HOk P w H h) (e:H a=some (.tup (ks.map kV))):(tupleKind (mixKind P w)).is h ks a:=by
  obtain ⟨_,its,r,o,h1,h2,n,h3⟩:=(show ObjOk P w H h a (.tup (ks.map kV)) from ok a _ e)
  exact ⟨o,its.toArray,n,h1,h2,h3,by simpa using items_are r⟩
theorem dt_rd {kvs:List (List Key×V)} (ok:HOk P w H h) (e:Rd H a (.dT kvs)):kvs.length≤sizeLine∧(a == sysModules)=false ∧
    ∃ xs,KT H kvs xs∧h.DictOfH (tupleKind (mixKind P w)) a xs:=by
  obtain ⟨z,y,xs,r,o,es,ep,h1,h2,h3,h4,h5⟩:=(show ObjOk P w H h a (.dT kvs) from rd_of ok e)
  refine ⟨z,y,xs,r,o,es,ep,h1,h2,h3,h4,fun x hx=>?_,h5⟩
  have all:∀ {l:List (List Key×V)} {m:List (List Key×Addr×Value)},KT H l m→∀ x∈m,(tupleKind (mixKind P w)).is h x.1 x.2.1:=by
    intro l m q
    induction q with
    | nil=>intro x hx; exact nomatch hx
    | @cons p q ps qs hq t ih =>
      intro x hx
      rcases List.mem_cons.mp hx with e | hx
      · subst e
        exact key_of ok (by rw [← hq.1]; exact hq.2.1)
      · exact ih x hx
  exact all r x hx
theorem dt_of {kvs:List (List Key×V)} (ok:HOk P w H h) (e:H a=some (.dT kvs)):kvs.length≤sizeLine∧(a == sysModules)=false ∧
    ∃ xs,KT H kvs xs∧h.DictOfH (tupleKind (mixKind P w)) a xs:=dt_rd ok (.inl e)
end
def DGet (H:Hp) (a:Addr) (y:V) (r:Option V):Prop :=
  (∃ kvs k,Rd H a (.dK kvs)∧y=kV k∧r=valV kvs k)∨∃ kvs k b,Rd H a (.dT kvs)∧y=.ref b∧H b=some (.tup (k.map kV))∧r=valV kvs k
def DPut (H:Hp) (a:Addr) (y v:V) (H':Hp):Prop :=
  (∃ kvs k,H a=some (.dK kvs)∧y=kV k∧kvs.length<sizeLine∧H'=upd H a (.dK (putK kvs k v))) ∨
  ∃ kvs k b,H a=some (.dT kvs)∧y=.ref b∧H b=some (.tup (k.map kV))∧kvs.length<sizeLine∧H'=upd H a (.dT (putK kvs k v))
theorem DGet.k {H:Hp} {a:Addr} {kvs:List (Key×V)} {k:Key} (e:H a=some (.dK kvs)):DGet H a (kV k) (valV kvs k):=.inl ⟨kvs,k,.inl e,rfl,rfl⟩
theorem DGet.t {H:Hp} {a b:Addr} {kvs:List (List Key×V)} {k:List Key} (e:H a=some (.dT kvs)) (eb:H b=some (.tup (k.map kV))):DGet H a (.ref b) (valV kvs k):=.inr ⟨kvs,k,b,.inl e,rfl,eb,rfl⟩
theorem DPut.k {H:Hp} {a:Addr} {kvs:List (Key×V)} {k:Key} {v:V} (e:H a=some (.dK kvs)) (hl:kvs.length<sizeLine):DPut H a (kV k) v (upd H a (.dK (putK kvs k v))):=.inl ⟨kvs,k,e,rfl,hl,rfl⟩
theorem DPut.t {H:Hp} {a b:Addr} {kvs:List (List Key×V)} {k:List Key} {v:V} (e:H a=some (.dT kvs)) (eb:H b=some (.tup (k.map kV))) (hl:kvs.length<sizeLine) :
    DPut H a (.ref b) v (upd H a (.dT (putK kvs k v))):=.inr ⟨kvs,k,b,e,rfl,eb,hl,rfl⟩
section
variable {X:Cx} {pins:List (Addr×Obj)} {σ:St} {H:Hp} {s:Shared} {a:Addr} {y v:V} {u r:Value} {o:Option V} {A:Around} {E:Value→Shared→Prop}
theorem Inv.big (I:Inv X pins σ H s):sysModules<s.heap.objs.size:=by
  have h:mainGlobals<s.heap.objs.size:=(I.mod.glob.keeps I.bk).lt
  exact Nat.lt_trans (by decide) h
theorem d_getItem {Q:Value→Shared→Prop} (hu:A.units+1<cLine) (I:Inv X pins σ H s) (g:DGet H a y (some v)) (ry:RelV y u) (h:∀ w' s',Inv X pins σ H s'→RelV v w'→Q w' s') :
    wpAny (model X.prog X.w) A (getItem (.ref a) u) Q E s:=by
  rcases g with ⟨kvs,k,e,ey,l⟩ | ⟨kvs,k,b,e,ey,eb,l⟩
  · subst ey
    obtain ⟨z,hd,vs,rel,dd⟩:=dk_rd I.hok e
    obtain ⟨w',hw,rw'⟩:=RelO.some_of (v:=v) (o:=valueAt vs k) (by rw [l]; exact rel.val k)
    exact wpAny_getItem_of (kV_is ry) dd.mapOf hw (h w' _ (I.tok _) rw')
  · subst ey
    cases (show u=Value.ref b from ry)
    obtain ⟨z,hd,xs,rel,dd⟩:=dt_rd I.hok e
    obtain ⟨w',hw,rw'⟩:=RelO.some_of (v:=v) (o:=(atKey xs k).map (·.2)) (by rw [l]; exact rel.val k)
    obtain ⟨p,hp,hp2⟩:=Option.map_eq_some_iff.mp hw
    refine wpAny_getItem_heap (tupleKind_room_in1 hu) (key_of I.hok eb) dd hp ?_
    rw [hp2]
    exact h w' _ (I.tok _) rw'
theorem d_in {Q:Value→Shared→Prop} (hu:A.units+1<cLine) (I:Inv X pins σ H s) (g:DGet H a y o) (ry:RelV y u) (h:∀ s',Inv X pins σ H s'→Q (.bool o.isSome) s') :
    wpAny (model X.prog X.w) A (compareOp .In u (.ref a)) Q E s:=by
  rcases g with ⟨kvs,k,e,ey,l⟩ | ⟨kvs,k,b,e,ey,eb,l⟩
  · subst ey
    obtain ⟨z,hd,vs,rel,dd⟩:=dk_rd I.hok e
    refine wpAny_in_of (kV_is ry) hd dd.mapOf ?_
    rw [← (rel.val k).isSome_eq,← l]
    exact h _ (I.tok _)
  · subst ey
    cases (show u=Value.ref b from ry)
    obtain ⟨z,hd,xs,rel,dd⟩:=dt_rd I.hok e
    refine wpAny_in_heap (tupleKind_room_in1 hu) (key_of I.hok eb) hd dd ?_
    have q:=(rel.val k).isSome_eq
    rw [Option.isSome_map] at q
    rw [← q,← l]
    exact h _ (I.tok _)
theorem d_write {h':Heap} {t':Nat} {ob:HO} (I:Inv X pins σ H s) (mu:Mut (H a)) (hs:Heap.SameBut a s.heap h') (he:∃ q,h'.get? a=some q) (new:ObjOk X.prog X.w (upd H a ob) h' a ob) :
    Inv X pins σ (upd H a ob) { s with heap:=h',toks:=t' } :=
  I.write (x:=a) (e:=a) mu (.inl rfl) (fun b q hb z=>(hs.2 b hb).trans z) he new
theorem dk_new {P:Program} {w:World} {H':Hp} {h':Heap} {kvs:List (Key×V)} {vs:List (Key×Value)} (z:kvs.length≤sizeLine) (hd:(a == sysModules)=false) (rel:KV kvs vs) (dd:h'.DictOf (mixKind P w) a vs) :
    ObjOk P w H' h' a (.dK kvs):=⟨z,hd,vs,rel,dd⟩
theorem d_setItem {H':Hp} {Q:Unit→Shared→Prop} (hu:A.units+1<cLine) (I:Inv X pins σ H s) (g:DPut H a y v H') (ry:RelV y u) (rv:RelV v r) (h:∀ s',Inv X pins σ H' s'→Q () s') :
    wpAny (model X.prog X.w) A (setItem (.ref a) u r) Q E s:=by
  rcases g with ⟨kvs,k,e,ey,l,eH⟩ | ⟨kvs,k,b,e,ey,eb,l,eH⟩
  · subst ey eH
    obtain ⟨z,hd,vs,rel,dd⟩:=dk_of I.hok e
    have hz:vs.length≤sizeLine:=by rw [← rel.length]; exact z
    have hl:(putK kvs k v).length≤sizeLine:=by have:=length_putK kvs k v; omega
    refine wpAny_setItem_pairs (hsz:=hz) (kV_is ry) dd fun h' dd' hs=>h _ ?_
    have he:∃ q,h'.get? a=some q:=let ⟨q,_,_,hq,_⟩:=dd'; ⟨q,hq⟩
    exact d_write I (by rw [e]; exact True.intro) hs he (dk_new hl hd (rel.put k rv) dd')
  · subst ey eH
    cases (show u=Value.ref b from ry)
    obtain ⟨z,hd,xs,rel,dd⟩:=dt_of I.hok e
    have hz:xs.length≤sizeLine:=by rw [← Paired.length rel]; exact z
    have hl:(putK kvs k v).length≤sizeLine:=by have:=length_putK kvs k v; omega
    refine wpAny_setItem_heap (hsz:=hz) (tupleKind_room_in1 hu) (key_of I.hok eb) dd fun h' dd' hs=>h _ ?_
    obtain ⟨q,es,ep,hq,h2,h3,h4,_,h5⟩:=dd'
    refine d_write I (by rw [e]; exact True.intro) hs ⟨q,hq⟩ ⟨hl,hd,_,(rel.put k eb rv).keeps fun c ys ec=>?_,q,es,ep,hq,h2,h3,h4,h5⟩
    rw [upd_ne (ne_of ec e (fun z=>nomatch z))]
    exact ec
end
section
variable {X:Cx} {pins:List (Addr×Obj)} {σ:St} {H:Hp} {s:Shared} {a:Addr} {kvs:List (Key×V)} {k:Key} {u:Value} {A:Around} {E:Value→Shared→Prop}
theorem d_pop {v:V} {more:List Value} {Q:Value→Shared→Prop} (I:Inv X pins σ H s) (e:H a=some (.dK kvs)) (ry:RelV (kV k) u) (l:valV kvs k=some v) (hm:more=[]∨∃ x,more=[x])
    (h:∀ w' s',Inv X pins σ (upd H a (.dK (dropK kvs k))) s'→RelV v w'→Q w' s'):wpAny (model X.prog X.w) A (call (.builtin "dict.pop") (.ref a :: u :: more)) Q E s:=by
  obtain ⟨z,hd,vs,rel,dd⟩:=dk_of I.hok e
  obtain ⟨w',hw,rw'⟩:=RelO.some_of (v:=v) (o:=valueAt vs k) (by rw [← l]; exact rel.val k)
  have hp:(keyPart u).isSome=true:=by
    cases k with
    | inl i=>obtain ⟨t,q⟩:=(show ∃ t,u=Value.int i t from ry); subst q; rfl
    | inr x=>obtain ⟨t,q⟩:=(show ∃ t,u=Value.str x t from ry); subst q; rfl
  have ha:argsOk "dict.pop" ⟨.ref a :: u :: more,[]⟩:=by
    rcases hm with q | ⟨x,q⟩
    · subst q; exact PySem.F.args_dict_pop_2 _ _
    · subst q; exact PySem.F.args_dict_pop_3 _ _ _
  refine call_meetsIn PySem.F.slot_dict_pop dd.typeIs PySem.F.entry_dict_pop ha (meets_dict_pop_there (mixKind X.prog X.w) a (kV_is ry) more hm hp)
    ⟨vs,w',dd,by rw [← rel.length]; exact z,hw,fun h' dd' hs=>h w' _ ?_ rw'⟩
  have he:∃ q,h'.get? a=some q:=let ⟨q,_,_,hq,_⟩:=dd'; ⟨q,hq⟩
  exact d_write I (by rw [e]; exact True.intro) hs he (dk_new (Nat.le_trans (dropK_le kvs k) z) hd (rel.drop k) dd')
end
def NoSl (i:Expr):Prop:=∀ ov iv,subscripted i false ov iv=operate [ov,iv] (getItem ov iv)
theorem subD_of {prog:Program} {w:World} {A:Around} {E:Value→Shared→Prop} {s:Shared} {env:Env} {value slice:Expr} {pos:Pos} {T id:String} {Q:Value→Shared→Prop}
    (hl:typeLookup (.type T) "__getitem__" = pure (some (.builtin id))) (hs:NoSl slice)
    (h:wpAny (model prog w) A (eval value env) (fun o s₁=>wpAny (model prog w) A (eval slice env) (fun i s₂=>s₂.TypeIs o T∧wpAny (model prog w) A (getItem o i) Q E s₂) E s₁) E s) :
    wpAny (model prog w) A (eval (.Subscript value slice pos) env) Q E s:=by
  refine Subscript_ (wpAny_mono h (fun o s₁ h₁=>wpAny_mono h₁ (fun i s₂ h₂=>?_) fun _ _ x=>x) fun _ _ x=>x)
  obtain ⟨hT,h₂⟩:=h₂
  unfold subscriptTail
  refine wpAny_bind ?_
  rw [getitemInPython_of_ne hT.not_modules]
  refine wpAny_bind (wpAny_specialOf hT hl ?_)
  have fin:wpAny (model prog w) A (subscripted slice false o i) (fun r s₃=>wpAny (model prog w) A (letTemporaryGo value o r >>= fun _=>pure r) Q E s₃) E s₂:=by
    rw [hs o i]
    exact wpAny_operating (wpAny_mono h₂ (fun r s₃ h₃=>wpAny_bind (wpAny_letTemporaryGo (wpAny_pure h₃))) fun _ _ x=>x)
  first
    | exact wpAny_pure (wpAny_bind fin)
    | exact wpAny_bind (wpAny_pure (wpAny_bind fin))
    | exact wpAny_bind fin
theorem dict_typeIs {X:Cx} {pins:List (Addr×Obj)} {σ:St} {H:Hp} {s:Shared} {a:Addr} {y:V} {o:Option V} (I:Inv X pins σ H s) (g:DGet H a y o):s.TypeIs (.ref a) "dict" := by
  rcases g with ⟨kvs,k,e,_,_⟩ | ⟨kvs,k,b,e,_,_,_⟩
  · obtain ⟨_,_,vs,_,dd⟩:=dk_rd I.hok e
    exact dd.typeIs
  · obtain ⟨_,_,xs,_,dd⟩:=dt_rd I.hok e
    exact dd.typeIs
def tDGet (td ty:TE):TE:=fun σ H Q=>td σ H fun x H1=>ty σ H1 fun y H2=>∃ a v,x=.ref a∧DGet H2 a y (some v)∧Q v H2
def tDIn (ty td:TE):TE:=fun σ H Q=>ty σ H fun y H1=>td σ H1 fun x H2=>∃ a o,x=.ref a∧DGet H2 a y o∧Q (.bl o.isSome) H2
def sDPut (td ty tv:TE):TS:=fun D σ H=>tv σ H fun v H1=>td σ H1 fun x H2=>ty σ H2 fun y H3=>∃ a H4,x=.ref a∧DPut H3 a y v H4∧D.nx σ H4
def sDAug (td ty tv:TE) (rd:V→V→Hp→VK→Prop):TS:=fun D σ H=>td σ H fun x H1=>ty σ H1 fun y H2=>∃ a v,x=.ref a∧DGet H2 a y (some v) ∧
  tv σ H2 fun y2 H3=>rd v y2 H3 fun z H4=>∃ H5,DPut H4 a y z H5∧D.nx σ H5
section
variable {X:Cx} {o i e value:Expr} {pos pos' tpos:Pos} {td ty tv:TE}
theorem pe_dget (hu:X.A.units+1<cLine) (ho:PE X o td) (hi:PE X i ty) (hs:NoSl i):PE X (.Subscript o i pos) (tDGet td ty):=by
  intro pins s σ H Q I h
  refine subD_of PySem.F.slot_dict_getitem.lookup hs (thn (ho pins s σ H _ I h) fun u s1 ⟨x,H1,I1,rx,q1⟩=>thn (hi pins s1 σ H1 _ I1 q1) fun iv s2 ⟨y,H2,I2,ry,a,v,ex,g,q2⟩=>?_)
  subst ex
  obtain rfl:u=Value.ref a:=rx
  exact ⟨dict_typeIs I2 g,d_getItem hu I2 g ry fun w' s3 I3 rw'=>⟨v,H2,I3,rw',q2⟩⟩
theorem pc_din (hu:X.A.units+1<cLine) (hi:PE X i ty) (ho:PE X o td):PC X .In i o (tDIn ty td):=by
  intro pins s σ H Q I h
  refine thn (hi pins s σ H _ I h) fun iv s1 ⟨y,H1,I1,ry,q1⟩=>thn (ho pins s1 σ H1 _ I1 q1) fun u s2 ⟨x,H2,I2,rx,a,ov,ex,g,q2⟩=>?_
  subst ex
  obtain rfl:u=Value.ref a:=rx
  exact d_in hu I2 g ry fun s3 I3=>⟨.bl ov.isSome,H2,I3,rfl,q2⟩
theorem ps_dput (hu:X.A.units+1<cLine) (ho:PE X o td) (hi:PE X i ty) (hv:PE X value tv) (hs:swapsWith value (some (.Subscript o i pos')) pos.line X.env=pure false) :
    PS X (.Assign [.Subscript o i pos'] value pos) (sDPut td ty tv):=by
  intro pins s σ H D I h
  refine wpAny_Assign_Subscript (thn (hv pins s σ H _ I h) fun r s1 ⟨v,H1,I1,rv,q1⟩=>thn (ho pins s1 σ H1 _ I1 q1) fun u s2 ⟨x,H2,I2,rx,q2⟩=>thn (hi pins s2 σ H2 _ I2 q2) fun iv s3 ⟨y,H3,I3,ry,a,H4,ex,g,q3⟩=>?_) hs
  subst ex
  obtain rfl:u=Value.ref a:=rx
  exact d_setItem hu I3 g ry rv fun s4 I4=>⟨σ,H4,I4,q3⟩
theorem ps_daug {op:Operator} {rd:V→V→Hp→VK→Prop} (hu:X.A.units+1<cLine) (ho:PE X o td) (hi:PE X i ty) (hv:PE X value tv) (hop:InOp X op rd)
    (ha:∀ ov iv new,augStore i ov iv new=(do holding [new,ov,iv] (setItem ov iv new); release [new,ov,iv] []; pure .next)):PS X (.AugAssign (.Subscript o i tpos) op value pos) (sDAug td ty tv rd):=by
  intro pins s σ H D I h
  refine wpAny_AugAssign_SubscriptAny (thn (ho pins s σ H _ I h) fun u s1 ⟨x,H1,I1,rx,q1⟩=>thn (hi pins s1 σ H1 _ I1 q1) fun iv s2 ⟨y,H2,I2,ry,a,v,ex,g,q2⟩=>?_) ha
  subst ex
  obtain rfl:u=Value.ref a:=rx
  refine d_getItem hu I2 g ry fun w' s3 I3 rw'=>thn (hv pins s3 σ H2 _ I3 q2) fun w2 s4 ⟨y2,H3,I4,ry2,q3⟩=>thn (hop pins s4 σ H3 v y2 w' w2 _ I4 rw' ry2 q3) fun w3 s5 ⟨z,H4,I5,rz,H5,g5,q4⟩=>?_
  exact d_setItem hu I5 g5 ry rz fun s6 I6=>⟨σ,H5,I6,q4⟩
end
theorem dk_empty {P:Program} {w:World} {H:Hp} (h:Heap) (hb:sysModules<h.objs.size):ObjOk P w H (h.push { cls:=.type "dict",data:=.dict #[] }) h.objs.size (.dK []) :=
  ⟨Nat.zero_le _,beq_eq_false_iff_ne.mpr (Ne.symm (Nat.ne_of_lt hb)),[],.nil,Heap.DictOf.new h⟩
theorem dt_empty {P:Program} {w:World} {H:Hp} (h:Heap) (hb:sysModules<h.objs.size):ObjOk P w H (h.push { cls:=.type "dict",data:=.dict #[] }) h.objs.size (.dT []) :=
  ⟨Nat.zero_le _,beq_eq_false_iff_ne.mpr (Ne.symm (Nat.ne_of_lt hb)),[],.nil,_,#[],0,Heap.get?_push_size _ rfl,⟨rfl,rfl,rfl⟩,rfl,rfl,List.nodup_nil⟩
def tDNewK:TE:=fun _ H Q=>∀ p,H p=none→Q (.ref p) (upd H p (.dK []))
def tDNewT:TE:=fun _ H Q=>∀ p,H p=none→Q (.ref p) (upd H p (.dT []))
section
variable {X:Cx} {pos:Pos}
theorem pe_dnewK:PE X (.Dict [] [] pos) tDNewK:=fun pins s σ H Q I h =>
  wpAny_Dict_empty ⟨.ref s.heap.objs.size,_,I.laid (a:=s.heap.objs.size) (o:=.dK []) (t':=s.toks) (fun _ _ q=>Heap.get?_push_of_some _ q) (Nat.le_refl _) (dk_empty s.heap I.big),rfl,h _ (I.hok.fresh (Nat.le_refl _))⟩
theorem pe_dnewT:PE X (.Dict [] [] pos) tDNewT:=fun pins s σ H Q I h =>
  wpAny_Dict_empty ⟨.ref s.heap.objs.size,_,I.laid (a:=s.heap.objs.size) (o:=.dT []) (t':=s.toks) (fun _ _ q=>Heap.get?_push_of_some _ q) (Nat.le_refl _) (dt_empty s.heap I.big),rfl,h _ (I.hok.fresh (Nat.le_refl _))⟩
end
def tPairs:List (TE×TE)→St→Hp→(List (V×V)→Hp→Prop)→Prop
  | [],_,H,Q=>Q [] H
  | (tk,tv) :: r,σ,H,Q=>tk σ H fun x H1=>tv σ H1 fun y H2=>tPairs r σ H2 fun ps H3=>Q ((x,y) :: ps) H3
abbrev VV:List (V×V)→List (Value×Value)→Prop:=Paired fun p q=>RelV p.1 q.1∧RelV p.2 q.2
def PPs (X:Cx) (pos:Pos) (keys:List (Option Expr)) (values:List Expr) (trs:List (TE×TE)):Prop :=
  ∀ (pins:List (Addr×Obj)) (s:Shared) (σ:St) (H:Hp) (Q:List (V×V)→Hp→Prop),Inv X pins σ H s→tPairs trs σ H Q →
    wpAny (model X.prog X.w) X.A (evalPairs (pairTrees keys values X.env pos)) (fun vs s'=>∃ ps H',Inv X pins σ H' s'∧VV ps vs∧Q ps H') X.xe s
theorem pps_nil {X:Cx} {pos:Pos}:PPs X pos [] [] []:=fun pins s σ H Q I h=>pairTrees_nil_walk ⟨[],H,I,.nil,h⟩
theorem pps_cons {X:Cx} {pos:Pos} {k v:Expr} {ks:List (Option Expr)} {vs:List Expr} {tk tv:TE} {trs:List (TE×TE)} (hk:PE X k tk) (hv:PE X v tv) (hr:PPs X pos ks vs trs) :
    PPs X pos (some k :: ks) (v :: vs) ((tk,tv) :: trs):=fun pins s σ H Q I h =>
  pairTrees_cons_walk (thn (hk pins s σ H _ I h) fun u s1 ⟨x,H1,I1,rx,q1⟩=>thn (hv pins s1 σ H1 _ I1 q1) fun w2 s2 ⟨y,H2,I2,ry,q2⟩ =>
    thn (hr pins s2 σ H2 _ I2 q2) fun ws s3 ⟨ps,H3,I3,rel,q3⟩=>⟨(x,y) :: ps,H3,I3,.cons ⟨rx,ry⟩ rel,q3⟩)
structure M1 (X:Cx) (o:Expr) (m:Str) (apos:Pos) (e:Expr) (cpos:Pos):Prop where
  base:attributeBase o m X.env (eval o X.env)=eval o X.env
  few:((backTo cpos (starEach [e] X.env)).all (fun x=>!x.1) && (backToKw cpos (keywordEach [] X.env)).all (fun x=>x.1.isSome)
    && decide (([e]:List Expr).length+([]:List Keyword).length+(if ([]:List Keyword).isEmpty then 0 else 1)<30))=true
  line:(apos.endLine == cpos.line)=true
  trees:backTo cpos (starEach [e] X.env)=[(false,eval e X.env)]
structure M2 (X:Cx) (o:Expr) (m:Str) (apos:Pos) (e f:Expr) (cpos:Pos):Prop where
  base:attributeBase o m X.env (eval o X.env)=eval o X.env
  few:((backTo cpos (starEach [e,f] X.env)).all (fun x=>!x.1) && (backToKw cpos (keywordEach [] X.env)).all (fun x=>x.1.isSome)
    && decide (([e,f]:List Expr).length+([]:List Keyword).length+(if ([]:List Keyword).isEmpty then 0 else 1)<30))=true
  line:(apos.endLine == cpos.line)=true
  trees:backTo cpos (starEach [e,f] X.env)=[(false,eval e X.env),(false,eval f X.env)]
def IsD (H:Hp) (a:Addr):Prop:=(∃ kvs,Rd H a (.dK kvs))∨∃ kvs,Rd H a (.dT kvs)
theorem isD_at {X:Cx} {pins:List (Addr×Obj)} {σ:St} {H:Hp} {s:Shared} {a:Addr} (I:Inv X pins σ H s) (d:IsD H a) :
    s.TypeIs (.ref a) "dict" ∧ (∀ b,Value.ref a=.ref b→∃ ob,s.heap.get? b=some ob∧ob.dict=none)∧(a == sysModules)=false:=by
  rcases d with ⟨kvs,e⟩ | ⟨kvs,e⟩
  · obtain ⟨_,hd,vs,_,dd⟩:=dk_rd I.hok e
    refine ⟨dd.typeIs,fun b q=>?_,hd⟩
    cases q
    obtain ⟨ob,_,_,h1,h2,_⟩:=dd
    exact ⟨ob,h1,h2.2.1⟩
  · obtain ⟨_,hd,xs,_,dd⟩:=dt_rd I.hok e
    refine ⟨dd.typeIs,fun b q=>?_,hd⟩
    cases q
    obtain ⟨ob,_,_,h1,h2,_⟩:=dd
    exact ⟨ob,h1,h2.2.1⟩
section
variable {X:Cx} {pins:List (Addr×Obj)} {σ:St} {H:Hp} {s:Shared} {a:Addr} {y d:V} {u r:Value} {o:Option V} {A:Around} {E:Value→Shared→Prop}
theorem d_get1 {Q:Value→Shared→Prop} (hu:A.units+1<cLine) (I:Inv X pins σ H s) (g:DGet H a y o) (ry:RelV y u) (h:∀ w' s',Inv X pins σ H s'→RelV (o.getD .non) w'→Q w' s') :
    wpAny (model X.prog X.w) A (call (.builtin "dict.get") [.ref a,u]) Q E s:=by
  rcases g with ⟨kvs,k,e,ey,l⟩ | ⟨kvs,k,b,e,ey,eb,l⟩
  · subst ey
    obtain ⟨z,hd,vs,rel,dd⟩:=dk_rd I.hok e
    refine call_meetsIn PySem.F.slot_dict_get dd.typeIs PySem.F.entry_dict_get (PySem.F.args_dict_get_2 _ _) (meets_dict_get (mixKind X.prog X.w) a (kV_is ry) hd) ⟨_,dd.mapOf,h _ _ (I.tok _) ?_⟩
    rw [l]
    exact (rel.val k).getD rfl
  · subst ey
    cases (show u=Value.ref b from ry)
    obtain ⟨z,hd,xs,rel,dd⟩:=dt_rd I.hok e
    refine call_meetsIn PySem.F.slot_dict_get dd.typeIs PySem.F.entry_dict_get (PySem.F.args_dict_get_2 _ _) (meetsH_dict_get (tupleKind (mixKind X.prog X.w)) a b hd) ⟨tupleKind_room_in1 hu,k,xs,key_of I.hok eb,dd,h _ _ (I.tok _) ?_⟩
    rw [l]
    exact (rel.val k).getD rfl
theorem d_get2 {Q:Value→Shared→Prop} (hu:A.units+1<cLine) (I:Inv X pins σ H s) (g:DGet H a y o) (ry:RelV y u) (rd:RelV d r) (h:∀ w' s',Inv X pins σ H s'→RelV (o.getD d) w'→Q w' s') :
    wpAny (model X.prog X.w) A (call (.builtin "dict.get") [.ref a,u,r]) Q E s:=by
  rcases g with ⟨kvs,k,e,ey,l⟩ | ⟨kvs,k,b,e,ey,eb,l⟩
  · subst ey
    obtain ⟨z,hd,vs,rel,dd⟩:=dk_rd I.hok e
    refine call_meetsIn PySem.F.slot_dict_get dd.typeIs PySem.F.entry_dict_get (PySem.F.args_dict_get_3 _ _ _) (meets_dict_get_default (mixKind X.prog X.w) a (kV_is ry) hd r) ⟨_,dd.mapOf,h _ _ (I.tok _) ?_⟩
    rw [l]
    exact (rel.val k).getD rd
  · subst ey
    cases (show u=Value.ref b from ry)
    obtain ⟨z,hd,xs,rel,dd⟩:=dt_rd I.hok e
    refine call_meetsIn PySem.F.slot_dict_get dd.typeIs PySem.F.entry_dict_get (PySem.F.args_dict_get_3 _ _ _) (meetsH_dict_get_default (tupleKind (mixKind X.prog X.w)) a b hd r) ⟨tupleKind_room_in1 hu,k,xs,key_of I.hok eb,dd,h _ _ (I.tok _) ?_⟩
    rw [l]
    exact (rel.val k).getD rd
end
def tDGet1 (td ty:TE):TE:=fun σ H Q=>td σ H fun x H1=>∃ a,x=.ref a∧IsD H1 a∧ty σ H1 fun y H2=>∃ o,DGet H2 a y o∧Q (o.getD .non) H2
def tDGet2 (td ty tx:TE):TE:=fun σ H Q=>td σ H fun x H1=>∃ a,x=.ref a∧IsD H1 a∧ty σ H1 fun y H2=>tx σ H2 fun z H3=>∃ o,DGet H3 a y o∧Q (o.getD z) H3
def tDPop1 (td ty:TE):TE:=fun σ H Q=>td σ H fun x H1=>∃ a,x=.ref a∧IsD H1 a∧ty σ H1 fun y H2=>∃ kvs k v,H2 a=some (.dK kvs)∧y=kV k∧valV kvs k=some v∧Q v (upd H2 a (.dK (dropK kvs k)))
section
variable {X:Cx} {o e f:Expr} {apos cpos:Pos} {td ty tx:TE}
theorem pe_dget1 (hu:X.A.units+1<cLine) (ho:PE X o td) (he:PE X e ty) (m:M1 X o "get" apos e cpos):PE X (.Call (.Attribute o "get" apos) [e] [] cpos) (tDGet1 td ty):=by
  intro pins s σ H Q I h
  refine wpAny_Call_method m.base m.few m.line PySem.F.plainAttrs_dict PySem.F.slot_dict_get PySem.F.type_dict_get (thn (ho pins s σ H _ I h) fun u s1 ⟨x,H1,I1,rx,a,ex,d,q1⟩=>?_)
  subst ex
  obtain rfl:u=Value.ref a:=rx
  obtain ⟨t1,t2,_⟩:=isD_at I1 d
  refine ⟨t1,t2,?_⟩
  rw [m.trees]
  refine Calls.callWith_builtin rfl (Calls.evalArgs_plain (Calls.spliced_cons (thn (he pins s1 σ H1 _ I1 q1) fun iv s2 ⟨y,H2,I2,ry,ov,g,q2⟩=>Calls.spliced_nil ?_)))
  exact d_get1 hu I2 g ry fun w' s3 I3 rw'=>⟨_,H2,I3,rw',q2⟩
theorem pe_dget2 (hu:X.A.units+1<cLine) (ho:PE X o td) (he:PE X e ty) (hf:PE X f tx) (m:M2 X o "get" apos e f cpos):PE X (.Call (.Attribute o "get" apos) [e,f] [] cpos) (tDGet2 td ty tx):=by
  intro pins s σ H Q I h
  refine wpAny_Call_method m.base m.few m.line PySem.F.plainAttrs_dict PySem.F.slot_dict_get PySem.F.type_dict_get (thn (ho pins s σ H _ I h) fun u s1 ⟨x,H1,I1,rx,a,ex,d,q1⟩=>?_)
  subst ex
  obtain rfl:u=Value.ref a:=rx
  obtain ⟨t1,t2,_⟩:=isD_at I1 d
  refine ⟨t1,t2,?_⟩
  rw [m.trees]
  refine Calls.callWith_builtin rfl (Calls.evalArgs_plain (Calls.spliced_cons (thn (he pins s1 σ H1 _ I1 q1) fun iv s2 ⟨y,H2,I2,ry,q2⟩ =>
    Calls.spliced_cons (thn (hf pins s2 σ H2 _ I2 q2) fun fv s3 ⟨z,H3,I3,rz,ov,g,q3⟩=>Calls.spliced_nil ?_))))
  exact d_get2 hu I3 g ry rz fun w' s4 I4 rw'=>⟨_,H3,I4,rw',q3⟩
theorem pe_dpop1 (ho:PE X o td) (he:PE X e ty) (m:M1 X o "pop" apos e cpos):PE X (.Call (.Attribute o "pop" apos) [e] [] cpos) (tDPop1 td ty):=by
  intro pins s σ H Q I h
  refine wpAny_Call_method m.base m.few m.line PySem.F.plainAttrs_dict PySem.F.slot_dict_pop PySem.F.type_dict_pop (thn (ho pins s σ H _ I h) fun u s1 ⟨x,H1,I1,rx,a,ex,d,q1⟩=>?_)
  subst ex
  obtain rfl:u=Value.ref a:=rx
  obtain ⟨t1,t2,_⟩:=isD_at I1 d
  refine ⟨t1,t2,?_⟩
  rw [m.trees]
  refine Calls.callWith_builtin rfl (Calls.evalArgs_plain (Calls.spliced_cons (thn (he pins s1 σ H1 _ I1 q1) fun iv s2 ⟨y,H2,I2,ry,kvs,k,v,ea,ey,l,q2⟩=>Calls.spliced_nil ?_)))
  subst ey
  exact d_pop I2 ea ry l (.inl rfl) fun w' s3 I3 rw'=>⟨v,_,I3,rw',q2⟩
end
end L2
namespace L2
open PySem PySem.Spec PyProof.Rows
section
variable {κ:Type} [DecidableEq κ]
theorem nd_snoc:∀ {l:List κ} {k:κ},l.Nodup→¬ k∈l→(l++[k]).Nodup
  | [],k,_,_=>by simp
  | a :: r,k,h,hk=>by
    obtain ⟨h1,h2⟩:=List.nodup_cons.mp h
    show (a :: (r++[k])).Nodup
    refine List.nodup_cons.mpr ⟨fun m=>?_,nd_snoc h2 fun m=>hk (List.mem_cons.mpr (Or.inr m))⟩
    rcases List.mem_append.mp m with q | q
    · exact h1 q
    · exact hk (List.mem_cons.mpr (Or.inl (List.mem_singleton.mp q).symm))
theorem dropK_pos {p:κ×V} {r:List (κ×V)} {k:κ} (e:p.1=k):dropK (p :: r) k=dropK r k:=by
  unfold dropK
  rw [List.filter_cons,if_neg (by simp [e])]
theorem dropK_neg {p:κ×V} {r:List (κ×V)} {k:κ} (e:¬ p.1=k):dropK (p :: r) k=p :: dropK r k:=by
  unfold dropK
  rw [List.filter_cons,if_pos (by simp [e])]
end
end L2
set_option Elab.async false
set_option linter.all false
set_option maxRecDepth 100000
set_option maxHeartbeats 4000000
namespace L2
open PySem PySem.Spec PyProof.Rows
end L2
set_option Elab.async false
set_option linter.all false
set_option maxRecDepth 100000
set_option maxHeartbeats 4000000
namespace L2
open PySem PySem.Spec PyProof.Rows
structure Src (P0:Program) (w0:World) (it l:Addr) (its:Array Value) (pos:Nat→Heap→Prop) (sq:Heap→Prop):Prop where
  item:∀ {A0:Around} {E0:Value→Shared→Prop} {t:Shared} {i:Nat} {x:Value} {Q0:Value→Shared→Prop},pos i t.heap→sq t.heap→its[i]?=some x→(∀ g,pos (i+1) g→Heap.SameBut it t.heap g→Q0 x { t with heap:=g })→wpAny (model P0 w0) A0 (Builtin.SmallTypes.nextOf (.ref it)) Q0 E0 t
  stop:∀ {A0:Around} {E0:Value→Shared→Prop} {t:Shared} {i:Nat} {Q0:Value→Shared→Prop},A0.handled=none→pos i t.heap→sq t.heap→its[i]?=none→(∀ g e,Heap.ExtBut it t.heap g→(∃ o,g.get? e=some o∧o.cls=.type "StopIteration")→E0 (.ref e) { t with heap:=g })→wpAny (model P0 w0) A0 (Builtin.SmallTypes.nextOf (.ref it)) Q0 E0 t
  pmove:∀ {i:Nat} {g g':Heap},pos i g→(∀ o,g.get? it=some o→g'.get? it=some o)→pos i g'
  smove:∀ {g g':Heap},sq g→(∀ o,g.get? l=some o→g'.get? l=some o)→sq g'
  obj:∀ {i:Nat} {g:Heap},pos i g→∃ o,g.get? it=some o∧∀ v,o.data≠.cell v
section
variable {P0:Program} {w0:World} {A0:Around} {E0:Value→Shared→Prop} {t:Shared}
theorem tupIter_item {it a:Addr} {i:Nat} {its:Array Value} {x:Value} {Q0:Value→Shared→Prop} (st:t.heap.IsTupleIter it a i) (tp:t.heap.IsTuple a its) (hx:its[i]?=some x)
    (k:∀ g,g.IsTupleIter it a (i+1)→Heap.SameBut it t.heap g→Q0 x { t with heap:=g }):wpAny (model P0 w0) A0 (Builtin.SmallTypes.nextOf (.ref it)) Q0 E0 t:=by
  obtain ⟨oi,gi,ci,di⟩:=id st
  obtain ⟨oa,ga,_,n,da⟩:=tp
  unfold Builtin.SmallTypes.nextOf
  refine wpAny_bind (wpAny_callSpecial?_slot (name:=Str.ofString "__next__") st.typeIs F.slot_tuple_iterator_next (wpAny_call_entry F.slot_tuple_iterator_next st.typeIs F.entry_tuple_iterator_next ?_ (F.args_tuple_iterator_next_1 _)))
  show wpAny _ _ (field (.ref it) 0 >>= _) _ _ t
  refine wpAny_bind (wpAny_field gi di (x:=.ref a) rfl ?_)
  show wpAny _ _ (if (Value.ref a == Value.none)=true then _ else _) _ _ t
  rw [if_neg (show ¬ ((Value.ref a == Value.none)=true) from Bool.false_ne_true)]
  show wpAny _ _ (field (.ref it) 1 >>= _) _ _ t
  refine wpAny_bind (wpAny_field gi di (x:=.int i 0) rfl ?_)
  show wpAny _ _ (seqItems? (.ref a) >>= _) _ _ t
  refine wpAny_bind (wpAny_seqItems ga da ?_)
  simp only [hx,Int.toNat_natCast]
  refine wpAny_bind (wpAny_setField gi di (by simp) (wpAny_pure ⟨x,rfl,wpAny_pure (k _ ⟨_,Heap.get?_update_self _ gi (Obj.isFreed_of_fields (Obj.data_mapFields di _)),(Obj.cls_mapFields ..).trans ci,?_⟩ (Heap.SameBut.update ..))⟩))
  rw [Obj.data_mapFields di]
  simp [rawInt]
theorem tupIter_stop {it a:Addr} {i:Nat} {its:Array Value} {Q0:Value→Shared→Prop} (hA:A0.handled=none) (st:t.heap.IsTupleIter it a i) (tp:t.heap.IsTuple a its) (hx:its[i]?=none)
    (k:∀ g e,Heap.ExtBut it t.heap g→(∃ o,g.get? e=some o∧o.cls=.type "StopIteration")→E0 (.ref e) { t with heap:=g }):wpAny (model P0 w0) A0 (Builtin.SmallTypes.nextOf (.ref it)) Q0 E0 t:=by
  obtain ⟨oi,gi,ci,di⟩:=id st
  obtain ⟨oa,ga,_,n,da⟩:=tp
  unfold Builtin.SmallTypes.nextOf
  refine wpAny_bind (wpAny_callSpecial?_slot (name:=Str.ofString "__next__") st.typeIs F.slot_tuple_iterator_next (wpAny_call_entry F.slot_tuple_iterator_next st.typeIs F.entry_tuple_iterator_next ?_ (F.args_tuple_iterator_next_1 _)))
  show wpAny _ _ (field (.ref it) 0 >>= _) _ _ t
  refine wpAny_bind (wpAny_field gi di (x:=.ref a) rfl ?_)
  show wpAny _ _ (if (Value.ref a == Value.none)=true then _ else _) _ _ t
  rw [if_neg (show ¬ ((Value.ref a == Value.none)=true) from Bool.false_ne_true)]
  show wpAny _ _ (field (.ref it) 1 >>= _) _ _ t
  refine wpAny_bind (wpAny_field gi di (x:=.int i 0) rfl ?_)
  show wpAny _ _ (seqItems? (.ref a) >>= _) _ _ t
  refine wpAny_bind (wpAny_seqItems ga da ?_)
  simp only [hx,Int.toNat_natCast]
  refine wpAny_bind (wpAny_rule (wpAny_bind (wpAny_setField gi di (by simp) ?_)))
  show wpAny _ _ (newExc (.type "StopIteration") [] >>= _) _ _ _
  refine wpAny_bind ?_
  simp only [newTuple,newExc]
  refine wpAny_bind (wpAny_newObj_type (wpAny_bind (m:=firstArgMember _ _) (wpAny_of_eq (a:=Value.none) (by first | rfl | (simp only [firstArgMember]; rfl)) (wpAny_newObj_type ?_ (by size_fits)))) (by size_fits))
  simp only [raiseNew]
  refine wpAny_bind (wpAny_handled ?_)
  first | rw [show A0.in1.handled=none from hA] | rw [hA]
  exact wpAny_bind (wpAny_pure (wpAny_throw (k _ _ (((Heap.SameBut.update ..).extBut.push _).push _) ⟨_,Heap.get?_push_size _ rfl,rfl⟩)))
end
theorem tupIter_obj {h:Heap} {it l:Addr} {i:Nat} (x:h.IsTupleIter it l i):∃ o,h.get? it=some o∧∀ v,o.data≠.cell v:=by
  obtain ⟨o,e,c,d⟩:=x
  exact ⟨o,e,fun v z=>by rw [d] at z; cases z⟩
theorem src_tup {P0:Program} {w0:World} (it l:Addr) (its:Array Value):Src P0 w0 it l its (fun i h=>h.IsTupleIter it l i) (fun h=>h.IsTuple l its) where
  item:=fun a b c d=>tupIter_item a b c d
  stop:=fun a b c d e=>tupIter_stop a b c d e
  pmove:=fun a b=>a.at b
  smove:=fun a b=>by obtain ⟨o,e,r⟩:=a; exact ⟨o,b o e,r⟩
  obj:=fun a=>tupIter_obj a
section
variable {P0:Program} {w0:World} {A0:Around} {E0:Value→Shared→Prop} {t:Shared} {z TI TO ia ib la lb:Addr} {p1 p2:Nat→Heap→Prop} {q1 q2:Heap→Prop} {xs ys:Array Value}
theorem zipN_item {k:Nat} {x y u v:Value} {Q0:Value→Shared→Prop} (S1:Src P0 w0 ia la xs p1 q1) (S2:Src P0 w0 ib lb ys p2 q2) (D:ZipApart z TI TO ia ib la lb)
    (zz:IsZip t.heap z TI TO .none) (zI:IsPair t.heap TI (.ref ia) (.ref ib)) (zO:IsPair t.heap TO u v) (a1:p1 k t.heap) (a2:p2 k t.heap) (b1:q1 t.heap) (b2:q2 t.heap) (hx:xs[k]?=some x) (hy:ys[k]?=some y)
    (fin:∀ g,IsZip g z TI TO (rawInt t.heap.objs.size)→IsPair g TO x y→p1 (k+1) g→p2 (k+1) g→IsPair g t.heap.objs.size x y→g.objs.size=t.heap.objs.size+1 →
      (∀ c o,c≠z→c≠TO→c≠ia→c≠ib→t.heap.get? c=some o→g.get? c=some o)→Q0 (.ref t.heap.objs.size) { t with heap:=g }) :
    wpAny (model P0 w0) A0 (Builtin.«zip.__next__» ⟨[.ref z],[]⟩) (fun f s'=>∃ v,f=.done (.ret v)∧Q0 v s') E0 t:=by
  show wpAny _ _ (field (.ref z) 2 >>= _) _ _ _
  refine wpAny_bind (wpAny_field zz rfl (x:=.bool false) rfl ?_)
  show wpAny _ _ (field (.ref z) 3 >>= _) _ _ _
  refine wpAny_bind (wpAny_field zz rfl (x:=.ref TI) rfl (wpAny_bind (wpAny_seqItems zI rfl ?_)))
  show wpAny _ _ (Builtin.SmallTypes.ownedTupleIsFree (.ref z) >>= _) _ _ _
  refine wpAny_bind ?_
  unfold Builtin.SmallTypes.ownedTupleIsFree
  refine wpAny_bind (wpAny_field zz rfl (x:=.none) rfl (wpAny_pure ?_))
  simp only [if_true]
  refine wpAny_bind (wpAny_rule (wpAny_bind (wpAny_field zz rfl (x:=.ref TO) rfl (wpAny_bind (wpAny_setField_rec zz (by simp) fun g1 z1 c1=>?_)))))
  replace z1:IsZip g1 z TI TO .ellipsis:=z1
  refine wpAny_bind ?_
  simp only [List.forIn_cons,List.forIn_nil,List.zipIdx_cons,List.zipIdx_nil]
  refine wpAny_bind (wpAny_bind (wpAny_onRaise ?_))
  show wpAny _ _ (Builtin.SmallTypes.nextOf (.ref ia) >>= _) _ _ _
  refine wpAny_bind (S1.item (S1.pmove a1 fun o e=>c1.extBut _ o D.i1z e) (S1.smove b1 fun o e=>c1.extBut _ o D.l1z e) hx fun g2 a12 c2=>wpAny_pure ?_)
  have o2:IsPair g2 TO u v:=c2.extBut _ _ D.TOi1 (c1.extBut _ _ D.TOz zO)
  refine wpAny_bind (wpAny_seqItems o2 rfl (wpAny_bind (wpAny_updateSeq_pair o2 fun g3 o3 c3=>?_)))
  replace o3:IsPair g3 TO x v:=o3
  refine wpAny_bind (wpAny_letGo (wpAny_pure ?_))
  refine wpAny_bind (wpAny_bind (wpAny_onRaise ?_))
  show wpAny _ _ (Builtin.SmallTypes.nextOf (.ref ib) >>= _) _ _ _
  have m3:∀ c o,c≠z→c≠ia→c≠TO→t.heap.get? c=some o→g3.get? c=some o:=fun c o n1 n2 n3 e=>c3.extBut _ _ n3 (c2.extBut _ _ n2 (c1.extBut _ _ n1 e))
  refine wpAny_bind (S2.item (S2.pmove a2 fun o e=>m3 _ o D.i2z D.i12.symm D.TOi2.symm e) (S2.smove b2 fun o e=>m3 _ o D.l2z D.l2i1 D.l2TO e) hy fun g4 a24 c4=>wpAny_pure ?_)
  have o4:IsPair g4 TO x v:=c4.extBut _ _ D.TOi2 o3
  refine wpAny_bind (wpAny_seqItems o4 rfl (wpAny_bind (wpAny_updateSeq_pair o4 fun g5 o5 c5=>?_)))
  replace o5:IsPair g5 TO x y:=o5
  refine wpAny_bind (wpAny_letGo (wpAny_pure (wpAny_pure ?_)))
  refine wpAny_bind (wpAny_seqItems o5 rfl (wpAny_bind (wpAny_newTuple ?_)))
  have sz:g5.objs.size=t.heap.objs.size:=by rw [c5.1,c4.1,c3.1,c2.1,c1.1]
  have m5:∀ c o,c≠z→c≠TO→c≠ia→c≠ib→t.heap.get? c=some o→g5.get? c=some o:=fun c o n1 n2 n3 n4 e=>c5.extBut _ _ n2 (c4.extBut _ _ n4 (m3 c o n1 n3 n2 e))
  have z5:IsZip g5 z TI TO .ellipsis:=c5.extBut _ _ D.TOz.symm (c4.extBut _ _ D.i2z.symm (c3.extBut _ _ D.TOz.symm (c2.extBut _ _ D.i1z.symm z1)))
  have a15:p1 (k+1) g5:=S1.pmove a12 fun o e=>c5.extBut _ o D.TOi1.symm (c4.extBut _ o D.i12 (c3.extBut _ o D.TOi1.symm e))
  have a25:p2 (k+1) g5:=S2.pmove a24 fun o e=>c5.extBut _ o D.TOi2.symm e
  have zlt:z<g5.objs.size:=Heap.lt_size z5
  show wpAny _ _ (Builtin.SmallTypes.ownedTupleHandOut (.ref z) (.ref g5.objs.size) >>= _) _ _ _
  refine wpAny_bind ?_
  unfold Builtin.SmallTypes.ownedTupleHandOut
  have z6:IsZip (g5.push { cls:=.type "tuple",data:=.seq #[x,y] }) z TI TO .ellipsis:=Heap.get?_push_of_some _ z5
  refine wpAny_bind (wpAny_setField_rec z6 (by simp) fun g7 z7 c7=>?_)
  replace z7:IsZip g7 z TI TO (rawInt g5.objs.size):=z7
  refine wpAny_setField_rec z7 (by simp) fun g8 z8 c8=>?_
  replace z8:IsZip g8 z TI TO (rawInt g5.objs.size):=z8
  have m8:∀ c o,c≠z→g5.get? c=some o→g8.get? c=some o:=fun c o n1 e=>c8.extBut _ _ n1 (c7.extBut _ _ n1 (Heap.get?_push_of_some _ e))
  have t8:IsPair g8 g5.objs.size x y:=c8.extBut _ _ (Nat.ne_of_gt zlt) (c7.extBut _ _ (Nat.ne_of_gt zlt) (Heap.get?_push_size _ rfl))
  have s8:g8.objs.size=g5.objs.size+1:=by rw [c8.1,c7.1,Heap.size_push]
  rw [sz] at z8 t8 s8
  refine wpAny_pure ⟨_,rfl,?_⟩
  show Q0 (.ref g5.objs.size) _
  rw [sz]
  exact fin g8 z8 (m8 _ _ D.TOz o5) (S1.pmove a15 fun o e=>m8 _ o D.i1z e) (S2.pmove a25 fun o e=>m8 _ o D.i2z e) t8 s8 fun c o n1 n2 n3 n4 e=>m8 c o n1 (m5 c o n1 n2 n3 n4 e)
theorem zipN_stop {k:Nat} {u v:Value} {Q0:Fin→Shared→Prop} (hA:A0.handled=none) (S1:Src P0 w0 ia la xs p1 q1) (S2:Src P0 w0 ib lb ys p2 q2) (D:ZipApart z TI TO ia ib la lb)
    (zz:IsZip t.heap z TI TO .none) (zI:IsPair t.heap TI (.ref ia) (.ref ib)) (zO:IsPair t.heap TO u v) (a1:p1 k t.heap) (b1:q1 t.heap) (hx:xs[k]?=none)
    (fin:∀ g e,(∀ c o,c≠z→c≠TO→c≠ia→c≠ib→t.heap.get? c=some o→g.get? c=some o)→(∃ o,g.get? e=some o∧o.cls=.type "StopIteration")→E0 (.ref e) { t with heap:=g }) :
    wpAny (model P0 w0) A0 (Builtin.«zip.__next__» ⟨[.ref z],[]⟩) Q0 E0 t:=by
  show wpAny _ _ (field (.ref z) 2 >>= _) _ _ _
  refine wpAny_bind (wpAny_field zz rfl (x:=.bool false) rfl ?_)
  show wpAny _ _ (field (.ref z) 3 >>= _) _ _ _
  refine wpAny_bind (wpAny_field zz rfl (x:=.ref TI) rfl (wpAny_bind (wpAny_seqItems zI rfl ?_)))
  show wpAny _ _ (Builtin.SmallTypes.ownedTupleIsFree (.ref z) >>= _) _ _ _
  refine wpAny_bind ?_
  unfold Builtin.SmallTypes.ownedTupleIsFree
  refine wpAny_bind (wpAny_field zz rfl (x:=.none) rfl (wpAny_pure ?_))
  simp only [if_true]
  refine wpAny_bind (wpAny_rule (wpAny_bind (wpAny_field zz rfl (x:=.ref TO) rfl (wpAny_bind (wpAny_setField_rec zz (by simp) fun g1 z1 c1=>?_)))))
  replace z1:IsZip g1 z TI TO .ellipsis:=z1
  refine wpAny_bind ?_
  simp only [List.forIn_cons,List.forIn_nil,List.zipIdx_cons,List.zipIdx_nil]
  refine wpAny_bind (wpAny_bind (wpAny_onRaise ?_))
  show wpAny _ _ (Builtin.SmallTypes.nextOf (.ref ia) >>= _) _ _ _
  refine wpAny_bind (S1.stop hA (S1.pmove a1 fun o e=>c1.extBut _ o D.i1z e) (S1.smove b1 fun o e=>c1.extBut _ o D.l1z e) hx fun g2 e c2 he=>?_)
  obtain ⟨oe,g2e,ce⟩:=he
  have z2:IsZip g2 z TI TO .ellipsis:=c2 _ _ D.i1z.symm z1
  have ne:e≠z:=fun q=>by rw [q,z2] at g2e; cases g2e; simp at ce
  exact wpAny_setField_rec z2 (by simp) fun g3 _ c3=>fin g3 e (fun c o n1 _ n3 _ q=>c3.extBut _ _ n1 (c2 _ _ n3 (c1.extBut _ _ n1 q))) ⟨oe,c3.extBut _ _ ne g2e,ce⟩
theorem nextZip_item {k:Nat} {x y u v:Value} {Q0:Option Value→Shared→Prop} (S1:Src P0 w0 ia la xs p1 q1) (S2:Src P0 w0 ib lb ys p2 q2) (D:ZipApart z TI TO ia ib la lb)
    (zz:IsZip t.heap z TI TO .none) (zI:IsPair t.heap TI (.ref ia) (.ref ib)) (zO:IsPair t.heap TO u v) (a1:p1 k t.heap) (a2:p2 k t.heap) (b1:q1 t.heap) (b2:q2 t.heap) (hx:xs[k]?=some x) (hy:ys[k]?=some y)
    (fin:∀ g,IsZip g z TI TO (rawInt t.heap.objs.size)→IsPair g TO x y→p1 (k+1) g→p2 (k+1) g→IsPair g t.heap.objs.size x y→g.objs.size=t.heap.objs.size+1 →
      (∀ c o,c≠z→c≠TO→c≠ia→c≠ib→t.heap.get? c=some o→g.get? c=some o)→Q0 (some (.ref t.heap.objs.size)) { t with heap:=g }):wpAny (model P0 w0) A0 (pyNext (.ref z)) Q0 E0 t:=by
  have ty:t.TypeIs (.ref z) "zip" := ⟨_,zz,rfl⟩
  unfold pyNext
  exact wpAny_bind (wpAny_attempt (wpAny_callSpecial?_slot (name:=Str.ofString "__next__") ty F.slot_zip_next (wpAny_call_entry F.slot_zip_next ty F.entry_zip_next (zipN_item S1 S2 D zz zI zO a1 a2 b1 b2 hx hy fun g r1 r2 r3 r4 r5 r6 r7=>wpAny_pure (fin g r1 r2 r3 r4 r5 r6 r7)) (F.args_zip_next_1 _))))
theorem nextZip_stop {k:Nat} {u v:Value} {Q0:Option Value→Shared→Prop} (hA:A0.handled=none) (S1:Src P0 w0 ia la xs p1 q1) (S2:Src P0 w0 ib lb ys p2 q2) (D:ZipApart z TI TO ia ib la lb)
    (zz:IsZip t.heap z TI TO .none) (zI:IsPair t.heap TI (.ref ia) (.ref ib)) (zO:IsPair t.heap TO u v) (a1:p1 k t.heap) (b1:q1 t.heap) (hx:xs[k]?=none)
    (fin:∀ g,(∀ c o,c≠z→c≠TO→c≠ia→c≠ib→t.heap.get? c=some o→g.get? c=some o)→Q0 none { t with heap:=g }):wpAny (model P0 w0) A0 (pyNext (.ref z)) Q0 E0 t:=by
  have ty:t.TypeIs (.ref z) "zip" := ⟨_,zz,rfl⟩
  unfold pyNext
  refine wpAny_bind (wpAny_attempt (wpAny_callSpecial?_slot (name:=Str.ofString "__next__") ty F.slot_zip_next (wpAny_call_entry F.slot_zip_next ty F.entry_zip_next (zipN_stop hA S1 S2 D zz zI zO a1 b1 hx fun g e kp he=>?_) (F.args_zip_next_1 _))))
  obtain ⟨oe,ge,ce⟩:=he
  exact wpAny_bind (wpAny_isInstance (T := "StopIteration") (b:=true) ⟨oe,ge,ce⟩ isSubtype_stop (wpAny_pure (fin _ kp)))
end
abbrev zt1 (h:Heap) (a:Addr):Heap:=h.push { cls:=.type "tuple_iterator",data:=.fields #[.ref a,.int 0 0] }
abbrev zt2 (h:Heap) (a b:Addr):Heap:=(zt1 h a).push { cls:=.type "tuple_iterator",data:=.fields #[.ref b,.int 0 0] }
abbrev zt3 (h:Heap) (a b:Addr):Heap:=(zt2 h a b).push { cls:=.type "tuple",data:=.seq #[.ref h.objs.size,.ref (zt1 h a).objs.size] }
abbrev zt4 (h:Heap) (a b:Addr):Heap:=(zt3 h a b).push { cls:=.type "tuple",data:=.seq #[.none,.none] }
abbrev zt5 (h:Heap) (a b:Addr):Heap:=(zt4 h a b).push { cls:=.type "zip",data:=.fields #[.none,.bool false,.bool false,.ref (zt2 h a b).objs.size,.ref (zt3 h a b).objs.size] }
theorem meets_zipT (a b:Addr) (xs ys:Array Value) :
    Meets (Builtin.«zip.__new__» ⟨[.type "zip",.ref a,.ref b],[]⟩) (fun _ R s=>s.heap.IsTuple a xs∧s.heap.IsTuple b ys∧R (.ok (.ret (.ref (zt4 s.heap a b).objs.size))) { s with heap:=zt5 s.heap a b }) :=
  .of_wp fun P0 w0 A0 R t h=>by
    obtain ⟨hp,gn,dr,tk,os⟩:=t
    obtain ⟨ta,tb,h⟩:=h
    have sub:=sub_zip
    have qa:Heap.IsTuple (Shared.heap ⟨hp,gn,dr,tk,os⟩) a xs:=ta
    have qb:Heap.IsTuple (Shared.heap ⟨hp.push { cls:=.type "tuple_iterator",data:=.fields #[.ref a,.int 0 0] },gn,dr,tk,os⟩) b ys:=Heap.IsTuple.push tb _
    wp_walk using wpAny_pyIter_tuple qa,wpAny_pyIter_tuple qb
    exact ⟨_,rfl,h⟩
theorem call_zipT {P0:Program} {w0:World} {A0:Around} {E0:Value→Shared→Prop} {t:Shared} {a b:Addr} {xs ys:Array Value} {Q0:Value→Shared→Prop} (ta:t.heap.IsTuple a xs) (tb:t.heap.IsTuple b ys)
    (h:∀ g,IsZip g (t.heap.objs.size+4) (t.heap.objs.size+2) (t.heap.objs.size+3) .none→IsPair g (t.heap.objs.size+2) (.ref t.heap.objs.size) (.ref (t.heap.objs.size+1))→IsPair g (t.heap.objs.size+3) .none .none →
      g.IsTupleIter t.heap.objs.size a 0→g.IsTupleIter (t.heap.objs.size+1) b 0→(∀ c o,t.heap.get? c=some o→g.get? c=some o)→Q0 (.ref (t.heap.objs.size+4)) { t with heap:=g }) :
    wpAny (model P0 w0) A0 (call (.type "zip") [.ref a,.ref b]) Q0 E0 t:=by
  refine callType_new F.called_zip (by decide) (F.typeCall_zip_2 _ _) (F.newCall_zip_2 _ _) (fun obj=>F.args_object_init_3 obj _ _) F.entry_zip_new (meets_zipT a b xs ys) ⟨ta,tb,?_⟩
  have n1:(zt1 t.heap a).objs.size=t.heap.objs.size+1:=Heap.size_push ..
  have n2:(zt2 t.heap a b).objs.size=t.heap.objs.size+2:=by rw [Heap.size_push,n1]
  have n3:(zt3 t.heap a b).objs.size=t.heap.objs.size+3:=by rw [Heap.size_push,n2]
  have n4:(zt4 t.heap a b).objs.size=t.heap.objs.size+4:=by rw [Heap.size_push,n3]
  have r5:(zt5 t.heap a b).get? (zt4 t.heap a b).objs.size=some _:=Heap.get?_push_size _ rfl
  have r4:(zt5 t.heap a b).get? (zt3 t.heap a b).objs.size=some _:=Heap.get?_push_of_some _ (Heap.get?_push_size _ rfl)
  have r3:(zt5 t.heap a b).get? (zt2 t.heap a b).objs.size=some _:=Heap.get?_push_of_some _ (Heap.get?_push_of_some _ (Heap.get?_push_size _ rfl))
  have r2:(zt5 t.heap a b).get? (zt1 t.heap a).objs.size=some _:=Heap.get?_push_of_some _ (Heap.get?_push_of_some _ (Heap.get?_push_of_some _ (Heap.get?_push_size _ rfl)))
  have r1:(zt5 t.heap a b).get? t.heap.objs.size=some _:=Heap.get?_push_of_some _ (Heap.get?_push_of_some _ (Heap.get?_push_of_some _ (Heap.get?_push_of_some _ (Heap.get?_push_size _ rfl))))
  show _∧_
  rw [n2,n3,n4] at r5
  rw [n1,n2] at r3
  rw [n3] at r4
  rw [n1] at r2
  rw [n4]
  refine ⟨⟨_,r5,rfl⟩,h _ r5 r3 r4 ⟨_,r1,rfl,rfl⟩ ⟨_,r2,rfl,rfl⟩ fun c o q=>?_⟩
  iterate 5 refine Heap.get?_push_of_some _ ?_
  exact q
def Itzt (K:PySem.W.Frag) (a b:Addr):It :=
  ⟨fun i H=>∃ xs ys x y,SqT K H a xs∧SqT K H b ys∧xs[i]?=some x∧ys[i]?=some y,
   fun i H v H'=>∃ t x y,H t=none∧v=.ref t∧H'=upd H t (.tup [x,y])∧(∀ xs,SqT K H a xs→xs[i]?=some x)∧∀ ys,SqT K H b ys→ys[i]?=some y,
   fun i H=>∃ xs,SqT K H a xs∧(∃ ys,SqT K H b ys)∧xs.length≤i⟩
theorem turn_zipT {P:Program} {w:World} {K:PySem.W.Frag} {elts:List PySem.Expr} {x1} {pos:Pos} (z TI TO i1 i2 a b:Addr) (D:ZipApart z TI TO i1 i2 a b) :
    Turn P w K (.Tuple elts x1 pos) (Itzt K a b) [z,TI,TO,i1,i2] z (fun i h=>IsZip h z TI TO .none∧IsPair h TI (.ref i1) (.ref i2)∧(∃ u v,IsPair h TO u v)∧h.IsTupleIter i1 a i∧h.IsTupleIter i2 b i) where
  mem:=by simp
  obj:=fun i h st c hc=>by
    obtain ⟨hz,hTI,⟨u,v,hTO⟩,h1,h2⟩:=st
    simp only [List.mem_cons,List.not_mem_nil,or_false] at hc
    rcases hc with rfl | rfl | rfl | rfl | rfl
    · exact ⟨_,hz,fun v e=>by cases e⟩
    · exact ⟨_,hTI,fun v e=>by cases e⟩
    · exact ⟨_,hTO,fun v e=>by cases e⟩
    · exact tupIter_obj h1
    · exact tupIter_obj h2
  keep:=fun i h h' st k=>by
    obtain ⟨hz,hTI,⟨u,v,hTO⟩,h1,h2⟩:=st
    exact ⟨k z (by simp) _ hz,k TI (by simp) _ hTI,⟨u,v,k TO (by simp) _ hTO⟩,h1.at fun o e=>k i1 (by simp) o e,h2.at fun o e=>k i2 (by simp) o e⟩
  item:=by
    intro X hP hw hK hc i pins s σ H E I hf st hg
    subst hP hw hK
    obtain ⟨xs,ys,x,y,hqa,hqb,hx,hy⟩:=hg
    obtain ⟨hz,hTI,⟨u0,v0,hTO⟩,h1,h2⟩:=st
    obtain ⟨itsa,ra,pa,za⟩:=I.tuple hqa
    obtain ⟨itsb,rb,pb,zb⟩:=I.tuple hqb
    obtain ⟨ux,hux,rux⟩:=ra.get hx
    obtain ⟨uy,huy,ruy⟩:=rb.get hy
    refine nextZip_item (src_tup i1 a itsa.toArray) (src_tup i2 b itsb.toArray) D hz hTI hTO h1 h2 (show s.heap.IsTuple a itsa.toArray from pa) (show s.heap.IsTuple b itsb.toArray from pb) (x:=ux) (y:=uy) (by simpa using hux) (by simpa using huy) fun h' a1 a2 a3 a4 a5 a6 a7=>?_
    refine ⟨.ref s.heap.objs.size,rfl,?_⟩
    refine wpAny_letOwnedTupleGo_zip a1 fun h2' hz' hs'=>?_
    have hzlt:z<s.heap.objs.size:=Heap.lt_size hz
    have kk:∀ c o,c∉[z,TI,TO,i1,i2]→s.heap.get? c=some o→h2'.get? c=some o:=fun c o hc e=>by
      simp only [List.mem_cons,List.not_mem_nil,or_false,not_or] at hc
      exact hs'.extBut c o hc.1 (a7 c o hc.1 hc.2.2.1 hc.2.2.2.1 hc.2.2.2.2 e)
    have tp:h2'.get? s.heap.objs.size=some { cls:=.type "tuple",data:=.seq #[ux,uy] }:=hs'.extBut _ _ (Nat.ne_of_gt hzlt) a5
    have I1:Inv X pins σ (upd H s.heap.objs.size (.tup [x,y])) { s with heap:=h2',toks:=s.toks } :=
      I.laidCh hf kk ⟨by show 2≤sizeLine; decide,[ux,uy],.cons rux (.cons ruy .nil),⟨_,tp,rfl,_,rfl⟩⟩
    have TIk:h2'.get? TI=s.heap.get? TI:=by
      rw [hTI]
      exact hs'.extBut _ _ D.TIz (a7 _ _ D.TIz D.TITO D.TIi1 D.TIi2 hTI)
    refine ⟨.ref s.heap.objs.size,_,I1,rfl,⟨s.heap.objs.size,x,y,I.hok.fresh (Nat.le_refl _),rfl,rfl,fun xs' h=>by rw [I.tuple_inj h hqa]; exact hx,fun ys' h=>by rw [I.tuple_inj h hqb]; exact hy⟩,⟨hz',?_,⟨ux,uy,hs'.extBut _ _ D.TOz a2⟩,a3.at fun o e=>hs'.extBut _ o D.i1z e,a4.at fun o e=>hs'.extBut _ o D.i2z e⟩,fun c hc=>?_⟩
    · show h2'.get? TI=_
      rw [TIk]; exact hTI
    · have hc':=hc
      have hlt:c<s.heap.objs.size:=by
        simp only [List.mem_cons,List.not_mem_nil,or_false] at hc'
        rcases hc' with rfl | rfl | rfl | rfl | rfl
        · exact hzlt
        · exact Heap.lt_size hTI
        · exact Heap.lt_size hTO
        · obtain ⟨o,e,_⟩:=tupIter_obj h1; exact Heap.lt_size e
        · obtain ⟨o,e,_⟩:=tupIter_obj h2; exact Heap.lt_size e
      rw [upd_ne (Nat.ne_of_lt hlt)]
      exact (hf c hc).1
  done:=by
    intro X hP hw hK hc i pins s σ H E I hf st hg
    subst hP hw hK
    obtain ⟨xs,hqa,⟨ys,hqb⟩,hend⟩:=hg
    obtain ⟨hz,hTI,⟨u0,v0,hTO⟩,h1,h2⟩:=st
    obtain ⟨itsa,ra,pa,za⟩:=I.tuple hqa
    obtain ⟨itsb,rb,pb,zb⟩:=I.tuple hqb
    have la:=ra.length
    refine nextZip_stop (I.ok.hd hc) (src_tup i1 a itsa.toArray) (src_tup i2 b itsb.toArray) D hz hTI hTO h1 (show s.heap.IsTuple a itsa.toArray from pa) (by simp; omega) fun h' hk=>⟨rfl,?_⟩
    refine I.turnedCh (t':=s.toks) hf fun c o hc e=>?_
    simp only [List.mem_cons,List.not_mem_nil,or_false,not_or] at hc
    exact hk c o hc.1 hc.2.2.1 hc.2.2.2.1 hc.2.2.2.2 e
  self:=fun _ _ _ _ _ st h=>wpAny_pyIter_zip st.1 h
def iZipS (K:PySem.W.Frag) (ta:TA):TI:=fun σ H R=>ta σ H fun vs H1=>∃ a b,vs=[.ref a,.ref b]∧((∃ xs ys,SqL K H1 a xs∧SqL K H1 b ys∧R (Itz K a b) H1)∨∃ xs ys,SqT K H1 a xs∧SqT K H1 b ys∧R (Itzt K a b) H1)
section
variable {X:Cx}
theorem pi_zipS {elts:List PySem.Expr} {x1} {tpos:Pos} {a b:PySem.Expr} {ta:TA} {p pos:Pos} (hg:Gl X "zip") (hm:X.mg "zip" = none) (ha:PA X [a,b] ta) (hs:starEach [a,b] X.env=[(false,eval a X.env),(false,eval b X.env)]:=by rfl) (hs2:starEach [b] X.env=[(false,eval b X.env)]:=by rfl) :
    PI X (.Tuple elts x1 tpos) (.Call (.Name "zip" p) [a,b] [] pos) (iZipS X.K ta):=by
  intro pins s σ H R I h
  refine Call_ (ld_blt I hg hm boot_zip (PyProof.Rows.callWith_type1 (thn (ha pos pins s σ H _ I h) fun us s1 ⟨vs,H1,I1,r1,q1⟩=>?_) (by rw [hs,hs2]) (by rw [hs2]; rfl)))
  obtain ⟨l1,l2,e,q⟩:=q1
  subst e
  obtain ⟨v1,v2,rfl,r,r'⟩:=vals2 r1
  cases r
  cases r'
  have big:∀ c,c∈[s1.heap.objs.size+4,s1.heap.objs.size+2,s1.heap.objs.size+3,s1.heap.objs.size,s1.heap.objs.size+1]→s1.heap.objs.size≤c:=fun c hc=>by
    simp only [List.mem_cons,List.not_mem_nil,or_false] at hc
    rcases hc with rfl | rfl | rfl | rfl | rfl <;> first | exact Nat.le_refl _ | exact Nat.le_add_right _ _
  rcases q with ⟨xs,ys,hqa,hqb,q⟩ | ⟨xs,ys,hqa,hqb,q⟩
  · obtain ⟨itsa,ra,pa,za⟩:=I1.list hqa
    obtain ⟨itsb,rb,pb,zb⟩:=I1.list hqb
    have lt1:l1<s1.heap.objs.size:=by obtain ⟨o,e,_⟩:=pa.isList; exact Heap.lt_size e
    have lt2:l2<s1.heap.objs.size:=by obtain ⟨o,e,_⟩:=pb.isList; exact Heap.lt_size e
    refine call_zip_2 pa.isList pb.isList fun h' g5 g3 g4 g1 g2 hsz kp=>wpAny_pyIter_zip g5 ?_
    exact ⟨_,[_,_,_,_,_],_,_,H1,rfl,I1.kept (t':=s1.toks) kp,turn_zip _ _ _ _ _ l1 l2 (zip_apart s1.heap.objs.size l1 l2 lt1 lt2),⟨g5,g3,⟨_,_,g4⟩,g1,g2⟩,fun c hc=>I1.fpOk (big c hc) (I1.hok.fresh (big c hc)),q⟩
  · obtain ⟨itsa,ra,pa,za⟩:=I1.tuple hqa
    obtain ⟨itsb,rb,pb,zb⟩:=I1.tuple hqb
    have lt1:l1<s1.heap.objs.size:=tup_lt pa
    have lt2:l2<s1.heap.objs.size:=tup_lt pb
    refine call_zipT (show s1.heap.IsTuple l1 itsa.toArray from pa) (show s1.heap.IsTuple l2 itsb.toArray from pb) fun h' g5 g3 g4 g1 g2 kp=>wpAny_pyIter_zip g5 ?_
    exact ⟨_,[_,_,_,_,_],_,_,H1,rfl,I1.kept (t':=s1.toks) kp,turn_zipT _ _ _ _ _ l1 l2 (zip_apart s1.heap.objs.size l1 l2 lt1 lt2),⟨g5,g3,⟨_,_,g4⟩,g1,g2⟩,fun c hc=>I1.fpOk (big c hc) (I1.hok.fresh (big c hc)),q⟩
end
theorem comp_zipT {K:PySem.W.Frag} {a b:Addr} {xs zs:List V} {l:Addr} {g:TG} {tc:TT} {te:TE} {σ0:St} {H0:Hp} {Qf:Hp→Prop} (hlen:xs.length=zs.length) (Pv:Nat→List V→St→Hp→Prop) (h0:Pv 0 [] σ0 H0)
    (hl:∀ i ys σ' H',i≤xs.length→Pv i ys σ' H'→SqT K H' a xs∧SqT K H' b zs)
    (hs:∀ i x z t ys σ' H',i<xs.length→xs[i]?=some x→zs[i]?=some z→ys.length≤i→Pv i ys σ' H'→H' t=none→g (.ref t) σ' (upd H' t (.tup [x,z])) fun σ2 H3=>tc σ2 H3 fun b H4=>if b=true then te σ2 H4 fun y H5=>CNx xs.length l Pv i ys σ2 y H5 else CNo xs.length Pv i ys σ2 H4)
    (hd:∀ ys σ' H',ys.length≤xs.length→Pv xs.length ys σ' H'→Qf H') :
    ∃ W:Nat→Nat→List V→St→Hp→Prop,(∃ m,W 0 m [] σ0 H0)∧∀ i m ys σ' H',W i m ys σ' H' →
    ((Itzt K a b).stop i H'∧Qf H')∨((Itzt K a b).go i H'∧∀ x H2,(Itzt K a b).yld i H' x H2→g x σ' H2 fun σ2 H3=>tc σ2 H3 fun b H4 =>
      if b=true then te σ2 H4 fun y H5=>H5 l=some (.lst ys)∧ys.length<sizeLine∧∃ m',m'<m∧W (i+1) m' (ys++[y]) σ2 (upd H5 l (.lst (ys++[y])))
      else ∃ m',m'<m∧W (i+1) m' ys σ2 H4):=by
  refine ⟨fun i m ys σ' H'=>m=xs.length - i∧i≤xs.length∧ys.length≤i∧Pv i ys σ' H',⟨xs.length,rfl,Nat.zero_le _,Nat.le_refl _,h0⟩,?_⟩
  rintro i m ys σ' H' ⟨rfl,hi,hy,p⟩
  obtain ⟨qa,qb⟩:=hl i ys σ' H' hi p
  by_cases hlt:i<xs.length
  · have hlt':i<zs.length:=by omega
    refine .inr ⟨⟨xs,zs,xs[i],zs[i],qa,qb,by simp [hlt],by simp [hlt']⟩,fun x H2 zq=>?_⟩
    obtain ⟨t,u,v,ht,rfl,rfl,z1,z2⟩:=zq
    exact hs i u v t ys σ' H' hlt (z1 xs qa) (z2 zs qb) hy p ht
  · have e:i=xs.length:=by omega
    subst e
    exact .inl ⟨⟨xs,qa,⟨zs,qb⟩,Nat.le_refl _⟩,hd ys σ' H' hy p⟩
end L2
set_option Elab.async false
set_option linter.all false
set_option maxRecDepth 100000
set_option maxHeartbeats 4000000
namespace L2
open PySem PySem.Spec PyProof.Rows
def relS (scope osc:Scope):Scope:={ scope with names:=scope.names.map fun (n,k)=>if (k == .free && osc.kind == .function && osc.names.lookup n == some .cell) then (n,.cell) else (n,k) }
theorem relabel_eq {scope:Scope} {env:Env} {osc:Scope} (h:env.scope=osc):relabel scope env=relS scope osc:=by subst h; rfl
theorem compOk_in {X:Cx} {sc0 osc:Scope} {env0:Env} {oN:List Str} {scope:Scope} {N:List Str} {own:Nat} {js:List Nat} (hs:X.env.scope=relabel sc0 env0) (he:env0.scope=osc) (hN:X.N=oN) (h:compB (relS sc0 osc) oN scope N own js=true):CompOk X scope N own js :=
  compOk_of h (hs.trans (relabel_eq he)) hN
section
variable {X:Cx} {K:PySem.W.Frag} {tg:PySem.Expr}
theorem pi_listK (hK:X.K=K) {l:PySem.Expr} {tl:TE} (hl:PE X l tl):PI X tg l (iList K tl):=hK ▸ pi_list hl
theorem pi_tupK (hK:X.K=K) {l:PySem.Expr} {tl:TE} (hl:PE X l tl):PI X tg l (iTup K tl):=hK ▸ pi_tup hl
end
end L2
set_option Elab.async false
set_option linter.all false
set_option maxRecDepth 100000
set_option maxHeartbeats 4000000
namespace L2
open PySem PySem.Spec PyProof.Rows
section
variable {X:Cx}
theorem call_anyL (hc:X.calm=true):CallR X (.builtin "any") (fun xs H Q=>∃ (p:Addr) (bs:List Bool),xs=[.ref p]∧SqL X.K H p (bs.map V.bl)∧Q (.bl (bs.any id)) H):=by
  intro pins s σ H xs us Q I r h
  obtain ⟨p,bs,rfl,hq,q⟩:=h
  obtain ⟨u,rfl,rx⟩:=vals1 r
  cases rx
  obtain ⟨its,rv,pl,hz⟩:=I.list hq
  have e:=bool_vals rv
  subst e
  refine call_any_walk (wpAny_pyIter_list pl.isList ?_)
  refine ⟨s.heap.objs.size,_,[s.heap.objs.size],_,_,_,fun i=>bs.getD i true,rfl,Walks.list (A:=X.A.in1) (show X.A.in1.handled=none from I.ok.hd hc) s.heap.objs.size p ?_ (bs.map Value.bool).toArray,⟨⟨_,Heap.get?_push_size _ rfl,rfl,rfl⟩,pl.isList.at fun o e=>Heap.get?_push_of_some _ e⟩,?_,?_⟩
  · obtain ⟨o,e,_⟩:=pl.isList; exact Nat.ne_of_lt (Heap.lt_size e)
  · intro i v s' Q' E' hP hQ
    have hP':(bs.map Value.bool)[i]?=some v:=by simpa using hP
    rw [List.getElem?_map] at hP'
    cases z:bs[i]? with
    | none=>rw [z] at hP'; cases hP'
    | some b =>
      rw [z] at hP'
      cases hP'
      have:bs.getD i true=b:=by rw [List.getD_eq_getElem?_getD,z]; rfl
      have hQ':Q' (bs.getD i true) s':=hQ
      rw [this] at hQ'
      exact wpAny_truthy_bool hQ'
  · intro h' tk hk
    refine ⟨.bl (bs.any id),H,I.kept (t':=tk) (fun b o e=>hk b o (by simpa using Nat.ne_of_lt (Heap.lt_size e)) (Heap.get?_push_of_some _ e)),?_,q⟩
    have z:(List.range bs.length).map (fun i=>bs.getD i true)=bs:=range_getD _ fun i b e=>by rw [List.getD_eq_getElem?_getD,e]; rfl
    have z2:(List.range bs.length).any (fun i=>bs.getD i true)=bs.any id:=by
      conv=>rhs; rw [← z]
      rw [List.any_map]; rfl
    show Value.bool _=Value.bool _
    have z3:(bs.map Value.bool).toArray.size=bs.length:=by simp
    rw [z3,z2]
end
end L2
set_option Elab.async false
set_option linter.all false
set_option maxRecDepth 100000
set_option maxHeartbeats 4000000
namespace L2
open PySem PySem.Spec PyProof.Rows
section
variable {X:Cx} {K:PySem.W.Frag}
def pickV (xs:List V) (lo hi st:Option Int):List V:=(sliceRange (sliceBounds lo hi st xs.length).1 (sliceBounds lo hi st xs.length).2.1 (sliceBounds lo hi st xs.length).2.2).filterMap (xs[·]?)
theorem vals_pick {xs:List V} {us:List Value} (r:Vals xs us):∀ l:List Nat,Vals (l.filterMap (xs[·]?)) (l.filterMap (us[·]?))
  | []=>.nil
  | i :: l=>by
    rw [List.filterMap_cons,List.filterMap_cons]
    cases e:xs[i]? with
    | none=>rw [r.none_of e]; exact vals_pick r l
    | some x =>
      obtain ⟨u,hu,ru⟩:=r.get e
      rw [hu]
      exact .cons ru (vals_pick r l)
def tSl3 (K:PySem.W.Frag) (te:TE) (tl th ts:TO):TE:=fun σ H Q=>te σ H fun x H1=>tl σ H1 fun l H2=>th σ H2 fun u H3=>ts σ H3 fun st H4=>∃ a xs,x=.ref a∧SqL K H4 a xs∧st≠some 0∧(pickV xs l u st).length≤sizeLine∧∀ p,H4 p=none→Q (.ref p) (upd H4 p (.lst (pickV xs l u st)))
theorem pe_slice3 {e:PySem.Expr} {te:TE} {lo hi:Option PySem.Expr} {st:PySem.Expr} {tl th ts:TO} {p2 pos:Pos} (hK:X.K=K) (he:PE X e te) (hl:PO X lo tl) (hu:PO X hi th) (hst:PO X (some st) ts):PE X (.Subscript e (.Slice lo hi (some st) p2) pos) (tSl3 K te tl th ts):=by
  subst hK
  intro pins s σ H Q I h
  refine Subscript_ (thn (he pins s σ H _ I h) fun v s1 ⟨x,H1,I1,r1,q1⟩=>?_)
  refine wpAny_Slice (thn (hl pins s1 σ H1 _ I1 q1) fun vl s2 ⟨l,H2,I2,pl,q2⟩=>thn (hu pins s2 σ H2 _ I2 q2) fun vu s3 ⟨u,H3,I3,pu,q3⟩=>thn (hst pins s3 σ H3 _ I3 q3) fun vs s4 ⟨so,H4,I4,ps,q4⟩=>?_)
  obtain ⟨a,xs,rfl,hx,h0,hz,q⟩:=q4
  cases r1
  have I5:Inv X pins σ H4 { s4 with heap:=s4.heap.push { cls:=.type "slice",data:=.fields #[vl,vu,vs] } }:=I4.kept (t':=s4.toks) fun b ob q=>Heap.get?_push_of_some _ q
  obtain ⟨its,r,ht,hzz⟩:=I5.list hx
  have hlen:=r.length
  show wpAny (model X.prog X.w) X.A (subscriptTail e (.Slice lo hi (some st) p2) (.ref a) (.ref s4.heap.objs.size)) (EP X pins σ Q) X.xe { s4 with heap:=s4.heap.push { cls:=.type "slice",data:=.fields #[vl,vu,vs] } }
  refine tail_any (ops:=[.ref a,.ref s4.heap.objs.size]) ht.isList.typeIs slot_list_getitem.lookup (wpAny_getItem_list_slice ht.isList (Heap.IsSliceOf.new ..) pl pu ps h0 ?_ (by rw [List.size_toArray] <;> omega)) (by with_unfolding_all rfl)
  refine ⟨.ref _,_,I5.laid (t':=s4.toks) (o:=.lst (pickV xs l u so)) (fun b ob q=>Heap.get?_push_of_some _ q) (Nat.le_refl _) ?_,rfl,q _ (I5.hok.fresh (Nat.le_refl _))⟩
  refine ⟨hz,_,0,vals_pick r (sliceRange (sliceBounds l u so xs.length).1 (sliceBounds l u so xs.length).2.1 (sliceBounds l u so xs.length).2.2),?_⟩
  have e2:slicePick its.toArray l u so=((sliceRange (sliceBounds l u so xs.length).1 (sliceBounds l u so xs.length).2.1 (sliceBounds l u so xs.length).2.2).filterMap (its[·]?)).toArray:=by
    unfold slicePick
    rw [List.size_toArray,← hlen]
    congr 1
    refine congrArg (fun f=>List.filterMap f _) ?_
    funext i
    simp
  rw [e2]
  exact Heap.get?_push_size _ rfl
end
end L2
set_option Elab.async false
set_option linter.all false
set_option maxRecDepth 100000
set_option maxHeartbeats 4000000
namespace L2
open PySem PySem.Spec PyProof.Rows
def ItDn (hi:Int) (n:Nat):It:=⟨fun i _=>i<n,fun i H x H'=>H'=H∧x=.int (hi - i),fun i _=>n≤i⟩
theorem turn_down {P:Program} {w:World} {K:PySem.W.Frag} {tg:PySem.Expr} (it:Addr) (lo:Int) (n:Nat):Turn P w K tg (ItDn lo n) [it] it (fun i h=>IsRangeIter h it (lo+(i:Nat) * (-1)) ((n:Int) - (i:Nat)) (-1)) where
  mem:=by simp
  obj:=fun i h st b hb=>by
    have e:b=it:=by simpa using hb
    subst e
    exact ⟨_,st,fun v z=>by
      have z':Data.fields _=Data.cell v:=z
      cases z'⟩
  keep:=fun i h h' st k=>k it (by simp) _ st
  item:=by
    intro X hP hw hK hc i pins s σ H E I hf st hg
    subst hP hw hK
    obtain ⟨f0,f1,f2,f3,f4,f5⟩:=hf it (by simp)
    have W:=Walks.range (prog:=X.prog) (w:=X.w) (I.ok.hd hc) it lo (-1) n
    refine W.item i s _ _ hg st fun v h' tk hv st' kk=>?_
    obtain ⟨t,rfl⟩:=hv
    have I1:Inv X pins σ H { s with heap:=h',toks:=tk }:=I.turned (fun b o hb e=>kk b o (by simpa using hb) e) f0 f1 f3 f4 f5
    refine ⟨_,rfl,go_of (s:={ s with heap:=h',toks:=tk }) (n := "range_iterator") st' rfl rfl (by decide) ⟨.int (lo - i),H,I1,⟨t,?_⟩,⟨rfl,rfl⟩,st',fun b hb=>(hf b hb).1⟩⟩
    rw [show lo+(i:Int) * (-1)=lo - i by omega]
  done:=by
    intro X hP hw hK hc i pins s σ H E I hf st hg
    subst hP hw hK
    obtain ⟨f0,f1,f2,f3,f4,f5⟩:=hf it (by simp)
    exact wpAny_pyNext_range_end (I.ok.hd hc) st (by have:n≤i:=hg; omega) fun h' eb=>⟨rfl,I.turned (t':=s.toks) (fun b o hb e=>eb b o hb e) f0 f1 f3 f4 f5⟩
  self:=fun _ _ _ _ _ st h=>wpAny_pyIter_rangeiter st h
section
variable {X:Cx} {tg:PySem.Expr}
theorem range_itd {pins:List (Addr×Obj)} {σ:St} {H:Hp} {s:Shared} {R:It→Hp→Prop} {E:Value→Shared→Prop} {lo hi:Int} {t u v:Tok} {tk:Nat} (I:Inv X pins σ H s) (h1 : -(2 ^ 62)≤lo) (h2:lo<2 ^ 62) (h3 : -(2 ^ 62)≤hi) (h4:hi<2 ^ 62)
    (q:R (ItDn lo (lo - hi).toNat) H):wpAny (model X.prog X.w) X.A (pyIter (.ref s.heap.objs.size)) (PIE X pins σ tg R) E { s with heap:=s.heap.push { cls:=.type "range",data:=.fields #[.int lo t,.int hi u,.int (-1) v] },toks:=tk }:=by
  refine wpAny_pyIter_range (IsRange.new ..) (PySem.W.small_down h1 h2 h3 h4) ?_
  have I1:Inv X pins σ H { s with heap:=s.heap.push { cls:=.type "range",data:=.fields #[.int lo t,.int hi u,.int (-1) v] },toks:=tk }:=I.kept fun b o e=>Heap.get?_push_of_some _ e
  refine ⟨(s.heap.push { cls:=.type "range",data:=.fields #[.int lo t,.int hi u,.int (-1) v] }).objs.size,[(s.heap.push { cls:=.type "range",data:=.fields #[.int lo t,.int hi u,.int (-1) v] }).objs.size],_,_,H,rfl,
    I1.kept (t':=tk) fun b o e=>Heap.get?_push_of_some _ e,turn_down _ lo (lo - hi).toNat,?_,fun b hb=>?_,q⟩
  · have e1:lo+((0:Nat):Int) * (-1)=lo:=by simp
    have e2:(((lo - hi).toNat:Nat):Int) - ((0:Nat):Int)=Builtin.Range.rangeSize lo hi (-1):=by rw [PySem.W.rangeSize_downNat]; omega
    show IsRangeIter _ _ (lo+((0:Nat):Int) * (-1)) ((((lo - hi).toNat:Nat):Int) - ((0:Nat):Int)) (-1)
    rw [e1,e2]
    exact Heap.get?_push_size _ rfl
  · have e:b=(s.heap.push { cls:=.type "range",data:=.fields #[.int lo t,.int hi u,.int (-1) v] }).objs.size:=by simpa using hb
    subst e
    exact I1.fpOk (Nat.le_refl _) (I1.hok.fresh (Nat.le_refl _))
def iRngD (ta:TA):TI:=fun σ H R=>ta σ H fun vs H1=>∃ i j:Int,vs=[.int i,.int j,.int (-1)]∧(-(2 ^ 61)≤i∧i<2 ^ 61 ∧ -(2 ^ 61)≤j∧j<2 ^ 61)∧R (ItDn i (i - j).toNat) H1
theorem pi_range3 {a b c:PySem.Expr} {ta:TA} {p pos:Pos} (hg:Gl X "range") (hm:X.mg "range" = none) (ha:PA X [a,b,c] ta) (hs:starEach [a,b,c] X.env=(false,eval a X.env) :: starEach [b,c] X.env:=by rfl) (hpl:(backTo pos (starEach [b,c] X.env)).any (·.1)=false:=by rfl) :
    PI X tg (.Call (.Name "range" p) [a,b,c] [] pos) (iRngD ta):=by
  intro pins s σ H R I h
  refine Call_ (ld_blt I hg hm boot_range (PyProof.Rows.callWith_type1 (thn (ha pos pins s σ H _ I h) fun us s1 ⟨vs,H1,I1,r1,q1⟩=>?_) hs hpl))
  obtain ⟨i,j,e,⟨q1,q2,q3,q4⟩,q⟩:=q1
  subst e
  cases r1 with
  | cons r rr =>
    cases rr with
    | cons r' rr =>
      cases rr with
      | cons r'' rr =>
        cases rr
        obtain ⟨t,rfl⟩:=r
        obtain ⟨t',rfl⟩:=r'
        obtain ⟨t'',rfl⟩:=r''
        exact call_range_3 (by decide) (range_itd I1 (by omega) (by omega) (by omega) (by omega) q) (.inl (PyProof.noPylong_small (by omega)))
end
theorem upd_id {H:Hp} {a:Addr} {o:HO} (h:H a=some o):upd H a o=H:=by
  funext b
  by_cases e:b=a
  · rw [e,upd_same,h]
  · rw [upd_ne e]
theorem for_down {hi:Int} {n:Nat} {g:TG} {tb:TS} {D:Ends} {σ:St} {H:Hp} (Pv:Nat→St→Hp→Prop) (h0:Pv 0 σ H)
    (hs:∀ i σ H,i<n→Pv i σ H→g (.int (hi - i)) σ H fun σ2 H2=>tb { D with nx:=Pv (i+1),ct:=Pv (i+1),bk:=D.nx } σ2 H2) (hd:∀ σ H,Pv n σ H→D.nx σ H) :
    ∃ W:Nat→Nat→St→Hp→Prop,(∃ m,W 0 m σ H)∧∀ i m σ H,W i m σ H →
      ((ItDn hi n).stop i H∧D.nx σ H)∨((ItDn hi n).go i H∧∃ N:St→Hp→Prop,(∀ σ' H',N σ' H'→∃ m',m'<m∧W (i+1) m' σ' H')∧∀ x H',(ItDn hi n).yld i H x H'→g x σ H' fun σ2 H2=>tb { D with nx:=N,ct:=N,bk:=D.nx } σ2 H2):=by
  refine ⟨fun i m σ H=>m=n - i∧i≤n∧Pv i σ H,⟨n,by simp,Nat.zero_le _,h0⟩,?_⟩
  rintro i m σ H ⟨rfl,hi,p⟩
  by_cases hlt:i<n
  · refine .inr ⟨hlt,Pv (i+1),fun σ' H' p'=>⟨n - (i+1),by omega,rfl,hlt,p'⟩,fun x H' y=>?_⟩
    obtain ⟨e,y⟩:=y
    subst e y
    exact hs i σ _ hlt p
  · have e:i=n:=by omega
    subst e
    exact .inl ⟨Nat.le_refl _,hd σ H p⟩
theorem filterMap_get_range (xs:List V):∀ n,n≤xs.length→((List.range n).map fun i=>n - 1 - i).filterMap (xs[·]?)=(xs.take n).reverse
  | 0,_=>by simp
  | n+1,h=>by
    have hn:n<xs.length:=h
    have ih:=filterMap_get_range xs n (by omega)
    rw [List.range_succ_eq_map,List.map_cons,List.map_map,List.filterMap_cons]
    have e0:n+1 - 1 - 0=n:=by omega
    rw [e0,List.getElem?_eq_getElem hn]
    have e1:(List.range n).map ((fun i=>n+1 - 1 - i) ∘ Nat.succ)=(List.range n).map fun i=>n - 1 - i:=by
      refine List.map_congr_left fun i _=>?_
      show n+1 - 1 - (i+1)=n - 1 - i
      omega
    rw [e1,ih,List.take_succ,List.getElem?_eq_getElem hn,List.reverse_append]
    rfl
theorem pickV_rev (xs:List V):pickV xs none none (some (-1))=xs.reverse:=by
  have h:=filterMap_get_range xs xs.length (Nat.le_refl _)
  rw [List.take_length] at h
  rw [← h,← PySem.W.krv_sliceRange]
  rfl
theorem for_zip {K:PySem.W.Frag} {a b:Addr} {xs ys:List V} {g:TG} {tb:TS} {D:Ends} {σ:St} {H:Hp} (Pv:Nat→St→Hp→Prop) (hlen:xs.length=ys.length) (h0:Pv 0 σ H) (hl:∀ i σ H,i≤xs.length→Pv i σ H→SqL K H a xs∧SqL K H b ys)
    (hs:∀ i x y t σ H,xs[i]?=some x→ys[i]?=some y→Pv i σ H→H t=none→g (.ref t) σ (upd H t (.tup [x,y])) fun σ2 H2=>tb { D with nx:=Pv (i+1),ct:=Pv (i+1),bk:=D.nx } σ2 H2) (hd:∀ σ H,Pv xs.length σ H→D.nx σ H) :
    ∃ W:Nat→Nat→St→Hp→Prop,(∃ m,W 0 m σ H)∧∀ i m σ H,W i m σ H →
      ((Itz K a b).stop i H∧D.nx σ H)∨((Itz K a b).go i H∧∃ N:St→Hp→Prop,(∀ σ' H',N σ' H'→∃ m',m'<m∧W (i+1) m' σ' H')∧∀ x H',(Itz K a b).yld i H x H'→g x σ H' fun σ2 H2=>tb { D with nx:=N,ct:=N,bk:=D.nx } σ2 H2):=by
  refine ⟨fun i m σ H=>m=xs.length - i∧i≤xs.length∧Pv i σ H,⟨xs.length,by simp,Nat.zero_le _,h0⟩,?_⟩
  rintro i m σ H ⟨rfl,hi,p⟩
  obtain ⟨q1,q2⟩:=hl i σ H hi p
  by_cases hlt:i<xs.length
  · have hlt2:i<ys.length:=hlen ▸ hlt
    refine .inr ⟨⟨xs,ys,xs[i],ys[i],q1,q2,by simp [hlt],by simp [hlt2]⟩,Pv (i+1),fun σ' H' p'=>⟨xs.length - (i+1),by omega,rfl,hlt,p'⟩,fun x H' y=>?_⟩
    obtain ⟨t,x1,y1,ht,rfl,rfl,hx,hy⟩:=y
    exact hs i x1 y1 t σ _ (hx xs q1) (hy ys q2) p ht
  · have e:i=xs.length:=by omega
    subst e
    exact .inl ⟨⟨xs,ys,q1,q2,.inl (Nat.le_refl _)⟩,hd σ H p⟩
end L2
set_option Elab.async false
set_option linter.all false
set_option maxRecDepth 100000
set_option maxHeartbeats 4000000
namespace L2.Stb
open PySem PySem.Spec PyProof.Rows
def Rk (ρ:Keyed→Nat) (xs:Array Keyed) (i:Nat):Nat:=(xs[i]?).elim 0 ρ
theorem Rk_congr {ρ:Keyed→Nat} {xs ys:Array Keyed} {i j:Nat} (h:xs[i]?=ys[j]?):Rk ρ xs i=Rk ρ ys j:=by unfold Rk; rw [h]
def VLt (ρ:Keyed→Nat) (xs:Array Keyed) (i j:Nat):Prop:=K xs i<K xs j∨(K xs i=K xs j∧Rk ρ xs i<Rk ρ xs j)
theorem VLt.trans {ρ:Keyed→Nat} {xs:Array Keyed} {i j k:Nat} (h1:VLt ρ xs i j) (h2:VLt ρ xs j k):VLt ρ xs i k:=by
  unfold VLt at *
  omega
def Inc (ρ:Keyed→Nat) (xs:Array Keyed) (n:Nat):Prop:=∀ i j,i<j→j<n→VLt ρ xs i j
def Dec (ρ:Keyed→Nat) (xs:Array Keyed) (n:Nat):Prop:=∀ i j,i<j→j<n→VLt ρ xs j i
def Idn (ρ:Keyed→Nat) (xs:Array Keyed) (n:Nat):Prop:=∀ i,n≤i→i<xs.size→Rk ρ xs i=i
theorem Idn.mono {ρ:Keyed→Nat} {xs:Array Keyed} {m n:Nat} (h:Idn ρ xs m) (l:m≤n):Idn ρ xs n:=fun i hi hs=>h i (Nat.le_trans l hi) hs
theorem Rk_get {ρ:Keyed→Nat} {xs:Array Keyed} {i:Nat} (h:i<xs.size):(xs.toList.map ρ)[i]?=some (Rk ρ xs i):=by
  unfold Rk
  rw [List.getElem?_map,Array.getElem?_toList,Array.getElem?_eq_getElem h]
  rfl
structure Inj (ρ:Keyed→Nat) (xs:Array Keyed):Prop where
  inj:∀ i j,i<xs.size→j<xs.size→Rk ρ xs i=Rk ρ xs j→i=j
  lt:∀ i,i<xs.size→Rk ρ xs i<xs.size
theorem inj_of {ρ:Keyed→Nat} {xs a₀:Array Keyed} (p:xs.Perm a₀) (h0:Idn ρ a₀ 0):Inj ρ xs:=by
  have e0:a₀.toList.map ρ=List.range a₀.size:=by
    apply List.ext_getElem?
    intro i
    by_cases h:i<a₀.size
    · rw [Rk_get h,List.getElem?_range h,h0 i (Nat.zero_le _) h]
    · rw [List.getElem?_eq_none (by simpa using h),List.getElem?_eq_none (by simpa using h)]
  have pm:(xs.toList.map ρ).Perm (List.range a₀.size):=by rw [← e0]; exact (Array.perm_iff_toList_perm.mp p).map ρ
  have nd:(xs.toList.map ρ).Nodup:=pm.nodup_iff.mpr List.nodup_range
  refine ⟨fun i j hi hj e=>?_,fun i hi=>?_⟩
  · refine (List.getElem?_inj (by rw [List.length_map,Array.length_toList]; exact hi) nd).mp ?_
    rw [Rk_get hi,Rk_get hj,e]
  · have m:Rk ρ xs i∈xs.toList.map ρ:=List.mem_of_getElem? (Rk_get hi)
    have:=List.mem_range.mp (pm.mem_iff.mp m)
    rw [p.size_eq]
    exact this
theorem Inj.below {ρ:Keyed→Nat} {xs:Array Keyed} (I:Inj ρ xs) {n:Nat} (h:Idn ρ xs n) {i:Nat} (hi:i<n) (hs:i<xs.size):Rk ρ xs i<n:=by
  by_cases c:Rk ρ xs i<n
  · exact c
  · have l:=I.lt i hs
    have e:=h (Rk ρ xs i) (by omega) l
    have:=I.inj _ _ l hs e
    omega
theorem Rk_bubble {ρ:Keyed→Nat} {xs:Array Keyed} {src d:Nat} (hs:src<xs.size) (hd:d≤src) (k:Nat) :
    Rk ρ (bubble xs src d) k=if k=src - d then Rk ρ xs src else if src - d<k∧k≤src then Rk ρ xs (k - 1) else Rk ρ xs k:=by
  have e:=getElem?_bubble hs d hd k
  by_cases h1:k=src - d
  · rw [if_pos h1] at e ⊢
    exact Rk_congr e
  · rw [if_neg h1] at e ⊢
    by_cases h2:src - d<k∧k≤src
    · rw [if_pos h2] at e ⊢
      exact Rk_congr e
    · rw [if_neg h2] at e ⊢
      exact Rk_congr e
theorem Rk_mirror {ρ:Keyed→Nat} {xs:Array Keyed} {i j:Nat} (hj:j≤xs.size) (k:Nat) :
    Rk ρ (mirror xs i j ((j - i) / 2)) k=if i≤k∧k<j then Rk ρ xs (i+j - 1 - k) else Rk ρ xs k:=by
  have e:=getElem?_mirror_all (i:=i) hj k
  by_cases h1:i≤k∧k<j
  · rw [if_pos h1] at e ⊢
    exact Rk_congr e
  · rw [if_neg h1] at e ⊢
    exact Rk_congr e
section
variable {prog:Program} {w:World} {A:Around} {E:Value→Shared→Prop} {s:Shared} {a₀:Array Keyed} {ρ:Keyed→Nat}
theorem SB.inj {st:SortSt} (h:SBase a₀ st) (hr:Idn ρ a₀ 0):Inj ρ (arrOf st):=inj_of h.perm hr
theorem bin_ok {st:SortSt} {n ok:Nat} {Q:Bool→SortSt→Prop} (h0:IntKeys a₀) (hr:Idn ρ a₀ 0) (hn:n≤a₀.size) (hok:ok≤n) (h1k:1≤ok) (hB:SBase a₀ st) (hs:Inc ρ (arrOf st) ok) (hI:Idn ρ (arrOf st) ok)
    (h:∀ st',SBase a₀ st'→Inc ρ (arrOf st') n→Q true st'):wpS (model prog w) A E s (binarySort' 0 n ok) Q st:=by
  rw [binarySort'_eq]
  simp only [Nat.zero_add]
  refine wpS_bind (wpS_mono (wpS_forRange (I:=fun k c st1=>c=(none,())∧SBase a₀ st1∧Inc ρ (arrOf st1) (min k n)∧Idn ρ (arrOf st1) (min k n))
    (Q:=fun c st1=>c=(none,())∧SBase a₀ st1∧Inc ρ (arrOf st1) n) ?turn ?last ?first) ?after)
  case after =>
    rintro c st1 ⟨rfl,b1,i1⟩
    exact wpS_pure (h st1 b1 i1)
  case first =>
    rw [show min (max ok 1) n=ok by omega]
    exact ⟨rfl,hB,hs,hI⟩
  case last =>
    rintro c st1 ⟨hc,b1,i1,_⟩
    rw [show min (max (max ok 1) n) n=n by omega] at i1
    exact ⟨hc,b1,i1⟩
  case turn =>
    rintro k c st1 hak hkn ⟨rfl,b1,i1,d1⟩
    rw [show min k n=k by omega] at i1 d1
    have hk:k<a₀.size:=by omega
    have sz:=b1.size
    have J:=SB.inj b1 hr
    have rk:Rk ρ (arrOf st1) k=k:=d1 k (Nat.le_refl _) (by omega)
    have lo:∀ m,m<k→¬ K (arrOf st1) k<K (arrOf st1) m→VLt ρ (arrOf st1) m k:=fun m hm c=>by
      have:=J.below d1 hm (by omega)
      unfold VLt
      omega
    refine wpS_bind (wpS_mono (wpS_forRange (I:=fun x c st2=>st2=st1∧∃ l r,c=(none,l,r)∧l≤r∧r≤k∧r - l≤k - x∧(∀ i,i<l→VLt ρ (arrOf st1) i k)∧(∀ i,r≤i→i<k→VLt ρ (arrOf st1) k i))
      (Q:=fun c st2=>st2=st1∧∃ l r,c=(none,l,r)∧l≤k∧(∀ i,i<l→VLt ρ (arrOf st1) i k)∧(∀ i,l≤i→i<k→VLt ρ (arrOf st1) k i)) ?iturn ?ilast ?ifirst) ?iafter)
    case ifirst=>exact ⟨rfl,0,k,rfl,by omega,by omega,by omega,fun i hi=>absurd hi (by omega),fun i p q=>absurd q (by omega)⟩
    case ilast =>
      rintro c st2 ⟨rfl,l,r,rfl,hlr,hrk,hm,u1,u2⟩
      have e:l=r:=by omega
      subst e
      exact ⟨rfl,l,l,rfl,hrk,u1,u2⟩
    case iturn =>
      rintro x c st2 _ hxk ⟨rfl,l,r,rfl,hlr,hrk,hm,u1,u2⟩
      dsimp only
      by_cases hge:l ≥ r
      · rw [if_pos hge]
        have e:l=r:=by omega
        subst e
        exact wpS_pure ⟨rfl,l,l,rfl,hrk,u1,u2⟩
      · rw [if_neg hge]
        refine wpS_bind (wpS_ltK b1 h0 hk (by omega) ?_)
        by_cases c:K (arrOf st2) k<K (arrOf st2) ((l+r) / 2)
        · simp only [c,decide_true,if_true]
          refine wpS_pure ⟨rfl,l,(l+r) / 2,rfl,by omega,by omega,by omega,u1,fun i p q=>?_⟩
          by_cases e:i=(l+r) / 2
          · subst e; exact .inl c
          · exact VLt.trans (.inl c) (i1 _ _ (by omega) q)
        · simp only [c,decide_false,Bool.false_eq_true,if_false]
          refine wpS_pure ⟨rfl,(l+r) / 2+1,r,rfl,by omega,by omega,by omega,fun i p=>?_,u2⟩
          have v:=lo _ (by omega) c
          by_cases e:i=(l+r) / 2
          · subst e; exact v
          · exact VLt.trans (i1 _ _ (by omega) (by omega)) v
    case iafter =>
      rintro c st2 ⟨rfl,l,r,rfl,hlk,u1,u2⟩
      show wpS _ _ _ _ (do moveDown' k l; pure (ForInStep.yield (none,()))) _ _
      rw [moveDown'_eq]
      refine wpS_bind (wpS_modify (wpS_pure ⟨rfl,b1.setArr (bubble_perm _ _ _),?_,?_⟩))
      · rw [show min (k+1) n=k+1 by omega]
        have hks:k<(arrOf st2).size:=by omega
        intro i j hij hj
        show VLt ρ (bubble (arrOf st2) k (k - l)) i j
        unfold VLt
        rw [K_bubble hks (by omega),K_bubble hks (by omega),Rk_bubble hks (by omega),Rk_bubble hks (by omega),show k - (k - l)=l by omega]
        by_cases a1:i=l
        · have b1':¬ j=l:=by omega
          have b2':l<j∧j≤k:=by omega
          rw [if_pos a1,if_pos a1,if_neg b1',if_neg b1',if_pos b2',if_pos b2']
          exact u2 _ (by omega) (by omega)
        · rw [if_neg a1,if_neg a1]
          by_cases a2:j=l
          · have b1':¬ (l<i∧i≤k):=by omega
            rw [if_pos a2,if_pos a2,if_neg b1',if_neg b1']
            exact u1 _ (by omega)
          · rw [if_neg a2,if_neg a2]
            by_cases a3:l<i∧i≤k
            · have b1':l<j∧j≤k:=by omega
              rw [if_pos a3,if_pos a3,if_pos b1',if_pos b1']
              exact i1 _ _ (by omega) (by omega)
            · rw [if_neg a3,if_neg a3]
              by_cases a4:l<j∧j≤k
              · rw [if_pos a4,if_pos a4]
                by_cases a5:i<j - 1
                · exact i1 _ _ a5 (by omega)
                · exfalso; omega
              · rw [if_neg a4,if_neg a4]
                exact i1 _ _ (by omega) (by omega)
      · rw [show min (k+1) n=k+1 by omega]
        intro i hi hs'
        have hs2:i<(arrOf st2).size:=by
          have:(arrOf (setArr st2 (bubble (arrOf st2) k (k - l)))).size=(arrOf st2).size:=bubble_size _ _ _
          omega
        show Rk ρ (bubble (arrOf st2) k (k - l)) i=i
        rw [Rk_bubble (by omega) (by omega),if_neg (by omega),if_neg (by omega)]
        exact d1 i (by omega) hs2
theorem asc_ok {st:SortSt} {a nrem:Nat} {Q:AscSt→SortSt→Prop} (h0:IntKeys a₀) (hr:Idn ρ a₀ 0) (hn:nrem≤a₀.size) (ha:1≤a) (han:a≤nrem) (hB:SBase a₀ st) (hs:Inc ρ (arrOf st) a) (hI:Idn ρ (arrOf st) a)
    (h:∀ n,a≤n→n≤nrem→Inc ρ (arrOf st) n→(n=nrem∨K (arrOf st) n<K (arrOf st) (n - 1))→Q (none,n) st):wpS (model prog w) A E s (ascLoop a nrem) Q st:=by
  unfold ascLoop
  have sz:=hB.size
  have J:=SB.inj hB hr
  refine wpS_forRange (I:=fun x c st1=>st1=st∧c=(none,x)∧Inc ρ (arrOf st) x) ?turn ?last ⟨rfl,rfl,hs⟩
  case last =>
    rintro c st1 ⟨rfl,rfl,i1⟩
    rw [show max a nrem=nrem by omega] at i1 ⊢
    exact h nrem han (Nat.le_refl _) i1 (.inl rfl)
  case turn =>
    rintro x c st1 hax hxn ⟨rfl,rfl,i1⟩
    dsimp only
    refine wpS_bind (wpS_ltK hB h0 (by omega) (by omega) ?_)
    by_cases c:K (arrOf st1) x<K (arrOf st1) (x - 1)
    · simp only [c,decide_true,if_true]
      exact wpS_pure (h x hax (by omega) i1 (.inr c))
    · simp only [c,decide_false,Bool.false_eq_true,if_false]
      refine wpS_pure ⟨rfl,rfl,fun i j hij hj=>?_⟩
      by_cases hjx:j<x
      · exact i1 i j hij hjx
      · have ej:j=x:=by omega
        subst ej
        have dx:=hI.mono hax
        have r1:=J.below dx (i:=j - 1) (by omega) (by omega)
        have r2:=dx j (Nat.le_refl _) (by omega)
        have v:VLt ρ (arrOf st1) (j - 1) j:=by unfold VLt; omega
        by_cases e:i=j - 1
        · subst e; exact v
        · exact VLt.trans (i1 i (j - 1) (by omega) (by omega)) v
theorem tail_ok {st:SortSt} {n nrem:Nat} {Q:Option Nat→SortSt→Prop} (h0:IntKeys a₀) (hr:Idn ρ a₀ 0) (hn:nrem≤a₀.size) (h1:1≤n) (hnn:n≤nrem) (hB:SBase a₀ st) (hs:Dec ρ (arrOf st) n) (hI:Idn ρ (arrOf st) n)
    (h:∀ m st',SBase a₀ st'→1≤m→m≤nrem→Inc ρ (arrOf st') m→Idn ρ (arrOf st') m→Q (some m) st'):wpS (model prog w) A E s (tail3 n nrem) Q st:=by
  unfold tail3
  have sz:=hB.size
  refine wpS_bind (wpS_reverse ?_)
  have b1:SBase a₀ (setArr st (mirror (arrOf st) 0 n ((n - 0) / 2))):=hB.setArr (mirror_perm _ _ _ _)
  have d1:Idn ρ (mirror (arrOf st) 0 n ((n - 0) / 2)) n:=fun i hi hs'=>by
    rw [mirror_size] at hs'
    rw [Rk_mirror (by omega),if_neg (by omega)]
    exact hI i hi hs'
  refine wpS_bind (asc_ok h0 hr hn h1 hnn b1 ?_ d1 fun m m1 m2 i2 _=>wpS_pure (h m _ b1 (by omega) m2 i2 (d1.mono m1)))
  intro i j hij hj
  show VLt ρ (mirror (arrOf st) 0 n ((n - 0) / 2)) i j
  unfold VLt
  rw [K_mirror (by omega),K_mirror (by omega),Rk_mirror (by omega),Rk_mirror (by omega),if_pos (by omega),if_pos (by omega),if_pos (by omega),if_pos (by omega)]
  exact hs _ _ (by omega) (by omega)
structure DI (ρ:Keyed→Nat) (xs:Array Keyed) (x q:Nat):Prop where
  l:q+1≤x
  sz:x≤xs.size
  d:Dec ρ xs (x - (q+1))
  u:∀ i j,i<x - (q+1)→x - (q+1)≤j→j<x→K xs j<K xs i
  e:∀ i,x - (q+1)≤i→i<x→K xs i=K xs (x - 1)
  f:Idn ρ xs (x - (q+1))
theorem DI.dec0 {xs:Array Keyed} {x:Nat} (h:DI ρ xs x 0):Dec ρ xs x:=fun i j hij hj=>by
  by_cases c:j<x - (0+1)
  · exact h.d i j hij c
  · exact .inl (h.u i j (by omega) (by omega) hj)
theorem DI.rev {xs:Array Keyed} {x q:Nat} (h:DI ρ xs x q):Dec ρ (mirror xs (x - (q+1)) x ((x - (x - (q+1))) / 2)) x∧Idn ρ (mirror xs (x - (q+1)) x ((x - (x - (q+1))) / 2)) x:=by
  have hl:=h.l
  have hz:=h.sz
  refine ⟨fun i j hij hj=>?_,fun i hi hs=>?_⟩
  · have ke:=K_mirror_equal (i:=x - (q+1)) hz h.e
    unfold VLt
    rw [ke,ke,Rk_mirror hz,Rk_mirror hz]
    by_cases c1:j<x - (q+1)
    · rw [if_neg (by omega),if_neg (by omega)]
      exact h.d i j hij c1
    · by_cases c2:i<x - (q+1)
      · exact .inl (h.u i j c2 (by omega) hj)
      · rw [if_pos (by omega),if_pos (by omega)]
        refine .inr ⟨(h.e j (by omega) hj).trans (h.e i (by omega) (by omega)).symm,?_⟩
        rw [h.f _ (by omega) (by omega),h.f _ (by omega) (by omega)]
        omega
  · rw [mirror_size] at hs
    rw [Rk_mirror hz,if_neg (by omega)]
    exact h.f i (by omega) hs
theorem DI.of {xs:Array Keyed} {x:Nat} (hx:1≤x) (hz:x<xs.size) (hd:Dec ρ xs x) (hf:Idn ρ xs x) (hk:K xs x<K xs (x - 1)):DI ρ xs (x+1) 0:=by
  refine ⟨by omega,by omega,hd,fun i j hi hj hj'=>?_,fun i hi hi'=>?_,hf⟩
  · have ej:j=x:=by omega
    subst ej
    by_cases e:i=j - 1
    · subst e; exact hk
    · have v:=hd i (j - 1) (by omega) (by omega)
      unfold VLt at v
      omega
  · have ei:i=x:=by omega
    subst ei
    rfl
theorem DI.more {xs:Array Keyed} {x q:Nat} (h:DI ρ xs x q) (hz:x<xs.size) (hk:K xs x=K xs (x - 1)):DI ρ xs (x+1) (q+1):=by
  have hl:=h.l
  have e0:x+1 - (q+1+1)=x - (q+1):=by omega
  refine ⟨by omega,by omega,by rw [e0]; exact h.d,fun i j hi hj hj'=>?_,fun i hi hi'=>?_,by rw [e0]; exact h.f⟩
  · rw [e0] at hi hj
    by_cases c:j<x
    · exact h.u i j hi hj c
    · have ej:j=x:=by omega
      subst ej
      rw [hk]
      exact h.u i (j - 1) hi (by omega) (by omega)
  · rw [show x+1 - 1=x by omega]
    by_cases c:i<x
    · rw [hk]; exact h.e i (by omega) c
    · have ei:i=x:=by omega
      subst ei
      rfl
theorem desc_ok {st:SortSt} {n nrem:Nat} {Q:DescSt→SortSt→Prop} (h0:IntKeys a₀) (hn:nrem≤a₀.size) (hnn:n≤nrem) (hB:SBase a₀ st) (hs:DI ρ (arrOf st) n 0)
    (h:∀ m q st',SBase a₀ st'→m≤nrem→DI ρ (arrOf st') m q→Q (none,m,q) st'):wpS (model prog w) A E s (descLoop n nrem) Q st:=by
  unfold descLoop
  refine wpS_forRange (I:=fun x c st1=>∃ q,c=(none,x,q)∧SBase a₀ st1∧DI ρ (arrOf st1) x q) ?turn ?last ⟨0,rfl,hB,hs⟩
  case last =>
    rintro c st1 ⟨q,rfl,b1,d1⟩
    rw [show max n nrem=nrem by omega] at d1 ⊢
    exact h nrem q st1 b1 (Nat.le_refl _) d1
  case turn =>
    rintro x c st1 hax hxn ⟨q,rfl,b1,d1⟩
    dsimp only
    have sz:=b1.size
    have hl:=d1.l
    refine wpS_bind (wpS_ltK b1 h0 (by omega) (by omega) ?_)
    by_cases c:K (arrOf st1) x<K (arrOf st1) (x - 1)
    · simp only [c,decide_true,if_true]
      by_cases hq:q > 0
      · rw [if_pos hq]
        obtain ⟨r1,r2⟩:=d1.rev
        refine wpS_bind (wpS_reverse (wpS_pure ⟨0,rfl,b1.setArr (mirror_perm _ _ _ _),DI.of (by omega) (by show x<(mirror _ _ _ _).size; rw [mirror_size]; omega) r1 r2 ?_⟩))
        show K (mirror _ _ _ _) x<K (mirror _ _ _ _) (x - 1)
        rw [K_mirror_equal d1.sz d1.e,K_mirror_equal d1.sz d1.e]
        exact c
      · rw [if_neg hq]
        have e:q=0:=by omega
        subst e
        exact wpS_pure ⟨0,rfl,b1,DI.of (by omega) (by omega) d1.dec0 (d1.f.mono (by omega)) c⟩
    · simp only [c,decide_false,Bool.false_eq_true,if_false]
      refine wpS_bind (wpS_ltK b1 h0 (by omega) (by omega) ?_)
      by_cases c2:K (arrOf st1) (x - 1)<K (arrOf st1) x
      · simp only [c2,decide_true,if_true]
        exact wpS_pure (h x q st1 b1 (by omega) d1)
      · simp only [c2,decide_false,Bool.false_eq_true,if_false]
        exact wpS_pure ⟨q+1,rfl,b1,d1.more (by omega) (by omega)⟩
theorem part_ok {st:SortSt} {n nrem:Nat} {Q:Option Nat→SortSt→Prop} (h0:IntKeys a₀) (hr:Idn ρ a₀ 0) (hn:nrem≤a₀.size) (hnn:n+1≤nrem) (hB:SBase a₀ st) (hs:DI ρ (arrOf st) (n+1) 0)
    (h:∀ m st',SBase a₀ st'→1≤m→m≤nrem→Inc ρ (arrOf st') m→Idn ρ (arrOf st') m→Q (some m) st'):wpS (model prog w) A E s (descPart n nrem) Q st:=by
  unfold descPart
  refine wpS_bind (wpS_lift (wpAny_rule ⟨rfl,?_⟩))
  refine wpS_bind (desc_ok h0 hn hnn hB hs fun m q st1 b1 m2 d1=>?_)
  dsimp only
  have hl:=d1.l
  by_cases hq:q > 0
  · rw [if_pos hq]
    obtain ⟨r1,r2⟩:=d1.rev
    exact wpS_bind (wpS_reverse (tail_ok h0 hr hn (by omega) m2 (b1.setArr (mirror_perm _ _ _ _)) r1 r2 h))
  · rw [if_neg hq]
    have e:q=0:=by omega
    subst e
    exact tail_ok h0 hr hn (by omega) m2 b1 d1.dec0 (d1.f.mono (by omega)) h
theorem count_ok {st:SortSt} {nrem:Nat} {Q:Option Nat→SortSt→Prop} (h0:IntKeys a₀) (hr:Idn ρ a₀ 0) (hn:nrem≤a₀.size) (h1:1≤nrem) (hB:SBase a₀ st) (hI:Idn ρ (arrOf st) 0)
    (h:∀ m st',SBase a₀ st'→1≤m→m≤nrem→Inc ρ (arrOf st') m→Idn ρ (arrOf st') m→Q (some m) st'):wpS (model prog w) A E s (countRun' 0 nrem) Q st:=by
  rw [countRun0_eq]
  have sz:=hB.size
  refine wpS_bind (asc_ok h0 hr hn (Nat.le_refl 1) h1 hB (fun i j hij hj=>absurd hj (by omega)) (hI.mono (Nat.zero_le _)) fun n n1 n2 i1 hor=>?_)
  dsimp only
  by_cases e:n=nrem
  · rw [if_pos (by simpa using e)]
    exact wpS_pure (h n st hB n1 n2 i1 (hI.mono (Nat.zero_le _)))
  · rw [if_neg (by simpa using e)]
    have lt:K (arrOf st) n<K (arrOf st) (n - 1):=hor.resolve_left e
    by_cases g:n > 1
    · rw [if_pos g]
      refine wpS_bind (wpS_ltK hB h0 (by omega) (by omega) ?_)
      by_cases c:K (arrOf st) 0<K (arrOf st) (n - 1)
      · simp only [c,decide_true,if_true]
        exact wpS_pure (h n st hB n1 n2 i1 (hI.mono (Nat.zero_le _)))
      · simp only [c,decide_false,Bool.false_eq_true,if_false]
        have all:∀ k,0≤k→k<n→K (arrOf st) k=K (arrOf st) (n - 1):=by
          intro k _ hk
          have a1:k=0∨VLt ρ (arrOf st) 0 k:=by
            by_cases z:k=0
            · exact .inl z
            · exact .inr (i1 0 k (by omega) hk)
          have a2:k=n - 1∨VLt ρ (arrOf st) k (n - 1):=by
            by_cases z:k=n - 1
            · exact .inl z
            · exact .inr (i1 k (n - 1) (by omega) (by omega))
          have a3:=i1 0 (n - 1) (by omega) (by omega)
          unfold VLt at a1 a2 a3
          rcases a1 with a1 | a1
          · subst a1; omega
          · rcases a2 with a2 | a2
            · subst a2; rfl
            · omega
        have ke:=K_mirror_equal (xs:=arrOf st) (i:=0) (j:=n) (by omega) all
        refine wpS_bind (wpS_reverse (part_ok h0 hr hn (by omega) (hB.setArr (mirror_perm _ _ _ _)) (DI.of (by omega) (by show n<(mirror _ _ _ _).size; rw [mirror_size]; omega) (fun i j hij hj=>?_) (fun i hi hs=>?_) ?_) h))
        · show VLt ρ (mirror (arrOf st) 0 n ((n - 0) / 2)) j i
          unfold VLt
          rw [ke,ke,all i (by omega) (by omega),all j (by omega) hj,Rk_mirror (by omega),Rk_mirror (by omega),if_pos (by omega),if_pos (by omega),hI _ (by omega) (by omega),hI _ (by omega) (by omega)]
          omega
        · have hs':i<(mirror (arrOf st) 0 n ((n - 0) / 2)).size:=hs
          rw [mirror_size] at hs'
          show Rk ρ (mirror (arrOf st) 0 n ((n - 0) / 2)) i=i
          rw [Rk_mirror (by omega),if_neg (by omega)]
          exact hI i (by omega) hs'
        · show K (mirror (arrOf st) 0 n ((n - 0) / 2)) n<K (mirror (arrOf st) 0 n ((n - 0) / 2)) (n - 1)
          rw [ke,ke]
          exact lt
    · rw [if_neg g]
      have en:n=1:=by omega
      subst en
      exact part_ok h0 hr hn (by omega) hB (DI.of (by omega) (by omega) (fun i j hij hj=>absurd hj (by omega)) (hI.mono (Nat.zero_le _)) lt) h
def SEnd (ρ:Keyed→Nat) (a₀:Array Keyed) (st:SortSt):Prop:=(arrOf st).Perm a₀∧failedOf st=none∧pendingOf st=#[(0,a₀.size,0)]∧Inc ρ (arrOf st) a₀.size
theorem SEnd.of {st:SortSt} (hB:SBase a₀ st) (hs:Inc ρ (arrOf st) a₀.size):SEnd ρ a₀ (setPending st ((pendingOf st).push (0,a₀.size,0))) :=
  ⟨hB.perm,hB.failed,by show (pendingOf st).push _=_; rw [hB.pend]; rfl,hs⟩
theorem runs_ok {st:SortSt} {Q:Unit→SortSt→Prop} (h0:IntKeys a₀) (hr:Idn ρ a₀ 0) (hB:SBase a₀ st) (hI:Idn ρ (arrOf st) 0) (h2:2≤a₀.size) (h64:a₀.size<64)
    (h:∀ st',(arrOf st').Perm a₀→failedOf st'=none→Inc ρ (arrOf st') a₀.size→Q () st'):wpS (model prog w) A E s sortRuns' Q st:=by
  rw [sortRuns'_eq]
  refine wpS_bind (wpS_get ?_)
  dsimp only
  have mr:minRun' a₀.size a₀.size 0=a₀.size:=by
    obtain ⟨f,hf⟩:∃ f,a₀.size=f+1:=⟨a₀.size - 1,by omega⟩
    have e:minRun' (f+1) a₀.size 0=a₀.size:=by
      rw [minRun'_succ,if_pos h64]
      rfl
    rwa [← hf] at e
  simp only [hB.size,mr]
  refine wpS_bind (wpS_mono (wpS_forRange
    (I:=fun x c st1=>(x=0∧c=(none,0)∧SBase a₀ st1∧Idn ρ (arrOf st1) 0)∨(1≤x∧c=(none,a₀.size)∧SEnd ρ a₀ st1))
    (Q:=fun c st1=>c=(none,a₀.size)∧SEnd ρ a₀ st1) ?turn ?last (.inl ⟨rfl,rfl,hB,hI⟩)) ?after)
  case last =>
    rintro c st1 (⟨hx,_⟩ | ⟨_,hc,hD⟩)
    · omega
    · exact ⟨hc,hD⟩
  case turn =>
    rintro x c st1 _ hx (⟨rfl,rfl,b1,i1⟩ | ⟨hx1,rfl,hD⟩)
    · dsimp only
      rw [if_neg (by omega)]
      simp only [Nat.sub_zero,Nat.min_self,Nat.zero_add]
      refine wpS_bind (count_ok h0 hr (Nat.le_refl _) (by omega) b1 i1 fun m st2 b2 m1 m2 s2 d2=>?_)
      dsimp only
      by_cases lt:m<a₀.size
      · rw [if_pos lt]
        refine wpS_bind (wpS_lift (wpAny_rule ⟨rfl,?_⟩))
        refine wpS_bind (bin_ok h0 hr (Nat.le_refl _) m2 m1 b2 s2 d2 fun st3 b3 s3=>?_)
        simp only [Bool.not_true,Bool.false_eq_true,if_false]
        refine wpS_bind (wpS_get ?_)
        have hb:(pendingOf st3).back?=none:=by
          rw [b3.pend]
          rfl
        rw [hb]
        dsimp only
        exact wpS_bind (wpS_modify (wpS_pure (.inr ⟨by omega,rfl,SEnd.of b3 s3⟩)))
      · rw [if_neg lt]
        have em:m=a₀.size:=by omega
        subst em
        refine wpS_bind (wpS_get ?_)
        have hb:(pendingOf st2).back?=none:=by
          rw [b2.pend]
          rfl
        rw [hb]
        dsimp only
        exact wpS_bind (wpS_modify (wpS_pure (.inr ⟨by omega,rfl,SEnd.of b2 s2⟩)))
    · dsimp only
      rw [if_pos (Nat.le_refl _)]
      exact wpS_pure ⟨rfl,hD⟩
  case after =>
    rintro c st1 ⟨rfl,hD⟩
    dsimp only
    refine wpS_bind (wpS_mono (wpS_forRange (I:=fun _ c st2=>st2=st1∧c=(none,())) (Q:=fun c st2=>st2=st1∧c=(none,())) ?_ (fun _ _ hh=>hh) ⟨rfl,rfl⟩) ?_)
    · rintro x c st2 _ _ ⟨rfl,rfl⟩
      refine wpS_bind (wpS_get ?_)
      rw [if_pos (by rw [hD.2.2.1]; exact Nat.le_refl 1)]
      exact wpS_pure ⟨rfl,rfl⟩
    · rintro c st2 ⟨rfl,rfl⟩
      exact wpS_pure (h _ hD.1 hD.2.1 hD.2.2.2)
end
end L2.Stb
set_option Elab.async false
set_option linter.all false
set_option maxRecDepth 100000
set_option maxHeartbeats 4000000
namespace L2
open PySem PySem.Spec PyProof.Rows
def BMod (base:Heap) (mg:Str→Option Value):Prop:=∃ bm o,mg "__builtins__" = some (.ref bm)∧bm≠builtinsNs∧bm≠mainGlobals∧base.get? bm=some o∧o.cls=.type "module" ∧ o.dict=some builtinsNs∧o.data=.plain
section
variable {X:Cx} {pins:List (Addr×Obj)} {σ:St} {H:Hp} {s:Shared}
theorem Inv.grown {P c':Addr} {pos:Pos} {qual:Str} {ps:Array Value} {h':Heap} {tk:Nat} (I:Inv X pins σ H s) (hP:H P=some (.tbl pos qual)) (hx:Heap.ExtBut P s.heap h') (hge:s.heap.objs.size≤c') (hrec:h'.CodeRec (.ref c') qual)
    (htr:TriplesOk ps.toList) (hnf:codeAmong pos ps.toList=none) (htb:h'.get? P=some { cls:=.none,data:=.fields (ps++#[rawInt pos.line,rawInt pos.col,.ref c']) }) :
    ∃ oc vs t,h'.get? c'=some oc∧oc.data=.fields vs∧vs[1]?=some (.str qual t)∧Inv X pins σ (upd H c' (.frz oc (.own P))) { s with heap:=h',toks:=tk }:=by
  obtain ⟨c,oc,vs,t,z,hoc,hd,hv⟩:=hrec
  cases z
  have fr:H c'=none:=I.hok.fresh hge
  have nP:∀ b,H b=none→b≠P:=fun b n z=>by rw [z,hP] at n; cases n
  have nc:∀ b u,H b=some u→b≠c':=fun b u e=>ne_of_none e fr
  have nh:∀ b o,s.heap.get? b=some o→b≠c':=fun b o e=>Nat.ne_of_lt (Nat.lt_of_lt_of_le (Heap.lt_size e) hge)
  have cP:c'≠P:=fun z=>by rw [z,hP] at fr; cases fr
  refine ⟨oc,vs,t,hoc,hd,hv,I.step (g':=s.gens) (d':=s.drawn) (t':=tk) (ch:=[]) (h':=h') (H':=upd H c' (.frz oc (.own P))) (fun _ z=>nomatch z) (fun b o _ _ _ e n=>hx b o (nP b n) e) (fun b o _ _ _ e n=>⟨o.slots,hx b o (nP b n) e⟩)
    (fun b o _ e n=>by rw [upd_ne (nh b o e)]; exact n) (fun b o _ e=>?_) (fun b xs e=>by rw [upd_ne (nc b _ e)]; exact e) (fun b o u e=>by rw [upd_ne (nc b _ e)]; exact e) (fun b p q e=>by rw [upd_ne (nc b _ e)]; exact e) (fun m hm=>?_) (fun b u e=>?_) I.bare⟩
  · by_cases hb:b=P
    · subst hb; exact ⟨_,htb⟩
    · exact ⟨o,hx b o hb e⟩
  · obtain ⟨o,es,ep,ho,r⟩:=hm
    exact ⟨o,es,ep,hx _ o (nP _ I.free) ho,r⟩
  · by_cases hb:b=c'
    · subst hb
      rw [upd_same] at e
      cases e
      exact ⟨hoc,_,hoc⟩
    · rw [upd_ne hb] at e
      by_cases hbP:b=P
      · subst hbP
        rw [hP] at e
        cases e
        have e1:(ps++#[rawInt pos.line,rawInt pos.col,Value.ref c']).toList=ps.toList++[rawInt pos.line,rawInt pos.col,.ref c']:=by simp
        refine ⟨_,htb,?_,fun cv hc=>?_⟩
        · rw [e1]; exact TriplesOk_snoc _ _ _ _ htr
        · rw [e1,codeAmong_snoc _ htr hnf] at hc
          cases hc
          exact ⟨c',oc,vs,t,rfl,upd_same,hd,hv⟩
      · refine (I.hok b u e).stay (fun d v hd' q=>hx d v ?_ q) (fun d q=>by rw [upd_ne (nc d _ q)]; exact q) (fun d xs q=>by rw [upd_ne (nc d _ q)]; exact q) fun d oz q=>by rw [upd_ne (nc d _ q)]; exact q
        rcases hd' with rfl | hd'
        · exact hbP
        · intro z; rw [z,hP] at hd'; cases hd'
structure LamOk (X:Cx) (scope:Scope) (x:Str) (fr:List Str) (js:List Nat):Prop where
  kind:scope.kind=.function
  co:scope.isCoroutine=false
  gen:scope.isGenerator=false
  nocell:∀ y∈scope.names,y.2≠.cell
  par:scope.names.lookup x=some .local
  free:∀ y∈scope.names,y.2=.free→X.env.kindOf y.1=some .cell∨X.env.kindOf y.1=some .free
  len:fr.length=js.length
  js:∀ (k j:Nat),js[k]?=some j→fr[k]?=X.N[j]?
  jf:∀ (k:Nat) (y:Str),fr[k]?=some y→scope.names.lookup y=some .free
def cxLam (X:Cx) (A:Around) (N:List Str) (qual:Str) (scope:Scope) (f:Addr) (cd:Value) (cl:List (Str×Addr)) (s:Shared) (H:Hp):Cx where
  prog:=X.prog
  w:=X.w
  K:=X.K
  mg:=X.mg
  base:=X.base
  A:=A.deeper (PySem.W.envX qual scope s.heap.objs.size f cd cl)
  N:=N
  s₀:=s
  H₀:=H
  env:=PySem.W.envX qual scope s.heap.objs.size f cd cl
  outer:=X.stack
  stack:=PySem.W.envX qual scope s.heap.objs.size f cd cl :: X.stack
  ex:=[]
  calm:=true
  fn:=fun _=>false
  pn:=[]
  xe:=fun _ _=>False
theorem inv_lam {A:Around} {x:Str} {fr:List Str} {js:List Nat} {qual:Str} {scope:Scope} {f:Addr} {cd:Value} {cl:List (Str×Addr)} {s1:Shared} {u:Value} {v:V} (c:LamOk X scope x fr js) (I:Inv X pins σ H s) (hA:A.frames=some X.stack) (hh:A.handled=none)
    (cl1:∀ x c,cl.lookup x=some c→X.env.cells.lookup x=some c) (cl2:∀ p∈scope.names,p.2=.free→∃ c,cl.lookup p.1=some c) (r:RelV v u)
    (hn:s1.heap.Ns s.heap.objs.size fun y=>[(x,u)].reverse.lookup y) (hk:∀ b o,s.heap.get? b=some o→s1.heap.get? b=some o) (hos:s1.os=s.os) (hg:s1.gens=s.gens) :
    Inv (cxLam X A (x :: fr) qual scope f cd cl s H) [] (some v :: js.map fun j=>(σ[j]?).join) H s1:=by
  have noA:∀ b:Addr,b∉(cxLam X A (x :: fr) qual scope f cd cl s H).ex:=fun b z=>absurd (show b∈([]:List Addr) from z) (by simp)
  have ok:(cxLam X A (x :: fr) qual scope f cd cl s H).Ok:=by
    refine ⟨I.ok.mod,c.kind,rfl,rfl,Nat.le_refl _,fun y z d e1 e2=>I.ok.inj y z d (cl1 _ _ e1) (cl1 _ _ e2),fun y hy=>?_,fun y d z _=>absurd z (by simp [cxLam]),fun _=>hh,Around.frames_deeper hA,.inr ⟨rfl,rfl⟩,fun b z=>absurd z (noA b),I.bs,Nat.le_trans I.ok.bsz I.sz,fun b _ _=>noA b,fun b z=>absurd z (noA b),I.stack,I.stkFree⟩
    have hy:scope.names.lookup y=some .cell∨scope.names.lookup y=some .free:=hy
    rcases hy with hy | hy
    · exact absurd rfl (c.nocell _ (lookup_mem hy))
    · exact cl2 _ (lookup_mem hy) rfl
  refine ⟨ok,hos,by rw [hg]; exact I.bare,Un.kept hk,⟨_,hn,fun i y v' e1 e2 e3=>?_⟩,fun y d e=>?_,I.hok.fresh (Nat.le_refl _),fun y d e=>I.freeC y d (cl1 y d e),fun p hp=>absurd (show p∈([]:List (Addr×Obj)) from hp) (by simp),I.hok.kept hk,?_⟩
  · cases i with
    | zero =>
      have e1':x=y:=by simpa [cxLam] using e1
      have e2':v=v':=by simpa using e2
      subst e1'
      subst e2'
      refine ⟨u,r,.inl ⟨c.par,?_⟩⟩
      show ([(x,u)]:List (Str×Value)).reverse.lookup x=some u
      simp
    | succ k =>
      have e1':fr[k]?=some y:=by simpa [cxLam] using e1
      rw [List.getElem?_cons_succ,List.getElem?_map] at e2
      cases q:js[k]? with
      | none=>rw [q] at e2; cases e2
      | some j =>
        rw [q] at e2
        have e2':(σ[j]?).join=some v':=by simpa using e2
        have e4:σ[j]?=some (some v'):=by
          cases z:σ[j]? with
          | none=>rw [z] at e2'; cases e2'
          | some o=>rw [z] at e2'; rw [show o=some v' from e2']
        have hXN:X.N[j]?=some y:=(c.js k j q).symm.trans e1'
        have hfr:=c.jf k y e1'
        have hk2:=c.free _ (lookup_mem hfr) rfl
        have vis:Vis X.env.scope y:=by
          rcases hk2 with z | z
          · exact .inr (.inl z)
          · exact .inr (.inr z)
        obtain ⟨m,_,hl⟩:=I.loc
        obtain ⟨u',r',l⟩:=hl j y v' hXN e4 vis
        refine ⟨u',r',?_⟩
        rcases l with ⟨z,_⟩ | ⟨_,d,e,⟨od,ho,hd⟩⟩
        · rcases hk2 with y' | y'
          · rw [show X.env.kindOf y=_ from z] at y'; cases y'
          · rw [show X.env.kindOf y=_ from z] at y'; cases y'
        · obtain ⟨d',e'⟩:=cl2 _ (lookup_mem hfr) rfl
          have z':=cl1 _ _ e'
          have:d'=d:=by rw [e] at z'; exact (Option.some.inj z').symm
          subst this
          exact .inr ⟨.inr hfr,d',e',⟨od,hk _ _ ho,hd⟩⟩
  · obtain ⟨v',⟨o,ho,hd⟩⟩:=I.cell y d (cl1 y d e)
    exact ⟨v',o,hk _ _ ho,hd⟩
  · show (some v :: _:List (Option V)).length=(x :: fr).length
    rw [List.length_cons,List.length_cons,List.length_map,c.len]
theorem lam_call {A:Around} {x:Str} {fr:List Str} {js:List Nat} {name qual:Str} {params:Arguments} {body:PySem.Expr} {scope:Scope} {f:Addr} {pm cd ct:Value} {cl:List (Str×Addr)} {u:Value} {v:V} {te:TE} {Q:VK} {E:Value→Shared→Prop} {of:Obj} (c:LamOk X scope x fr js) (I:Inv X pins σ H s)
    (hA:A.frames=some X.stack) (hh:A.handled=none) (hdep:A.depth<recursionLimit)
    (cl1:∀ x c,cl.lookup x=some c→X.env.cells.lookup x=some c) (cl2:∀ p∈scope.names,p.2=.free→∃ c,cl.lookup p.1=some c)
    (ho:s.heap.get? f=some of) (hof:of.data=.func (PySem.W.kla_fn name qual params body scope cl pm cd ct)) (hcd:s.heap.CodeRec cd qual)
    (hb:∀ u,bindArgs (PySem.W.kla_fn name qual params body scope cl pm cd ct) ⟨[u],[]⟩=pure [(x,u)]) (r:RelV v u)
    (he:∀ s,PE (cxLam X A (x :: fr) qual scope f cd cl s H) body te) (h:te (some v :: js.map fun j=>(σ[j]?).join) H Q) :
    wpAny (model X.prog X.w) A (call (.ref f) [u]) (EP X pins σ Q) E s:=by
  refine wpAny_call (codeAny_mono (R:=fun r s'=>∃ u',r=.ok (.ret u')∧CE X.stack X.prog X.w H s Q u' s') (PySem.W.kla_callFunE hdep ho hof c.co c.gen rfl hcd (by
    rw [hb u]
    refine wpAny_pure ?_
    refine wpAny_newFunctionEnv c.nocell (fun y hy=>by rw [List.mem_singleton.mp hy]; exact c.par) (fun h₁ hns hsb=>?_) c.kind
    have hk₁:∀ b o,s.heap.get? b=some o→h₁.get? b=some o:=fun b o e=>hsb.extBut b o (Nat.ne_of_lt (Heap.lt_size e)) (Heap.get?_push_of_some _ e)
    refine ⟨I.nolimit.keeps hk₁,?_⟩
    have J:=inv_lam (qual:=qual) (f:=f) (cd:=cd) (s1:={ s with heap:=h₁,toks:=s.toks+[(x,u)].length }) c I hA hh cl1 cl2 r hns hk₁ rfl rfl
    refine PySem.W.kla_codeExpr (wpAny_mono (he s [] _ _ H Q J h) (fun u' s' hq=>?_) fun _ _ z=>z.elim)
    obtain ⟨v',H',J',rv,q⟩:=hq
    exact ⟨u',rfl,v',H',J'.os,J'.bare,J'.base,J'.hok,rv,q⟩)) fun r s' hq=>?_)
  obtain ⟨u',rfl,hq⟩:=hq
  exact I.after hq
theorem lam_make {P c0:Addr} {x:Str} {fr:List Str} {js:List Nat} {params:Arguments} {body:PySem.Expr} {scope:Scope} {pos:Pos} {R:Value→Shared→Prop} (c:LamOk X scope x fr js) (I:Inv X pins σ H s) (hc0:X.env.code=.ref c0) (hcd:PySem.W.codeHdIn X.K c0 P=true)
    (bm:BMod X.base X.mg) (hP:H P=some (.tbl pos (X.env.qual ++ "<lambda>"))) (hd0:params.defaults=[]) (hk0:params.kw_defaults=[])
    (h:∀ f cl cd pm ct of H' s',Inv X pins σ H' s'→Same H H'→(∀ x c,cl.lookup x=some c→X.env.cells.lookup x=some c)→(∀ p∈scope.names,p.2=.free→∃ c,cl.lookup p.1=some c) → 
      H' f=some (.frz of (.own 0))→of.data=.func (PySem.W.kla_fn "<lambda>" (X.env.qual ++ "<lambda>") params body scope cl pm cd ct)→(∃ c' oc vs t,cd=.ref c'∧H' c'=some (.frz oc (.own P))∧oc.data=.fields vs∧vs[1]?=some (.str (X.env.qual ++ "<lambda>") t))→R (.ref f) s') :
    wpAny (model X.prog X.w) X.A (eval (.Lambda params body scope pos) X.env) R X.xe s:=by
  obtain ⟨cl,e1,cl1,_,cl2⟩:=closure_for (env:=X.env) scope.names [] (fun p hp hf=>I.ok.has _ (c.free p hp hf)) (fun x d e=>by simp at e)
  have hclos:closureFor scope X.env=pure cl:=by
    unfold closureFor
    refine (congrArg (fun z=>z >>= fun cs=>pure cs) e1).trans ?_
    rfl
  have CH:=PySem.W.codeHd_of_K I.kIn hcd
  obtain ⟨ps,hps,htr,hcode⟩:=(show ObjOk X.prog X.w H s.heap P (.tbl pos (X.env.qual ++ "<lambda>")) from I.hok P _ hP)
  have hg:=I.ok.mod.glob.keeps I.bk
  have hgP:mainGlobals≠P:=fun q=>by
    obtain ⟨o,es,ep,e,hd,_⟩:=hg
    rw [q,hps] at e; cases e; cases hd
  have hb:s.heap.BuiltinsAt X.mg P:=by
    obtain ⟨b,o,a1,a2,a3,a4,a5,a6,a7⟩:=bm
    have e:=I.bk _ _ a4
    exact ⟨b,o,a1,a2,a3,(fun z=>by rw [z,hps] at e; cases e; cases a5),e,a5,a6,a7⟩
  rw [arm_eval_Lambda,defaultsOf_eq,hd0,hk0]
  show wpAny _ _ (do let dv ← evalAll (evalEach [] X.env); let kdv ← holding dv (evalAllOpt []); makeFunction "<lambda>" (X.env.qual ++ "<lambda>") params (.expr body) scope X.env dv kdv [] pos pos.line) _ _ s
  refine wpAny_bind (evalAll_nil ?_)
  refine wpAny_bind (wpAny_holding (wpAny_pure ?_))
  cases hf:codeAmong pos ps.toList with
  | some cv =>
    obtain ⟨c',oc,vs,t,rfl,hH,hd,hv⟩:=hcode cv hf
    refine PySem.W.kla_makeFunctionHit hclos I.ok.glob hg hc0 CH hps htr hf hb fun ctv h' tk hk hsz=>?_
    have I1:=I.laid (a:=h'.objs.size) (t':=tk) (o:=.frz { cls:=.type "function",data:=.func (PySem.W.kla_fn "<lambda>" (X.env.qual ++ "<lambda>") params body scope cl ((X.mg "__name__").getD .none) (.ref c') ctv) } (.own 0)) (h':=h'.push { cls:=.type "function",data:=.func (PySem.W.kla_fn "<lambda>" (X.env.qual ++ "<lambda>") params body scope cl ((X.mg "__name__").getD .none) (.ref c') ctv) }) (fun b o e=>Heap.get?_push_of_some _ (hk b o e)) hsz ⟨Heap.get?_push_size _ rfl,_,Heap.get?_push_size _ rfl⟩
    have fr:=I.hok.fresh hsz
    exact h _ cl _ _ _ _ _ _ I1 (same_upd fr _) cl1 cl2 upd_same rfl ⟨c',oc,vs,t,rfl,by rw [upd_ne (ne_of_none hH fr)]; exact hH,hd,hv⟩
  | none =>
    refine PySem.W.kla_makeFunction hclos I.ok.glob hg hc0 CH hps htr hf hgP hb fun c' ctv h' tk hx hge hlt hrec htb=>?_
    obtain ⟨oc,vs,t,hoc,hd,hv,I1⟩:=I.grown (tk:=tk) hP hx hge hrec htr hf htb
    have fr:H c'=none:=I.hok.fresh hge
    have fr2:upd H c' (.frz oc (.own P)) h'.objs.size=none:=I1.hok.fresh (Nat.le_refl _)
    have I2:=I1.laid (a:=h'.objs.size) (t':=tk) (o:=.frz (PySem.W.kla_obj "<lambda>" (X.env.qual ++ "<lambda>") params body scope cl ((X.mg "__name__").getD .none) c' ctv) (.own 0)) (h':=h'.push (PySem.W.kla_obj "<lambda>" (X.env.qual ++ "<lambda>") params body scope cl ((X.mg "__name__").getD .none) c' ctv)) (fun b o e=>Heap.get?_push_of_some _ e) (Nat.le_refl _) ⟨Heap.get?_push_size _ rfl,_,Heap.get?_push_size _ rfl⟩
    exact h _ cl _ _ _ _ _ _ I2 ((same_upd fr _).trans (same_upd fr2 _)) cl1 cl2 upd_same rfl ⟨c',oc,vs,t,rfl,by rw [upd_ne (ne_of_none upd_same fr2)]; exact upd_same,hd,hv⟩
end
end L2
set_option Elab.async false
set_option linter.all false
set_option maxRecDepth 100000
set_option maxHeartbeats 4000000
namespace L2
open PySem PySem.Spec PyProof.Rows L2.Stb
def KLt (key:Int→Int) (ns:List Int) (a b:Int):Prop:=key a<key b∨(key a=key b∧ns.idxOf a<ns.idxOf b)
theorem vals_map {l:List Keyed} (h:∀ p∈l,∃ t,p.2=.int (numOf p.2) t):Vals ((l.map fun p=>numOf p.2).map V.int) (l.map (·.2)):=by
  induction l with
  | nil=>exact .nil
  | cons p r ih =>
    obtain ⟨t,e⟩:=h p List.mem_cons_self
    exact .cons ⟨t,e⟩ (ih fun q hq=>h q (List.mem_cons_of_mem _ hq))
theorem ints_get {vs:List Value} {ns:List Int} (h:IntsAre vs ns):∀ {i:Nat} {v:Value},vs[i]?=some v→∃ n t,ns[i]?=some n∧v=.int n t:=by
  induction h with
  | nil=>intro i v e; simp at e
  | cons n t _ ih =>
    intro i v e
    cases i with
    | zero=>exact ⟨n,t,rfl,by simpa using e.symm⟩
    | succ i=>exact ih (by simpa using e)
theorem idx_nd:∀ {ns:List Int},ns.Nodup→∀ {i:Nat} {n:Int},ns[i]?=some n→ns.idxOf n=i
  | [],_,_,_,e=>by simp at e
  | x :: r,nd,0,n,e=>by
    have e':x=n:=by simpa using e
    subst e'
    simp
  | x :: r,nd,i+1,n,e=>by
    obtain ⟨h1,h2⟩:=List.nodup_cons.mp nd
    have e':r[i]?=some n:=by simpa using e
    have ne:x≠n:=fun z=>h1 (z ▸ List.mem_of_getElem? e')
    rw [List.idxOf_cons,show (x == n)=false by simpa using ne]
    show r.idxOf n+1=i+1
    rw [idx_nd h2 e']
theorem sort_out {keys:Array Value} {vs:List Value} {ns:List Int} {key:Int→Int} (hk:IntsAre keys.toList (ns.map key)) (hv:IntsAre vs ns) (nd:ns.Nodup) :
    Idn (fun p=>ns.idxOf (numOf p.2)) (keys.zip vs.toArray) 0∧∀ xs:Array Keyed,xs.Perm (keys.zip vs.toArray)→Inc (fun p=>ns.idxOf (numOf p.2)) xs xs.size →
      ∃ os:List Int,Vals (os.map V.int) (xs.map (·.2)).toList∧os.Perm ns∧os.Pairwise (KLt key ns):=by
  have lk:keys.size=ns.length:=by have:=hk.length; rw [Array.length_toList,List.length_map] at this; omega
  have lv:vs.length=ns.length:=by have:=hv.length; omega
  have at0:∀ (i:Nat) (p:Keyed),(keys.zip vs.toArray)[i]?=some p→∃ n t t',ns[i]?=some n∧p=(Value.int (key n) t,Value.int n t'):=fun i p e=>by
    have e':(keys.toList.zip vs)[i]?=some p:=by rw [← ksk_zip,Array.getElem?_toList]; exact e
    rw [List.getElem?_zip_eq_some] at e'
    obtain ⟨n1,t1,q1,r1⟩:=ints_get hk e'.1
    obtain ⟨n2,t2,q2,r2⟩:=ints_get hv e'.2
    rw [List.getElem?_map,q2] at q1
    have q1':key n2=n1:=by simpa using q1
    exact ⟨n2,t1,t2,q2,Prod.ext (by rw [r1,q1']) r2⟩
  have mem0:∀ p∈(keys.zip vs.toArray).toList,∃ n t t',n∈ns∧p=(Value.int (key n) t,Value.int n t'):=fun p hp=>by
    obtain ⟨i,e⟩:=List.getElem?_of_mem hp
    rw [Array.getElem?_toList] at e
    obtain ⟨n,t,t',q,r⟩:=at0 i p e
    exact ⟨n,t,t',List.mem_of_getElem? q,r⟩
  refine ⟨fun i _ hi=>?_,fun xs hp hi=>?_⟩
  · obtain ⟨n,t,t',q,r⟩:=at0 i _ (Array.getElem?_eq_getElem hi)
    unfold Rk
    rw [Array.getElem?_eq_getElem hi,r]
    show ns.idxOf n=i
    exact idx_nd nd q
  · have pm:=Array.perm_iff_toList_perm.mp hp
    have memx:∀ p∈xs.toList,∃ n t t',n∈ns∧p=(Value.int (key n) t,Value.int n t'):=fun p hp'=>mem0 p (pm.mem_iff.mp hp')
    refine ⟨xs.toList.map fun p=>numOf p.2,?_,?_,?_⟩
    · rw [Array.toList_map]
      refine vals_map fun p hp'=>?_
      obtain ⟨n,t,t',_,rfl⟩:=memx p hp'
      exact ⟨t',rfl⟩
    · have e:(keys.zip vs.toArray).toList.map (fun p=>numOf p.2)=ns:=by
        apply List.ext_getElem?
        intro i
        rw [List.getElem?_map,Array.getElem?_toList]
        by_cases hlt:i<(keys.zip vs.toArray).size
        · obtain ⟨n,t,t',q,r⟩:=at0 i _ (Array.getElem?_eq_getElem hlt)
          rw [Array.getElem?_eq_getElem hlt,r,q]
          rfl
        · have lz:(keys.zip vs.toArray).size=ns.length:=by rw [Array.size_zip,lk,List.size_toArray,lv,Nat.min_self]
          rw [Array.getElem?_eq_none (by omega),List.getElem?_eq_none (by omega)]
          rfl
      rw [← e]
      exact pm.map _
    · rw [List.pairwise_iff_getElem]
      intro i j hi' hj' hij
      have hi2:i<xs.size:=by simpa using hi'
      have hj2:j<xs.size:=by simpa using hj'
      have v:=hi i j hij hj2
      obtain ⟨n1,t1,t1',_,r1⟩:=memx xs[i] (by simp)
      obtain ⟨n2,t2,t2',_,r2⟩:=memx xs[j] (by simp)
      have k1:K xs i=key n1:=by rw [K_eq hi2,r1]; rfl
      have k2:K xs j=key n2:=by rw [K_eq hj2,r2]; rfl
      have q1:Rk (fun p=>ns.idxOf (numOf p.2)) xs i=ns.idxOf n1:=by unfold Rk; rw [Array.getElem?_eq_getElem hi2,r1]; rfl
      have q2:Rk (fun p=>ns.idxOf (numOf p.2)) xs j=ns.idxOf n2:=by unfold Rk; rw [Array.getElem?_eq_getElem hj2,r2]; rfl
      have g1:(xs.toList.map fun p=>numOf p.2)[i]=n1:=by simp [r1,numOf]
      have g2:(xs.toList.map fun p=>numOf p.2)[j]=n2:=by simp [r2,numOf]
      rw [g1,g2]
      unfold VLt at v
      rw [k1,k2,q1,q2] at v
      exact v
section
variable {X:Cx} {pins:List (Addr×Obj)} {σ:St} {H:Hp} {s:Shared} {d:Addr} {xs:List V} {o:Obj}
theorem Inv.thawedL (I:Inv X pins σ H s) (h:H d=some (.frz o (.lst xs))) (h0:∀ o' u,X.H₀ d≠some (.frz o' u)):Inv X pins σ (upd H d (.lst xs)) s:=by
  have ne:∀ b u,H b=some u→u≠.frz o (.lst xs)→b≠d:=fun b u e n z=>by rw [z,h] at e; exact n (Option.some.inj e).symm
  have nn:∀ b,H b=none→b≠d:=fun b e z=>by rw [z,h] at e; cases e
  refine ⟨I.ok,I.os,I.bare,⟨I.base.keep,I.base.slot,fun b o' e n hx=>?_,I.base.there,fun b ys e=>?_,fun b o' u e=>?_,fun b p r e=>?_⟩,I.loc,I.cell,?_,fun x c e=>?_,fun p hp=>?_,fun b u e=>?_,I.len⟩
  · have q:=I.base.free b o' e n hx
    rw [upd_ne (nn b q)]
    exact q
  · have q:=I.base.tups b ys e
    rw [upd_ne (ne b _ q (by intro z; cases z))]
    exact q
  · have q:=I.base.frzs b o' u e
    rw [upd_ne (fun z=>h0 o' u (by rw [← z]; exact e))]
    exact q
  · have q:=I.base.tbls b p r e
    rw [upd_ne (ne b _ q (by intro z; cases z))]
    exact q
  · rw [upd_ne (nn _ I.free)]
    exact I.free
  · rw [upd_ne (nn _ (I.freeC x c e))]
    exact I.freeC x c e
  · obtain ⟨a1,a2,a3⟩:=I.pin p hp
    exact ⟨a1,by rw [upd_ne (nn _ a2)]; exact a2,a3⟩
  · by_cases hb:b=d
    · subst hb
      rw [upd_same] at e
      cases e
      exact (I.hok b _ h).2
    · rw [upd_ne hb] at e
      exact (I.hok b u e).stay (fun _ _ _ z=>z) (fun c z=>by rw [upd_ne (ne c _ z (by intro y; cases y))]; exact z) (fun c ys z=>by rw [upd_ne (ne c _ z (by intro y; cases y))]; exact z) fun c oz z=>by rw [upd_ne (ne c _ z (by intro y; cases y))]; exact z
theorem tail_key {a kS:Addr} {st:SortSt} {e1:Nat} {H1:Hp} {ns:List Int} {key:Int→Int} {keys:Array Value} {its:List Value} {ks:List V} {A:Around} {E:Value→Shared→Prop} {R:PySem.Fin→Shared→Prop} (I:Inv X pins σ H1 s) (hk:IntsAre keys.toList (ns.map key)) (hv:IntsAre its ns) (nd:ns.Nodup) (h64:ns.length<64)
    (ha:H1 a=some (.frz (seqObj "list" #[] e1) (.lst []))) (h0:∀ o' u,X.H₀ a≠some (.frz o' u)) (hkS:H1 kS=some (.lst ks)) (hlk:ks.length≤64) (hp:(arrOf st).Perm (keys.zip its.toArray)) (hi:Inc (fun p=>ns.idxOf (numOf p.2)) (arrOf st) (arrOf st).size) (hf:failedOf st=none)
    (h:∀ (H':Hp) (s':Shared) (os:List Int),Inv X pins σ H' s'→(∀ b,b≠a→b≠kS→H' b=H1 b)→H' a=some (.lst (os.map V.int))→os.Perm ns→os.Pairwise (KLt key ns)→R (.done (.ret .none)) s') :
    wpAny (model X.prog X.w) A (ksk_tail a false e1 (.ref kS) st) R E s:=by
  have nak:a≠kS:=fun z=>by rw [z,hkS] at ha; cases ha
  obtain ⟨os,vo,po,so⟩:=(sort_out hk hv nd).2 _ hp hi
  have lo:=po.length_eq
  unfold ksk_tail
  try dsimp only
  obtain ⟨_,itsK,n,rK,hlK,eK⟩:=I.lstM hkS
  have lK:itsK.length≤64:=by have:=rK.length; omega
  refine wpAny_bind (listUpdate_at eK rfl ?_ (by rw [List.size_toArray,sizeLine_eq]; omega) (Nat.zero_le _))
  have I6:=I.lset (t':=s.toks) (f:=fun _=>#[]) (its':=[]) (ys:=[]) hkS eK rfl .nil (Nat.zero_le _)
  have ha6:upd H1 kS (.lst []) a=some (.frz (seqObj "list" #[] e1) (.lst [])):=by rw [upd_ne nak]; exact ha
  have oa:=(I6.hok a _ ha6).1
  refine wpAny_bind (wpAny_letGo ?_)
  refine wpAny_bind (seqEpoch_at oa rfl ?_)
  have lo2:((arrOf st).map (·.2)).size=ns.length:=by
    have e:=vo.length
    rw [List.length_map] at e
    have e2:((arrOf st).map (·.2)).toList.length=((arrOf st).map (·.2)).size:=Array.length_toList
    omega
  refine wpAny_bind (listUpdate_at oa rfl ?_ (Nat.zero_le _) (by simp only [Bool.false_eq_true,if_false]; rw [lo2,sizeLine_eq]; omega))
  rw [hf]
  simp only [bne_self_eq_false,Bool.false_eq_true,if_false]
  have I7:=I6.thawedL ha6 h0
  have I8:=I7.lset (t':=s.toks) (f:=fun _=>(arrOf st).map (·.2)) (its:=[]) (its':=((arrOf st).map (·.2)).toList) (ys:=os.map V.int) upd_same oa (by exact (Array.toArray_toList).symm) vo (by rw [List.length_map,sizeLine_eq]; omega)
  refine wpAny_pure (h _ _ os I8 (fun b n1 n2=>?_) upd_same po so)
  rw [upd_ne n1,upd_ne n1,upd_ne n2]
theorem end_key {a kS:Addr} {e1:Nat} {H1:Hp} {ns:List Int} {key:Int→Int} {keys:Array Value} {its:List Value} {ks:List V} {A:Around} {E:Value→Shared→Prop} {R:PySem.Fin→Shared→Prop} (I:Inv X pins σ H1 s) (hk:IntsAre keys.toList (ns.map key)) (hv:IntsAre its ns) (nd:ns.Nodup) (h64:ns.length<64)
    (ha:H1 a=some (.frz (seqObj "list" #[] e1) (.lst []))) (h0:∀ o' u,X.H₀ a≠some (.frz o' u)) (hkS:H1 kS=some (.lst ks)) (hlk:ks.length≤64)
    (h:∀ (H':Hp) (s':Shared) (os:List Int),Inv X pins σ H' s'→(∀ b,b≠a→b≠kS→H' b=H1 b)→H' a=some (.lst (os.map V.int))→os.Perm ns→os.Pairwise (KLt key ns)→R (.done (.ret .none)) s') :
    wpAny (model X.prog X.w) A (ksk_end a false its.toArray e1 (.ref kS) keys) R E s:=by
  have lk:keys.size=ns.length:=by have:=hk.length; rw [Array.length_toList,List.length_map] at this; omega
  have lv:its.length=ns.length:=by have:=hv.length; omega
  have hzs:(keys.zip its.toArray).size=ns.length:=by rw [Array.size_zip,lk,List.size_toArray,lv,Nat.min_self]
  obtain ⟨idn,_⟩:=sort_out hk hv nd
  unfold ksk_end
  simp only [Bool.false_eq_true,if_false]
  by_cases h2:its.toArray.size<2
  · rw [if_pos h2,if_pos h2]
    refine wpAny_bind (wpAny_pure ?_)
    rw [StateT.run_pure]
    refine wpAny_bind (wpAny_pure ?_)
    try dsimp only
    refine tail_key (st:=SortSt.mk' general' (keys.zip its.toArray) #[] 7 none) I hk hv nd h64 ha h0 hkS hlk (Array.Perm.refl _) (fun i j hij hj=>?_) rfl h
    have hj2:j<(keys.zip its.toArray).size:=hj
    rw [List.size_toArray] at h2
    omega
  · rw [if_neg h2,if_neg h2]
    rw [List.size_toArray] at h2
    rw [ksk_kind hk (by rw [lk]; omega)]
    refine wpAny_bind (wpAny_pure ?_)
    refine wpAny_bind (wpAny_mono (runs_ok (ρ:=fun p=>ns.idxOf (numOf p.2)) (a₀:=keys.zip its.toArray) (st:=SortSt.mk' oneType' (keys.zip its.toArray) #[] 7 none)
      (Q:=fun _ st1=>(arrOf st1).Perm (keys.zip its.toArray)∧failedOf st1=none∧Inc (fun p=>ns.idxOf (numOf p.2)) (arrOf st1) (keys.zip its.toArray).size)
      (ksk_intKeys hk) idn ⟨Array.Perm.refl _,rfl,rfl,rfl⟩ idn (by rw [hzs]; omega) (by rw [hzs]; exact h64) fun st1 a1 a2 a3=>⟨a1,a2,a3⟩) ?_ fun _ _ e=>e)
    rintro ⟨⟨⟩,st1⟩ s1 ⟨rfl,hp,hf,hs⟩
    try dsimp only
    exact tail_key I hk hv nd h64 ha h0 hkS hlk hp (by rw [hp.size_eq]; exact hs) hf h
theorem sort_key {l f:Addr} {ns:List Int} {key:Int→Int} {Q:VK} {E:Value→Shared→Prop} (I:Inv X pins σ H s) (hq:SqL X.K H l (ns.map V.int)) (h64:ns.length<64) (nd:ns.Nodup)
    (turn:∀ z∈ns,∀ H1 s1 u,Same H H1→Inv X pins σ H1 s1→RelV (.int z) u→wpAny (model X.prog X.w) X.A.in1.in1 (call (.ref f) [u]) (EP X pins σ fun v H'=>v=.int (key z)∧H'=H1) (fun _ _=>False) s1)
    (q:∀ (D:Addr) (H':Hp) (os:List Int),H D=none→Same H H'→H' D=some (.lst (os.map V.int))→os.Perm ns→os.Pairwise (KLt key ns)→Q (.ref D) H') :
    wpAny (model X.prog X.w) X.A (call (.builtin "sorted") [.ref l] [(Str.ofString "key",.ref f)]) (EP X pins σ Q) E s:=by
  obtain ⟨its,rv,pl,hz⟩:=I.list hq
  have hv:=intsAre_of rv
  have lv:its.length=ns.length:=by have:=rv.length; rw [List.length_map] at this; exact this.symm
  refine call_function_entry_kw kind_sorted plain_sorted entry_sorted (ksk_s1 _ _) ?_
  unfold Builtin.«sorted»
  refine wpAny_bind (m:=checkCount "sorted" 1 1 _) (wpAny_pure ?_)
  refine wpAny_bind (collect_list pl.isList ?_ (by rw [sizeLine_eq]; omega))
  refine wpAny_bind (wpAny_newList ?_ (by rw [sizeLine_eq]; omega))
  have hsz:((s.heap.push (seqObj "list" #[] 0)).update s.heap.objs.size (Obj.mapSeq (·++its.toArray))).objs.size=s.heap.objs.size+1:=by
    rw [Heap.size_update,size_push']
  have hoL:(((s.heap.push (seqObj "list" #[] 0)).update s.heap.objs.size (Obj.mapSeq (·++its.toArray))).push (seqObj "list" its.toArray 0)).get? (s.heap.objs.size+1)=some (seqObj "list" its.toArray 0):=by
    rw [← hsz]
    exact Heap.get?_push_size _ rfl
  have keep:∀ b o,s.heap.get? b=some o→(((s.heap.push (seqObj "list" #[] 0)).update s.heap.objs.size (Obj.mapSeq (·++its.toArray))).push (seqObj "list" its.toArray 0)).get? b=some o:=fun b o e=>by
    have lt:b<s.heap.objs.size:=Heap.lt_size e
    rw [Heap.get?_push_ne _ _ _ (by rw [hsz]; exact Nat.ne_of_lt (Nat.lt_succ_of_lt lt)),Heap.get?_update_ne _ _ _ _ (Nat.ne_of_lt lt),Heap.get?_push_ne _ _ _ (Nat.ne_of_lt lt)]
    exact e
  show wpAny _ _ _ _ _ { s with heap:=((s.heap.push (seqObj "list" #[] 0)).update s.heap.objs.size (Obj.mapSeq (·++its.toArray))).push (seqObj "list" its.toArray 0) }
  rw [hsz]
  have hsz1:(((s.heap.push (seqObj "list" #[] 0)).update s.heap.objs.size (Obj.mapSeq (·++its.toArray))).push (seqObj "list" its.toArray 0)).objs.size=s.heap.objs.size+2:=by rw [size_push',hsz]
  generalize ((s.heap.push (seqObj "list" #[] 0)).update s.heap.objs.size (Obj.mapSeq (·++its.toArray))).push (seqObj "list" its.toArray 0)=h1 at *
  refine wpAny_bind (wpAny_holding (wpAny_call_entry_kw slot_list_sort ⟨_,hoL,rfl⟩ entry_list_sort ?body (ksk_l1 _ _)))
  case body =>
    show wpAny (model X.prog X.w) X.A.in1.in1 (Builtin.«list.sort» ⟨[.ref (s.heap.objs.size+1)],[(Str.ofString "key",.ref f)]⟩) _ _ _
    rw [ksk_t1]
    unfold ksk_tree
    refine wpAny_bind (listItems_at hoL rfl ?_)
    refine wpAny_bind (listUpdate_at hoL rfl ?_ (by rw [List.size_toArray,sizeLine_eq]; omega) (Nat.zero_le _))
    obtain ⟨e1,ho1⟩:∃ e1,(h1.update (s.heap.objs.size+1) (Obj.mapSeq fun _=>(#[]:Array Value))).get? (s.heap.objs.size+1)=some (seqObj "list" #[] e1):=⟨_,get?_update_seq hoL fun _=>#[]⟩
    have keep2:∀ b o,s.heap.get? b=some o→(h1.update (s.heap.objs.size+1) (Obj.mapSeq fun _=>(#[]:Array Value))).get? b=some o:=fun b o e=>by
      have lt:b<s.heap.objs.size:=Heap.lt_size e
      rw [Heap.get?_update_ne _ _ _ _ (Nat.ne_of_lt (Nat.lt_succ_of_lt lt))]
      exact keep b o e
    generalize h1.update (s.heap.objs.size+1) (Obj.mapSeq fun _=>(#[]:Array Value))=h2 at *
    refine wpAny_bind (seqEpoch_at ho1 rfl ?_)
    refine wpAny_bind (wpAny_newTuple ?_ (by show its.length≤_; rw [sizeLine_eq]; omega))
    refine wpAny_bind (wpAny_newList ?_ (Nat.zero_le _))
    refine wpAny_holding ?_
    have fr:H (s.heap.objs.size+1)=none:=I.hok.fresh (Nat.le_succ _)
    have h0:∀ o' u,X.H₀ (s.heap.objs.size+1)≠some (.frz o' u):=fun o' u e=>by rw [I.base.frzs _ _ _ e] at fr; cases fr
    have ho2:(h2.push (seqObj "tuple" its.toArray 0)).get? (s.heap.objs.size+1)=some (seqObj "list" #[] e1):=Heap.get?_push_of_some _ ho1
    have I3:=I.laid (a:=s.heap.objs.size+1) (t':=s.toks) (o:=.frz (seqObj "list" #[] e1) (.lst [])) (h':=h2.push (seqObj "tuple" its.toArray 0)) (fun b o e=>Heap.get?_push_of_some _ (keep2 b o e)) (Nat.le_succ _) ⟨ho2,Nat.zero_le _,[],e1,.nil,ho2⟩
    have fr3:=I3.hok.fresh (Nat.le_refl _)
    have I4:=I3.laid (t':=s.toks) (o:=.lst []) (h':=(h2.push (seqObj "tuple" its.toArray 0)).push (seqObj "list" #[] 0)) (fun b o e=>Heap.get?_push_of_some _ e) (Nat.le_refl _) ⟨Nat.zero_le _,[],0,.nil,Heap.get?_push_size _ rfl⟩
    have nak:s.heap.objs.size+1≠(h2.push (seqObj "tuple" its.toArray 0)).objs.size:=ne_of_none upd_same fr3
    have sm:Same H (upd (upd H (s.heap.objs.size+1) (.frz (seqObj "list" #[] e1) (.lst []))) (h2.push (seqObj "tuple" its.toArray 0)).objs.size (.lst [])):=(same_upd fr _).trans (same_upd fr3 _)
    have frK:H (h2.push (seqObj "tuple" its.toArray 0)).objs.size=none:=(same_upd fr _).free fr3
    have hkS0:upd (upd H (s.heap.objs.size+1) (.frz (seqObj "list" #[] e1) (.lst []))) (h2.push (seqObj "tuple" its.toArray 0)).objs.size (.lst []) (h2.push (seqObj "tuple" its.toArray 0)).objs.size=some (.lst []):=upd_same
    have ha0:upd (upd H (s.heap.objs.size+1) (.frz (seqObj "list" #[] e1) (.lst []))) (h2.push (seqObj "tuple" its.toArray 0)).objs.size (.lst []) (s.heap.objs.size+1)=some (.frz (seqObj "list" #[] e1) (.lst [])):=by rw [upd_ne nak]; exact upd_same
    generalize upd (upd H (s.heap.objs.size+1) (.frz (seqObj "list" #[] e1) (.lst []))) (h2.push (seqObj "tuple" its.toArray 0)).objs.size (.lst [])=H4 at *
    show wpAny (model X.prog X.w) X.A.in1.in1 (ksk_rest (s.heap.objs.size+1) (.ref f) false its.toArray e1 (.ref (h2.push (seqObj "tuple" its.toArray 0)).objs.size)) _ _ { s with heap:=(h2.push (seqObj "tuple" its.toArray 0)).push (seqObj "list" #[] 0) }
    generalize (h2.push (seqObj "tuple" its.toArray 0)).objs.size=kS at *
    generalize (h2.push (seqObj "tuple" its.toArray 0)).push (seqObj "list" #[] 0)=h4 at *
    unfold ksk_rest
    refine wpAny_bind (wpAny_rule ?_)
    rw [List.forIn_toArray]
    refine wpAny_bind (ksk_fold (fun i s1=>∃ H1:Hp,Inv X pins σ H1 s1∧Same H H1∧H1 (s.heap.objs.size+1)=some (.frz (seqObj "list" #[] e1) (.lst []))∧H1 kS=some (.lst (((ns.take i).map key).map V.int))) its 0 _
      ⟨H4,I4,sm,ha0,hkS0⟩ ?step ?done)
    case step =>
      rintro j x s1 hx ⟨H1,I1,s1',a1,k1⟩
      simp only [Nat.zero_add] at k1 ⊢
      obtain ⟨z,t,hz',rfl⟩:=ints_get hv hx
      have hj:j<ns.length:=(List.getElem?_eq_some_iff.mp hz').1
      refine wpAny_bind (wpAny_attempt (wpAny_mono (turn z (List.mem_of_getElem? hz') H1 s1 _ s1' I1 ⟨t,rfl⟩) (fun v s2 he=>?_) fun _ _ hF=>hF.elim))
      obtain ⟨v',H',I2,r2,rfl,rfl⟩:=he
      try dsimp only
      obtain ⟨_,itsK,n,rK,hlK,eK⟩:=I2.lstM k1
      have lK:itsK.length≤ns.length:=by
        have:=rK.length
        rw [List.length_map,List.length_map,List.length_take] at this
        omega
      refine wpAny_bind (listUpdate_at eK rfl ?_ (by rw [List.size_toArray,sizeLine_eq]; omega) (by rw [Array.size_push,List.size_toArray,sizeLine_eq]; omega))
      have ek:ns.take (j+1)=ns.take j++[z]:=by rw [List.take_succ,hz']; rfl
      have I5:=I2.lset (t':=s2.toks) (f:=(·.push v)) (its':=itsK++[v]) (ys:=((ns.take (j+1)).map key).map V.int) k1 eK (by simp) (by rw [ek,List.map_append,List.map_append]; exact rK.append (.cons r2 .nil)) (by rw [List.length_map,List.length_map,List.length_take,sizeLine_eq]; omega)
      refine wpAny_pure ⟨rfl,_,I5,fun b o y=>?_,?_,upd_same⟩
      · rw [upd_ne (ne_of_none y frK)]
        exact s1' _ _ y
      · rw [upd_ne nak]
        exact a1
    case done =>
      rintro s1 ⟨H1,I1,s1',a1,k1⟩
      rw [Nat.zero_add,lv,List.take_length] at k1
      obtain ⟨_,itsK,n,rK,hlK,eK⟩:=I1.lstM k1
      try dsimp only
      refine wpAny_bind (listItems_at eK rfl ?_)
      refine end_key (ns:=ns) (key:=key) I1 (by simpa using intsAre_of rK) hv nd h64 a1 h0 k1 (by rw [List.length_map,List.length_map]; omega) fun H' s2 os I2 oth hD po so=>⟨_,rfl,?_⟩
      refine wpAny_pure ⟨_,rfl,.ref (s.heap.objs.size+1),H',I2,rfl,q _ H' os fr (fun b o y=>?_) hD po so⟩
      rw [oth b (ne_of_none y fr) (ne_of_none y frK)]
      exact s1' _ _ y
end
end L2
set_option Elab.async false
set_option linter.all false
set_option maxRecDepth 100000
set_option maxHeartbeats 4000000
namespace L2
open PySem PySem.Spec PyProof.Rows
structure MDef (P:Program) (w:World) (K:PySem.W.Frag) (mg:Str→Option Value) (base:Heap) (C:Addr) (m:Str) (k:Nat) (ps:List Str) (sp:Sp):Prop where
  ex:∃ (f:Addr) (fd:FuncData),FnOk P w K mg base CX0 k f fd ps sp∧Meth K C m f∧Binds K fd ps []
structure KDef (P:Program) (w:World) (K:PySem.W.Frag) (mg:Str→Option Value) (base:Heap) (C:Addr) (x:Str) (k:Nat) (ps:List Str) (sp:Sp):Prop where
  ex:∃ (f:Addr) (fd:FuncData),FnOk P w K mg base CX0 k f fd ps sp∧Mk K C f∧mg x=some (.ref C)∧Binds K fd ps []
section
variable {X:Cx} {x m:Str} {p pos apos:Pos} {e o:PySem.Expr} {es:List PySem.Expr} {ta:TE} {t:TA} {k:Nat} {ps:List Str} {sp:Sp} {C:Addr}
theorem pe_methN {pl:Sem Bool} (M:MDef X.prog X.w X.K X.mg X.base C m k ps sp) (hr:Room k X.A) (c:Cls X.K C) (he:PE X o ta) (ha:PA X (e :: es) t) (hn:NSs (e :: es):=by repeat' (first | exact True.intro | refine ⟨?_,?_⟩))
    (ht:eval (.Call (.Attribute o m apos) (e :: es) [] pos) X.env=(do
      let ov ← eval o X.env
      standAt apos.atName
      let (f,first) ← holding [ov] (getMethod ov m pl)
      callWith pos f first (backTo pos (starEach (e :: es) X.env)) (backToKw pos (keywordEach [] X.env))):=by rfl) :
    PE X (.Call (.Attribute o m apos) (e :: es) [] pos) (tMeth C m sp [] E0 ta t):=by
  obtain ⟨f,fd,F,hm,hb⟩:=M.ex
  exact pe_meth he c hm F hr hb .nil pass0 ha (star_ns hn.1) (back_ns hn.2) ht
theorem pe_makeN (M:KDef X.prog X.w X.K X.mg X.base C x k ps sp) (hr:Room (k+1) X.A) (hg:Gl X x) (ha:PA X (e :: es) t) (hn:NSs (e :: es):=by repeat' (first | exact True.intro | refine ⟨?_,?_⟩)) (hd:(x == ("__debug__" : Str))=false:=by decide) :
    PE X (.Call (.Name x p) (e :: es) [] pos) (tMake C sp [] E0 t):=by
  obtain ⟨f,fd,F,M',hm,hb⟩:=M.ex
  exact pe_make M' F hr hg hm hb .nil pass0 ha (hdb:=hd) (he:=star_ns hn.1) (hpl:=back_ns hn.2)
def tNo:TS:=fun _ _ _=>False
theorem ps_no {st:Stmt}:PS X st tNo:=fun _ _ _ _ _ _ h=>False.elim h
end
theorem Fun.okC {P:Program} {w:World} {K:PySem.W.Frag} {mg:Str→Option Value} {base:Heap} {x qual:Str} {st:Stmt} {f:Addr} {fd:FuncData} {N ps:List Str} {k:Nat} {sp:Sp} (F:Fun K x qual st f fd) (S:FnScope N ps (defScope st)) (len:∀ vs H Q E,sp vs H Q E→vs.length=ps.length)
    (hbody:∀ (cdv:Value) (A:Around) (outer:List Env) (s:Shared) (H:Hp) (vs:List V) (Q:VK) (E:XK),fd.code=cdv→Room k (A.deeper (envOfC qual (defScope st) s.heap.objs.size f cdv))→sp vs H Q E →
      ∃ t,PSs (cxOf CX0 P w K mg base N qual (defScope st) f cdv A outer s H E).nox (defBody st) t∧t { nx:=fun _ H'=>Q .non H',rt:=Q } (start N vs) H):FnOk P w K mg base CX0 (k+1) f fd ps sp:=by
  obtain ⟨oc,od,kV,doc,pm,an,cdv,ct,osl,rfl,lk,hcd⟩:=F.ex
  refine fn_of lk hcd S len fun A outer s H vs Q E hr hsp=>?_
  obtain ⟨t,h,q⟩:=hbody cdv A outer s H vs Q E rfl hr hsp
  exact ⟨t,h.nox,q⟩
theorem pe_fldK {X:Cx} {K:PySem.W.Frag} {e:PySem.Expr} {f:Str} {pos:Pos} {ta:TE} (hK:X.K=K) (he:PE X e ta) (hb:attributeBase e f X.env (eval e X.env)=eval e X.env):PE X (.Attribute e f pos) (tFld K ta f):=by
  subst hK
  exact pe_fld he hb
def lamB (osc:Scope) (oN:List Str) (scope:Scope) (x:Str) (fr:List Str) (js:List Nat):Bool :=
  scope.kind == .function && !scope.isCoroutine && !scope.isGenerator && scope.names.all (fun y=>y.2 != .cell) && scope.names.lookup x == some .local &&
  scope.names.all (fun y=>y.2 != .free || (osc.names.lookup y.1 == some .cell || osc.names.lookup y.1 == some .free)) && fr.length == js.length &&
  (js.map fun j=>oN[j]?) == fr.map some && fr.all fun y=>scope.names.lookup y == some .free
theorem lamOk_of {X:Cx} {osc:Scope} {oN:List Str} {scope:Scope} {x:Str} {fr:List Str} {js:List Nat} (h:lamB osc oN scope x fr js=true) (hs:X.env.scope=osc) (hN:X.N=oN):LamOk X scope x fr js:=by
  unfold lamB at h
  simp only [Bool.and_eq_true,List.all_eq_true,Bool.or_eq_true,beq_iff_eq,bne_iff_ne,ne_eq,Bool.not_eq_true'] at h
  obtain ⟨⟨⟨⟨⟨⟨⟨⟨h1,h2⟩,h3⟩,h4⟩,h5⟩,h6⟩,h7⟩,h8⟩,h9⟩:=h
  refine ⟨h1,h2,h3,h4,h5,fun y hy hf=>?_,h7,fun k j e=>?_,fun k y e=>h9 y (List.mem_of_getElem? e)⟩
  · rcases h6 y hy with q | q
    · exact absurd hf q
    · show X.env.scope.names.lookup y.1=_∨X.env.scope.names.lookup y.1=_
      rw [hs]; exact q
  · rw [hN]
    have z:=congrArg (fun l=>l[k]?) h8
    simp only [List.getElem?_map,e,Option.map_some] at z
    cases q:fr[k]? with
    | none=>rw [q] at z; cases z
    | some y=>rw [q] at z; exact (Option.some.inj z).symm
theorem hu_lam {A:Around} {k:Nat} {env:Env} (hr:Room k A):(A.in1.in1.deeper env).units+1<cLine:=by
  have:=hr.un
  show A.units+1+1+3+1<cLine
  omega
def rSortK (K:PySem.W.Frag) (P:Addr) (lpos:Pos) (qual:Str) (js:List Nat) (te:TE) (σ:St) (Q:VK) (x:V) (H1:Hp):Prop:=∃ (l:Addr) (ns:List Int) (key:Int→Int),x=.ref l∧SqL K H1 l (ns.map V.int)∧ns.length<64∧ns.Nodup∧H1 P=some (.tbl lpos qual) ∧
  (∀ z∈ns,∀ H2,Same H1 H2→te (some (.int z) :: js.map fun j=>(σ[j]?).join) H2 fun v H'=>v=.int (key z)∧H'=H2) ∧
  ∀ (D:Addr) (H':Hp) (os:List Int),H1 D=none→Same H1 H'→H' D=some (.lst (os.map V.int))→os.Perm ns→os.Pairwise (KLt key ns)→Q (.ref D) H'
def tSortK (K:PySem.W.Frag) (P:Addr) (lpos:Pos) (qual:Str) (js:List Nat) (txs te:TE):TE:=fun σ H Q=>txs σ H fun x H1=>rSortK K P lpos qual js te σ Q x H1
section
variable {X:Cx}
theorem pe_sortK {K:PySem.W.Frag} {P c0:Addr} {k:Nat} {y:Str} {fr:List Str} {js:List Nat} {qual:Str} {params:Arguments} {body xs:PySem.Expr} {scope:Scope} {p pos lpos kpos:Pos} {txs te:TE} (hK:X.K=K) (hr:Room k X.A) (hcl:X.calm=true) (hg:Gl X "sorted") (hm:X.mg "sorted" = none)
    (c:LamOk X scope y fr js) (hc0:X.env.code=.ref c0) (hcd:PySem.W.codeHdIn X.K c0 P=true) (bm:BMod X.base X.mg) (hq:X.env.qual ++ "<lambda>" = qual) (hd0:params.defaults=[]) (hk0:params.kw_defaults=[])
    (hb:∀ cl pm cd ct u,bindArgs (PySem.W.kla_fn "<lambda>" qual params body scope cl pm cd ct) ⟨[u],[]⟩=pure [(y,u)]) (ha:PE X xs txs)
    (he:∀ f cd cl s H,PE (cxLam X X.A.in1.in1 (y :: fr) qual scope f cd cl s H) body te) (hn:NSs [xs]:=by repeat' (first | exact True.intro | refine ⟨?_,?_⟩)) :
    PE X (.Call (.Name "sorted" p) [xs] [⟨some "key",.Lambda params body scope lpos,kpos⟩] pos) (tSortK K P lpos qual js txs te):=by
  subst hK
  subst hq
  intro pins s σ H Q I h
  refine wpAny_Call_Name_kw (ld_blt I hg hm boot_sorted ?_ (by decide) (by decide))
  refine callWith_kw (thn ((pc ha pa_nil hn.1) pos pins s σ H (fun vs H1=>match vs with | [x]=>rSortK X.K P lpos (X.env.qual ++ "<lambda>") js te σ Q x H1 | _=>False) I h) fun us s1 ⟨vs,H1,I1,r1,q1⟩=>?_) (by rw [star_ns hn.1]; rfl) (by rw [star_ns hn.1]; rfl) rfl rfl
  match vs,r1,q1 with
  | [],_,z=>exact z.elim
  | _ :: _ :: _,_,z=>exact z.elim
  | [x],r1,q1 =>
    obtain ⟨l,ns,key,rfl,hS,h64,nd,hP,ht,q⟩:=q1
    obtain ⟨u,rfl,ru⟩:=vals1 r1
    cases ru
    show wpAny _ _ (evalAll [(do let v ← eval (.Lambda params body scope lpos) X.env; standAt pos; pure v)]) _ _ s1
    refine wpAny_evalAll_cons (wpAny_bind (lam_make c I1 hc0 hcd bm hP hd0 hk0 fun f cl cd pm ct of H2 s2 I2 sm cl1 cl2 hf hof hcode=>wpAny_bind (wpAny_standAt (wpAny_pure (wpAny_evalAll_nil ?_)))))
    show wpAny _ _ (call (.builtin "sorted") [.ref l] [(Str.ofString "key",.ref f)]) _ _ s2
    refine sort_key I2 (sm.seq hS) h64 nd (fun z hz H3 s3 u sm3 I3 ru=>?_) fun D H' os hD sm' hl po so=>q D H' os (sm.free hD) (sm.trans sm') hl po so
    have of3:=(I3.hok f _ (sm3 _ _ hf)).1
    obtain ⟨c',oc,vs',t',rfl,hc',hd',hv'⟩:=hcode
    have oc3:=(I3.hok c' _ (sm3 _ _ hc')).1
    exact lam_call (A:=X.A.in1.in1) c I3 I3.ok.frames (I3.ok.hd hcl) hr.depth cl1 cl2 of3 hof ⟨c',oc,vs',t',rfl,oc3,hd',hv'⟩ (hb cl pm _ ct) ru (fun s=>he f _ cl s H3) (ht z hz H3 (sm.trans sm3))
end
end L2
set_option Elab.async false
set_option linter.all false
set_option maxRecDepth 100000
set_option maxHeartbeats 4000000
namespace L2
open PySem PySem.Spec PyProof.Rows
theorem law_callT {P:Program} {w:World} {K:PySem.W.Frag} {mg mb:Str→Option Value} {CX:CXT} {k:Nat} {fa a tp c0:Addr} {pos:Pos} {qual:Str} {fd:FuncData} {x:Str} {sp:Sp} {s₁:Shared} {vs:List Value} {ns:List Int}
    (KX:K.In s₁.heap) (hns:s₁.heap.Ns mainGlobals mg) (hb:s₁.heap.Ns builtinsNs mb) (hbb:∀ x:Str,x ≠ "__name__" → mb x=bootBuiltins x) (hlim:s₁.heap.NoLimit) (hg:s₁.gens=#[])
    (ha:s₁.heap.get? a=some { cls:=.type "list",data:=.seq vs.toArray }) (hi:IntsAre vs ns) (hl:ns.length≤sizeLine) (hr:Room k callerA)
    (htp:s₁.heap.get? tp=some { cls:=.none,data:=.fields #[] }) (hch:PySem.W.codeHdIn K c0 tp=true) (hKt:K.lookup tp=none)
    (hbm:BMod s₁.heap mg) (F:∀ base:Heap,K.In base→base.Ns mainGlobals mg→BMod base mg→FnOk P w K mg base CX k fa fd [x] sp) (hbind:∀ (s:Shared) (u:Value),BindsTo s fd ⟨[u],[]⟩ [(x,u)])
    (hsp:∀ H:Hp,H tp=some (.tbl pos qual)→SqL K H a (ns.map V.int)→sp [.ref a] H (fun v _=>v=.bl true) fun _ _ _=>False)
    (hCX:∀ H e s',CX [] H s₁ (fun _ _ _=>False) e s'→False) :
    codeAny (model P w) callerA (.call (.ref fa) ⟨[.ref a],[]⟩) (fun r s'=>r=.ok (.ret (.bool true))∧OldK s₁.heap s'.heap∧s'.os=s₁.os∧AllBare s'.gens) s₁:=by
  have rv:=vals_ints hi
  have lenV:=hi.length
  have nat:a≠tp:=fun z=>by rw [z,htp] at ha; cases ha
  have core:∀ H:Hp,H tp=some (.tbl pos qual)→SqL K H a (ns.map V.int)→HOk P w H s₁.heap→(∀ b,H b≠none→b=tp∨(b=a∧∃ o xs,H b=some (.frz o (.lst xs))))→(H a≠none→K.lookup a=none) →
      codeAny (model P w) callerA (.call (.ref fa) ⟨[.ref a],[]⟩) (fun r s'=>r=.ok (.ret (.bool true))∧OldK s₁.heap s'.heap∧s'.os=s₁.os∧AllBare s'.gens) s₁:=by
    intro H hT hS hok hA hK
    have noD:∀ {b:Addr} {o:Obj} {es:Array DictEntry} {ep:Nat},s₁.heap.get? b=some o→o.data=.dict es ep→H b=none:=fun {b o es ep} e d=>by
      cases q:H b with
      | none=>rfl
      | some u =>
        rcases hA b (by rw [q]; simp) with z | ⟨z,_⟩
        · rw [z,htp] at e
          cases e
          cases d
        · rw [z,ha] at e
          cases e
          cases d
    have nsK:∀ {b:Addr} {m:Str→Option Value},s₁.heap.Ns b m→(hidT s₁.heap H).Ns b m:=fun {b m} ⟨o,es,ep,e,d,r⟩=>⟨o,es,ep,hidT_get e (noD e d),d,r⟩
    have hKb:K.In (hidT s₁.heap H):=fun b o e=>hidT_get (KX b o e) (by
      cases q:H b with
      | none=>rfl
      | some u =>
        rcases hA b (by rw [q]; simp) with z | ⟨z,_⟩
        · rw [z,hKt] at e
          cases e
        · have n:H a≠none:=by rw [← z,q]; simp
          rw [z,hK n] at e
          cases e)
    have hM:Mod K mg (hidT s₁.heap H):=⟨hKb,nsK hns,⟨mb,nsK hb,hbb⟩,let ⟨mc,h1,h2⟩:=hlim; ⟨mc,nsK h1,h2⟩⟩
    have e0:Env0 P w K mg (hidT s₁.heap H) callerA [] s₁ H:=⟨rfl,hM,fun b o e=>of_hidT e,Nat.le_of_eq (hidT_size _ _),trivial,fun b hb=>absurd (show b∈([]:List Addr) from hb) (by simp),hok,.of_eq hg⟩
    have hB:BMod (hidT s₁.heap H) mg:=by
      obtain ⟨b,o,a1,a2,a3,a4,a5,a6,a7⟩:=hbm
      refine ⟨b,o,a1,a2,a3,hidT_get a4 ?_,a5,a6,a7⟩
      cases q:H b with
      | none=>rfl
      | some u =>
        rcases hA b (by rw [q]; simp) with z | ⟨z,_⟩
        · rw [z,htp] at a4
          cases a4
          cases a5
        · rw [z,ha] at a4
          cases a4
          have a8:Value.type "list" = Value.type "module" := a5
          injection a8 with a8
          exact absurd a8 (by decide)
    refine codeAny_mono ((F _ hKb (nsK hns) hB).run callerA [] s₁ H ⟨[.ref a],[]⟩ [.ref a] [.ref a] _ _ hr e0 (hbind s₁ (.ref a)) (.cons rfl .nil) (hsp H hT hS)) fun r s' h=>?_
    cases r with
    | error e=>exact (hCX H e s' h).elim
    | ok fl =>
      cases fl with
      | next=>exact False.elim h
      | brk=>exact False.elim h
      | cont=>exact False.elim h
      | ret u =>
        obtain ⟨v,H',os,bare,un,hok',r',q⟩:=h
        have q':v=.bl true:=q
        subst q'
        obtain rfl:u=Value.bool true:=r'
        have tab:=(PySem.W.codeHd_of_K KX hch).tab htp
        have t2:=hok' tp _ (un.tbls _ _ _ hT)
        obtain ⟨ps,hps,_⟩:=t2
        have old:∀ b o,s₁.heap.get? b=some o→b≠tp→s'.heap.get? b=some o:=fun b o e nb=>by
          cases q:H b with
          | none=>exact un.keep b o e q (by intro z; exact absurd (show b∈([]:List Addr) from z) (by simp)) (by simp)
          | some u =>
            rcases hA b (by rw [q]; simp) with z | ⟨_,ob,xs,z⟩
            · exact absurd z nb
            · have z2:=un.frzs b ob _ z
              obtain ⟨e1,_⟩:=hok b _ z
              obtain ⟨e2,_⟩:=hok' b _ z2
              rw [e] at e1
              cases e1
              exact e2
        refine ⟨rfl,⟨fun b o e=>?_,fun b o e=>?_⟩,os,bare⟩
        · by_cases nb:b=tp
          · subst nb
            rw [htp] at e
            cases e
            exact .inr (.inl ⟨tab.isCodeTable,rfl,#[],ps,rfl,by rw [hps]; simp⟩)
          · exact .inl (old b o e nb)
        · by_cases nb:b=tp
          · subst nb
            exact ⟨_,hps⟩
          · exact ⟨o,old b o e nb⟩
  have tb:∀ H:Hp,ObjOk P w H s₁.heap tp (.tbl pos qual):=fun H=>⟨#[],htp,True.intro,fun cv e=>by cases e⟩
  cases hk:K.lookup a with
  | some o =>
    have e:=KX a o hk
    rw [ha] at e
    cases e
    refine core (fun b=>if b=tp then some (.tbl pos qual) else none) (if_pos rfl) (.inr ⟨_,vs.toArray,_,hk,rfl,rfl,rfl,by rw [List.size_toArray,lenV]; exact hl,by simpa using rv⟩) (fun b u z=>?_) (fun b z=>?_) fun z=>absurd (if_neg nat) z
    · by_cases hb:b=tp
      · have z':=(if_pos hb).symm.trans z
        cases z'
        subst hb
        exact tb _
      · have z':=(if_neg hb).symm.trans z
        cases z'
    · by_cases hb:b=tp
      · exact .inl hb
      · exact absurd (if_neg hb) z
  | none =>
    refine core (fun b=>if b=tp then some (.tbl pos qual) else if b=a then some (.frz { cls:=.type "list",data:=.seq vs.toArray } (.lst (ns.map V.int))) else none) (if_pos rfl) (.inl (.inr ⟨{ cls:=.type "list",data:=.seq vs.toArray },(if_neg nat).trans (if_pos rfl)⟩)) (fun b u z=>?_) (fun b z=>?_) fun _=>hk
    · by_cases hb:b=tp
      · have z':=(if_pos hb).symm.trans z
        cases z'
        subst hb
        exact tb _
      · have z':=(if_neg hb).symm.trans z
        by_cases hb2:b=a
        · have z2:=(if_pos hb2).symm.trans z'
          cases z2
          subst hb2
          exact ⟨ha,by rw [List.length_map]; exact hl,vs,_,rv,ha⟩
        · have z2:=(if_neg hb2).symm.trans z'
          cases z2
    · by_cases hb:b=tp
      · exact .inl hb
      · by_cases hb2:b=a
        · exact .inr ⟨hb2,_,_,(if_neg hb).trans (if_pos hb2)⟩
        · exact absurd (by show (if b=tp then _ else if b=a then _ else none)=none; rw [if_neg hb,if_neg hb2]) z
theorem walk_ofT {l:PySem.W.OpenLaw} {n k:Nat} {q:Program} {loose:List Str} {XP:(Str→Option Value)→Heap→Prop} {YP:World→Heap→Prop} {d:DefRec} {K:Params→PySem.W.Frag} {CX:World→CXT} {sp:World→Sp} {x:Str} {tp:Addr} {pos:Pos} {qual:Str} {G:World→Prop}
    (hn:l.most=some n) (hn2:n≤sizeLine) (hdf:d.params.defaults=[]) (hr:Room k callerA)
    (hY:∀ (w:World) (h:Heap),YP w h→(K w.params).In h∧h.get? tp=some { cls:=.none,data:=.fields #[] })
    (F:∀ (w:World) (mg:Str→Option Value) (fa:Addr) (h:Heap),(K w.params).In h→h.Ns mainGlobals mg→mg d.name=some (.ref fa) →
      G w∧(∃ c0,PySem.W.codeHdIn (K w.params) c0 tp=true)∧(K w.params).lookup tp=none∧∃ fd:FuncData,(∀ (s:Shared) (u:Value),BindsTo s fd ⟨[u],[]⟩ [(x,u)]) ∧
        ∀ base:Heap,(K w.params).In base→base.Ns mainGlobals mg→BMod base mg→FnOk l.prog w (K w.params) mg base (CX w) k fa fd [x] (sp w))
    (hsp:∀ (w:World) (H:Hp) (a:Addr) (ns:List Int),G w→ns.length≤n→H tp=some (.tbl pos qual)→SqL (K w.params) H a (ns.map V.int)→sp w [.ref a] H (fun v _=>v=.bl true) fun _ _ _=>False)
    (hCX:∀ (w:World) (H:Hp) (s:Shared) (e:Value) (s':Shared),CX w [] H s (fun _ _ _=>False) e s'→False) :
    PySem.W.WalkO q loose XP YP l.row.toRowW d [] (fun f vs=>PySem.call f vs):=by
  refine Att.attach_call hn hdf fun w s₀ s₁ mg mb fa o pm cd doc a vs ns G' Y ho hd hcd hmg hobj hints hlen hg=>?_
  obtain ⟨KX,htp⟩:=hY w _ Y
  obtain ⟨g,⟨c0,hc⟩,hk,fd,hb,hF⟩:=F w mg fa _ KX G'.T.g hmg
  have hbm:BMod s₁.heap mg:=by
    obtain ⟨bm,ob,b1,b2,b3,b4,b5,b6⟩:=G'.T.bmain
    refine ⟨bm,ob,b1,b2,fun z=>?_,b3,b4,b5,b6⟩
    obtain ⟨o,es,ep,e,hd',_⟩:=G'.T.g
    rw [z,e] at b3
    cases b3
    rw [hd'] at b6
    cases b6
  exact law_callT KX G'.T.g G'.T.b G'.T.builtins G'.T.nolimit hg hobj hints (Nat.le_trans hlen hn2) hr htp hc hk hbm hF hb (fun H hT hS=>hsp w H a ns g hlen hT hS) fun H e s'=>hCX w H s₁ e s'
def clsOf (K:PySem.W.Frag) (x:Str):Addr:=match PySem.W.nsIn K mainGlobals x with
  | some (some (.ref C))=>C
  | _=>0
def tabOf (K:PySem.W.Frag) (x m:Str):Addr:=match PySem.W.findIn K (.ref (clsOf K x)) m with
  | some (some (.ref f))=>(match K.lookup f with
    | some ⟨_,_,.func fd,_⟩=>(match fd.code with
      | .ref c=>(match K.lookup c with
        | some ⟨_,_,.fields vs,_⟩=>(match (vs[11]?:Option Value) with
          | some (.ref P)=>P
          | _=>0)
        | _=>0)
      | _=>0)
    | _=>0)
  | _=>0
theorem clsOf_eq {K:PySem.W.Frag} {x:Str} {C:Addr} (h:PySem.W.nsIn K mainGlobals x=some (some (.ref C))):clsOf K x=C:=by
  unfold clsOf
  rw [h]
theorem tabOf_eq {K:PySem.W.Frag} {x m:Str} {f c P:Addr} {oc:Value} {od:Option Addr} {fd:FuncData} {sl:Array (Option Value)} (h1:PySem.W.findIn K (.ref (clsOf K x)) m=some (some (.ref f))) (h2:K.lookup f=some ⟨oc,od,.func fd,sl⟩) (h3:fd.code=.ref c)
    (h4:PySem.W.codeHdIn K c P=true):tabOf K x m=P:=by
  unfold PySem.W.codeHdIn at h4
  split at h4
  · rename_i vs _ hk
    simp only [Bool.and_eq_true] at h4
    obtain ⟨⟨⟨⟨⟨e1,_⟩,_⟩,_⟩,_⟩,_⟩:=h4
    split at e1
    · rename_i P' h11
      have hP:P'=P:=beq_iff_eq.mp e1
      subst hP
      unfold tabOf
      simp only [h1,h2,h3,hk,h11]
    · cases e1
  · cases h4
end L2
set_option Elab.async false
set_option linter.all false
set_option maxRecDepth 100000
set_option maxHeartbeats 4000000
namespace L2
open PySem PySem.Spec PyProof.Rows
end L2
set_option Elab.async false
set_option linter.all false
set_option maxRecDepth 100000
set_option maxHeartbeats 4000000
namespace L2
open PySem PySem.F PyProof.Rows PySem.MeetsSeq
variable {K:PySem.W.Frag} {X:Cx} {pins:List Pin} {σ:St} {H:Hp} {s:Shared}
theorem best_min {ns:List Int}:∀ n,n<ns.length→∃ z,ns[argBest (fun i j=>decide (ns.getD i 0<ns.getD j 0)) n]?=some z∧∀ m x,m≤n→ns[m]?=some x→z≤x
  | 0,h=>⟨ns[0],by rw [argBest]; exact List.getElem?_eq_getElem h,fun m x hm e=>by
      obtain rfl:m=0:=by omega
      rw [List.getElem?_eq_getElem h] at e; cases e; exact Int.le_refl _⟩
  | n+1,h=>by
    obtain ⟨z,e,l⟩:=best_min (ns:=ns) n (by omega)
    have e1:=List.getElem?_eq_getElem h
    have g1:ns.getD (n+1) 0=ns[n+1]:=by rw [List.getD_eq_getElem?_getD,e1]; rfl
    have g2:ns.getD (argBest (fun i j=>decide (ns.getD i 0<ns.getD j 0)) n) 0=z:=by rw [List.getD_eq_getElem?_getD,e]; rfl
    rw [argBest]
    rw [g1,g2]
    by_cases c:ns[n+1]<z
    · rw [if_pos (decide_eq_true c)]
      refine ⟨_,e1,fun m x hm q=>?_⟩
      by_cases q1:m=n+1
      · rw [q1,e1] at q; cases q; exact Int.le_refl _
      · exact Int.le_of_lt (Int.lt_of_lt_of_le c (l m x (by omega) q))
    · rw [if_neg (by simpa using c)]
      refine ⟨z,e,fun m x hm q=>?_⟩
      by_cases q1:m=n+1
      · rw [q1,e1] at q; cases q; omega
      · exact l m x (by omega) q
def rMinI (K:PySem.W.Frag):List V→Hp→VK→Prop:=fun xs H Q=>∃ (p:Addr) (ns:List Int),xs=[.ref p]∧SqL K H p (ns.map V.int)∧ns≠[]∧∀ z,z∈ns→(∀ x∈ns,z≤x)→Q (.int z) H
theorem call_minI (hc:X.calm=true) (hK:X.K=K):CallR X (.builtin "min") (rMinI K):=by
  subst hK
  intro pins s σ H xs us Q I r h
  obtain ⟨p,ns,rfl,hq,hne,q⟩:=h
  obtain ⟨u,rfl,rx⟩:=vals1 r
  cases rx
  obtain ⟨its,rv,pl,hz⟩:=I.list hq
  have hl:ns.length=its.length:=by have:=rv.length; rwa [List.length_map] at this
  have hval:∀ (i:Nat) (v:Value),its.toArray[i]?=some v→i<ns.length∧∃ t,v=.int (ns.getD i 0) t:=fun i v e=>by
    have e':its[i]?=some v:=by simpa using e
    obtain ⟨n,t,e1,rfl⟩:=ints_get (intsAre_of rv) e'
    exact ⟨(List.getElem?_eq_some_iff.mp e1).1,t,by rw [List.getD_eq_getElem?_getD,e1]; rfl⟩
  have pos:0<its.length:=by rw [← hl]; exact List.length_pos_iff.mpr hne
  have lt:p<s.heap.objs.size:=by obtain ⟨o,e,_⟩:=pl.isList; exact Heap.lt_size e
  refine call_min_at (wpAny_pyIter_list pl.isList ?_)
  refine ⟨s.heap.objs.size,_,[s.heap.objs.size],_,_,_,fun i j=>decide (ns.getD i 0<ns.getD j 0),fun _=>True,rfl,Walks.list (A:=X.A.in1) (show X.A.in1.handled=none from I.ok.hd hc) s.heap.objs.size p (Nat.ne_of_lt lt) its.toArray,⟨⟨_,Heap.get?_push_size _ rfl,rfl,rfl⟩,pl.isList.at fun o e=>Heap.get?_push_of_some _ e⟩,?_,by simpa using pos,True.intro,fun _ _ _ _=>True.intro,?_,?_⟩
  · intro b hb'
    show b<(s.heap.push _).objs.size
    rw [Heap.size_push]
    simp only [List.mem_cons,List.not_mem_nil,or_false] at hb'
    rcases hb' with rfl | rfl
    · exact Nat.lt_succ_self _
    · exact Nat.lt_succ_of_lt lt
  · intro i j u v t Q' E' g ai aj q'
    obtain ⟨_,t1,rfl⟩:=hval i u ai
    obtain ⟨_,t2,rfl⟩:=hval j v aj
    exact wpAny_lt_int q'
  · intro v h' tk hv hk
    obtain ⟨li,t,rfl⟩:=hval _ v hv
    obtain ⟨z,e,l⟩:=best_min (ns:=ns) (its.toArray.size - 1) (by rw [List.size_toArray]; omega)
    have ez:ns.getD (argBest (fun i j=>decide (ns.getD i 0<ns.getD j 0)) (its.toArray.size - 1)) 0=z:=by rw [List.getD_eq_getElem?_getD,e]; rfl
    refine ⟨.int z,H,I.kept (t':=tk) (fun b o e=>hk b o (by simpa using Nat.ne_of_lt (Heap.lt_size e)) (Heap.get?_push_of_some _ e)),⟨t,by rw [ez]⟩,q z (List.mem_of_getElem? e) fun x hx=>?_⟩
    obtain ⟨m,hm,rfl⟩:=List.getElem_of_mem hx
    exact l m _ (by rw [List.size_toArray]; omega) (List.getElem?_eq_getElem hm)
theorem pe_bmC {e:PySem.Expr} {T:String} {r:V→List V→Hp→VK→Prop} {to:TE} {t:TA} (hK:X.K=K) (h:PE X e (tBM X.K T r to t)):PE X e (tBM K T r to t):=by
  subst hK; exact h
end L2
set_option Elab.async false
set_option linter.all false
set_option maxRecDepth 100000
set_option maxHeartbeats 4000000
namespace L2
open PySem PySem.Calls PyProof.Rows PySem.MeetsSeq PySem.W
variable {K:PySem.W.Frag} {X:Cx} {pins:List Pin} {σ:St} {H:Hp} {s:Shared}
theorem vals_at:∀ {xs:List V} {us:List Value},xs.length=us.length→(∀ (i:Nat) x u,xs[i]?=some x→us[i]?=some u→RelV x u)→Vals xs us
  | [],[],_,_=>.nil
  | [],_ :: _,h,_=>nomatch h
  | _ :: _,[],h,_=>nomatch h
  | x :: xs,u :: us,h,k=>.cons (k 0 x u rfl rfl) (vals_at (by simpa using h) fun i x' u' h1 h2=>k (i+1) x' u' (by simpa using h1) (by simpa using h2))
end L2
set_option Elab.async false
set_option linter.all false
set_option maxRecDepth 100000
set_option maxHeartbeats 4000000
namespace L2
open PySem PySem.Calls PySem.Spec PyProof.Rows PySem.W
end L2
set_option Elab.async false
set_option linter.all false
set_option maxRecDepth 100000
set_option maxHeartbeats 4000000
namespace L2
open PySem PySem.Calls PySem.Spec PyProof.Rows PySem.W
end L2
set_option Elab.async false
set_option linter.all false
set_option maxRecDepth 100000
set_option maxHeartbeats 4000000
namespace L2
open PySem PySem.Calls PySem.Spec PyProof.Rows PySem.W
end L2
set_option Elab.async false
set_option linter.all false
set_option maxRecDepth 100000
set_option maxHeartbeats 4000000
namespace L2
open PySem PySem.Calls PySem.Spec PyProof.Rows PySem.W Builtin Builtin.ObjectAttr Builtin.Getset_descriptor
end L2
set_option Elab.async false
set_option linter.all false
set_option maxRecDepth 100000
set_option maxHeartbeats 4000000
namespace L2
open PySem PySem.Calls PySem.Spec PyProof.Rows PySem.W
end L2
namespace L2
open PySem PySem.Calls PySem.Spec PyProof.Rows PySem.W
end L2
set_option Elab.async false
set_option linter.all false
set_option maxRecDepth 100000
set_option maxHeartbeats 4000000
namespace L2
open PySem PySem.Calls PySem.Spec PyProof.Rows PySem.W
theorem Room.m {j k:Nat} {A:Around} (r:Room k A) (h:j≤k:=by first | decide | omega):Room j A:=r.mono h
section
variable {X:Cx} {pos:Pos}
theorem pgn (i:Nat) {x:Str} (hN:X.N.Nodup) (hi:X.N[i]?=some x:=by rfl) (hx:Loc X.env.scope x:=by first | exact Or.inl rfl | exact Or.inr rfl) (hf:X.fn x=true∨X.env.scope.names.lookup x=some .local:=by first | exact .inl rfl | exact .inr rfl | assumption):PG X (.Name x pos) (gName i):=pg_name hN hi hx hf
theorem pst (i:Nat) {x:Str} {e:PySem.Expr} {te:TE} {pos':Pos} (hN:X.N.Nodup) (he:PE X e te) (hi:X.N[i]?=some x:=by rfl) (hx:Loc X.env.scope x:=by first | exact Or.inl rfl | exact Or.inr rfl) (hs:swapsWith e (some (.Name x pos')) pos.line X.env=pure false:=by rfl) (hf:X.fn x=true∨X.env.scope.names.lookup x=some .local:=by first | exact .inl rfl | exact .inr rfl | assumption):PS X (.Assign [.Name x pos'] e pos) (tAsg te (gName i)):=ps_set hN hi hx he hs hf
end
end L2
set_option Elab.async false
set_option linter.all false
set_option maxRecDepth 100000
namespace L2
open PySem PySem.Spec PyProof.Rows
end L2
set_option Elab.async false
set_option linter.all false
set_option maxRecDepth 100000
set_option maxHeartbeats 4000000
namespace L2
open PySem PySem.Calls PyProof.Rows PySem.MeetsSeq PySem.W PySem.Spec
end L2
set_option Elab.async false
set_option linter.all false
set_option maxRecDepth 100000
set_option maxHeartbeats 4000000
namespace L2
open PySem PySem.Calls PyProof.Rows PySem.W PySem.Spec
end L2
set_option Elab.async false
set_option linter.all false
set_option maxRecDepth 100000
set_option maxHeartbeats 4000000
namespace L2
open PySem PySem.Calls PyProof.Rows PySem.W PySem.Spec
end L2
set_option Elab.async false
set_option linter.all false
set_option maxRecDepth 100000
set_option maxHeartbeats 4000000
namespace L2
open PySem PySem.F PyProof.Rows
variable {K:PySem.W.Frag} {X:Cx} {pins:List (Addr×Obj)} {σ:St} {H H':Hp} {s:Shared}
end L2
set_option Elab.async false
set_option linter.all false
set_option maxRecDepth 100000
set_option maxHeartbeats 4000000
namespace L2
open PySem PySem.F PyProof.Rows PySem.MeetsSeq
variable {K:PySem.W.Frag} {X:Cx}
end L2
set_option Elab.async false
set_option linter.all false
set_option maxRecDepth 100000
set_option maxHeartbeats 4000000
namespace L2
open PySem PySem.F PyProof.Rows
end L2
set_option Elab.async false
set_option linter.all false
set_option maxRecDepth 100000
set_option maxHeartbeats 4000000
namespace L2.Stg
open PySem PySem.Spec PyProof.Rows
end L2.Stg
set_option Elab.async false
set_option linter.all false
set_option maxRecDepth 100000
set_option maxHeartbeats 4000000
namespace L2
open PySem PySem.Spec PyProof.Rows
section
open PySem.SeqAt
open PySem.AutoSeq1 (wpAny_loadPart')
open PySem.MeetsSeq PySem.MeetsSeq2 PySem.MeetsSeq3
end
end L2
set_option Elab.async false
set_option linter.all false
set_option maxRecDepth 100000
set_option maxHeartbeats 4000000
namespace L2
open PySem PySem.Spec PyProof.Rows
variable {K:PySem.W.Frag} {X:Cx}
end L2
set_option Elab.async false
set_option linter.all false
set_option maxRecDepth 100000
set_option maxHeartbeats 4000000
namespace L2
open PySem PySem.Spec PyProof.Rows
end L2
set_option Elab.async false
set_option linter.all false
set_option maxRecDepth 100000
set_option maxHeartbeats 4000000
namespace L2
open PySem PySem.Spec PyProof.Rows
end L2
set_option Elab.async false
set_option linter.all false
set_option maxRecDepth 100000
set_option maxHeartbeats 4000000
namespace L2.Stm
open PySem PySem.Spec PyProof.Rows
end L2.Stm
set_option Elab.async false
set_option linter.all false
set_option maxRecDepth 100000
set_option maxHeartbeats 4000000
namespace L2.Stm
open PySem PySem.Spec PyProof.Rows
end L2.Stm
set_option Elab.async false
set_option linter.all false
set_option maxRecDepth 100000
set_option maxHeartbeats 4000000
namespace L2.Stm
open PySem PySem.Spec PyProof.Rows
end L2.Stm
set_option Elab.async false
set_option linter.all false
set_option maxRecDepth 100000
set_option maxHeartbeats 4000000
namespace L2.Stm
open PySem PySem.Spec PyProof.Rows
end L2.Stm
set_option Elab.async false
set_option linter.all false
set_option maxRecDepth 100000
set_option maxHeartbeats 4000000
namespace L2.Stm
open PySem PySem.Spec PyProof.Rows
end L2.Stm
set_option Elab.async false
set_option linter.all false
set_option maxRecDepth 100000
set_option maxHeartbeats 4000000
namespace L2.Stm
open PySem PySem.Spec PyProof.Rows
end L2.Stm
set_option Elab.async false
set_option linter.all false
set_option maxRecDepth 100000
set_option maxHeartbeats 400000
namespace L2.Stm
open PySem PySem.Spec PyProof.Rows
end L2.Stm
set_option Elab.async false
set_option linter.all false
set_option maxRecDepth 100000
set_option maxHeartbeats 1000000
namespace L2.Stm
open PySem PySem.Spec PyProof.Rows
end L2.Stm
set_option Elab.async false
set_option linter.all false
set_option maxRecDepth 100000
set_option maxHeartbeats 1000000
namespace L2.Stm
open PySem PySem.Spec PyProof.Rows
end L2.Stm
set_option Elab.async false
set_option linter.all false
set_option maxRecDepth 100000
set_option maxHeartbeats 1000000
namespace L2.Stm
open PySem PySem.Spec PyProof.Rows
end L2.Stm
set_option Elab.async false
set_option linter.all false
set_option maxRecDepth 100000
set_option maxHeartbeats 1000000
namespace L2.Stm
open PySem PySem.Spec PyProof.Rows
end L2.Stm
set_option Elab.async false
set_option linter.all false
set_option maxRecDepth 100000
set_option maxHeartbeats 4000000
namespace L2
open PySem PySem.Spec PyProof.Rows
variable {K:PySem.W.Frag} {X:Cx}
end L2
set_option Elab.async false
set_option linter.all false
set_option maxRecDepth 100000
set_option maxHeartbeats 1000000
namespace L2
open PySem PySem.Spec PyProof.Rows
end L2
set_option Elab.async false
set_option linter.all false
set_option maxRecDepth 100000
set_option maxHeartbeats 1000000
namespace L2
open PySem PySem.Spec PyProof.Rows
section
variable {P:Program} {w:World} {A:Around} {E:Value→Shared→Prop}
theorem itm_next {it d:Addr} {i ep:Nat} {o:Obj} {es:Array DictEntry} {k0 v0:Value} {Q:Option Value→Shared→Prop} {hp:Heap} {g dr tk os} (st:IsItemIter hp it d i es.size ep k0 v0) (ho:hp.get? d=some o) (hd:o.data=.dict es ep) (hi:i<es.size)
    (hQ:∀ h',IsItemIterOut h' it d (i+1) es.size ep es[i].key es[i].val hp.objs.size→h'.get? hp.objs.size=some { cls:=.type "tuple",data:=.seq #[es[i].key,es[i].val] }→(∀ b o,b≠it→hp.get? b=some o→h'.get? b=some o)→Q (some (.ref hp.objs.size)) ⟨h',g,dr,tk,os⟩) :
    wpAny (model P w) A (pyNext (.ref it)) Q E ⟨hp,g,dr,tk,os⟩:=by
  have ty:∀ {h:Heap} {i:Nat} {k v:Value},IsItemIter h it d i es.size ep k v→Shared.TypeIs ⟨h,g,dr,tk,os⟩ (.ref it) "dict_itemiterator" := fun q=>⟨_,q,rfl⟩
  have own:Builtin.Dict_items.ownsTuple "dict_itemiterator" = true:=by decide
  unfold pyNext; refine wpAny_bind (wpAny_attempt (wpAny_callSpecial?_slot (name:=Str.ofString "__next__") (ty st) PySem.F.slot_dict_itemiterator_next (wpAny_call_entry PySem.F.slot_dict_itemiterator_next (ty st) PySem.F.entry_dict_itemiterator_next ?_ (PySem.F.args_dict_itemiterator_next_1 _))))
  refine wpAny_bind (wpAny_pure (wpAny_bind (wpAny_bind ?_)))
  first | refine wpAny_bind (wpAny_typeNameOfWhole_itemiter (ty st) (wpAny_pure (wpAny_bind (wpAny_fieldsOf st rfl ?_)))) | refine wpAny_bind (wpAny_typeNameOf_itemiter (ty st) (wpAny_pure (wpAny_bind (wpAny_fieldsOf st rfl ?_))))
  simp only [own,if_true]
  show wpAny _ _ (ite ((Value.ref d == Value.none)=true) _ _) _ _ _; rw [if_neg (show ¬ ((Value.ref d == Value.none)=true) from Bool.false_ne_true)]
  refine wpAny_bind (wpAny_pure (wpAny_bind (wpAny_dictEntries ho hd ?_))); rw [if_neg (by simp)]
  refine wpAny_bind (wpAny_pure (wpAny_bind (wpAny_dictEpoch ho hd ?_))); rw [if_neg (by simp)]
  refine wpAny_pure ?_
  simp only [show ¬ ((i:Int)<0) from by omega,if_false,Int.toNat_natCast,Array.getElem?_eq_getElem hi]
  refine wpAny_bind ?_
  first | refine wpAny_bind (wpAny_typeNameOfWhole_itemiter (ty st) (wpAny_pure (wpAny_bind (wpAny_isOneOf_itemiter (ty st) ?_)))) | refine wpAny_bind (wpAny_typeNameOf_itemiter (ty st) (wpAny_pure (wpAny_bind (wpAny_isOneOf_itemiter (ty st) ?_))))
  show wpAny _ _ (setField (.ref it) 3 (rawInt ((i:Int)+1)) >>= _) _ _ ⟨hp,g,dr,tk,os⟩; refine wpAny_bind (wpAny_setField_rec st (by simp) fun h1 e1 s1=>?_)
  replace s1:Heap.SameBut it hp h1:=s1; replace e1:IsItemIter h1 it d (i+1) es.size ep k0 v0:=by
    have e:((i+1:Nat):Int)=(i:Int)+1:=by omega
    unfold IsItemIter; rw [e]; simpa [rawInt] using e1
  refine wpAny_bind (wpAny_holding (wpAny_bind (wpAny_isOneOf_itemiter (ty e1) (wpAny_bind (wpAny_isOneOf_itemiter (ty e1) ?_)))))
  show wpAny _ _ (Builtin.Dict_items.pairFromOwner (.ref it) 6 es[i].key es[i].val) _ _ ⟨h1,g,dr,tk,os⟩; unfold Builtin.Dict_items.pairFromOwner; refine wpAny_bind (wpAny_newTuple ?_)
  have sz:h1.objs.size=hp.objs.size:=s1.1
  have lt:it<hp.objs.size:=Heap.lt_size st
  have e2:IsItemIter (h1.push { cls:=.type "tuple",data:=.seq #[es[i].key,es[i].val] }) it d (i+1) es.size ep k0 v0:=Heap.get?_push_of_some _ e1
  have t2:(h1.push { cls:=.type "tuple",data:=.seq #[es[i].key,es[i].val] }).get? hp.objs.size=some { cls:=.type "tuple",data:=.seq #[es[i].key,es[i].val] }:=by rw [← sz]; exact Heap.get?_push_size _ rfl
  have b2:∀ b o,b≠it→hp.get? b=some o→(h1.push { cls:=.type "tuple",data:=.seq #[es[i].key,es[i].val] }).get? b=some o:=fun b o hb e=>Heap.get?_push_of_some _ (s1.extBut b o hb e)
  generalize h1.push { cls:=.type "tuple",data:=.seq #[es[i].key,es[i].val] }=h2 at *
  rw [sz]; show wpAny _ _ (Builtin.Dict_items.ownedTupleIsFree (.ref it) >>= _) _ _ ⟨h2,g,dr,tk,os⟩
  refine wpAny_bind ?_; unfold Builtin.Dict_items.ownedTupleIsFree; refine wpAny_bind (wpAny_field e2 rfl (x:=.none) rfl (wpAny_pure ?_)); simp only [if_true]
  refine wpAny_bind (wpAny_field e2 rfl (x:=k0) rfl (wpAny_bind (wpAny_field e2 rfl (x:=v0) rfl ?_)))
  refine wpAny_bind (wpAny_setField_rec e2 (by simp) fun h3 e3 s3=>?_)
  have e3:IsItemIter h3 it d (i+1) es.size ep es[i].key v0:=e3
  refine wpAny_bind (wpAny_setField_rec e3 (by simp) fun h4 e4 s4=>?_)
  have e4:IsItemIter h4 it d (i+1) es.size ep es[i].key es[i].val:=e4
  refine wpAny_bind (wpAny_setField_rec e4 (by simp) fun h5 e5 s5=>?_)
  have e5:IsItemIterOut h5 it d (i+1) es.size ep es[i].key es[i].val hp.objs.size:=e5
  refine wpAny_bind (wpAny_setField_rec e5 (by simp) fun h6 e6 s6=>?_)
  have e6:IsItemIterOut h6 it d (i+1) es.size ep es[i].key es[i].val hp.objs.size:=e6
  have up:∀ b o,b≠it→h2.get? b=some o→h6.get? b=some o:=fun b o hb e=>Heap.SameBut.extBut s6 b o hb (Heap.SameBut.extBut s5 b o hb (Heap.SameBut.extBut s4 b o hb (Heap.SameBut.extBut s3 b o hb e)))
  exact wpAny_bind (wpAny_letGo (wpAny_pure (wpAny_pure ⟨_,rfl,wpAny_pure (hQ h6 e6 (up _ _ (Nat.ne_of_gt lt) t2) fun b o hb e=>up b o hb (b2 b o hb e))⟩)))
theorem itm_end {it d:Addr} {i ep:Nat} {o:Obj} {es:Array DictEntry} {k0 v0:Value} {Q:Option Value→Shared→Prop} {s:Shared} (hA:A.handled=none) (st:IsItemIter s.heap it d i es.size ep k0 v0) (ho:s.heap.get? d=some o) (hd:o.data=.dict es ep) (hi:es.size≤i)
    (hQ:∀ h',Heap.ExtBut it s.heap h'→Q none { s with heap:=h' }):wpAny (model P w) A (pyNext (.ref it)) Q E s:=by
  have ty:s.TypeIs (.ref it) "dict_itemiterator" := ⟨_,st,rfl⟩
  have own:Builtin.Dict_items.ownsTuple "dict_itemiterator" = true:=by decide
  unfold pyNext; refine wpAny_bind (wpAny_attempt (wpAny_callSpecial?_slot (name:=Str.ofString "__next__") ty PySem.F.slot_dict_itemiterator_next (wpAny_call_entry PySem.F.slot_dict_itemiterator_next ty PySem.F.entry_dict_itemiterator_next ?_ (PySem.F.args_dict_itemiterator_next_1 _))))
  refine wpAny_bind (wpAny_pure (wpAny_bind (wpAny_bind ?_)))
  first | refine wpAny_bind (wpAny_typeNameOfWhole_itemiter ty (wpAny_pure (wpAny_bind (wpAny_fieldsOf st rfl ?_)))) | refine wpAny_bind (wpAny_typeNameOf_itemiter ty (wpAny_pure (wpAny_bind (wpAny_fieldsOf st rfl ?_))))
  simp only [own,if_true]
  show wpAny _ _ (ite ((Value.ref d == Value.none)=true) _ _) _ _ s; rw [if_neg (show ¬ ((Value.ref d == Value.none)=true) from Bool.false_ne_true)]
  refine wpAny_bind (wpAny_pure (wpAny_bind (wpAny_dictEntries ho hd ?_))); rw [if_neg (by simp)]
  refine wpAny_bind (wpAny_pure (wpAny_bind (wpAny_dictEpoch ho hd ?_))); rw [if_neg (by simp)]
  refine wpAny_pure ?_
  simp only [show ¬ ((i:Int)<0) from by omega,if_false,Int.toNat_natCast,Array.getElem?_eq_none hi]
  refine wpAny_bind ?_
  first | refine wpAny_bind (wpAny_typeNameOfWhole_itemiter ty (wpAny_pure ?_)) | refine wpAny_bind (wpAny_typeNameOf_itemiter ty (wpAny_pure ?_))
  show wpAny _ _ (setField (.ref it) 2 .none >>= _) _ _ s; refine wpAny_bind (wpAny_setField st rfl (by simp) ?_)
  show wpAny _ _ (newExc (.type "StopIteration") [] >>= _) _ _ _; refine wpAny_bind ?_; simp only [newExc,newTuple]
  refine wpAny_bind (wpAny_newObj_type (wpAny_bind (m:=firstArgMember _ _) (wpAny_of_eq (a:=Value.none) (by first | rfl | (simp only [firstArgMember]; rfl)) (wpAny_newObj_type ?_ (by size_fits)))) (by size_fits))
  simp only [raiseNew]; refine wpAny_bind (wpAny_handled ?_); rw [show A.in1.handled=none from hA]
  refine wpAny_bind (wpAny_pure (wpAny_throw ?_)); refine wpAny_bind (wpAny_isInstance (T := "StopIteration") (b:=true) ⟨_,Heap.get?_push_size _ rfl,rfl⟩ isSubtype_stop ?_)
  exact wpAny_pure (hQ _ (((Heap.SameBut.update ..).extBut.push _).push _))
end
section
variable {X:Cx} {pins:List (Addr×Obj)} {σ:St} {H:Hp} {s:Shared} {d:Addr} {kvs:List (List Key×V)} {o:Obj}
theorem Inv.frozenT (I:Inv X pins σ H s) (h:H d=some (.dT kvs)) (ho:s.heap.get? d=some o):Inv X pins σ (upd H d (.frz o (.dT kvs))) s:=by
  have ne:∀ b u,H b=some u→u≠.dT kvs→b≠d:=fun b u e n z=>by rw [z,h] at e; exact n (Option.some.inj e).symm
  have nn:∀ b,H b=none→b≠d:=fun b e z=>by rw [z,h] at e; cases e
  have stay:∀ b u,H b=some u→ObjOk X.prog X.w (upd H d (.frz o (.dT kvs))) s.heap b u:=fun b u e=>(I.hok b u e).stay (fun _ _ _ z=>z) (fun c z=>by rw [upd_ne (ne c _ z (by intro y; cases y))]; exact z) (fun c xs z=>by rw [upd_ne (ne c _ z (by intro y; cases y))]; exact z) fun c oz z=>by rw [upd_ne (ne c _ z (by intro y; cases y))]; exact z
  have q:=I.step (g':=s.gens) (t':=s.toks) (d':=s.drawn) (ch:=[]) (h':=s.heap) (H':=upd H d (.frz o (.dT kvs))) (fun _ z=>nomatch z) (fun b o' _ _ _ e _=>e) (fun b o' _ _ _ e _=>⟨o'.slots,e⟩) (fun b o' _ _ n=>by rw [upd_ne (nn b n)]; exact n) (fun b o' _ e=>⟨o',e⟩)
    (fun b xs e=>by rw [upd_ne (ne b _ e (by intro z; cases z))]; exact e) (fun b o' u e=>by rw [upd_ne (ne b _ e (by intro z; cases z))]; exact e) (fun b _ _ e=>by rw [upd_ne (ne b _ e (by intro z; cases z))]; exact e) (fun m hm=>hm) (fun b u e=>?_) I.bare
  · exact q
  · by_cases hb:b=d
    · subst hb
      rw [upd_same] at e
      cases e
      exact ⟨ho,stay b _ h⟩
    · rw [upd_ne hb] at e
      exact stay b u e
end
def Itp (d:Addr) (o:Obj) (kvs:List (List Key×V)):It :=
  ⟨fun i H=>H d=some (.frz o (.dT kvs))∧i<kvs.length,fun i H x H'=>∃ (t a:Addr) (k:List Key) (v:V),kvs[i]?=some (k,v)∧H a=some (.tup (k.map kV))∧H t=none∧x=.ref t∧H'=upd H t (.tup [.ref a,v]),fun i H=>H d=some (.frz o (.dT kvs))∧kvs.length≤i⟩
theorem kt_at {H:Hp}:∀ {kvs:List (List Key×V)} {xs:List (List Key×Addr×Value)},KT H kvs xs→kvs.length=xs.length∧∀ (i:Nat) (q:List Key×Addr×Value),xs[i]?=some q→∃ v,kvs[i]?=some (q.1,v)∧H q.2.1=some (.tup (q.1.map kV))∧RelV v q.2.2:=fun {kvs xs} r=>by
  induction r with
  | nil=>exact ⟨rfl,fun i q h=>by simp at h⟩
  | @cons p q ps qs hq t ih =>
    refine ⟨by rw [List.length_cons,List.length_cons,ih.1],fun i q' h=>?_⟩
    cases i with
    | zero =>
      have e:q=q':=by simpa using h
      subst e
      obtain ⟨p1,p2⟩:=p
      obtain ⟨h1,h2,h3⟩:=hq
      have h1:p1=q.1:=h1
      subst h1
      exact ⟨p2,rfl,h2,h3⟩
    | succ i =>
      obtain ⟨v,h1,h2⟩:=ih.2 i q' (by simpa using h)
      exact ⟨v,by simpa using h1,h2⟩
theorem dt_at {P:Program} {w:World} {H:Hp} {h:Heap} {d:Addr} {o:Obj} {kvs:List (List Key×V)} (q:ObjOk P w H h d (.frz o (.dT kvs))):h.get? d=some o∧∃ (es:Array DictEntry) (ep:Nat),o.data=.dict es ep∧es.size=kvs.length∧∀ (i:Nat) (hi:i<es.size),∃ a k v,kvs[i]?=some (k,v)∧es[i].key=.ref a∧H a=some (.tup (k.map kV))∧RelV v es[i].val:=by
  obtain ⟨ho,_,hs,xs,r,o',es,ep,h1,h2,h3,h4,_⟩:=q
  rw [ho] at h1; cases h1
  obtain ⟨l1,l2⟩:=kt_at r
  have sz:es.size=xs.length:=by rw [← Array.length_toList,h4,List.length_map]
  refine ⟨ho,es,ep,h3,by rw [sz,l1],fun i hi=>?_⟩
  have hx:xs[i]?=some xs[i]:=List.getElem?_eq_getElem (by omega)
  obtain ⟨v,v1,v2,v3⟩:=l2 i _ hx
  have e:es[i]=entryOfKey (tupleKind (mixKind P w)) xs[i]:=by
    have:es.toList[i]?=(xs.map (entryOfKey (tupleKind (mixKind P w))))[i]?:=by rw [h4]
    rw [List.getElem?_map,hx,Array.getElem?_toList,Array.getElem?_eq_getElem hi] at this
    exact Option.some.inj this
  rw [e]
  exact ⟨xs[i].2.1,xs[i].1,v,v1,rfl,v2,v3⟩
theorem turn_items {P:Program} {w:World} {K:PySem.W.Frag} {elts:List Expr} {x1} {pos:Pos} (d it:Addr) {o:Obj} {kvs:List (List Key×V)} {es:Array DictEntry} {ep:Nat} (he:o.data=.dict es ep) (hz:es.size=kvs.length):Turn P w K (.Tuple elts x1 pos) (Itp d o kvs) [it] it (fun i h=>∃ k0 v0,IsItemIter h it d i es.size ep k0 v0) where
  mem:=by simp
  obj:=fun i h st b hb=>by
    have e:b=it:=by simpa using hb
    subst e
    obtain ⟨k0,v0,st⟩:=st
    exact ⟨_,st,fun v z=>by cases z⟩
  keep:=fun i h h' ⟨k0,v0,st⟩ k=>⟨k0,v0,k it (by simp) _ st⟩
  item:=by
    intro X hP hw hK hc i pins s σ H E I hf st hg
    subst hP hw hK
    obtain ⟨hd,hi⟩:=hg
    obtain ⟨k0,v0,st⟩:=st
    obtain ⟨ho,es',ep',he',_,ent⟩:=dt_at (I.hok d _ hd)
    rw [he] at he'
    cases he'
    obtain ⟨a,k,v,hk,ek,ha,rv⟩:=ent i (by omega)
    obtain ⟨hp,g,dr,tk,os⟩:=s
    refine itm_next st ho he (by omega) fun h' a1 a2 a3=>⟨.ref hp.objs.size,rfl,?_⟩
    refine wpAny_letOwnedTupleGo_items a1 fun h2' hz' hs'=>?_
    have itlt:it<hp.objs.size:=Heap.lt_size st
    have kk:∀ c o,c∉[it]→hp.get? c=some o→h2'.get? c=some o:=fun c o hc e=>by
      have hc:c≠it:=by simpa using hc
      exact hs'.extBut c o hc (a3 c o hc e)
    have tp:h2'.get? hp.objs.size=some { cls:=.type "tuple",data:=.seq #[es[i].key,es[i].val] }:=hs'.extBut _ _ (Nat.ne_of_gt itlt) a2
    have I1:Inv X pins σ (upd H hp.objs.size (.tup [.ref a,v])) { (⟨hp,g,dr,tk,os⟩:Shared) with heap:=h2',toks:=tk } :=
      I.laidCh hf kk ⟨by show 2≤sizeLine; decide,[es[i].key,es[i].val],.cons ek (.cons rv .nil),⟨_,tp,rfl,_,rfl⟩⟩
    have fr:H hp.objs.size=none:=I.hok.fresh (Nat.le_refl _)
    refine ⟨.ref hp.objs.size,_,I1,rfl,⟨_,a,k,v,hk,ha,fr,rfl,rfl⟩,⟨_,_,hz'⟩,fun c hc=>?_⟩
    have e:c=it:=by simpa using hc
    subst e
    rw [upd_ne (Nat.ne_of_lt itlt)]
    exact (hf c hc).1
  done:=by
    intro X hP hw hK hc i pins s σ H E I hf st hg
    subst hP hw hK
    obtain ⟨hd,hi⟩:=hg
    obtain ⟨k0,v0,st⟩:=st
    obtain ⟨ho,_⟩:=dt_at (I.hok d _ hd)
    refine itm_end (I.ok.hd hc) st ho he (by omega) fun h' eb=>⟨rfl,I.turnedCh (t':=s.toks) hf fun c o hc e=>eb c o (by simpa using hc) e⟩
  self:=fun A i s Q E ⟨k0,v0,st⟩ h=>by
    exact PySem.W.kcp_self st h
theorem meets_itemsT {P:Program} {w:World} (d:Addr) (hd:(d == sysModules)=false) :
    MeetsIn P w (Builtin.«dict.items» ⟨[.ref d],[]⟩) (fun _ R s=>s.TypeIs (.ref d) "dict" ∧ R (.ok (.ret (.ref s.heap.objs.size))) { s with heap:=s.heap.push { cls:=.type "dict_items",data:=.fields #[.ref d] } }) :=
  .of_wp fun A R s ⟨ty,h⟩=>by
    unfold Builtin.«dict.items»; refine wpAny_bind ?_; unfold Builtin.Dict.noArgs; refine wpAny_bind (wpAny_notOrdered_dict ty ?_); show wpAny _ _ (pure d) _ _ s
    refine wpAny_pure ?_; show wpAny _ _ (Builtin.Dict.showsAll d >>= _) _ _ s; unfold Builtin.Dict.showsAll; rw [if_neg (by rw [hd]; exact Bool.false_ne_true)]
    exact wpAny_bind (wpAny_pure (wpAny_bind (wpAny_newObj_type (wpAny_pure ⟨_,rfl,h⟩))))
theorem iter_itemsT {P:Program} {w:World} {A:Around} {E:Value→Shared→Prop} {s:Shared} {v d:Addr} {o:Obj} {es:Array DictEntry} {ep:Nat} {Q:Value→Shared→Prop} (hv:s.heap.IsItemsView v d) (ho:s.heap.get? d=some o) (hd:o.data=.dict es ep)
    (hQ:∀ h':Heap,IsItemIter h' s.heap.objs.size d 0 es.size ep .none .none→(∀ b o,s.heap.get? b=some o→h'.get? b=some o)→s.heap.objs.size≤h'.objs.size→Q (.ref s.heap.objs.size) { s with heap:=h' }):wpAny (model P w) A (pyIter (.ref v)) Q E s:=by
  obtain ⟨ov,hov,hcv,hdv⟩:=id hv
  have own:Builtin.Dict_items.ownsTuple "dict_itemiterator" = true:=by decide
  refine wpAny_pyIter_slot hv.typeIs PySem.F.slot_dict_items_iter (wpAny_call_entry PySem.F.slot_dict_items_iter hv.typeIs PySem.F.entry_dict_items_iter ?_ (PySem.F.args_dict_items_iter_1 _)); unfold Builtin.«dict_items.__iter__»
  refine wpAny_bind (wpAny_pure (wpAny_bind ?_)); unfold Builtin.Dict_items.dictOf; refine wpAny_bind (wpAny_field hov hdv (x:=.ref d) rfl (wpAny_pure (wpAny_bind ?_)))
  unfold Builtin.Dict_items.newIterator; refine wpAny_bind (wpAny_dictEntries ho hd (wpAny_bind (wpAny_dictEpoch ho hd ?_)))
  simp only [own,if_true]
  refine wpAny_newObj_type (wpAny_pure ⟨_,rfl, "dict_itemiterator",_,⟨_,Heap.get?_push_size _ rfl,rfl⟩,PySem.F.slot_dict_itemiterator_next.lookup,?_⟩) (by simp only [sizeOk,Builtin.Dict_items.ownedTupleFields,List.size_toArray,List.length_append,List.length_cons,List.length_nil,sizeLine_eq]; omega)
  have q:=hQ (s.heap.push { cls:=.type "dict_itemiterator",data:=.fields #[.none,.bool false,.ref d,.int 0 0,.int es.size 0,.int ep 0,.none,.none] }) (Heap.get?_push_size _ rfl) (fun b o e=>Heap.get?_push_of_some _ e) (by rw [Heap.size_push]; exact Nat.le_succ _)
  simpa [rawInt,Builtin.Dict_items.ownedTupleFields] using q
section
variable {X:Cx} {elts:List Expr} {x1:Nat} {tpos:Pos}
def iItems (tl:TE):TI:=fun σ H R=>tl σ H fun x H1=>∃ d kvs,x=.ref d∧H1 d=some (.dT kvs)∧∀ o,R (Itp d o kvs) (upd H1 d (.frz o (.dT kvs)))
theorem pi_items {l:Expr} {tl:TE} {apos cpos:Pos} {x1} (hl:PE X l tl) (hbase:attributeBase l "items" X.env (eval l X.env)=eval l X.env:=by rfl) (hline:(apos.endLine == cpos.line)=true:=by rfl):PI X (.Tuple elts x1 tpos) (.Call (.Attribute l "items" apos) [] [] cpos) (iItems tl):=by
  intro pins s σ H R I h
  refine wpAny_Call_method0_late hbase hline (thn (hl pins s σ H _ I h) fun v s1 ⟨x,H1,I1,r1,q1⟩=>?_)
  obtain ⟨d,kvs,e,hd,q⟩:=q1
  subst e
  cases r1
  obtain ⟨t1,t2,_⟩:=isD_at I1 (.inr ⟨kvs,.inl hd⟩)
  obtain ⟨hz,hs,_,_,o,_,_,ho,_⟩:=I1.hok d _ hd
  have I0:=I1.frozenT hd ho
  obtain ⟨_,es,ep,he,sz,_⟩:=dt_at (I0.hok d _ upd_same)
  refine ⟨"dict", "dict.items",PySem.F.plainAttrs_dict,PySem.F.slot_dict_items,PySem.F.type_dict_items,t1,t2,Calls.callWith_builtin rfl (PySem.evalArgs_none ?_)⟩
  refine call_meetsIn PySem.F.slot_dict_items t1 PySem.F.entry_dict_items (PySem.F.args_dict_items_1 _) (meets_itemsT d hs) ⟨t1,?_⟩
  generalize hh:s1.heap.push { cls:=.type "dict_items",data:=.fields #[.ref d] }=h2
  have up:∀ b o,s1.heap.get? b=some o→h2.get? b=some o:=fun b o e=>by rw [← hh]; exact Heap.get?_push_of_some _ e
  have hv:h2.IsItemsView s1.heap.objs.size d:=by rw [← hh]; exact ⟨_,Heap.get?_push_size _ rfl,rfl,rfl⟩
  have I2:Inv X pins σ (upd H1 d (.frz o (.dT kvs))) { s1 with heap:=h2 }:=I0.kept (t':=s1.toks) fun b o e=>up b o e
  refine iter_itemsT (s:={ s1 with heap:=h2 }) hv (up _ _ ho) he fun h3 st up3 sz3=>?_
  refine ⟨h2.objs.size,[h2.objs.size],_,_,_,rfl,I2.kept (t':=s1.toks) fun b o e=>up3 b o e,turn_items d _ (kvs:=kvs) he sz,⟨_,_,st⟩,fun b hb=>?_,q o⟩
  have e:b=h2.objs.size:=by simpa using hb
  subst e
  exact I2.fpOk (Nat.le_refl _) (I2.hok.fresh (Nat.le_refl _))
end
theorem for_items {d:Addr} {o:Obj} {kvs:List (List Key×V)} {g:TG} {tb:TS} {D:Ends} {σ:St} {H:Hp} (Pv:Nat→St→Hp→Prop) (h0:Pv 0 σ H) (hl:∀ i σ H,i≤kvs.length→Pv i σ H→H d=some (.frz o (.dT kvs)))
    (hs:∀ i k v a t σ H,kvs[i]?=some (k,v)→H a=some (.tup (k.map kV))→H t=none→Pv i σ H→g (.ref t) σ (upd H t (.tup [.ref a,v])) fun σ2 H2=>tb { D with nx:=Pv (i+1),ct:=Pv (i+1),bk:=D.nx } σ2 H2) (hd:∀ σ H,Pv kvs.length σ H→D.nx σ H) :
    ∃ W:Nat→Nat→St→Hp→Prop,(∃ m,W 0 m σ H)∧∀ i m σ H,W i m σ H →
      ((Itp d o kvs).stop i H∧D.nx σ H)∨((Itp d o kvs).go i H∧∃ N:St→Hp→Prop,(∀ σ' H',N σ' H'→∃ m',m'<m∧W (i+1) m' σ' H')∧∀ x H',(Itp d o kvs).yld i H x H'→g x σ H' fun σ2 H2=>tb { D with nx:=N,ct:=N,bk:=D.nx } σ2 H2):=by
  refine ⟨fun i m σ H=>m=kvs.length - i∧i≤kvs.length∧Pv i σ H,⟨kvs.length,by simp,Nat.zero_le _,h0⟩,?_⟩
  rintro i m σ H ⟨rfl,hi,p⟩
  have q:=hl i σ H hi p
  by_cases hlt:i<kvs.length
  · refine .inr ⟨⟨q,hlt⟩,Pv (i+1),fun σ' H' z=>⟨kvs.length - (i+1),by omega,rfl,by omega,z⟩,fun x H' z=>?_⟩
    obtain ⟨t,a,k,v,hkv,ha,ht,rfl,rfl⟩:=z
    exact hs i k v a t σ H hkv ha ht p
  · have e:i=kvs.length:=by omega
    subst e
    exact .inl ⟨⟨q,Nat.le_refl _⟩,hd σ H p⟩
end L2
set_option Elab.async false
set_option linter.all false
set_option maxRecDepth 100000
set_option maxHeartbeats 1000000
namespace L2
open PySem PySem.Spec PySem.Calls PyProof.Rows PySem.MeetsSeq PySem.W
section
variable {P:Program} {w:World} {A:Around} {E:Value→Shared→Prop} {s:Shared}
theorem collect_tup {l:Addr} {vs:List Value} {Q:List Value→Shared→Prop} (hl:s.heap.IsTuple l vs.toArray)
    (h:Q vs { s with heap:=(s.heap.push (seqObj "list" #[] 0)).update s.heap.objs.size (Obj.mapSeq (·++vs.toArray)) }) (hz:vs.length≤sizeLine):wpAny (model P w) A (collect (.ref l)) Q E s:=by
  obtain ⟨o,ho,hc,n,hd⟩:=id hl
  unfold collect; refine wpAny_bind (wpAny_runValue (codeAny_builtin entry_proto_collect' ?_)); show wpAny _ _ (do again (.builtin "list.__iadd__" ⟨[← newList [],.ref l],[]⟩)) _ _ s
  refine wpAny_bind (wpAny_newList (wpAny_pure ⟨Code.quiet_builtin _ (by decide +kernel),codeAny_builtin entry_list_iadd' ?_⟩)); show wpAny _ _ (Builtin.List.listExtendWith (.ref s.heap.objs.size) (.ref l) (.ref s.heap.objs.size)) _ _ { s with heap:=s.heap.push (seqObj "list" #[] 0) }
  have ho':(s.heap.push (seqObj "list" #[] 0)).get? l=some o:=Heap.get?_push_of_some _ ho
  have ht:(Value.type "tuple" == Value.type "tuple")=true:=by decide
  unfold Builtin.List.listExtendWith; refine wpAny_bind (wpAny_typeOf (T := "tuple") ⟨o,ho',hc⟩ ?_); rw [if_pos (by rw [ht,Bool.or_true])]
  refine wpAny_bind (listItems_at ho' hd (wpAny_bind (listItems_at (xs:=#[]) (n:=0) (Heap.get?_push_size _ rfl) rfl ?_))); rw [if_neg (by simp)]
  refine wpAny_bind (listUpdate_at (xs:=#[]) (n:=0) (Heap.get?_push_size _ rfl) rfl (wpAny_pure ?_) (Nat.zero_le _) (by show (#[]++vs.toArray).size≤sizeLine+1; simp only [Array.size_append,List.size_toArray,List.length_nil]; omega))
  show wpAny (model P w) A (load s.heap.objs.size >>= fun o=>match o.data with | .seq xs _=>pure xs.toList | _=>unsupported "internal:collect") Q E { s with heap:=(s.heap.push (seqObj "list" #[] 0)).update s.heap.objs.size (Obj.mapSeq (·++vs.toArray)) }
  refine wpAny_bind (wpAny_load (get?_update_seq (Heap.get?_push_size _ rfl) _) ?_); show wpAny _ _ (pure ((#[]:Array Value)++vs.toArray).toList) Q E _; rw [show ((#[]:Array Value)++vs.toArray).toList=vs by simp]
  exact wpAny_pure h
theorem sorted_tup {l:Addr} {vs:List Value} {ns:List Int} {Q:Value→Shared→Prop} (hl:s.heap.IsTuple l vs.toArray) (hI:IntsAre vs ns) (h64:vs.length<64)
    (h:∀ (out:Array Value) (ns':List Int),IntsAre out.toList ns'→ns'.Perm ns→ns'.Pairwise (·≤·)→Q (.ref (s.heap.objs.size+1)) { s with heap:=sortedAll s.heap vs out }):wpAny (model P w) A (call (.builtin "sorted") [.ref l]) Q E s:=by
  refine Calls.call_function_entry kind_sorted plain_sorted entry_sorted (args_sorted1 _) ?_; unfold Builtin.«sorted»
  refine wpAny_bind (m:=checkCount "sorted" 1 1 _) (wpAny_pure (wpAny_bind (collect_tup hl (wpAny_bind (wpAny_newList ?_ (by rw [sizeLine_eq]; omega))) (by rw [sizeLine_eq]; omega))))
  generalize hG:(s.heap.push (seqObj "list" #[] 0)).update s.heap.objs.size (Obj.mapSeq (·++vs.toArray))=G at *
  have hsz:G.objs.size=s.heap.objs.size+1:=by rw [← hG,Heap.size_update,size_push']
  have hoL:(G.push (seqObj "list" vs.toArray 0)).get? (s.heap.objs.size+1)=some (seqObj "list" vs.toArray 0):=by rw [← hsz]; exact Heap.get?_push_size _ rfl
  show wpAny _ _ _ _ _ { s with heap:=G.push (seqObj "list" vs.toArray 0) }; rw [hsz]
  refine wpAny_bind (wpAny_holding (wpAny_call_entry slot_list_sort ⟨_,hoL,rfl⟩ entry_list_sort (list_sort_tree hoL hI h64 fun out ns' a1 a2 a3=>⟨_,rfl,?_⟩) (args_list_sort _)))
  have q:=h out ns' a1 a2 a3
  unfold sortedAll at q; rw [hG] at q
  exact wpAny_pure ⟨_,rfl,q⟩
end
section
variable {K:PySem.W.Frag} {X:Cx}
def rSortedU (K:PySem.W.Frag):List V→Hp→VK→Prop:=fun xs H Q=>∃ (p:Addr) (ns:List Int),xs=[.ref p]∧SqT K H p (ns.map V.int)∧ns.length<64 ∧
  ∀ (D:Addr) (os:List Int),H D=none→os.Perm ns→os.Pairwise (·≤·)→Q (.ref D) (upd H D (.lst (os.map V.int)))
theorem call_sortedU (hK:X.K=K):CallR X (.builtin "sorted") (rSortedU K):=by
  subst hK
  intro pins s σ H xs us Q I r h
  obtain ⟨p,ns,rfl,hq,h64,q⟩:=h
  obtain ⟨u,rfl,rx⟩:=vals1 r
  cases rx
  obtain ⟨its,rv,pl,hz⟩:=I.tuple hq
  have hv:=intsAre_of rv
  have lv:its.length=ns.length:=by have:=rv.length; rw [List.length_map] at this; exact this.symm
  refine sorted_tup (show s.heap.IsTuple p its.toArray from pl) hv (by omega) fun out ns' hi hp hs=>?_
  obtain ⟨e,he⟩:=sortedAll_at s.heap its out
  have fr:H (s.heap.objs.size+1)=none:=I.hok.fresh (Nat.le_succ _)
  have lo:=hp.length_eq
  refine ⟨.ref (s.heap.objs.size+1),_,I.laid (a:=s.heap.objs.size+1) (t':=s.toks) (o:=.lst (ns'.map V.int)) (fun b o z=>sortedAll_old z) (Nat.le_succ _) ⟨by rw [List.length_map,lo,sizeLine_eq]; omega,out.toList,e,vals_ints hi,he⟩,rfl,q _ ns' fr hp hs⟩
end
end L2
set_option Elab.async false
set_option linter.all false
set_option maxRecDepth 100000
set_option maxHeartbeats 1000000
namespace L2
open PySem PySem.Spec PySem.Calls PyProof.Rows PySem.MeetsSeq PySem.W
section
variable {P:Program} {w:World} {A:Around} {E:Value→Shared→Prop} {s:Shared} {it d:Addr} {i ep:Nat} {o:Obj} {es:Array DictEntry}
theorem val_next {Q:Option Value→Shared→Prop} (st:s.heap.IsValIter it d i es.size ep) (hod:s.heap.get? d=some o) (hdd:o.data=.dict es ep) (hi:i<es.size)
    (hQ:∀ h',h'.IsValIter it d (i+1) es.size ep→Heap.SameBut it s.heap h'→Q (some es[i].val) { s with heap:=h' }):wpAny (model P w) A (pyNext (.ref it)) Q E s:=by
  obtain ⟨u,hu,hc,hd⟩:=id st
  have own:Builtin.Dict_items.ownsTuple "dict_valueiterator" = false:=by decide
  unfold pyNext; refine wpAny_bind (wpAny_attempt (wpAny_callSpecial?_slot (name:=Str.ofString "__next__") st.typeIs PySem.F.slot_dict_valueiterator_next (wpAny_call_entry PySem.F.slot_dict_valueiterator_next st.typeIs PySem.F.entry_dict_valueiterator_next ?_ (PySem.F.args_dict_valueiterator_next_1 _))))
  refine wpAny_bind (wpAny_pure (wpAny_bind (wpAny_bind ?_)))
  first | refine wpAny_bind (wpAny_typeNameOfWhole_valiter st.typeIs (wpAny_pure (wpAny_bind (wpAny_fieldsOf hu hd ?_)))) | refine wpAny_bind (wpAny_typeNameOf_valiter st.typeIs (wpAny_pure (wpAny_bind (wpAny_fieldsOf hu hd ?_))))
  simp only [own,Bool.false_eq_true,if_false]
  show wpAny _ _ (ite ((Value.ref d == Value.none)=true) _ _) _ _ s; rw [if_neg (show ¬ ((Value.ref d == Value.none)=true) from Bool.false_ne_true)]
  refine wpAny_bind (wpAny_pure (wpAny_bind (wpAny_dictEntries hod hdd ?_))); rw [if_neg (by simp)]
  refine wpAny_bind (wpAny_pure (wpAny_bind (wpAny_dictEpoch hod hdd ?_))); rw [if_neg (by simp)]
  refine wpAny_pure ?_
  simp only [show ¬ ((i:Int)<0) from by omega,if_false,Int.toNat_natCast,Array.getElem?_eq_getElem hi]
  refine wpAny_bind ?_
  first | refine wpAny_bind (wpAny_typeNameOfWhole_valiter st.typeIs (wpAny_pure (wpAny_bind (wpAny_isOneOf_valiter st.typeIs ?_)))) | refine wpAny_bind (wpAny_typeNameOf_valiter st.typeIs (wpAny_pure (wpAny_bind (wpAny_isOneOf_valiter st.typeIs ?_))))
  show wpAny _ _ (setField (.ref it) 1 (rawInt ((i:Int)+1)) >>= _) _ _ s; refine wpAny_bind (wpAny_setField hu hd (by simp) ?_)
  have st':(s.heap.update it (Obj.mapFields (·.setIfInBounds 1 (rawInt ((i:Int)+1))))).IsValIter it d (i+1) es.size ep:=⟨_,Heap.get?_update_self _ hu (Obj.isFreed_of_fields (Obj.data_mapFields hd _)),(Obj.cls_mapFields ..).trans hc,by rw [Obj.data_mapFields hd]; simp [rawInt]⟩
  have sb:Heap.SameBut it s.heap (s.heap.update it (Obj.mapFields (·.setIfInBounds 1 (rawInt ((i:Int)+1))))):=Heap.SameBut.update ..
  generalize s.heap.update it (Obj.mapFields (·.setIfInBounds 1 (rawInt ((i:Int)+1))))=h1 at *
  refine wpAny_bind (wpAny_holding (wpAny_bind (wpAny_isOneOf_valiter (s:={ s with heap:=h1 }) st'.typeIs (wpAny_bind (wpAny_isOneOf_valiter (s:={ s with heap:=h1 }) st'.typeIs ?_)))))
  show wpAny _ _ (pure es[i].val) _ _ _; exact wpAny_pure (wpAny_pure ⟨_,rfl,wpAny_pure (hQ _ st' sb)⟩)
theorem val_end {Q:Option Value→Shared→Prop} (hA:A.handled=none) (st:s.heap.IsValIter it d i es.size ep) (hod:s.heap.get? d=some o) (hdd:o.data=.dict es ep) (hi:es.size≤i)
    (hQ:∀ h',Heap.ExtBut it s.heap h'→Q none { s with heap:=h' }):wpAny (model P w) A (pyNext (.ref it)) Q E s:=by
  obtain ⟨u,hu,hc,hd⟩:=id st
  have own:Builtin.Dict_items.ownsTuple "dict_valueiterator" = false:=by decide
  unfold pyNext; refine wpAny_bind (wpAny_attempt (wpAny_callSpecial?_slot (name:=Str.ofString "__next__") st.typeIs PySem.F.slot_dict_valueiterator_next (wpAny_call_entry PySem.F.slot_dict_valueiterator_next st.typeIs PySem.F.entry_dict_valueiterator_next ?_ (PySem.F.args_dict_valueiterator_next_1 _))))
  refine wpAny_bind (wpAny_pure (wpAny_bind (wpAny_bind ?_)))
  first | refine wpAny_bind (wpAny_typeNameOfWhole_valiter st.typeIs (wpAny_pure (wpAny_bind (wpAny_fieldsOf hu hd ?_)))) | refine wpAny_bind (wpAny_typeNameOf_valiter st.typeIs (wpAny_pure (wpAny_bind (wpAny_fieldsOf hu hd ?_))))
  simp only [own,Bool.false_eq_true,if_false]
  show wpAny _ _ (ite ((Value.ref d == Value.none)=true) _ _) _ _ s; rw [if_neg (show ¬ ((Value.ref d == Value.none)=true) from Bool.false_ne_true)]
  refine wpAny_bind (wpAny_pure (wpAny_bind (wpAny_dictEntries hod hdd ?_))); rw [if_neg (by simp)]
  refine wpAny_bind (wpAny_pure (wpAny_bind (wpAny_dictEpoch hod hdd ?_))); rw [if_neg (by simp)]
  refine wpAny_pure ?_
  simp only [show ¬ ((i:Int)<0) from by omega,if_false,Int.toNat_natCast,Array.getElem?_eq_none hi]
  refine wpAny_bind ?_
  first | refine wpAny_bind (wpAny_typeNameOfWhole_valiter st.typeIs (wpAny_pure ?_)) | refine wpAny_bind (wpAny_typeNameOf_valiter st.typeIs (wpAny_pure ?_))
  show wpAny _ _ (setField (.ref it) 0 .none >>= _) _ _ s; refine wpAny_bind (wpAny_setField hu hd (by simp) ?_)
  show wpAny _ _ (newExc (.type "StopIteration") [] >>= _) _ _ _; refine wpAny_bind ?_; simp only [newExc,newTuple]
  refine wpAny_bind (wpAny_newObj_type (wpAny_bind (m:=firstArgMember _ _) (wpAny_of_eq (a:=Value.none) (by first | rfl | (simp only [firstArgMember]; rfl)) (wpAny_newObj_type ?_ (by size_fits)))) (by size_fits))
  simp only [raiseNew]; refine wpAny_bind (wpAny_handled ?_); rw [show A.in1.handled=none from hA]
  refine wpAny_bind (wpAny_pure (wpAny_throw ?_)); refine wpAny_bind (wpAny_isInstance (T := "StopIteration") (b:=true) ⟨_,Heap.get?_push_size _ rfl,rfl⟩ isSubtype_stop ?_)
  exact wpAny_pure (hQ _ (((Heap.SameBut.update ..).extBut.push _).push _))
theorem iter_valsT {v:Addr} {Q:Value→Shared→Prop} (hv:s.heap.IsValuesView v d) (ho:s.heap.get? d=some o) (hd:o.data=.dict es ep)
    (hQ:Q (.ref s.heap.objs.size) { s with heap:=s.heap.push { cls:=.type "dict_valueiterator",data:=.fields #[.ref d,.int 0 0,.int es.size 0,.int ep 0] } }):wpAny (model P w) A (pyIter (.ref v)) Q E s:=by
  obtain ⟨ov,hov,hcv,hdv⟩:=id hv
  have own:Builtin.Dict_items.ownsTuple "dict_valueiterator" = false:=by decide
  refine wpAny_pyIter_slot hv.typeIs PySem.F.slot_dict_values_iter (wpAny_call_entry PySem.F.slot_dict_values_iter hv.typeIs PySem.F.entry_dict_values_iter ?_ (PySem.F.args_dict_values_iter_1 _)); unfold Builtin.«dict_values.__iter__»
  refine wpAny_bind (wpAny_pure (wpAny_bind ?_)); unfold Builtin.Dict_items.dictOf; refine wpAny_bind (wpAny_field hov hdv (x:=.ref d) rfl (wpAny_pure (wpAny_bind ?_)))
  unfold Builtin.Dict_items.newIterator; refine wpAny_bind (wpAny_dictEntries ho hd (wpAny_bind (wpAny_dictEpoch ho hd ?_)))
  simp only [own,Bool.false_eq_true,if_false]
  refine wpAny_newObj_type (wpAny_pure ⟨_,rfl, "dict_valueiterator",_,⟨_,Heap.get?_push_size _ rfl,rfl⟩,PySem.F.slot_dict_valueiterator_next.lookup,?_⟩)
  simpa [rawInt] using hQ
theorem walks_vals (hA:A.handled=none) (I d:Addr) (hne:d≠I) (hdd:o.data=.dict es ep):Walks P w A I [I,d] [I] es.size (fun i v=>∃ hi:i<es.size,v=es[i].val) (fun i h=>h.IsValIter I d i es.size ep∧h.get? d=some o) where
  sub:=fun b hb=>by simp at hb; simp [hb]
  frame:=fun _ _ _ st hk=>⟨st.1.at fun o e=>hk I (by simp) o e,hk d (by simp) _ st.2⟩
  item:=fun i s Q E hi st hQ=>val_next st.1 st.2 hdd hi fun h' st' hs'=>hQ _ h' s.toks ⟨hi,rfl⟩ ⟨st',hs'.extBut d _ hne st.2⟩ fun b o hb e=>hs'.extBut b o (fun h=>hb (by simp [h])) e
  done:=fun s Q E st hQ=>val_end hA st.1 st.2 hdd (Nat.le_refl _) fun h' he'=>hQ h' s.toks fun b o hb e=>he' b o (fun h=>hb (by simp [h])) e
  self:=fun _ _ _ _ st hQ=>wpAny_pyIter_valiter st.1 hQ
theorem src_vals {r:Addr} (hdd:o.data=.dict es ep):KdlSrc P w "dict_values" r d es.size (fun i v=>∃ hi:i<es.size,v=es[i].val) (fun h=>h.IsValuesView r d∧h.get? d=some o) where
  type:=fun _ hm=>hm.1.typeIs
  there:=fun _ hm=>by
    obtain ⟨⟨_,ho,_⟩,h2⟩:=hm
    exact ⟨Heap.lt_size ho,Heap.lt_size h2⟩
  keep:=fun _ _ hm hk=>by
    obtain ⟨⟨o,ho,x⟩,h2⟩:=hm
    exact ⟨⟨o,hk r (.inl rfl) o ho,x⟩,hk d (.inr rfl) _ h2⟩
  notList:=by decide
  notTuple:=by decide
  hint:=fun _ _ _ _ hm hq=>kdl_hint_values hm.1.typeIs hq
  iter:=fun _ _ hA hm=>⟨_,_,(fun _ _ hq=>iter_valsT hm.1 hm.2 hdd hq),walks_vals hA _ d (Nat.ne_of_lt (Heap.lt_size hm.2)) hdd,⟨⟨_,Heap.get?_push_size _ rfl,rfl,rfl⟩,Heap.get?_push_of_some _ hm.2⟩⟩
theorem meets_valsT (d:Addr) (hd:(d == sysModules)=false) :
    MeetsIn P w (Builtin.«dict.values» ⟨[.ref d],[]⟩) (fun _ R s=>s.TypeIs (.ref d) "dict" ∧ R (.ok (.ret (.ref s.heap.objs.size))) { s with heap:=s.heap.push { cls:=.type "dict_values",data:=.fields #[.ref d] } }) :=
  .of_wp fun A R s ⟨ty,h⟩=>by
    refine wpAny_bind ?_; unfold Builtin.Dict.noArgs; refine wpAny_bind (wpAny_notOrdered_dict ty ?_); show wpAny _ _ (pure d) _ _ s
    refine wpAny_pure ?_; show wpAny _ _ (Builtin.Dict.showsAll d >>= _) _ _ s; unfold Builtin.Dict.showsAll; rw [if_neg (by rw [hd]; exact Bool.false_ne_true)]
    exact wpAny_bind (wpAny_pure (wpAny_bind (wpAny_newObj_type (wpAny_pure ⟨_,rfl,h⟩))))
end
section
variable {X:Cx}
def VwAt (H:Hp) (v d:Addr):Prop:=H v=some (.ext fun h=>h.IsValuesView v d)
def tValsT (tl:TE):TE:=fun σ H Q=>tl σ H fun x H1=>∃ d kvs,x=.ref d∧H1 d=some (.dT kvs)∧∀ v,H1 v=none→Q (.ref v) (upd H1 v (.ext fun h=>h.IsValuesView v d))
theorem pe_valsT {l:Expr} {tl:TE} {apos cpos:Pos} (hl:PE X l tl) (hbase:attributeBase l "values" X.env (eval l X.env)=eval l X.env:=by rfl) (hline:(apos.endLine == cpos.line)=true:=by rfl):PE X (.Call (.Attribute l "values" apos) [] [] cpos) (tValsT tl):=by
  intro pins s σ H Q I h
  refine wpAny_Call_method0_late hbase hline (thn (hl pins s σ H _ I h) fun v s1 ⟨x,H1,I1,r1,q1⟩=>?_)
  obtain ⟨d,kvs,e,hd,q⟩:=q1
  subst e
  cases r1
  obtain ⟨t1,t2,_⟩:=isD_at I1 (.inr ⟨kvs,.inl hd⟩)
  obtain ⟨hz,hs,_⟩:=I1.hok d _ hd
  refine ⟨"dict", "dict.values",PySem.F.plainAttrs_dict,PySem.F.slot_dict_values,PySem.F.type_dict_values,t1,t2,Calls.callWith_builtin rfl (PySem.evalArgs_none ?_)⟩
  refine call_meetsIn PySem.F.slot_dict_values t1 PySem.F.entry_dict_values (PySem.F.args_dict_values_1 _) (meets_valsT d hs) ⟨t1,?_⟩
  refine ⟨.ref s1.heap.objs.size,_,I1.laid (a:=s1.heap.objs.size) (t':=s1.toks) (o:=.ext fun h=>h.IsValuesView s1.heap.objs.size d) (fun b o z=>Heap.get?_push_of_some _ z) (Nat.le_refl _) ⟨⟨_,Heap.get?_push_size _ rfl,rfl,rfl⟩,⟨_,Heap.get?_push_size _ rfl⟩,fun h1 h2 ⟨o,ho,x⟩ up=>⟨o,up o ho,x⟩⟩,rfl,q _ (I1.hok.fresh (Nat.le_refl _))⟩
def rListV:List V→Hp→VK→Prop:=fun xs H Q=>∃ (v d:Addr) (kvs:List (List Key×V)),xs=[.ref v]∧VwAt H v d∧H d=some (.dT kvs)∧∀ l,H l=none→Q (.ref l) (upd H l (.lst (kvs.map Prod.snd)))
theorem call_listV (hc:X.calm=true):CallR X (.type "list") rListV:=by
  intro pins s σ H xs us Q I r h
  obtain ⟨v,d,kvs,rfl,hv,hd,q⟩:=h
  obtain ⟨u,rfl,rx⟩:=vals1 r
  cases rx
  obtain ⟨hvw,_⟩:=I.hok v _ hv
  obtain ⟨hz,_,_,_,o,_,_,ho,_⟩:=id (I.hok d _ hd)
  obtain ⟨_,es,ep,he,sz,ent⟩:=dt_at (o:=o) (kvs:=kvs) (show ObjOk X.prog X.w H s.heap d (.frz o (.dT kvs)) from ⟨ho,I.hok d _ hd⟩)
  refine kdl_call (src_vals (r:=v) (d:=d) (o:=o) he) (I.ok.hd hc) ⟨hvw,ho⟩ (by omega) fun h' tk acc c' up hl hacc=>?_
  refine ⟨.ref s.heap.objs.size,_,I.laid (a:=s.heap.objs.size) (t':=tk) (o:=.lst (kvs.map Prod.snd)) up (Nat.le_refl _) ⟨by rw [List.length_map]; exact hz,acc.toList,c',vals_at (by have l3:acc.toList.length=acc.size:=Array.length_toList; have l4:=hacc.1; rw [List.length_map]; omega) fun i x u hx hu=>?_,by rw [Array.toArray_toList]; exact hl⟩,rfl,q _ (I.hok.fresh (Nat.le_refl _))⟩
  rw [Array.getElem?_toList] at hu
  obtain ⟨hi,e⟩:=hacc.2 i u hu
  obtain ⟨a,k,y,hk,_,_,ry⟩:=ent i hi
  rw [List.getElem?_map,hk] at hx
  cases hx
  rw [e]
  exact ry
end
end L2
set_option Elab.async false
set_option linter.all false
set_option maxRecDepth 100000
set_option maxHeartbeats 1000000
namespace L2
open PySem PySem.Spec PySem.Calls PyProof.Rows PySem.MeetsSeq PySem.W
section
variable {X:Cx} {pos:Pos} {k v:Expr} {tk tv:TE}
def tDisp1T (trs:List (TE×TE)):TE:=fun σ H Q=>∀ p,H p=none→tPairs trs σ (upd H p (.dT [])) fun ps H2=>H2 p=some (.dT [])∧∃ (b:Addr) (ks:List Key) (v:V),ps=[(.ref b,v)]∧H2 b=some (.tup (ks.map kV))∧Q (.ref p) (upd H2 p (.dT [(ks,v)]))
theorem pe_disp1T {trs:List (TE×TE)} (hu:X.A.units+1<cLine) (h:PPs X pos [some k] [v] trs):PE X (.Dict [some k] [v] pos) (tDisp1T trs):=by
  intro pins s σ H Q I q
  have hn:=I.hok.fresh (Nat.le_refl s.heap.objs.size)
  have I1:=I.laid (a:=s.heap.objs.size) (o:=.dT []) (h':=s.heap.push { cls:=.type "dict",data:=.dict #[] }) (t':=s.toks) (fun _ _ q=>Heap.get?_push_of_some _ q) (Nat.le_refl _) (dt_empty s.heap I.big)
  refine wpAny_Dict_any rfl rfl (by simp) (by simp) (thn (h pins _ σ _ _ I1 (q _ hn)) fun ws s2 ⟨ps,H2,I2,rel,e,b,ks,y,ep,eb,q2⟩=>?_)
  subst ep
  obtain ⟨⟨w1,w2⟩,rfl,r1,r2⟩:∃ p:Value×Value,ws=[p]∧RelV (.ref b) p.1∧RelV y p.2:=by
    cases rel with
    | cons hp t=>cases t; exact ⟨_,rfl,hp.1,hp.2⟩
  cases (show w1=Value.ref b from r1)
  obtain ⟨z,hd,xs,r0,dd⟩:=dt_of I2.hok e
  cases r0
  show wpAny _ _ (storeAll s.heap.objs.size [(Value.ref b,w2)]) _ _ s2
  unfold storeAll
  rw [List.forIn_cons]
  refine wpAny_bind (wpAny_bind (wpAny_dictSet_heap (knd:=tupleKind (mixKind X.prog X.w)) (by exact Nat.lt_of_succ_lt hu) (key_of I2.hok eb) dd (fun h' dd' hs=>wpAny_pure ?_) (by show 0≤sizeLine; decide)))
  show wpAny _ _ (forIn [] PUnit.unit _) _ _ _
  rw [List.forIn_nil]
  obtain ⟨q',es,ep,hq,h2,h3,h4,_,h5⟩:=dd'
  have ne:b≠s.heap.objs.size:=fun z=>by rw [z,e] at eb; cases eb
  refine wpAny_pure ⟨.ref s.heap.objs.size,_,d_write (ob:=.dT [(ks,y)]) I2 (by rw [e]; exact True.intro) hs ⟨q',hq⟩ ⟨by show 1≤sizeLine; decide,hd,_,.cons ⟨rfl,by rw [upd_ne ne]; exact eb,r2⟩ .nil,q',es,ep,hq,h2,h3,h4,h5⟩,rfl,q2⟩
end
end L2
set_option Elab.async false
set_option linter.all false
set_option maxRecDepth 100000
set_option maxHeartbeats 1000000
namespace L2
open PySem PySem.Spec PySem.Calls PyProof.Rows PySem.MeetsSeq PySem.W
section
variable {K:PySem.W.Frag} {X:Cx}
def rCatU:R2:=fun x y H Q=>∃ (a b:Addr) (xs ys:List V),x=.ref a∧y=.ref b∧H a=some (.tup xs)∧H b=some (.tup ys)∧ys≠[]∧xs.length+ys.length≤sizeLine∧∀ p H',Same H H'→H' p=some (.tup (xs++ys))→Q (.ref p) H'
theorem op_catU:OpR X (binaryOp .Add) rCatU:=by
  intro pins s σ H x y v u Q I rx ry h
  obtain ⟨a,b,xs,ys,rfl,rfl,ha,hb,hy,hz,q⟩:=h
  by_cases c:xs=[]
  · subst c
    cases rx
    cases ry
    obtain ⟨its,r1,p1,_⟩:=I.tuple (SqT.of ha)
    obtain ⟨its2,r2,p2,_⟩:=I.tuple (SqT.of hb)
    have e1:its=[]:=r1.nil_iff.mpr rfl
    subst e1
    obtain ⟨⟨cls,dd,data,sl⟩,ho,hc,n,hd⟩:=id p1
    obtain ⟨⟨cls2,dd2,data2,sl2⟩,ho2,hc2,n2,hd2⟩:=id p2
    simp only at hc hd hc2 hd2
    subst hc hd hc2 hd2
    exact concat_meets ⟨_,ho,rfl⟩ ⟨_,ho2,rfl⟩ noFill_tuple_add seq_tuple_add PySem.F.slot_tuple_add PySem.F.entry_tuple_add (PySem.F.args_tuple_add_2 _ _) (tuple_addW0 a b #[] its2.toArray n n2 dd dd2 sl sl2 (by simp)) ⟨ho,ho2,.ref b,H,I.tok _,rfl,q b H (Same.refl _) hb⟩
  · exact op_catT pins s σ H _ _ v u Q I rx ry ⟨a,b,xs,ys,rfl,rfl,SqT.of ha,SqT.of hb,c,hz,fun e=>absurd e hy,fun _ p hp=>q p _ (same_upd hp _) upd_same⟩
end
end L2
set_option Elab.async false
set_option linter.all false
set_option maxRecDepth 100000
set_option maxHeartbeats 4000000
namespace Mine
open PySem L2
def top (i:Nat):Stmt:=PySem.Challenge.pw_nearstairs_k18_no_order_misses_less.main.body.getD i (.Pass ⟨0,0,0,0⟩)
abbrev s_shelf_of:Stmt:=top 1
abbrev N_shelf_of:List Str:=["shelves", "board"]
abbrev P_shelf_of:List Str:=["shelves", "board"]
theorem sc_shelf_of:FnScope N_shelf_of P_shelf_of (defScope s_shelf_of):=⟨rfl,rfl,rfl,by decide +kernel,rfl,by decide +kernel,by decide +kernel⟩
abbrev s_is_number:Stmt:=top 9
abbrev N_is_number:List Str:=["thing"]
abbrev P_is_number:List Str:=["thing"]
theorem sc_is_number:FnScope N_is_number P_is_number (defScope s_is_number):=⟨rfl,rfl,rfl,by decide +kernel,rfl,by decide +kernel,by decide +kernel⟩
abbrev s_may_go:Stmt:=top 11
abbrev N_may_go:List Str:=["places", "mates", "board", "out"]
abbrev P_may_go:List Str:=["places", "mates", "board", "out"]
theorem sc_may_go:FnScope N_may_go P_may_go (defScope s_may_go):=⟨rfl,rfl,rfl,by decide +kernel,rfl,by decide +kernel,by decide +kernel⟩
abbrev s_come:Stmt:=top 12
abbrev N_come:List Str:=["mates", "board", "out"]
abbrev P_come:List Str:=["mates", "board", "out"]
theorem sc_come:FnScope N_come P_come (defScope s_come):=⟨rfl,rfl,rfl,by decide +kernel,rfl,by decide +kernel,by decide +kernel⟩
abbrev s_count_misses:Stmt:=top 13
abbrev N_count_misses:List Str:=["shelves", "places", "row", "order", "standing", "missed", "board", "out", "mates"]
abbrev P_count_misses:List Str:=["shelves", "places", "row", "order"]
theorem sc_count_misses:FnScope N_count_misses P_count_misses (defScope s_count_misses):=⟨rfl,rfl,rfl,by decide +kernel,rfl,by decide +kernel,by decide +kernel⟩
abbrev s_misses_by:Stmt:=top 14
abbrev N_misses_by:List Str:=["shelves", "places", "row", "order", "missed"]
abbrev P_misses_by:List Str:=["shelves", "places", "row", "order"]
theorem sc_misses_by:FnScope N_misses_by P_misses_by (defScope s_misses_by):=⟨rfl,rfl,rfl,by decide +kernel,rfl,by decide +kernel,by decide +kernel⟩
abbrev s_asked_again:Stmt:=top 15
abbrev N_asked_again:List Str:=["row", "told", "behind", "at", "board"]
abbrev P_asked_again:List Str:=["row"]
theorem sc_asked_again:FnScope N_asked_again P_asked_again (defScope s_asked_again):=⟨rfl,rfl,rfl,by decide +kernel,rfl,by decide +kernel,by decide +kernel⟩
abbrev s_farthest:Stmt:=top 16
abbrev N_farthest:List Str:=["shelves", "places", "row", "standing", "again", "order", "board", "behind", "mates", "out", "latest"]
abbrev P_farthest:List Str:=["shelves", "places", "row"]
theorem sc_farthest:FnScope N_farthest P_farthest (defScope s_farthest):=⟨rfl,rfl,rfl,by decide +kernel,rfl,by decide +kernel,by decide +kernel⟩
abbrev s_least_misses:Stmt:=top 17
abbrev N_least_misses:List Str:=["shelves", "places", "row"]
abbrev P_least_misses:List Str:=["shelves", "places", "row"]
theorem sc_least_misses:FnScope N_least_misses P_least_misses (defScope s_least_misses):=⟨rfl,rfl,rfl,by decide +kernel,rfl,by decide +kernel,by decide +kernel⟩
abbrev s_Room_init:Stmt:=inClass (top 19) 0
abbrev N_Room_init:List Str:=["self", "shelves", "places", "rule"]
abbrev P_Room_init:List Str:=["self", "shelves", "places", "rule"]
theorem sc_Room_init:FnScope N_Room_init P_Room_init (defScope s_Room_init):=⟨rfl,rfl,rfl,by decide +kernel,rfl,by decide +kernel,by decide +kernel⟩
abbrev s_Room_has:Stmt:=inClass (top 19) 1
abbrev N_Room_has:List Str:=["self", "board"]
abbrev P_Room_has:List Str:=["self", "board"]
theorem sc_Room_has:FnScope N_Room_has P_Room_has (defScope s_Room_has):=⟨rfl,rfl,rfl,by decide +kernel,rfl,by decide +kernel,by decide +kernel⟩
abbrev s_Room_bring:Stmt:=inClass (top 19) 2
abbrev N_Room_bring:List Str:=["self", "board", "out"]
abbrev P_Room_bring:List Str:=["self", "board"]
theorem sc_Room_bring:FnScope N_Room_bring P_Room_bring (defScope s_Room_bring):=⟨rfl,rfl,rfl,by decide +kernel,rfl,by decide +kernel,by decide +kernel⟩
abbrev s_Room_use:Stmt:=inClass (top 19) 3
abbrev N_Room_use:List Str:=["self", "board", "mates"]
abbrev P_Room_use:List Str:=["self", "board"]
theorem sc_Room_use:FnScope N_Room_use P_Room_use (defScope s_Room_use):=⟨rfl,rfl,rfl,by decide +kernel,rfl,by decide +kernel,by decide +kernel⟩
abbrev s_Room_drop:Stmt:=inClass (top 19) 4
abbrev N_Room_drop:List Str:=["self", "board"]
abbrev P_Room_drop:List Str:=["self", "board"]
theorem sc_Room_drop:FnScope N_Room_drop P_Room_drop (defScope s_Room_drop):=⟨rfl,rfl,rfl,by decide +kernel,rfl,by decide +kernel,by decide +kernel⟩
abbrev s_Room_need:Stmt:=inClass (top 19) 7
abbrev N_Room_need:List Str:=["self", "board"]
abbrev P_Room_need:List Str:=["self", "board"]
theorem sc_Room_need:FnScope N_Room_need P_Room_need (defScope s_Room_need):=⟨rfl,rfl,rfl,by decide +kernel,rfl,by decide +kernel,by decide +kernel⟩
abbrev s_Room_mates:Stmt:=inClass (top 19) 8
abbrev N_Room_mates:List Str:=["self", "board"]
abbrev P_Room_mates:List Str:=["self", "board"]
theorem sc_Room_mates:FnScope N_Room_mates P_Room_mates (defScope s_Room_mates):=⟨rfl,rfl,rfl,by decide +kernel,rfl,by decide +kernel,by decide +kernel⟩
abbrev s_Room_leaver_for:Stmt:=inClass (top 19) 9
abbrev N_Room_leaver_for:List Str:=["self", "board", "mates"]
abbrev P_Room_leaver_for:List Str:=["self", "board"]
theorem sc_Room_leaver_for:FnScope N_Room_leaver_for P_Room_leaver_for (defScope s_Room_leaver_for):=⟨rfl,rfl,rfl,by decide +kernel,rfl,by decide +kernel,by decide +kernel⟩
abbrev s_Room_going:Stmt:=inClass (top 19) 10
abbrev N_Room_going:List Str:=["self", "mates"]
abbrev P_Room_going:List Str:=["self", "mates"]
theorem sc_Room_going:FnScope N_Room_going P_Room_going (defScope s_Room_going):=⟨rfl,rfl,rfl,by decide +kernel,rfl,by decide +kernel,by decide +kernel⟩
abbrev s_ask:Stmt:=top 21
abbrev N_ask:List Str:=["room", "board"]
abbrev P_ask:List Str:=["room", "board"]
theorem sc_ask:FnScope N_ask P_ask (defScope s_ask):=⟨rfl,rfl,rfl,by decide +kernel,rfl,by decide +kernel,by decide +kernel⟩
abbrev s_run_row:Stmt:=top 22
abbrev N_run_row:List Str:=["shelves", "places", "rule", "row", "room"]
abbrev P_run_row:List Str:=["shelves", "places", "rule", "row"]
theorem sc_run_row:FnScope N_run_row P_run_row (defScope s_run_row):=⟨rfl,rfl,rfl,by decide +kernel,rfl,by decide +kernel,by decide +kernel⟩
abbrev s_misses:Stmt:=top 23
abbrev N_misses:List Str:=["shelves", "places", "rule", "row"]
abbrev P_misses:List Str:=["shelves", "places", "rule", "row"]
theorem sc_misses:FnScope N_misses P_misses (defScope s_misses):=⟨rfl,rfl,rfl,by decide +kernel,rfl,by decide +kernel,by decide +kernel⟩
abbrev s_box:Stmt:=top 25
abbrev N_box:List Str:=["_law_script", "_law_k", "_law_cell"]
abbrev P_box:List Str:=["_law_script", "_law_k"]
theorem sc_box:FnScope N_box P_box (defScope s_box):=⟨rfl,rfl,rfl,by decide +kernel,rfl,by decide +kernel,by decide +kernel⟩
abbrev s_take:Stmt:=top 26
abbrev N_take:List Str:=["_law_box_here", "_law_size", "_law_found", "_law_step", "_law_once", "_law_twice"]
abbrev P_take:List Str:=["_law_box_here", "_law_size"]
theorem sc_take:FnScope N_take P_take (defScope s_take):=⟨rfl,rfl,rfl,by decide +kernel,rfl,by decide +kernel,by decide +kernel⟩
abbrev s_folded:Stmt:=top 27
abbrev N_folded:List Str:=["_law_script", "_law_size", "_law_cells", "_law_k", "_law_cell"]
abbrev P_folded:List Str:=["_law_script", "_law_size"]
theorem sc_folded:FnScope N_folded P_folded (defScope s_folded):=⟨rfl,rfl,rfl,by decide +kernel,rfl,by decide +kernel,by decide +kernel⟩
abbrev s_some_boards:Stmt:=top 28
abbrev N_some_boards:List Str:=["_law_box_here", "_law_size", "_law_many", "_law_way", "_law_begin", "_law_first", "_law_found", "_law_far", "_law_k", "_law_at"]
abbrev P_some_boards:List Str:=["_law_box_here", "_law_size"]
theorem sc_some_boards:FnScope N_some_boards P_some_boards (defScope s_some_boards):=⟨rfl,rfl,rfl,by decide +kernel,rfl,by decide +kernel,by decide +kernel⟩
abbrev s_shape:Stmt:=top 29
abbrev N_shape:List Str:=["_law_box_here", "_law_far", "_law_shelves"]
abbrev P_shape:List Str:=["_law_box_here"]
theorem sc_shape:FnScope N_shape P_shape (defScope s_shape):=⟨rfl,rfl,rfl,by decide +kernel,rfl,by decide +kernel,by decide +kernel⟩
abbrev s_asked:Stmt:=top 30
abbrev N_asked:List Str:=["_law_box_here", "_law_few", "_law_most", "_law_some", "_law_size", "_law_way", "_law_found", "_law_k", "_law_drawn", "_law_back", "_law_turned", "_law_often"]
abbrev P_asked:List Str:=["_law_box_here", "_law_few", "_law_most"]
theorem sc_asked:FnScope N_asked P_asked (defScope s_asked):=⟨rfl,rfl,rfl,by decide +kernel,rfl,by decide +kernel,by decide +kernel⟩
abbrev s_few_asked:Stmt:=top 31
abbrev N_few_asked:List Str:=["_law_box_here", "_law_some"]
abbrev P_few_asked:List Str:=["_law_box_here"]
theorem sc_few_asked:FnScope N_few_asked P_few_asked (defScope s_few_asked):=⟨rfl,rfl,rfl,by decide +kernel,rfl,by decide +kernel,by decide +kernel⟩
abbrev s_small:Stmt:=top 32
abbrev N_small:List Str:=["_law_box_here", "_law_shelves", "_law_places"]
abbrev P_small:List Str:=["_law_box_here"]
theorem sc_small:FnScope N_small P_small (defScope s_small):=⟨rfl,rfl,rfl,by decide +kernel,rfl,by decide +kernel,by decide +kernel⟩
abbrev s_same:Stmt:=top 33
abbrev N_same:List Str:=["_law_found", "_law_due"]
abbrev P_same:List Str:=["_law_found", "_law_due"]
theorem sc_same:FnScope N_same P_same (defScope s_same):=⟨rfl,rfl,rfl,by decide +kernel,rfl,by decide +kernel,by decide +kernel⟩
abbrev s_drawn_order:Stmt:=top 34
abbrev N_drawn_order:List Str:=["_law_box_here", "_law_shelves", "_law_places", "_law_row", "_law_there", "_law_found", "_law_board", "_law_some", "_law_gone"]
abbrev P_drawn_order:List Str:=["_law_box_here", "_law_shelves", "_law_places", "_law_row"]
theorem sc_drawn_order:FnScope N_drawn_order P_drawn_order (defScope s_drawn_order):=⟨rfl,rfl,rfl,by decide +kernel,rfl,by decide +kernel,by decide +kernel⟩
abbrev s_least:Stmt:=top 35
abbrev N_least:List Str:=["_law_shelves", "_law_places", "_law_row", "_law_states", "_law_board", "_law_more", "_law_there", "_law_missed", "_law_some", "_law_others", "_law_left", "_law_key", "_law_many"]
abbrev P_least:List Str:=["_law_shelves", "_law_places", "_law_row"]
theorem sc_least:FnScope N_least P_least (defScope s_least):=⟨rfl,rfl,rfl,by decide +kernel,rfl,by decide +kernel,by decide +kernel⟩
abbrev s_alone:Stmt:=top 36
abbrev N_alone:List Str:=["_law_shelves", "_law_row", "_law_last", "_law_missed", "_law_board"]
abbrev P_alone:List Str:=["_law_shelves", "_law_row"]
theorem sc_alone:FnScope N_alone P_alone (defScope s_alone):=⟨rfl,rfl,rfl,by decide +kernel,rfl,by decide +kernel,by decide +kernel⟩
abbrev s_right:Stmt:=top 37
abbrev N_right:List Str:=["_law_box_here", "_law_shelves", "_law_places", "_law_row", "_law_rule", "_law_kept", "_law_least_here", "_law_some"]
abbrev P_right:List Str:=["_law_box_here"]
theorem sc_right:FnScope N_right P_right (defScope s_right):=⟨rfl,rfl,rfl,by decide +kernel,rfl,by decide +kernel,by decide +kernel⟩
abbrev s_law:Stmt:=top 38
abbrev N_law:List Str:=["_law_script", "_law_cells"]
abbrev P_law:List Str:=["_law_script"]
theorem sc_law:FnScope N_law P_law (defScope s_law):=⟨rfl,rfl,rfl,by decide +kernel,rfl,by decide +kernel,by decide +kernel⟩
structure Txt (K:PySem.W.Frag) (mg:Str→Option Value):Prop where
  z_abs:mg "abs" = none
  z_all:mg "all" = none
  z_any:mg "any" = none
  z_bool:mg "bool" = none
  z_divmod:mg "divmod" = none
  z_enumerate:mg "enumerate" = none
  z_int:mg "int" = none
  z_isinstance:mg "isinstance" = none
  z_len:mg "len" = none
  z_list:mg "list" = none
  z_max:mg "max" = none
  z_min:mg "min" = none
  z_range:mg "range" = none
  z_sorted:mg "sorted" = none
  z_str:mg "str" = none
  z_tuple:mg "tuple" = none
  z_zip:mg "zip" = none
  cl_Room:Cls K (clsOf K "Room")
  n_Room_places:NoAttr K (clsOf K "Room") "places"
  n_Room_rule:NoAttr K (clsOf K "Room") "rule"
  n_Room_shelves:NoAttr K (clsOf K "Room") "shelves"
  n_Room_standing:NoAttr K (clsOf K "Room") "standing"
  n_Room_uses:NoAttr K (clsOf K "Room") "uses"
structure BoxAt (H:Hp) (b:Addr) (a q c:Int):Prop where
  at':H b=some (.lst [.int a,.int q,.int c])
  a0:0≤a
  q0:0≤q
  q1:q<2147483647
  c0:0≤c
theorem BoxAt.sb {H H':Hp} {b x:Addr} {a q c:Int} (B:BoxAt H b a q c) (s:SB x H H') (n:b≠x):BoxAt H' b a q c:=⟨s _ _ n B.at',B.a0,B.q0,B.q1,B.c0⟩
theorem BoxAt.same {H H':Hp} {b:Addr} {a q c:Int} (B:BoxAt H b a q c) (s:Same H H'):BoxAt H' b a q c:=⟨s _ _ B.at',B.a0,B.q0,B.q1,B.c0⟩
def spTake:Sp:=fun vs H Q _=>∃ (b:Addr) (a q c n:Int),vs=[.ref b,.int n]∧BoxAt H b a q c∧c<1099511627776∧0<n∧n<1073741824 ∧
  ∀ (r a' c':Int) (H':Hp),0≤r→r<n→BoxAt H' b a' q c'→c'≤c+1→SB b H H'→Q (.int r) H'
section
variable {P:Program} {w:World} {K:PySem.W.Frag} {mg:Str→Option Value} {base:Heap}
theorem em0 (a:Int) {b:Int} (h:0<b):0≤a % b:=Int.emod_nonneg a (by omega)
theorem em1 (a:Int) {b:Int} (h:0<b):a % b<b:=Int.emod_lt_of_pos a h
theorem ok_take {f:Addr} {fd:FuncData} (F:Fun K "_law_take" "_law_take" s_take f fd) (T:Txt K mg):FnOk P w K mg base CX0 1 f fd P_take spTake:=by
  refine F.ok sc_take (fun vs H Q E h=>?_) (fun cdv A outer s H vs Q E hr h=>?_)
  · obtain ⟨b,a,q,c,n,rfl,_⟩:=h
    rfl
  obtain ⟨b,a,q,c,n,rfl,B,hc,hn0,hn1,k⟩:=h
  have nd:=sc_take.nd
  refine ⟨_,(pss_cons (ps_if (pt_cmpR op_gt (pe_ix (ix_listK (K:=K) rfl) (pv 0) pe_int (fun _ _=>rfl)) pe_int (nomark _)) (pss_cons (ps_asg (pe_callBN call_divmod rfl T.z_divmod boot_divmod (pc (pe_ix (ix_listK (K:=K) rfl) (pv 0) pe_int (fun _ _=>rfl)) (pc (pv 1) pa_nil))) (pg_tupK (K:=K) (n:=2) rfl rfl (pgs_cons (pg_sub (pv 0) pe_int set_list) (pgs_cons (pgn 2 nd) pgs_nil))))
      (pss_one (ps_ret (pv 2)))) pss_nil)
      (pss_cons (ps_asg (pe_op op_add (pe_ix (ix_listK (K:=K) rfl) (pv 0) pe_int (fun _ _=>rfl)) pe_int) (pg_sub (pv 0) pe_int set_list))
      (pss_cons (pst 3 nd (pe_op op_add pe_int (pe_op op_mul (pe_ix (ix_listK (K:=K) rfl) (pv 0) pe_int (fun _ _=>rfl)) (pe_ix (ix_listK (K:=K) rfl) (pv 0) pe_int (fun _ _=>rfl)))))
      (pss_cons (pst 4 nd (pe_op op_mod (pe_op op_mul (pe_op op_add (pe_ix (ix_listK (K:=K) rfl) (pv 0) pe_int (fun _ _=>rfl)) (pe_op op_mul pe_int (pe_ix (ix_listK (K:=K) rfl) (pv 0) pe_int (fun _ _=>rfl)))) (pv 3)) pe_int))
      (pss_cons (pst 5 nd (pe_op op_mod (pe_op op_add (pe_op op_mul (pv 4) (pe_op op_add (pe_op op_mod (pv 4) pe_int) pe_int)) (pe_ix (ix_listK (K:=K) rfl) (pv 0) pe_int (fun _ _=>rfl))) pe_int))
      (pss_one (ps_ret (pe_op op_mod (pe_op op_fdiv (pe_op op_mod (pe_op op_mul (pv 5) (pe_op op_add (pe_op op_mod (pv 5) pe_int) pe_int)) pe_int) pe_int) (pv 1))))))))),?_⟩
  have hb:=B.at'
  have hc0:=B.c0
  have hq0:=B.q0
  have hq1:=B.q1
  refine ⟨_,rfl,b,_,_,_,rfl,rfl,SqL.of hb,atI0,_,_,rfl,rfl,_,rfl,?_⟩
  refine ite_dec (fun ha=>?_) (fun ha=>?_)
  · refine ⟨_,rfl,b,_,_,_,rfl,rfl,SqL.of hb,atI0,_,rfl,_,_,rfl,⟨hn0,hn1⟩,fun p hp=>?_⟩
    have hbp:upd H p (.tup [.int (a / n),.int (a % n)]) b=some (.lst [.int a,.int q,.int c]):=by rw [upd_ne (ne_of_none hb hp)]; exact hb
    refine ⟨p,_,rfl,SqT.of upd_same,rfl,_,_,rfl,⟨_,rfl,b,_,_,0,rfl,rfl,hbp,rfl,?_⟩⟩
    refine ⟨_,_,rfl,rfl,_,rfl,?_⟩
    exact k _ (a / n) c _ (em0 _ hn0) (em1 _ hn0) ⟨upd_same,Int.ediv_nonneg B.a0 (by omega),hq0,hq1,hc0⟩ (by omega) ((same_upd hp _).sb b |>.trans (sb_upd b _ _))
  · refine ⟨_,rfl,b,_,_,_,rfl,rfl,SqL.of hb,atI2,_,_,rfl,rfl,_,rfl,b,_,_,2,rfl,rfl,hb,rfl,?_⟩
    have hb1:upd H b (.lst [.int a,.int q,.int (c+1)]) b=some (.lst [.int a,.int q,.int (c+1)]):=upd_same
    have i0:SqL K (upd H b (.lst [.int a,.int q,.int (c+1)])) b [.int a,.int q,.int (c+1)]:=SqL.of hb1
    refine ⟨_,rfl,b,_,_,_,rfl,rfl,i0,atI2,_,rfl,b,_,_,_,rfl,rfl,i0,atI2,_,_,rfl,rfl,.inl ⟨by omega,by omega⟩,_,_,rfl,rfl,?_⟩
    refine ⟨_,rfl,b,_,_,_,rfl,rfl,i0,atI1,_,rfl,b,_,_,_,rfl,rfl,i0,atI2,_,_,rfl,rfl,.inl ⟨by decide,by decide⟩,_,_,rfl,rfl,_,rfl,_,_,rfl,rfl,.inl ⟨by omega,by omega⟩,_,_,rfl,rfl,(by show (0:Int)<_; decide),?_⟩
    generalize hon:(q+39373 * (c+1)) * (69621+(c+1) * (c+1)) % 2147483587=on
    have on0:0≤on:=by rw [← hon]; exact em0 _ (by decide)
    have on1:on<2147483587:=by rw [← hon]; exact em1 _ (by decide)
    refine ⟨_,rfl,_,rfl,_,_,rfl,rfl,(by show (0:Int)<_; decide),_,_,rfl,rfl,_,_,rfl,rfl,.inl ⟨by omega,by omega⟩,_,rfl,b,_,_,_,rfl,rfl,i0,atI2,_,_,rfl,rfl,_,_,rfl,rfl,(by show (0:Int)<_; decide),?_⟩
    generalize htw:(on * (on % 30011+5)+(c+1)) % 2147483563=tw
    have tw0:0≤tw:=by rw [← htw]; exact em0 _ (by decide)
    have tw1:tw<2147483563:=by rw [← htw]; exact em1 _ (by decide)
    refine ⟨_,rfl,_,rfl,_,_,rfl,rfl,(by show (0:Int)<_; decide),_,_,rfl,rfl,_,_,rfl,rfl,.inl ⟨by omega,by omega⟩,_,_,rfl,rfl,(by show (0:Int)<_; decide),_,_,rfl,rfl,⟨by decide,by decide⟩,_,rfl,_,_,rfl,rfl,hn0,?_⟩
    exact k _ a (c+1) _ (em0 _ hn0) (em1 _ hn0) ⟨hb1,B.a0,hq0,hq1,by omega⟩ (by omega) (sb_upd b _ _)
end
section
variable {P:Program} {w:World} {K:PySem.W.Frag} {mg:Str→Option Value} {base:Heap}
def spBox (K:PySem.W.Frag):Sp:=fun vs H Q _=>∃ (l:Addr) (ns:List Int) (k:Int),vs=[.ref l,.int k]∧SqL K H l (ns.map V.int)∧0≤k∧k<1000000 ∧
  ∀ (r:Addr) (a q:Int) (H':Hp),H r=none→Same H H'→BoxAt H' r a q 0→Q (.ref r) H'
theorem ite01 (b:Bool) : -(2 ^ 64)<(if b then 1 else 0:Int)∧(if b then 1 else 0:Int)<2 ^ 64:=by cases b <;> decide
theorem atI_ints {ns:List Int} {k:Int} (h0:0≤k) (h:k<(ns.length:Int)):∃ v:Int,atI (ns.map V.int) k=some (.int v):=by
  have hk:k.toNat<ns.length:=by omega
  have q:atI (ns.map V.int) ((k.toNat:Nat):Int)=some (.int ns[k.toNat]):=atI_nat (by rw [List.getElem?_map,List.getElem?_eq_getElem hk] <;> rfl)
  rw [show ((k.toNat:Nat):Int)=k by omega] at q
  exact ⟨_,q⟩
theorem abs_nn (i:Int):0≤(if i<0 then -i else i):=by split <;> omega
theorem abs_mul (i:Int) (b:Bool):0≤(if i<0 then -i else i) * (if b then 1 else 0:Int):=Int.mul_nonneg (abs_nn i) (by cases b <;> decide)
theorem ok_box {f:Addr} {fd:FuncData} (F:Fun K "_law_box" "_law_box" s_box f fd) (T:Txt K mg):FnOk P w K mg base CX0 1 f fd P_box (spBox K):=by
  refine F.ok sc_box (fun vs H Q E h=>?_) (fun cdv A outer s H vs Q E hr h=>?_)
  · obtain ⟨l,ns,k,rfl,_⟩:=h
    rfl
  obtain ⟨l,ns,k,rfl,hS,hk0,hk1,kk⟩:=h
  have nd:=sc_box.nd
  refine ⟨_,(pss_cons (pst 2 nd (pe_ifExp (pt_cmpR op_lt (pv 1) (pe_callBN (call_len_seqK (K:=K) rfl) rfl T.z_len PySem.boot_len (pc (pv 0) pa_nil)) (nomark _)) (pe_ix (ix_listK (K:=K) rfl) (pv 0) (pv 1) (fun _ _=>rfl)) pe_int))
      (pss_one (ps_ret (pe_lst (pc (pe_op op_mul (pe_callBN call_abs rfl T.z_abs boot_abs (pc (pv 2) pa_nil)) (pe_callTyN call_int1 rfl T.z_int boot_intT (pc (pe_cmpR op_ge (pe_callBN call_abs rfl T.z_abs boot_abs (pc (pv 2) pa_nil)) (pe_op op_pow pe_int pe_int) (nomark _)) pa_nil))) (pc (pe_op op_mod (pe_op op_mul (pe_op op_add (pe_op op_add (pe_op op_mod (pv 2) pe_int) (pe_op op_mul pe_int (pv 1))) pe_int) pe_int) pe_int) (pc pe_int pa_nil))))))),?_⟩
  refine ⟨_,rfl,_,rfl,l,_,rfl,.inl hS,_,_,rfl,rfl,_,rfl,?_⟩
  refine ite_dec (fun c=>?_) (fun c=>?_)
  · rw [List.length_map] at c
    obtain ⟨v,hv⟩:=atI_ints hk0 c
    refine ⟨_,rfl,_,rfl,l,_,_,_,rfl,rfl,hS,hv,?_⟩
    refine ⟨_,rfl,_,rfl,_,rfl,_,rfl,_,_,rfl,rfl,⟨by decide,by decide,by decide⟩,_,_,rfl,rfl,.inr ⟨_,rfl,_,_,rfl,rfl,.inr (ite01 _),?_⟩⟩
    refine ⟨_,rfl,_,_,rfl,rfl,(by show (0:Int)<_; decide),_,rfl,_,_,rfl,rfl,.inl ⟨by decide,by decide⟩,_,_,rfl,rfl,_,_,rfl,rfl,_,_,rfl,rfl,.inr ⟨by decide,by decide⟩,_,_,rfl,rfl,(by show (0:Int)<_; decide),(by show 3≤sizeLine; decide),fun r hr=>?_⟩
    exact kk r _ _ _ hr (same_upd hr _) ⟨upd_same,abs_mul _ _,em0 _ (by decide),em1 _ (by decide),Int.le_refl _⟩
  · refine ⟨_,rfl,_,rfl,_,rfl,_,rfl,_,_,rfl,rfl,⟨by decide,by decide,by decide⟩,_,_,rfl,rfl,.inr ⟨_,rfl,_,_,rfl,rfl,.inr (ite01 _),?_⟩⟩
    refine ⟨_,rfl,_,_,rfl,rfl,(by show (0:Int)<_; decide),_,rfl,_,_,rfl,rfl,.inl ⟨by decide,by decide⟩,_,_,rfl,rfl,_,_,rfl,rfl,_,_,rfl,rfl,.inr ⟨by decide,by decide⟩,_,_,rfl,rfl,(by show (0:Int)<_; decide),(by show 3≤sizeLine; decide),fun r hr=>?_⟩
    exact kk r _ _ _ hr (same_upd hr _) ⟨upd_same,abs_mul _ _,em0 _ (by decide),em1 _ (by decide),Int.le_refl _⟩
def spFolded (K:PySem.W.Frag):Sp:=fun vs H Q _=>∃ (a:Addr) (ns:List Int) (n:Nat),vs=[.ref a,.int (n:Int)]∧SqL K H a (ns.map V.int)∧ns.length≤63∧0<n∧n≤63 ∧
  ∀ (r:Addr) (ms:List Int) (H':Hp),H r=none→Same H H'→H' r=some (.lst (ms.map V.int))→ms.length=min n ns.length→Q (.ref r) H'
theorem cut_map (ns:List Int) (lo hi:Option Int):cutV (ns.map V.int) lo hi=((ns.drop (HT.sIx ns.length 0 lo)).take (HT.sIx ns.length ns.length hi - HT.sIx ns.length 0 lo)).map V.int:=by
  unfold cutV
  rw [List.length_map,← List.map_drop,← List.map_take]
theorem set_ints (ms:List Int) (j:Nat) (v:Int):(ms.map V.int).set j (.int v)=(ms.set j v).map V.int:=by rw [List.map_set]
theorem ixN_ok {n:Nat} {i:Int} (h0:0≤i) (h:i<n):ixN n i=some i.toNat:=by unfold ixN; rw [if_pos h0,if_pos h]
theorem ms_get {ms:List Int} {i:Nat} {x:V} (h:(ms.map V.int)[i]?=some x):∃ z,x=V.int z∧i<ms.length:=by
  rw [List.getElem?_map] at h
  cases e:ms[i]? with
  | none=>rw [e] at h; cases h
  | some z=>rw [e] at h; exact ⟨z,(Option.some.inj h).symm,(List.getElem?_eq_some_iff.mp e).1⟩
theorem ok_folded {f:Addr} {fd:FuncData} (F:Fun K "_law_folded" "_law_folded" s_folded f fd) (T:Txt K mg):FnOk P w K mg base CX0 1 f fd P_folded (spFolded K):=by
  refine F.ok sc_folded (fun vs H Q E h=>?_) (fun cdv A outer s H vs Q E hr h=>?_)
  · obtain ⟨a,ns,n,rfl,_⟩:=h
    rfl
  obtain ⟨a,ns,n,rfl,hS,h63,hn0,hn1,k⟩:=h
  have nd:=sc_folded.nd
  refine ⟨_,(pss_cons (pst 2 nd (pe_callTyN (call_list_ofK (K:=K) rfl) rfl T.z_list boot_listT (pc (pe_slice (sl_listK (K:=K) rfl) (pv 0) po_none (po_some (pv 1))) pa_nil)))
      (pss_cons (ps_for PassesOwn.never rfl (pi_enum rfl T.z_enumerate (pc (pe_slice (sl_listK (K:=K) rfl) (pv 0) (po_some (pv 1)) (po_some pe_int)) pa_nil)) (pg_tupK (K:=K) (n:=2) rfl rfl (pgs_cons (pgn 3 nd) (pgs_cons (pgn 4 nd) pgs_nil))) (pss_one (ps_asg (pe_op op_add (pe_ix (ix_listK (K:=K) rfl) (pv 2) (pe_op op_mod (pv 3) (pv 1)) (fun _ _=>rfl)) (pe_op op_mul (pv 4) (pe_op op_add (pv 3) pe_int))) (pg_sub (pv 2) (pe_op op_mod (pv 3) (pv 1)) set_list))))
      (pss_one (ps_ret (pv 2))))),?_⟩
  refine ⟨_,rfl,_,rfl,_,rfl,a,_,rfl,hS,fun p hp=>?_⟩
  have s1:=same_upd hp (.lst (cutV (ns.map V.int) none (some (n:Int))))
  refine ⟨p,_,rfl,.inl (SqL.of upd_same),fun r hr1=>?_⟩
  have s2:=s1.trans (same_upd hr1 (.lst (cutV (ns.map V.int) none (some (n:Int)))))
  have hrH:H r=none:=s1.free hr1
  rw [cut_map] at *
  generalize hms:(ns.drop (HT.sIx ns.length 0 none)).take (HT.sIx ns.length ns.length (some (n:Int)) - HT.sIx ns.length 0 none)=ms at *
  have lms:ms.length=min n ns.length:=by
    rw [← hms,HT.sIx_none,HT.sIx_nat,List.length_take,List.length_drop]; omega
  generalize hH2:upd (upd H p (.lst (ms.map V.int))) r (.lst (ms.map V.int))=H2 at *
  have h2r:H2 r=some (.lst (ms.map V.int)):=by rw [← hH2]; exact upd_same
  refine ⟨_,rfl,_,rfl,_,rfl,_,rfl,a,_,rfl,s2.seq hS,fun t ht=>?_⟩
  rw [cut_map]
  generalize hws:(ns.drop (HT.sIx ns.length 0 (some (n:Int)))).take (HT.sIx ns.length ns.length (some 63) - HT.sIx ns.length 0 (some (n:Int)))=ws
  have lws:0<ws.length→n<ns.length:=fun h=>by
    rw [← hws,List.length_take,List.length_drop,HT.sIx_nat] at h; omega
  have lw63:ws.length≤63:=by rw [← hws,List.length_take,List.length_drop]; omega
  have s3:=s2.trans (same_upd ht (.lst (ws.map V.int)))
  have nrt:r≠t:=ne_of_none h2r ht
  refine ⟨t,rfl,⟨_,SqL.of upd_same⟩,for_enum (K:=K) (a:=t) (xs:=ws.map V.int) (fun i σ H'=>∃ (ms':List Int) (v3 v4:Option V),σ=[some (.ref a),some (.int n),some (.ref r),v3,v4]∧ms'.length=min n ns.length∧H' r=some (.lst (ms'.map V.int))∧H' t=some (.lst (ws.map V.int))∧Same H H')
    ⟨ms,none,none,rfl,lms,by rw [upd_ne nrt]; exact h2r,upd_same,s3⟩ (fun i σ H' _ ⟨_,_,_,_,_,_,q,_⟩=>SqL.of q) ?_ ?_⟩
  · rintro i x u σ H' hi ⟨ms',v3,v4,rfl,lm,h1,h2,s4⟩ hu
    obtain ⟨z,rfl,hlt⟩:=ms_get hi
    have hnl:=lws (by omega)
    have s5:=same_upd hu (.tup [.int (i:Int),.int z])
    refine ⟨u,_,rfl,SqT.of upd_same,rfl,_,_,rfl,_,_,rfl,rfl,?_⟩
    have m0:0≤(i:Int) % (n:Int):=em0 _ (by omega)
    have m1:(i:Int) % (n:Int)<(n:Int):=em1 _ (by omega)
    obtain ⟨v,hv⟩:=atI_ints (ns:=ms') m0 (by omega)
    refine ⟨_,rfl,_,rfl,_,rfl,_,_,rfl,rfl,(by show (0:Int)<_; omega),r,_,_,_,rfl,rfl,SqL.of (s5 _ _ h1),hv,?_⟩
    refine ⟨_,rfl,_,rfl,_,_,rfl,rfl,_,_,rfl,rfl,.inr ⟨by omega,by omega⟩,_,_,rfl,rfl,?_⟩
    refine ⟨_,rfl,_,rfl,_,rfl,_,_,rfl,rfl,(by show (0:Int)<_; omega),r,_,_,((i:Int) % (n:Int)).toNat,rfl,rfl,s5 _ _ h1,ixN_ok m0 (by rw [List.length_map]; omega),?_⟩
    refine ⟨ms'.set ((i:Int) % (n:Int)).toNat (v+z * ((i:Int)+2)),_,_,rfl,by rw [List.length_set]; exact lm,by rw [upd_same,set_ints],?_,?_⟩
    · rw [upd_ne (Ne.symm nrt)]; exact s5 _ _ h2
    · intro b o e
      rw [upd_ne (ne_of_none e hrH)]
      exact s5 _ _ (s4 _ _ e)
  · rintro σ H' ⟨ms',v3,v4,rfl,lm,h1,h2,s4⟩
    exact ⟨_,rfl,k r ms' H' hrH s4 h1 lm⟩
end
theorem hide {t u:TS} {D:Ends} {σ:St} {H:Hp} (h:∀ u',u'=u→tSeq t u' D σ H):tSeq t u D σ H:=h u rfl
theorem cpE {te:TE} {σ:St} {H:Hp} {Q:VK} (Post:V→Hp→Prop) (h1:∀ Q':VK,(∀ v H1,Post v H1→Q' v H1)→te σ H Q') (h2:∀ v H1,Post v H1→Q v H1):te σ H Q:=h1 Q h2
theorem cpA {te:TE} {g:TG} {u:TS} {D:Ends} {σ:St} {H:Hp} (Post:V→Hp→Prop) (h1:∀ Q':VK,(∀ v H1,Post v H1→Q' v H1)→te σ H Q') (h2:∀ v H1,Post v H1→g v σ H1 (u D)):tSeq (tAsg te g) u D σ H:=h1 _ h2
theorem cpI {ts u:TS} {D:Ends} {σ:St} {H:Hp} (Post:St→Hp→Prop) (h1:∀ D':Ends,D'.rt=D.rt→(∀ σ1 H1,Post σ1 H1→D'.nx σ1 H1)→ts D' σ H) (h2:∀ σ1 H1,Post σ1 H1→u D σ1 H1):tSeq ts u D σ H:=h1 _ rfl h2
theorem cpIf {tt:TT} {ta tb:TE} {σ:St} {H:Hp} {Q:VK} (Post:Bool→Hp→Prop) (h1:∀ Q':Bool→Hp→Prop,(∀ v H1,Post v H1→Q' v H1)→tt σ H Q') (h2:∀ c H1,Post c H1→if c=true then ta σ H1 Q else tb σ H1 Q):tIf tt ta tb σ H Q:=h1 _ h2
theorem cpIfS {tt:TT} {ta tb:TS} {D:Ends} {σ:St} {H:Hp} (Post:Bool→Hp→Prop) (h1:∀ Q':Bool→Hp→Prop,(∀ v H1,Post v H1→Q' v H1)→tt σ H Q') (h2:∀ c H1,Post c H1→if c=true then ta D σ H1 else tb D σ H1):tIfS tt ta tb D σ H:=h1 _ h2
theorem cpOr {t u:TT} {σ:St} {H:Hp} {Q:Bool→Hp→Prop} (Post:Bool→Hp→Prop) (h1:∀ Q':Bool→Hp→Prop,(∀ v H1,Post v H1→Q' v H1)→t σ H Q') (h2:∀ c H1,Post c H1→if c=true then Q true H1 else u σ H1 Q):tOr t u σ H Q:=h1 _ h2
theorem sb_fresh {b l:Addr} {H G:Hp} {xs:List V} (s:SB b H G) (hb:G b=some (.lst xs)) (hl:G l=none):H l=none:=by
  cases e:H l with
  | none=>rfl
  | some o =>
    by_cases h:l=b
    · rw [h,hb] at hl; cases hl
    · rw [s _ _ h e] at hl; cases hl
theorem at_mem {ns:List Int} {k:Int} (h0:0≤k) (h:k<(ns.length:Int)):∃ v:Int,atI (ns.map V.int) k=some (.int v)∧v∈ns:=by
  have hk:k.toNat<ns.length:=by omega
  have q:atI (ns.map V.int) ((k.toNat:Nat):Int)=some (.int ns[k.toNat]):=atI_nat (by rw [List.getElem?_map,List.getElem?_eq_getElem hk] <;> rfl)
  rw [show ((k.toNat:Nat):Int)=k by omega] at q
  exact ⟨_,q,List.getElem_mem hk⟩
theorem ints_flat (ns:List Int):(ns.map V.int).all flatV=true:=by
  rw [List.all_eq_true]
  intro x hx
  obtain ⟨n,_,rfl⟩:=List.mem_map.mp hx
  rfl
theorem ixN_last {n:Nat} (h:0<n):ixN n (-1)=some (n - 1):=by
  unfold ixN
  rw [if_neg (by decide),if_pos (by omega)]
  congr 1
  omega
theorem mem_set {ns:List Int} {j:Nat} {v x:Int} (h:x∈ns.set j v):x∈ns∨x=v:=by
  rcases List.mem_or_eq_of_mem_set h with h | h
  · exact .inl h
  · exact .inr h
theorem ifF {b:Bool} {A B:Prop} (h:b=false) (hB:B):if b=true then A else B:=by subst h; rw [if_neg Bool.false_ne_true]; exact hB
theorem ifT {b:Bool} {A B:Prop} (h:b=true) (hA:A):if b=true then A else B:=by subst h; rw [if_pos rfl]; exact hA
theorem atI_some {α:Type} {xs:List α} {i:Int} (h0:0≤i) (h1:i<(xs.length:Int)):∃ v,atI xs i=some v∧v∈xs:=by
  have hk:i.toNat<xs.length:=by omega
  have q:atI xs ((i.toNat:Nat):Int)=some xs[i.toNat]:=atI_nat (List.getElem?_eq_getElem hk)
  rw [show ((i.toNat:Nat):Int)=i by omega] at q
  exact ⟨_,q,List.getElem_mem hk⟩
theorem pick01 (x y:Int) (k:Bool):∃ n:Int,atI [V.int x,V.int y] (if k=true then 1 else 0)=some (.int n)∧(n=x∨n=y):=by
  cases k with
  | true=>exact ⟨y,atI1,.inr rfl⟩
  | false=>exact ⟨x,atI0,.inl rfl⟩
theorem pick2 (x y r:Int) (h0:0≤r) (h1:r<2):∃ n:Int,atI [V.int x,V.int y] r=some (.int n)∧(n=x∨n=y):=by
  have h:r=0∨r=1:=by omega
  rcases h with rfl | rfl
  · exact ⟨x,atI0,.inl rfl⟩
  · exact ⟨y,atI1,.inr rfl⟩
theorem pick4s (r:Int) (h0:0≤r) (h1:r<4):∃ n:Int,atI [V.int 1,V.int 1,V.int 12,V.int 24] r=some (.int n)∧(n=1∨n=12∨n=24):=by
  obtain ⟨x,hx,m⟩:=atI_some (xs:=[V.int 1,V.int 1,V.int 12,V.int 24]) h0 (by show r<((4:Nat):Int); omega)
  simp only [List.mem_cons,List.not_mem_nil,or_false] at m
  rcases m with rfl | rfl | rfl | rfl
  · exact ⟨_,hx,.inl rfl⟩
  · exact ⟨_,hx,.inl rfl⟩
  · exact ⟨_,hx,.inr (.inl rfl)⟩
  · exact ⟨_,hx,.inr (.inr rfl)⟩
theorem pick5 (r:Int) (h0:0≤r) (h1:r<5):∃ v,atI [V.int 1,V.int 1,V.int 2,V.int 3,V.int 4] r=some (.int v)∧1≤v∧v≤64:=by
  obtain ⟨x,hx,m⟩:=atI_some (xs:=[V.int 1,V.int 1,V.int 2,V.int 3,V.int 4]) h0 (by show r<((5:Nat):Int); omega)
  simp only [List.mem_cons,List.not_mem_nil,or_false] at m
  rcases m with rfl | rfl | rfl | rfl | rfl <;> exact ⟨_,hx,by decide,by decide⟩
def Rule (z:Str):Prop:=z = "old" ∨ z = "come" ∨ z = "few"
theorem pickR (r:Int) (h0:0≤r) (h1:r<3):∃ z:Str,atI [V.str "old",V.str "come",V.str "few"] r=some (.str z)∧Rule z:=by
  obtain ⟨x,hx,m⟩:=atI_some (xs:=[V.str "old",V.str "come",V.str "few"]) h0 (by show r<((3:Nat):Int); omega)
  simp only [List.mem_cons,List.not_mem_nil,or_false] at m
  rcases m with rfl | rfl | rfl
  · exact ⟨_,hx,.inl rfl⟩
  · exact ⟨_,hx,.inr (.inl rfl)⟩
  · exact ⟨_,hx,.inr (.inr rfl)⟩
theorem top_facts {s:Int} (h0:1≤s) (h1:s≤16):555≤9999 / s∧9999 / s≤9999∧1≤(if 10000 / s - 480 > 1 then 10000 / s - 480 else 1)∧(if 10000 / s - 480 > 1 then 10000 / s - 480 else 1)+455≤9999 / s:=by
  have key:∀ n:Fin 17,1≤(n.val:Int)→(555≤9999 / (n.val:Int)∧9999 / (n.val:Int)≤9999∧1≤(if 10000 / (n.val:Int) - 480 > 1 then 10000 / (n.val:Int) - 480 else 1)∧(if 10000 / (n.val:Int) - 480 > 1 then 10000 / (n.val:Int) - 480 else 1)+455≤9999 / (n.val:Int)):=by decide +kernel
  have e:((⟨s.toNat,by omega⟩:Fin 17).val:Int)=s:=by show ((s.toNat:Nat):Int)=s; omega
  have q:=key ⟨s.toNat,by omega⟩ (by rw [e]; exact h0)
  rw [e] at q
  exact q
def Bds (t:Int) (ns:List Int):Prop:=∀ n∈ns,0≤n∧n≤t
section
variable {P:Program} {w:World} {K:PySem.W.Frag} {mg:Str→Option Value} {base:Heap}
def spBoards:Sp:=fun vs H Q _=>∃ (b:Addr) (a q c s:Int),vs=[.ref b,.int s]∧BoxAt H b a q c∧c<500000000∧1≤s∧s≤16 ∧
  ∀ (l:Addr) (ns:List Int) (a' c':Int) (H':Hp),H l=none→H' l=some (.lst (ns.map V.int))→3≤ns.length→ns.length≤20→Bds (9999 / s) ns→BoxAt H' b a' q c'→c'≤c+40→SB b H H'→Q (.ref l) H'
theorem ok_some_boards {f:Addr} {fd:FuncData} (F:Fun K "_law_some_boards" "_law_some_boards" s_some_boards f fd) (T:Txt K mg) (D_take:Def P w K mg base "_law_take" 1 P_take spTake):FnOk P w K mg base CX0 2 f fd P_some_boards spBoards:=by
  refine F.ok sc_some_boards (fun vs H Q E h=>?_) (fun cdv A outer st H vs Q E hr h=>?_)
  · obtain ⟨b,a,q,c,s,rfl,_⟩:=h
    rfl
  obtain ⟨b,a,q,c,s,rfl,B,hc,hs0,hs1,k⟩:=h
  have nd:=sc_some_boards.nd
  obtain ⟨top0,top1,m0,m1⟩:=top_facts hs0 hs1
  refine ⟨_,(pss_cons (pst 2 nd (pe_op op_add pe_int (pe_defN D_take hr.m rfl (pc (pv 0) (pc (pe_ix (ix_listK (K:=K) rfl) (pe_lst (pc pe_int (pc pe_int pa_nil))) (pe_callTyN call_int1 rfl T.z_int boot_intT (pc (pe_cmpR op_eq (pe_defN D_take hr.m rfl (pc (pv 0) (pc pe_int pa_nil))) pe_int (nomark _)) pa_nil)) (fun _ _=>rfl)) pa_nil)))))
      (pss_cons (ps_asg (pe_tup (pc (pe_defN D_take hr.m rfl (pc (pv 0) (pc pe_int pa_nil))) (pc (pe_defN D_take hr.m rfl (pc (pv 0) (pc pe_int pa_nil))) pa_nil))) (pg_tupK (K:=K) (n:=2) rfl rfl (pgs_cons (pgn 3 nd) (pgs_cons (pgn 4 nd) pgs_nil))))
      (pss_cons (pst 5 nd (pe_ifExp (pt_cmpR op_lt (pv 4) pe_int (nomark _)) (pv 4) (pe_defN D_take hr.m rfl (pc (pv 0) (pc (pe_ix (ix_listK (K:=K) rfl) (pe_lst (pc pe_int (pc (pe_callBN (call_max2 rfl) rfl T.z_max boot_max (pc pe_int (pc (pe_op op_sub (pe_op op_fdiv pe_int (pv 1)) pe_int) pa_nil))) pa_nil))) (pe_op op_sub (pv 4) pe_int) (fun _ _=>rfl)) pa_nil)))))
      (pss_cons (ps_comp0 6 (compOk_of (osc:=(defScope s_some_boards)) (oN:=N_some_boards) (N:=["_law_k", "_law_first", "_law_way"]) (own:=1) (js:=[5,3]) (by decide +kernel) rfl rfl) rfl nd rfl rfl (pi_range1 rfl T.z_range (pc (pv 2) pa_nil)) (fun _ _ _ _ _ _=>(pgn 0 (show List.Nodup (["_law_k", "_law_first", "_law_way"]:List Str) by decide +kernel))) (fun _ _ _ _ _ _=>(pe_op op_add (pv 1) (pe_op op_mul (pe_ix (ix_listK (K:=K) rfl) (pe_lst (pc pe_int (pc pe_int (pc pe_int (pc pe_int pa_nil))))) (pv 2) (fun _ _=>rfl)) (pv 0)))))
      (pss_cons (pst 7 nd (pe_ifExp (pt_cmpR op_eq (pe_defN D_take hr.m rfl (pc (pv 0) (pc pe_int pa_nil))) pe_int (nomark _)) (pe_op op_fdiv pe_int (pv 1)) (pe_defN D_take hr.m rfl (pc (pv 0) (pc (pe_op op_add pe_int (pe_op op_fdiv pe_int (pv 1))) pa_nil)))))
      (pss_cons (ps_if (PW.pt (pw_or (PW.pt (pw_and (pt_cmpR op_eq (pv 3) pe_int (nomark _)) (pw_and1 (pt_cmpR (op_notIn_seqK (K:=K) rfl) (pv 7) (pv 6) rfl)))) (pw_or1 (PW.pt (pw_and (pt_cmpR op_eq (pv 7) (pe_op op_fdiv pe_int (pv 1)) (nomark _)) (pw_and1 (pt_cmpR (op_notIn_seqK (K:=K) rfl) (pv 7) (pv 6) rfl))))))) (pss_one (ps_asg (pv 7) (pg_sub (pv 6) (pe_un un_neg pe_int) set_list))) pss_nil)
      (pss_cons (ps_for PassesOwn.never rfl (pi_range1 rfl T.z_range (pc (pe_op op_sub (pv 2) pe_int) pa_nil)) (pgn 8 nd) (pss_cons (pst 9 nd (pe_op op_add (pv 8) (pe_defN D_take hr.m rfl (pc (pv 0) (pc (pe_op op_sub (pv 2) (pv 8)) pa_nil)))))
      (pss_one (ps_asg (pe_tup (pc (pe_ix (ix_listK (K:=K) rfl) (pv 6) (pv 9) (fun _ _=>rfl)) (pc (pe_ix (ix_listK (K:=K) rfl) (pv 6) (pv 8) (fun _ _=>rfl)) pa_nil))) (pg_tupK (K:=K) (n:=2) rfl rfl (pgs_cons (pg_sub (pv 6) (pv 8) set_list) (pgs_cons (pg_sub (pv 6) (pv 9) set_list) pgs_nil)))))))
      (pss_one (ps_ret (pv 6)))))))))),?_⟩
  generalize hm:(if 10000 / s - 480 > 1 then 10000 / s - 480 else 1)=m at m0 m1
  generalize ht:(9999:Int) / s=top at *
  refine hide fun uu ee=>?_
  refine ⟨_,rfl,(by show 2≤sizeLine; decide),fun p1 hp1=>⟨_,rfl,b,a,q,c,6,rfl,B.same (same_upd hp1 _),by omega,by decide,by decide,fun r1 a1 c1 H1 r10 r11 B1 hc1 s1=>⟨rfl,.inr ⟨_,rfl,?_⟩⟩⟩⟩
  have q1:b≠p1:=ne_of_none B.at' hp1
  obtain ⟨n,hn,hn'⟩:=pick01 5 18 (decide (V.int r1=V.int 0))
  refine ⟨p1,_,_,_,rfl,rfl,SqL.of (s1 _ _ (Ne.symm q1) upd_same),hn,b,a1,q,c1,n,rfl,B1,by omega,by omega,by omega,fun r2 a2 c2 H2 r20 r21 B2 hc2 s2=>⟨_,_,rfl,rfl,?_⟩⟩
  have mn0:3≤3+r2:=by omega
  have mn1:3+r2≤20:=by omega
  have u2:SB b H H2:=(((same_upd hp1 _).sb b).trans s1).trans s2
  dsimp only [gName]
  subst ee
  try dsimp only
  refine hide fun uu ee=>?_
  refine ⟨_,rfl,b,a2,q,c2,4,rfl,B2,by omega,by decide,by decide,fun r3 a3 c3 H3 r30 r31 B3 hc3 s3=>?_⟩
  refine ⟨_,rfl,b,a3,q,c3,4,rfl,B3,by omega,by decide,by decide,fun r4 a4 c4 H4' r40 r41 B4' hc4 s4=>⟨(by show 2≤sizeLine; decide),fun p4 hp4=>⟨p4,_,rfl,SqT.of upd_same,rfl,_,_,rfl,_,_,rfl,rfl,?_⟩⟩⟩
  have B4:=B4'.same (same_upd hp4 (.tup [.int r3,.int r4]))
  have u4:SB b H (upd H4' p4 (.tup [.int r3,.int r4])):=((u2.trans s3).trans s4).trans ((same_upd hp4 _).sb b)
  generalize upd H4' p4 (.tup [.int r3,.int r4])=H4 at *
  subst ee
  try dsimp only
  refine cpA (fun v G=>∃ z a' c',v=.int z∧0≤z∧z+456≤top∧BoxAt G b a' q c'∧c'≤c4+1∧SB b H G) (fun Q' k'=>?_) ?_
  · refine ⟨_,rfl,_,_,rfl,rfl,_,rfl,ite_dec (fun c2'=>⟨_,rfl,k' _ _ ⟨_,a4,c4,rfl,r40,by omega,B4,by omega,u4⟩⟩) (fun c2'=>?_)⟩
    refine ⟨_,rfl,_,rfl,_,_,rfl,rfl,⟨by omega,by omega⟩,_,_,rfl,rfl,_,_,rfl,(by show 2≤sizeLine; decide),fun p2 hp2=>?_⟩
    have q2:b≠p2:=ne_of_none B4.at' hp2
    rw [hm]
    obtain ⟨n2,hn2,hn2'⟩:=pick2 100 m (r4 - 2) (by omega) (by omega)
    refine ⟨_,rfl,_,_,rfl,rfl,p2,_,_,_,rfl,rfl,SqL.of upd_same,hn2,b,a4,q,c4,n2,rfl,B4.same (same_upd hp2 _),by omega,by omega,by omega,fun r5 a5 c5 H5 r50 r51 B5 hc5 s5=>?_⟩
    exact k' _ _ ⟨r5,a5,c5,rfl,r50,by omega,B5,by omega,u4.trans (((same_upd hp2 _).sb b).trans s5)⟩
  rintro _ H5 ⟨z,a5,c5,rfl,z0,z1,B5,hc5,u5⟩
  dsimp only [gName]
  refine hide fun uu ee=>?_
  refine ⟨_,rfl,_,rfl,by omega,by omega,fun l hl=>?_⟩
  have hlH:H l=none:=sb_fresh u5 B5.at' hl
  have nlb:l≠b:=Ne.symm (ne_of_none B5.at' hl)
  have hmn:(3+r2).toNat≤20:=by omega
  refine comp_range (lo:=0) (n:=(3+r2).toNat) (l:=l) (fun j ys σ G=>∃ (v0:Option V) (ns:List Int),σ=[v0,some (.int z),some (.int r3)]∧ys=ns.map V.int∧ns.length=j∧Bds top ns∧G l=some (.lst ys)∧Same H5 G)
    ⟨none,[],rfl,rfl,rfl,fun n hn=>(nomatch hn),upd_same,same_upd hl _⟩ ?_ ?_
  · rintro j ys σ G hj hy ⟨v0,ns,rfl,rfl,hj',hb',h1,h2⟩
    refine ⟨_,rfl,(by show 4≤sizeLine; decide),fun p hp=>?_⟩
    obtain ⟨n4,hn4,hn4'⟩:=pick4s r3 r30 r31
    have np:l≠p:=ne_of_none h1 hp
    have j20:(j:Int)≤19:=by omega
    refine ⟨_,rfl,p,_,_,_,rfl,rfl,SqL.of upd_same,hn4,_,rfl,_,_,rfl,rfl,.inl ⟨by omega,by omega⟩,_,_,rfl,rfl,CNx.of (Nat.le_trans hmn (by decide)) hj hy (by rw [upd_ne np]; exact h1) ⟨_,ns++[z+n4 * (0+(j:Int))],rfl,by rw [List.map_append]; rfl,by rw [List.length_append,hj']; rfl,fun x hx=>?_,upd_same,fun e o y=>?_⟩⟩
    · rcases List.mem_append.mp hx with h | h
      · exact hb' x h
      · have ex:x=z+n4 * (0+(j:Int)):=by simpa using h
        subst ex
        rcases hn4' with rfl | rfl | rfl
        · exact ⟨by omega,by omega⟩
        · exact ⟨by omega,by omega⟩
        · exact ⟨by omega,by omega⟩
    · rw [upd_ne (ne_of_none y hl)]
      exact same_upd hp _ _ _ (h2 _ _ y)
  rintro ys σ G hy ⟨v0,ns,rfl,rfl,hj',hb',h1,h2⟩
  have B6:=B5.same h2
  have u6:SB b H G:=u5.trans (h2.sb b)
  have ln3:3≤ns.length:=by omega
  have ln20:ns.length≤20:=by omega
  dsimp only [gName]
  subst ee
  try dsimp only
  refine cpA (fun v G'=>∃ z a' c',v=.int z∧0≤z∧z≤top∧BoxAt G' b a' q c'∧c'≤c5+2∧SB b G G') (fun Q' k'=>?_) ?_
  · refine ⟨_,rfl,b,a5,q,c5,5,rfl,B6,by omega,by decide,by decide,fun r7 a7 c7 H7 r70 r71 B7 hc7 s7=>⟨rfl,_,rfl,ite_dec (fun _=>?_) (fun _=>?_)⟩⟩
    · refine ⟨_,rfl,_,_,rfl,rfl,⟨by omega,by omega⟩,?_⟩
      exact k' _ _ ⟨_,a7,c7,rfl,by rw [ht]; omega,by rw [ht]; omega,B7,by omega,s7⟩
    · refine ⟨_,rfl,_,rfl,_,_,rfl,rfl,⟨by omega,by omega⟩,_,_,rfl,rfl,b,a7,q,c7,_,rfl,B7,by omega,by rw [ht]; omega,by rw [ht]; omega,fun r8 a8 c8 H8 r80 r81 B8 hc8 s8=>?_⟩
      exact k' _ _ ⟨_,a8,c8,rfl,r80,by rw [ht] at r81; omega,B8,by omega,s7.trans s8⟩
  rintro _ H7 ⟨fr,a7,c7,rfl,fr0,fr1,B7,hc7,s7⟩
  have h7:=s7 _ _ nlb h1
  have u7:SB b H H7:=u6.trans s7
  refine cpI (fun σ G'=>∃ ns':List Int,σ=[some (.ref b),some (.int s),some (.int (3+r2)),some (.int r3),some (.int r4),some (.int z),some (.ref l),some (.int fr),none,none]∧G' l=some (.lst (ns'.map V.int))∧ns'.length=ns.length∧Bds top ns'∧BoxAt G' b a7 q c7∧SB b H G') (fun D' _ k'=>?_) ?_
  · refine cpIfS (fun _ G'=>G'=H7) (fun Q' k''=>?_) ?_
    · refine cpOr (fun _ G'=>G'=H7) (fun Q'' k3=>?_) ?_
      · exact ⟨_,rfl,rfl,_,rfl,ite_dec (fun _=>⟨_,rfl,_,rfl,l,_,rfl,.inl (SqL.of h7),rfl,ints_flat _,_,rfl,k3 _ _ rfl⟩) (fun _=>k3 _ _ rfl)⟩
      · rintro cb _ rfl
        cases cb with
        | true=>exact ifT rfl (k'' _ _ rfl)
        | false=>exact ifF rfl ⟨_,rfl,_,rfl,_,_,rfl,rfl,⟨by omega,by omega⟩,rfl,_,rfl,ite_dec (fun _=>⟨_,rfl,_,rfl,l,_,rfl,.inl (SqL.of h7),rfl,ints_flat _,_,rfl,k'' _ _ rfl⟩) (fun _=>k'' _ _ rfl)⟩
    · rintro cb _ rfl
      cases cb with
      | false=>exact ifF rfl (k' _ _ ⟨ns,rfl,h7,rfl,hb',B7,u7⟩)
      | true =>
        refine ifT rfl ⟨_,rfl,_,rfl,_,rfl,l,_,_,_,rfl,rfl,h7,ixN_last (by rw [List.length_map]; omega),k' _ _ ⟨ns.set (ns.length - 1) fr,rfl,?_,List.length_set,fun x hx=>?_,B7.sb (sb_upd l _ _) (Ne.symm nlb),fun e o n' y=>?_⟩⟩
        · rw [upd_same,List.length_map,set_ints]
        · rcases mem_set hx with h | h
          · exact hb' x h
          · subst h; exact ⟨fr0,fr1⟩
        · rw [upd_ne (ne_of_none y hlH)]; exact u7 _ _ n' y
  rintro _ H8 ⟨ns8,rfl,h8,l8,b8,B8,u8⟩
  refine ⟨_,rfl,_,_,rfl,rfl,_,rfl,by omega,by omega,for_range (lo:=0) (n:=(3+r2 - 1).toNat) (fun j σ G'=>∃ (ns':List Int) (v8 v9:Option V) (a' c':Int),σ=[some (.ref b),some (.int s),some (.int (3+r2)),some (.int r3),some (.int r4),some (.int z),some (.ref l),some (.int fr),v8,v9]∧G' l=some (.lst (ns'.map V.int))∧ns'.length=ns.length∧Bds top ns'∧BoxAt G' b a' q c'∧c'≤c7+(j:Int)∧SB b H G')
    ⟨ns8,_,_,a7,c7,rfl,h8,l8,b8,B8,by omega,u8⟩ ?_ ?_⟩
  · rintro j σ G' hj ⟨ns',v8,v9,a',c',rfl,h1',l',b',B',hc',u'⟩
    have j20:(j:Int)≤18:=by omega
    have jl:(j:Int)+1<3+r2:=by omega
    refine ⟨_,rfl,_,rfl,_,rfl,_,rfl,_,_,rfl,rfl,b,a',q,c',_,rfl,B',by omega,by omega,by omega,fun r9 a9 c9 H9 r90 r91 B9 hc9 s9=>⟨_,_,rfl,rfl,?_⟩⟩
    have h9:=s9 _ _ nlb h1'
    obtain ⟨x1,hx1,mx1⟩:=at_mem (ns:=ns') (k:=0+(j:Int)+r9) (by omega) (by omega)
    obtain ⟨x2,hx2,mx2⟩:=at_mem (ns:=ns') (k:=0+(j:Int)) (by omega) (by omega)
    refine ⟨_,rfl,_,rfl,l,_,_,_,rfl,rfl,SqL.of h9,hx1,_,rfl,_,rfl,l,_,_,_,rfl,rfl,SqL.of h9,hx2,(by show 2≤sizeLine; decide),fun t ht'=>?_⟩
    have nlt:l≠t:=ne_of_none h9 ht'
    refine ⟨t,_,rfl,SqT.of upd_same,rfl,_,_,rfl,_,rfl,_,rfl,l,_,_,_,rfl,rfl,(by rw [upd_ne nlt]; exact h9),ixN_ok (by omega) (by rw [List.length_map]; omega),?_⟩
    refine ⟨_,_,rfl,_,rfl,_,rfl,l,_,_,_,rfl,rfl,upd_same,ixN_ok (by omega) (by rw [List.length_set,List.length_map]; omega),rfl,?_⟩
    refine ⟨(ns'.set (0+(j:Int)).toNat x1).set (0+(j:Int)+r9).toNat x2,_,_,a9,c9,rfl,by rw [upd_same,set_ints,set_ints],by rw [List.length_set,List.length_set]; exact l',fun x hx=>?_,?_,by omega,fun e o n' y=>?_⟩
    · rcases mem_set hx with h | h
      · rcases mem_set h with h | h
        · exact b' x h
        · subst h; exact b' _ mx1
      · subst h; exact b' _ mx2
    · exact ((B9.same (same_upd ht' _)).sb (sb_upd l _ _) (Ne.symm nlb)).sb (sb_upd l _ _) (Ne.symm nlb)
    · have ne:e≠l:=ne_of_none y hlH
      rw [upd_ne ne,upd_ne ne]
      exact same_upd ht' _ _ _ (s9 _ _ n' (u' _ _ n' y))
  · rintro σ G' ⟨ns',v8,v9,a',c',rfl,h1',l',b',B',hc',u'⟩
    exact ⟨_,rfl,k l ns' a' c' G' hlH h1' (by omega) (by omega) b' B' (by omega) u'⟩
end
section
variable {P:Program} {w:World} {K:PySem.W.Frag} {mg:Str→Option Value} {base:Heap}
def spShape:Sp:=fun vs H Q _=>∃ (b:Addr) (a q c:Int),vs=[.ref b]∧BoxAt H b a q c∧c<500000000 ∧
  ∀ (p:Addr) (sh pl:Int) (r:Str) (a' c':Int) (H':Hp),H' p=some (.tup [.int sh,.int pl,.str r])→1≤sh→sh≤64→1≤pl→pl≤16→Rule r→BoxAt H' b a' q c'→c'≤c+5→SB b H H'→Q (.ref p) H'
theorem ok_shape {f:Addr} {fd:FuncData} (F:Fun K "_law_shape" "_law_shape" s_shape f fd) (T:Txt K mg) (D_take:Def P w K mg base "_law_take" 1 P_take spTake):FnOk P w K mg base CX0 2 f fd P_shape spShape:=by
  refine F.ok sc_shape (fun vs H Q E h=>?_) (fun cdv A outer st H vs Q E hr h=>?_)
  · obtain ⟨b,a,q,c,rfl,_⟩:=h
    rfl
  obtain ⟨b,a,q,c,rfl,B,hc,k⟩:=h
  have nd:=sc_shape.nd
  refine ⟨_,(pss_cons (pst 1 nd (pe_cmpR op_eq (pe_defN D_take hr.m rfl (pc (pv 0) (pc pe_int pa_nil))) pe_int (nomark _)))
      (pss_cons (pst 2 nd (pe_ifExp (pt_val (pv 1)) (pe_op op_add pe_int (pe_defN D_take hr.m rfl (pc (pv 0) (pc pe_int pa_nil)))) (pe_ix (ix_listK (K:=K) rfl) (pe_lst (pc pe_int (pc pe_int (pc pe_int (pc pe_int (pc pe_int pa_nil)))))) (pe_defN D_take hr.m rfl (pc (pv 0) (pc pe_int pa_nil))) (fun _ _=>rfl))))
      (pss_one (ps_ret (pe_tup (pc (pv 2) (pc (pe_op op_add pe_int (pe_defN D_take hr.m rfl (pc (pv 0) (pc (pe_ifExp (pt_val (pv 1)) pe_int pe_int) pa_nil)))) (pc (pe_ix (ix_listK (K:=K) rfl) (pe_lst (pc pe_str (pc pe_str (pc pe_str pa_nil)))) (pe_defN D_take hr.m rfl (pc (pv 0) (pc pe_int pa_nil))) (fun _ _=>rfl)) pa_nil)))))))),?_⟩
  refine ⟨_,rfl,b,a,q,c,6,rfl,B,by omega,by decide,by decide,fun r1 a1 c1 H1 r10 r11 B1 hc1 s1=>⟨rfl,?_⟩⟩
  generalize decide (V.int r1=V.int 0)=far
  dsimp only
  refine cpA (fun v G=>∃ z a' c',v=.int z∧1≤z∧z≤64∧BoxAt G b a' q c'∧c'≤c1+1∧SB b H G) (fun Q' k'=>?_) ?_
  · refine ⟨_,rfl,_,rfl,?_⟩
    cases far with
    | true=>exact ifT rfl ⟨_,rfl,b,a1,q,c1,64,rfl,B1,by omega,by decide,by decide,fun r2 a2 c2 H2 r20 r21 B2 hc2 s2=>⟨_,_,rfl,rfl,k' _ _ ⟨_,a2,c2,rfl,by omega,by omega,B2,by omega,s1.trans s2⟩⟩⟩
    | false =>
      refine ifF rfl ⟨(by show 5≤sizeLine; decide),fun p0 hp0=>⟨_,rfl,b,a1,q,c1,5,rfl,B1.same (same_upd hp0 _),by omega,by decide,by decide,fun r2 a2 c2 H2 r20 r21 B2 hc2 s2=>?_⟩⟩
      have q0:b≠p0:=ne_of_none B1.at' hp0
      obtain ⟨sh,hsh,sh0,sh1⟩:=pick5 r2 r20 r21
      exact ⟨p0,_,_,_,rfl,rfl,SqL.of (s2 _ _ (Ne.symm q0) upd_same),hsh,k' _ _ ⟨_,a2,c2,rfl,sh0,sh1,B2,by omega,s1.trans (((same_upd hp0 _).sb b).trans s2)⟩⟩
  rintro _ H2 ⟨sh,a2,c2,rfl,sh0,sh1,B2,hc2,u2⟩
  refine ⟨_,rfl,_,rfl,?_⟩
  refine cpE (te:=tIf _ _ _) (fun v G=>∃ z,v=.int z∧4≤z∧z≤16∧G=H2) (fun Q' k'=>?_) ?_
  · refine ⟨_,rfl,_,rfl,?_⟩
    cases far with
    | true=>exact ifT rfl (k' _ _ ⟨_,rfl,by decide,by decide,rfl⟩)
    | false=>exact ifF rfl (k' _ _ ⟨_,rfl,by decide,by decide,rfl⟩)
  rintro _ _ ⟨n,rfl,n0,n1,rfl⟩
  refine ⟨b,a2,q,c2,_,rfl,B2,by omega,by omega,by omega,fun r3 a3 c3 H3 r30 r31 B3 hc3 s3=>⟨_,_,rfl,rfl,(by show 3≤sizeLine; decide),fun p3 hp3=>⟨_,rfl,b,a3,q,c3,3,rfl,B3.same (same_upd hp3 _),by omega,by decide,by decide,fun r4 a4 c4 H4 r40 r41 B4 hc4 s4=>?_⟩⟩⟩
  have q3:b≠p3:=ne_of_none B3.at' hp3
  obtain ⟨ru,hru,iru⟩:=pickR r4 r40 r41
  refine ⟨p3,_,_,_,rfl,rfl,SqL.of (s4 _ _ (Ne.symm q3) upd_same),hru,(by show 3≤sizeLine; decide),fun pp hpp=>?_⟩
  exact k pp sh _ ru a4 c4 _ upd_same sh0 sh1 (by omega) (by omega) iru (B4.same (same_upd hpp _)) (by omega)
    (((u2.trans s3).trans (((same_upd hp3 _).sb b).trans s4)).trans ((same_upd hpp _).sb b))
def spAsked:Sp:=fun vs H Q _=>∃ (b:Addr) (a q c fw mt:Int),vs=[.ref b,.int fw,.int mt]∧BoxAt H b a q c∧c<400000000∧0≤fw∧fw≤mt∧mt≤400 ∧
  ∀ (l:Addr) (ns:List Int) (a' c':Int) (H':Hp),H l=none→H' l=some (.lst (ns.map V.int))→(ns.length:Int)≤mt→Bds 9999 ns→BoxAt H' b a' q c'→c'≤c+2000→SB b H H'→Q (.ref l) H'
theorem pickA (x0 x1 x2 x3 x4 r:Int) (h0:0≤r) (h1:r<5):∃ n:Int,atI [V.int x0,V.int x1,V.int x2,V.int x3,V.int x4] r=some (.int n)∧(n=x0∨n=x1∨n=x2∨n=x3∨n=x4):=by
  obtain ⟨x,hx,m⟩:=atI_some (xs:=[V.int x0,V.int x1,V.int x2,V.int x3,V.int x4]) h0 (by show r<((5:Nat):Int); omega)
  simp only [List.mem_cons,List.not_mem_nil,or_false] at m
  rcases m with rfl | rfl | rfl | rfl | rfl
  · exact ⟨_,hx,.inl rfl⟩
  · exact ⟨_,hx,.inr (.inl rfl)⟩
  · exact ⟨_,hx,.inr (.inr (.inl rfl))⟩
  · exact ⟨_,hx,.inr (.inr (.inr (.inl rfl)))⟩
  · exact ⟨_,hx,.inr (.inr (.inr (.inr rfl)))⟩
theorem min_if (x y:Int):(if y<x then y else x)≤x∧(if y<x then y else x)≤y∧((if y<x then y else x)=x∨(if y<x then y else x)=y):=by
  split <;> refine ⟨by omega,by omega,by omega⟩
theorem ok_asked {f:Addr} {fd:FuncData} (F:Fun K "_law_asked" "_law_asked" s_asked f fd) (T:Txt K mg) (D_take:Def P w K mg base "_law_take" 1 P_take spTake) (D_some_boards:Def P w K mg base "_law_some_boards" 2 P_some_boards spBoards):FnOk P w K mg base CX0 3 f fd P_asked spAsked:=by
  refine F.ok sc_asked (fun vs H Q E h=>?_) (fun cdv A outer st H vs Q E hr h=>?_)
  · obtain ⟨b,a,q,c,fw,mt,rfl,_⟩:=h
    rfl
  obtain ⟨b,a,q,c,fw,mt,rfl,B,hc,hf0,hfm,hm1,k⟩:=h
  have nd:=sc_asked.nd
  refine ⟨_,(pss_cons (pst 3 nd (pe_defN D_some_boards hr.m rfl (pc (pv 0) (pc pe_int pa_nil))))
      (pss_cons (pst 4 nd (pe_ifExp (pt_cmpR op_eq (pe_defN D_take hr.m rfl (pc (pv 0) (pc pe_int pa_nil))) pe_int (nomark _)) (pe_defN D_take hr.m rfl (pc (pv 0) (pc (pe_op op_add (pv 2) pe_int) pa_nil))) (pe_defN D_take hr.m rfl (pc (pv 0) (pc (pe_op op_add (pv 1) pe_int) pa_nil)))))
      (pss_cons (ps_par (i:=5) (j:=6) rfl nd rfl rfl (by decide) rfl rfl (pc (pe_defN D_take hr.m rfl (pc (pv 0) (pc pe_int pa_nil))) (pc (pe_lst pa_nil) pa_nil)) rfl)
      (pss_cons (ps_for PassesOwn.never rfl (pi_range1 rfl T.z_range (pc (pv 4) pa_nil)) (pgn 7 nd) (pss_cons (pst 8 nd (pe_ifExp (PW.pt (pw_or (pt_cmpR (op_in_seqK (K:=K) rfl) (pv 5) (pe_tup (pc pe_int (pc pe_int pa_nil))) rfl) (pw_or1 (PW.pt (pw_and (pt_cmpR op_eq (pv 5) pe_int (nomark _)) (pw_and1 (pt_cmpR op_eq (pe_op op_mod (pv 7) pe_int) pe_int (nomark _)))))))) (pe_ix (ix_listK (K:=K) rfl) (pv 3) (pe_defN D_take hr.m rfl (pc (pv 0) (pc (pe_callBN (call_len_seqK (K:=K) rfl) rfl T.z_len PySem.boot_len (pc (pv 3) pa_nil)) pa_nil))) (fun _ _=>rfl)) pe_int))
      (pss_cons (pst 9 nd (pe_op op_mod (pv 7) (pe_op op_sub (pe_op op_mul pe_int (pe_callBN (call_len_seqK (K:=K) rfl) rfl T.z_len PySem.boot_len (pc (pv 3) pa_nil))) pe_int)))
      (pss_cons (pst 10 nd (pe_ix (ix_listK (K:=K) rfl) (pv 3) (pe_callBN (call_min2 rfl) rfl T.z_min boot_min (pc (pv 9) (pc (pe_op op_sub (pe_op op_sub (pe_op op_mul pe_int (pe_callBN (call_len_seqK (K:=K) rfl) rfl T.z_len PySem.boot_len (pc (pv 3) pa_nil))) pe_int) (pv 9)) pa_nil))) (fun _ _=>rfl)))
      (pss_cons (pst 11 nd (pe_ifExp (pt_cmpR op_eq (pe_defN D_take hr.m rfl (pc (pv 0) (pc pe_int pa_nil))) pe_int (nomark _)) (pv 8) (pe_ix (ix_listK (K:=K) rfl) (pv 3) pe_int (fun _ _=>rfl))))
      (pss_one (ps_expr (pe_bmC (K:=K) rfl (pe_bm PySem.F.plainAttrs_list PySem.F.slot_list_append PySem.F.type_list_append mt_append (pv 6) (pc (pe_ix (ix_listK (K:=K) rfl) (pe_lst (pc (pv 8) (pc (pe_ix (ix_listK (K:=K) rfl) (pv 3) (pe_op op_mod (pv 7) (pe_callBN (call_len_seqK (K:=K) rfl) rfl T.z_len PySem.boot_len (pc (pv 3) pa_nil))) (fun _ _=>rfl)) (pc (pe_ifExp (pt_cmpR op_eq (pe_op op_mod (pv 7) pe_int) pe_int (nomark _)) (pv 8) (pe_ix (ix_listK (K:=K) rfl) (pv 3) (pe_op op_mod (pv 7) (pe_callBN (call_len_seqK (K:=K) rfl) rfl T.z_len PySem.boot_len (pc (pv 3) pa_nil))) (fun _ _=>rfl))) (pc (pv 10) (pc (pv 11) pa_nil)))))) (pv 5) (fun _ _=>rfl)) pa_nil))))))))))
      (pss_one (ps_ret (pv 6))))))),?_⟩
  refine ⟨_,rfl,b,a,q,c,1,rfl,B,by omega,by decide,by decide,fun l1 ns1 a1 c1 H1 hl1 e1 g3 g20 bd B1 hc1 s1=>?_⟩
  have bd':∀ n∈ns1,0≤n∧n≤9999:=bd
  have nl1:l1≠b:=fun e=>by rw [e,B.at'] at hl1; cases hl1
  dsimp only
  refine cpA (fun v G=>∃ z a' c',v=.int z∧0≤z∧z≤mt∧BoxAt G b a' q c'∧c'≤c1+2∧SB b H1 G) (fun Q' k'=>?_) ?_
  · refine ⟨_,rfl,b,a1,q,c1,8,rfl,B1,by omega,by decide,by decide,fun r2 a2 c2 H2 r20 r21 B2 hc2 s2=>⟨rfl,_,rfl,ite_dec (fun _=>?_) (fun _=>?_)⟩⟩
    · refine ⟨_,rfl,_,rfl,_,_,rfl,rfl,b,a2,q,c2,_,rfl,B2,by omega,by omega,by omega,fun r3 a3 c3 H3 r30 r31 B3 hc3 s3=>?_⟩
      exact k' _ _ ⟨_,a3,c3,rfl,r30,by omega,B3,by omega,s2.trans s3⟩
    · refine ⟨_,rfl,_,rfl,_,_,rfl,rfl,b,a2,q,c2,_,rfl,B2,by omega,by omega,by omega,fun r3 a3 c3 H3 r30 r31 B3 hc3 s3=>?_⟩
      exact k' _ _ ⟨_,a3,c3,rfl,r30,by omega,B3,by omega,s2.trans s3⟩
  rintro _ H3 ⟨sz,a3,c3,rfl,sz0,sz1,B3,hc3,s3⟩
  refine ⟨_,rfl,b,a3,q,c3,5,rfl,B3,by omega,by decide,by decide,fun wy a4 c4 H4 wy0 wy1 B4 hc4 s4=>⟨(by show 0≤sizeLine; decide),fun l hl=>⟨_,_,rfl,?_⟩⟩⟩
  have u4:SB b H H4:=s1.trans (s3.trans s4)
  have hlH:H l=none:=sb_fresh u4 B4.at' hl
  have nlb:l≠b:=Ne.symm (ne_of_none B4.at' hl)
  have e4:=s4 _ _ nl1 (s3 _ _ nl1 e1)
  have nll:l1≠l:=ne_of_none e4 hl
  have L0:(3:Int)≤ns1.length:=by omega
  have L1:(ns1.length:Int)≤20:=by omega
  refine ⟨_,rfl,_,rfl,by omega,by omega,for_range (lo:=0) (n:=sz.toNat) (fun j σ G=>∃ (v7 v8 v9 v10 v11:Option V) (ns:List Int) (a' c':Int),σ=[some (.ref b),some (.int fw),some (.int mt),some (.ref l1),some (.int sz),some (.int wy),some (.ref l),v7,v8,v9,v10,v11]∧G l=some (.lst (ns.map V.int))∧ns.length=j∧Bds 9999 ns∧G l1=some (.lst (ns1.map V.int))∧BoxAt G b a' q c'∧c'≤c4+2 * (j:Int)∧SB b H G)
    ⟨_,_,_,_,_,[],a4,c4,rfl,upd_same,rfl,fun n hn=>(nomatch hn),by rw [upd_ne nll]; exact e4,B4.same (same_upd hl _),by omega,u4.trans ((same_upd hl _).sb b)⟩ ?_ ?_⟩
  · rintro j σ G hj ⟨v7,v8,v9,v10,v11,ns,a',c',rfl,h1,h2,h3,h4,h5,h6,h7⟩
    have j400:(j:Int)<400:=by omega
    refine cpA (fun v G'=>∃ z a'' c'',v=.int z∧0≤z∧z≤9999∧BoxAt G' b a'' q c''∧c''≤c'+1∧SB b G G') (fun Q' k'=>?_) ?_
    · refine cpIf (fun _ G'=>Same G G') (fun Q'' k''=>?_) ?_
      · refine ⟨_,rfl,(by show 2≤sizeLine; decide),fun p hp=>⟨p,_,rfl,.inr (SqT.of upd_same),rfl,rfl,_,rfl,?_⟩⟩
        have sp:=same_upd hp (.tup [.int 0,.int 4])
        generalize (if false=true then !inV (V.int wy) [V.int 0,V.int 4] else inV (V.int wy) [V.int 0,V.int 4])=cw
        cases cw with
        | true=>exact ifT rfl (k'' _ _ sp)
        | false=>exact ifF rfl ⟨_,rfl,rfl,_,rfl,ite_dec (fun _=>⟨_,rfl,_,_,rfl,rfl,(by show (0:Int)<3; decide),rfl,_,rfl,k'' _ _ sp⟩) (fun _=>k'' _ _ sp)⟩
      · rintro cb G' sg
        have B':=h5.same sg
        have h4':=sg _ _ h4
        cases cb with
        | false=>exact ifF rfl (k' _ _ ⟨0,a',c',rfl,by decide,by decide,B',by omega,sg.sb b⟩)
        | true =>
          refine ifT rfl ⟨_,rfl,_,rfl,_,rfl,l1,_,rfl,.inl (SqL.of h4'),b,a',q,c',_,rfl,B',by omega,by rw [List.length_map]; omega,by rw [List.length_map]; omega,fun r8 a8 c8 H8 r80 r81 B8 hc8 s8=>?_⟩
          rw [List.length_map] at r81
          obtain ⟨x1,hx1,mx1⟩:=at_mem (ns:=ns1) r80 r81
          obtain ⟨y0,y1⟩:=bd' _ mx1
          exact ⟨l1,_,_,_,rfl,rfl,SqL.of (s8 _ _ nl1 h4'),hx1,k' _ _ ⟨_,a8,c8,rfl,y0,y1,B8,by omega,(sg.sb b).trans s8⟩⟩
    rintro _ G1 ⟨dr,a1',c1',rfl,dr0,dr1,B1',hc1',t1⟩
    have g4:=t1 _ _ nl1 h4
    have g1:=t1 _ _ nlb h1
    dsimp only [gName]
    refine hide fun uu ee=>?_
    have len1:(ns1.map V.int).length=ns1.length:=List.length_map ..
    refine ⟨_,rfl,_,rfl,l1,_,rfl,.inl (SqL.of g4),_,_,rfl,rfl,.inl ⟨by decide,by decide⟩,_,_,rfl,rfl,_,_,rfl,rfl,(by show (0:Int)<_; rw [len1]; omega),?_⟩
    dsimp only [gName]
    subst ee
    try dsimp only
    refine hide fun uu ee=>?_
    obtain ⟨x2,hx2,mx2⟩:∃ x2,atI (ns1.map V.int) (if 2 * (ns1.length:Int) - 2 - (0+(j:Int)) % (2 * (ns1.length:Int) - 2)<(0+(j:Int)) % (2 * (ns1.length:Int) - 2) then 2 * (ns1.length:Int) - 2 - (0+(j:Int)) % (2 * (ns1.length:Int) - 2) else (0+(j:Int)) % (2 * (ns1.length:Int) - 2))=some (.int x2)∧x2∈ns1:=by
      have bk0:0≤(0+(j:Int)) % (2 * (ns1.length:Int) - 2):=em0 _ (by omega)
      have bk1:(0+(j:Int)) % (2 * (ns1.length:Int) - 2)<2 * (ns1.length:Int) - 2:=em1 _ (by omega)
      generalize (0+(j:Int)) % (2 * (ns1.length:Int) - 2)=bk at *
      obtain ⟨mi1,mi2,mi3⟩:=min_if bk (2 * (ns1.length:Int) - 2 - bk)
      generalize (if 2 * (ns1.length:Int) - 2 - bk<bk then 2 * (ns1.length:Int) - 2 - bk else bk)=mi at *
      exact at_mem (by omega) (by omega)
    obtain ⟨tu0,tu1⟩:=bd' _ mx2
    refine ⟨_,rfl,_,rfl,_,rfl,l1,_,rfl,.inl (SqL.of g4),_,_,rfl,rfl,.inl ⟨by decide,by decide⟩,_,_,rfl,rfl,_,rfl,_,_,rfl,rfl,_,_,rfl,l1,_,_,_,rfl,rfl,SqL.of g4,(by rw [len1]; exact hx2),?_⟩
    dsimp only [gName]
    subst ee
    try dsimp only
    obtain ⟨x0,hx0,mx0⟩:=at_mem (ns:=ns1) (k:=0) (by decide) (by omega)
    obtain ⟨of0,of1⟩:=bd' _ mx0
    refine cpA (fun v G'=>∃ z a'' c'',v=.int z∧0≤z∧z≤9999∧BoxAt G' b a'' q c''∧c''≤c1'+1∧SB b G1 G') (fun Q' k'=>?_) ?_
    · refine ⟨_,rfl,b,a1',q,c1',2,rfl,B1',by omega,by decide,by decide,fun r9 a9 c9 H9 r90 r91 B9 hc9 s9=>⟨rfl,_,rfl,ite_dec (fun _=>⟨_,rfl,k' _ _ ⟨_,a9,c9,rfl,dr0,dr1,B9,by omega,s9⟩⟩) (fun _=>⟨_,rfl,l1,_,_,_,rfl,rfl,SqL.of (s9 _ _ nl1 g4),hx0,k' _ _ ⟨_,a9,c9,rfl,of0,of1,B9,by omega,s9⟩⟩)⟩⟩
    rintro _ G2 ⟨ft,a2',c2',rfl,ft0,ft1,B2',hc2',t2⟩
    have k4:=t2 _ _ nl1 g4
    have k1:=t2 _ _ nlb g1
    have md0:0≤(0+(j:Int)) % (ns1.length:Int):=em0 _ (by omega)
    have md1:(0+(j:Int)) % (ns1.length:Int)<ns1.length:=em1 _ (by omega)
    obtain ⟨x3,hx3,mx3⟩:=at_mem (ns:=ns1) md0 md1
    obtain ⟨y30,y31⟩:=bd' _ mx3
    refine ⟨_,rfl,.inl ⟨rfl,_,SqL.of k1⟩,_,rfl,_,rfl,_,rfl,_,rfl,l1,_,rfl,.inl (SqL.of k4),_,_,rfl,rfl,(by show (0:Int)<_; rw [len1]; omega),l1,_,_,_,rfl,rfl,SqL.of k4,(by rw [len1]; exact hx3),?_⟩
    refine cpE (te:=tIf _ _ _) (fun v G'=>∃ z,v=.int z∧0≤z∧z≤9999∧G'=G2) (fun Q' k'=>?_) ?_
    · refine ⟨_,rfl,_,_,rfl,rfl,(by show (0:Int)<3; decide),rfl,_,rfl,ite_dec (fun _=>⟨_,rfl,k' _ _ ⟨_,rfl,dr0,dr1,rfl⟩⟩) (fun _=>?_)⟩
      exact ⟨_,rfl,_,rfl,_,rfl,l1,_,rfl,.inl (SqL.of k4),_,_,rfl,rfl,(by show (0:Int)<_; rw [len1]; omega),l1,_,_,_,rfl,rfl,SqL.of k4,(by rw [len1]; exact hx3),k' _ _ ⟨_,rfl,y30,y31,rfl⟩⟩
    rintro _ _ ⟨mid,rfl,mid0,mid1,rfl⟩
    obtain ⟨pk,hpk,hpk'⟩:=pickA dr x3 mid x2 ft wy wy0 wy1
    refine ⟨_,rfl,_,rfl,(by show 5≤sizeLine; decide),fun p hp=>⟨_,rfl,p,_,_,_,rfl,rfl,SqL.of upd_same,hpk,l,_,_,rfl,rfl,(by rw [upd_ne (ne_of_none k1 hp)]; exact k1),small1000 (by rw [List.length_map]; omega),?_⟩⟩
    have pk0:0≤pk∧pk≤9999:=by rcases hpk' with rfl | rfl | rfl | rfl | rfl <;> exact ⟨by omega,by omega⟩
    refine ⟨_,_,_,_,_,ns++[pk],a2',c2',rfl,by rw [upd_same,List.map_append]; rfl,by rw [List.length_append,h2]; rfl,fun n hn=>?_,?_,(B2'.same (same_upd hp _)).sb (sb_upd l _ _) (Ne.symm nlb),by omega,fun e o n' y=>?_⟩
    · rcases List.mem_append.mp hn with h | h
      · exact h3 n h
      · have en:n=pk:=by simpa using h
        subst en; exact pk0
    · rw [upd_ne nll]; exact same_upd hp _ _ _ k4
    · rw [upd_ne (ne_of_none y hlH)]
      exact same_upd hp _ _ _ (t2 _ _ n' (t1 _ _ n' (h7 _ _ n' y)))
  · rintro σ G ⟨v7,v8,v9,v10,v11,ns,a',c',rfl,h1,h2,h3,h4,h5,h6,h7⟩
    exact ⟨_,rfl,k l ns a' c' G hlH h1 (by omega) h3 h5 (by omega) h7⟩
end
def Sc:V→Prop
  | .int _=>True
  | .bl _=>True
  | .non=>True
  | .str _=>True
  | _=>False
def Eqv:Nat→Hp→V→V→Prop
  | 0,_,x,y=>x=y∧Sc x
  | n+1,H,x,y=>(x=y∧Sc x)∨∃ (a b:Addr) (xs ys:List V),x=.ref a∧y=.ref b∧((H a=some (.lst xs)∧H b=some (.lst ys))∨(H a=some (.tup xs)∧H b=some (.tup ys)))∧xs.length=ys.length∧xs.length≤1000∧∀ (i:Nat) (u v:V),xs[i]?=some u→ys[i]?=some v→Eqv n H u v
theorem Eqv.same:∀ {n:Nat} {H H':Hp} {x y:V},Eqv n H x y→Same H H'→Eqv n H' x y
  | 0,_,_,_,_,h,_=>h
  | n+1,H,H',x,y,h,s=>by
    rcases h with h | ⟨a,b,xs,ys,h1,h2,h3,h5,h6,h7⟩
    · exact .inl h
    · refine .inr ⟨a,b,xs,ys,h1,h2,?_,h5,h6,fun i u v e1 e2=>(h7 i u v e1 e2).same s⟩
      rcases h3 with ⟨h3,h4⟩ | ⟨h3,h4⟩
      · exact .inl ⟨s _ _ h3,s _ _ h4⟩
      · exact .inr ⟨s _ _ h3,s _ _ h4⟩
def spSameE (n:Nat):Sp:=fun vs H Q _=>∃ x y,vs=[x,y]∧Eqv n H x y∧∀ H',Same H H'→Q (.bl true) H'
theorem Eqv.sc {H:Hp} {x:V} (h:Sc x):∀ n,Eqv n H x x
  | 0=>⟨rfl,h⟩
  | _+1=>.inl ⟨rfl,h⟩
theorem tyT {H:Hp} {a:Addr} {xs:List V} (h:H a=some (.tup xs)):tyN H (.ref a)=some "tuple" := by simp only [tyN,h]
theorem tyL {H:Hp} {a:Addr} {xs:List V} (h:H a=some (.lst xs)):tyN H (.ref a)=some "list" := by simp only [tyN,h]
section
variable {P:Program} {w:World} {K:PySem.W.Frag} {mg:Str→Option Value} {base:Heap}
theorem ok_same {n:Nat} {sp0:Sp} (hsp:∀ m,n=m+1→sp0=spSameE m) {f:Addr} {fd:FuncData} (F:Fun K "_law_same" "_law_same" s_same f fd) (T:Txt K mg) (D_same:Def P w K mg base "_law_same" n P_same sp0):FnOk P w K mg base CX0 (n+1) f fd P_same (spSameE n):=by
  refine F.ok sc_same (fun vs H Q E h=>?_) (fun cdv A outer st H vs Q E hr h=>?_)
  · obtain ⟨x,y,rfl,_⟩:=h
    rfl
  obtain ⟨x,y,rfl,h,k⟩:=h
  have nd:=sc_same.nd
  refine ⟨_,(pss_cons (ps_if (pt_val (pe_callBN call_isi2 rfl T.z_isinstance boot_isi (pc (pv 1) (pc (pe_tup (pc (pe_bltn (v:=.ty "list") rfl T.z_list boot_listT rfl) (pc (pe_bltn (v:=.ty "tuple") rfl T.z_tuple boot_tupleT rfl) pa_nil))) pa_nil)))) (pss_cons (ps_if (PW.pt (pw_or (pt_not (pt_val (pe_callBN call_isi2 rfl T.z_isinstance boot_isi (pc (pv 0) (pc (pe_tup (pc (pe_bltn (v:=.ty "list") rfl T.z_list boot_listT rfl) (pc (pe_bltn (v:=.ty "tuple") rfl T.z_tuple boot_tupleT rfl) pa_nil))) pa_nil))))) (pw_or1 (pt_cmpR op_ne (pe_callBN call_isi rfl T.z_isinstance boot_isi (pc (pv 0) (pc (pe_bltn (v:=.ty "list") rfl T.z_list boot_listT rfl) pa_nil))) (pe_callBN call_isi rfl T.z_isinstance boot_isi (pc (pv 1) (pc (pe_bltn (v:=.ty "list") rfl T.z_list boot_listT rfl) pa_nil))) (nomark _))))) (pss_one (ps_ret pe_bl)) pss_nil)
      (pss_one (ps_ret (pe_and (pe_cmpR op_eq (pe_callBN (call_len_seqK (K:=K) rfl) rfl T.z_len PySem.boot_len (pc (pv 0) pa_nil)) (pe_callBN (call_len_seqK (K:=K) rfl) rfl T.z_len PySem.boot_len (pc (pv 1) pa_nil)) (nomark _)) (pe_one (pe_callBN (call_allL rfl) rfl T.z_all boot_all (pc (pe_comp0 (compOk_of (osc:=(defScope s_same)) (oN:=N_same) (N:=["_law_one", "_law_other"]) (own:=2) (js:=[]) (by decide +kernel) rfl rfl) rfl (pi_zipS rfl T.z_zip (pc (pv 0) (pc (pv 1) pa_nil))) (fun _ _ _ _ _ _=>(pg_tupK (K:=K) (n:=2) rfl rfl (pgs_cons (pgn 0 (show List.Nodup (["_law_one", "_law_other"]:List Str) by decide +kernel)) (pgs_cons (pgn 1 (show List.Nodup (["_law_one", "_law_other"]:List Str) by decide +kernel)) pgs_nil)))) (fun _ _ _ _ _ _=>(pe_defN D_same hr.m rfl (pc (pv 0) (pc (pv 1) pa_nil))))) pa_nil))))))) pss_nil)
      (pss_cons (ps_if (PW.pt (pw_or (pt_cmp (pc_isN (pv 1))) (pw_or1 (pt_val (pe_callBN call_isi rfl T.z_isinstance boot_isi (pc (pv 1) (pc (pe_bltn (v:=.ty "str") rfl T.z_str boot_strT rfl) pa_nil))))))) (pss_one (ps_ret (pe_and (pe_cmpR op_eq (pv 0) (pv 1) (nomark _)) (pe_one (pe_cmpR op_eq (pe_callBN call_isi rfl T.z_isinstance boot_isi (pc (pv 0) (pc (pe_bltn (v:=.ty "str") rfl T.z_str boot_strT rfl) pa_nil))) (pe_callBN call_isi rfl T.z_isinstance boot_isi (pc (pv 1) (pc (pe_bltn (v:=.ty "str") rfl T.z_str boot_strT rfl) pa_nil))) (nomark _)))))) pss_nil)
      (pss_one (ps_ret (pe_and (pe_callBN call_isi rfl T.z_isinstance boot_isi (pc (pv 0) (pc (pe_bltn (v:=.ty "int") rfl T.z_int boot_intT rfl) pa_nil))) (pe_and (pe_cmpR op_eq (pe_callBN call_isi rfl T.z_isinstance boot_isi (pc (pv 0) (pc (pe_bltn (v:=.ty "bool") rfl T.z_bool boot_boolT rfl) pa_nil))) (pe_callBN call_isi rfl T.z_isinstance boot_isi (pc (pv 1) (pc (pe_bltn (v:=.ty "bool") rfl T.z_bool boot_boolT rfl) pa_nil))) (nomark _)) (pe_one (pe_cmpR op_eq (pv 0) (pv 1) (nomark _))))))))),?_⟩
  have split:(x=y∧Sc x)∨∃ (m:Nat) (a b:Addr) (xs ys:List V),n=m+1∧x=.ref a∧y=.ref b∧((H a=some (.lst xs)∧H b=some (.lst ys))∨(H a=some (.tup xs)∧H b=some (.tup ys)))∧xs.length=ys.length∧xs.length≤1000∧∀ (i:Nat) (u v:V),xs[i]?=some u→ys[i]?=some v→Eqv m H u v:=by
    cases n with
    | zero=>exact .inl h
    | succ m =>
      rcases h with h | ⟨a,b,xs,ys,h1,h2,h3,h5,h6,h7⟩
      · exact .inl h
      · exact .inr ⟨m,a,b,xs,ys,rfl,h1,h2,h3,h5,h6,h7⟩
  rcases split with ⟨rfl,hs⟩ | ⟨m,a,b,xs,ys,rfl,rfl,rfl,⟨ha,hb⟩ | ⟨ha,hb⟩,hl,hlen,hi⟩
  · have key:∀ p,H p=none→∀ o,Same H (upd H p o):=fun p hp o=>same_upd hp o
    cases x with
    | int j =>
      refine ⟨_,rfl,(by show 2≤sizeLine; decide),fun p hp=>⟨_,_,_,_,p,rfl,upd_same,rfl,by decide,by decide,_,rfl,ifF (by decide) ?_⟩⟩
      refine ⟨_,rfl,_,rfl,ifF (by simp) ⟨_,rfl,_,_,_,rfl,rfl,by decide,_,rfl,ifF (by decide) ?_⟩⟩
      refine ⟨_,rfl,_,_,_,rfl,rfl,by decide,_,rfl,ifT (by decide) ⟨_,rfl,_,_,_,rfl,rfl,by decide,_,rfl,_,_,_,rfl,rfl,by decide,rfl,_,rfl,ifT (by decide) ⟨_,rfl,_,rfl,rfl,?_⟩⟩⟩
      rw [decide_eq_true rfl]
      exact k _ (key p hp _)
    | bl j =>
      refine ⟨_,rfl,(by show 2≤sizeLine; decide),fun p hp=>⟨_,_,_,_,p,rfl,upd_same,rfl,by decide,by decide,_,rfl,ifF (by decide) ?_⟩⟩
      refine ⟨_,rfl,_,rfl,ifF (by simp) ⟨_,rfl,_,_,_,rfl,rfl,by decide,_,rfl,ifF (by decide) ?_⟩⟩
      refine ⟨_,rfl,_,_,_,rfl,rfl,by decide,_,rfl,ifT (by decide) ⟨_,rfl,_,_,_,rfl,rfl,by decide,_,rfl,_,_,_,rfl,rfl,by decide,rfl,_,rfl,ifT (by decide) ⟨_,rfl,_,rfl,rfl,?_⟩⟩⟩
      rw [decide_eq_true rfl]
      exact k _ (key p hp _)
    | non =>
      refine ⟨_,rfl,(by show 2≤sizeLine; decide),fun p hp=>⟨_,_,_,_,p,rfl,upd_same,rfl,by decide,by decide,_,rfl,ifF (by decide) ?_⟩⟩
      refine ⟨_,rfl,_,rfl,ifT (by simp) (ifT rfl ⟨_,rfl,_,rfl,rfl,_,rfl,ifT (by decide) ⟨_,rfl,_,_,_,rfl,rfl,by decide,_,rfl,_,_,_,rfl,rfl,by decide,rfl,?_⟩⟩)⟩
      rw [decide_eq_true rfl]
      exact k _ (key p hp _)
    | str z =>
      refine ⟨_,rfl,(by show 2≤sizeLine; decide),fun p hp=>⟨_,_,_,_,p,rfl,upd_same,rfl,by decide,by decide,_,rfl,ifF (by decide) ?_⟩⟩
      refine ⟨_,rfl,_,rfl,ifF (by simp) ⟨_,rfl,_,_,_,rfl,rfl,by decide,_,rfl,ifT (by decide) ⟨_,rfl,_,rfl,rfl,_,rfl,ifT (by simp) ⟨_,rfl,_,_,_,rfl,rfl,by decide,_,rfl,_,_,_,rfl,rfl,by decide,rfl,?_⟩⟩⟩⟩
      rw [decide_eq_true rfl]
      exact k _ (key p hp _)
    | _=>exact hs.elim
  · have he:=hsp m rfl
    subst he
    refine ⟨_,rfl,(by show 2≤sizeLine; decide),fun p hp=>?_⟩
    have s1:=same_upd hp (.tup [.ty "list",.ty "tuple"])
    refine ⟨_,_,_,_,p,rfl,upd_same,tyL (s1 _ _ hb),by decide,by decide,_,rfl,ifT (by decide) ?_⟩
    refine ⟨_,rfl,(by show 2≤sizeLine; decide),fun p2 hp2=>?_⟩
    have s2:=s1.trans (same_upd hp2 (.tup [.ty "list",.ty "tuple"]))
    refine ⟨_,_,_,_,p2,rfl,upd_same,tyL (s2 _ _ ha),by decide,by decide,_,rfl,ifF (by decide) ?_⟩
    refine ⟨_,rfl,_,_,_,rfl,tyL (s2 _ _ ha),by decide,_,rfl,_,_,_,rfl,tyL (s2 _ _ hb),by decide,rfl,_,rfl,ifF (by decide) ?_⟩
    refine ⟨_,rfl,a,_,rfl,.inl (SqL.of (s2 _ _ ha)),_,rfl,b,_,rfl,.inl (SqL.of (s2 _ _ hb)),rfl,_,rfl,?_⟩
    generalize upd (upd H p (.tup [.ty "list",.ty "tuple"])) p2 (.tup [.ty "list",.ty "tuple"])=H2 at *
    refine ifT (by rw [hl]; simp) ?_
    refine ⟨_,rfl,_,rfl,a,b,rfl,.inl ⟨_,_,SqL.of (s2 _ _ ha),SqL.of (s2 _ _ hb),fun l hl'=>?_⟩⟩
    have hlH:H l=none:=s2.free hl'
    refine comp_zip (K:=K) (a:=a) (b:=b) (xs:=xs) (zs:=ys) (l:=l) hl (fun i zs σ H'=>∃ v0 v1:Option V,σ=[v0,v1]∧zs=(List.replicate i true).map V.bl∧H' l=some (.lst zs)∧Same H H')
      ⟨none,none,rfl,by simp,upd_same,s2.trans (same_upd hl' _)⟩ (fun i zs σ H' _ ⟨_,_,_,_,_,q⟩=>⟨SqL.of (q _ _ ha),SqL.of (q _ _ hb)⟩) ?_ ?_
    · rintro i x z t zs σ H' hii hxi hzi hzl ⟨v0,v1,rfl,rfl,h1,s3⟩ ht
      have s4:=s3.trans (same_upd ht (.tup [x,z]))
      have ntl:l≠t:=ne_of_none h1 ht
      refine ⟨t,_,rfl,SqT.of upd_same,rfl,_,_,rfl,_,_,rfl,rfl,?_⟩
      refine ⟨_,rfl,_,rfl,x,z,rfl,(hi i x z hxi hzi).same s4,fun H5 s5=>?_⟩
      refine CNx.of (Nat.le_of_lt (small1000 hlen)) hii hzl (s5 _ _ (by rw [upd_ne ntl]; exact h1)) ⟨_,_,rfl,by rw [List.replicate_succ',List.map_append]; rfl,upd_same,?_⟩
      intro c o e
      rw [upd_ne (ne_of_none e hlH)]
      exact s5 _ _ (s4 _ _ e)
    · rintro zs σ H' hzl ⟨v0,v1,rfl,rfl,h1,s3⟩
      refine ⟨l,_,rfl,SqL.of h1,?_⟩
      rw [show (List.replicate xs.length true).all id=true by rw [List.all_eq_true]; intro z hz; rw [(List.mem_replicate.mp hz).2]; rfl]
      exact k H' s3
  · have he:=hsp m rfl
    subst he
    refine ⟨_,rfl,(by show 2≤sizeLine; decide),fun p hp=>?_⟩
    have s1:=same_upd hp (.tup [.ty "list",.ty "tuple"])
    refine ⟨_,_,_,_,p,rfl,upd_same,tyT (s1 _ _ hb),by decide,by decide,_,rfl,ifT (by decide) ?_⟩
    refine ⟨_,rfl,(by show 2≤sizeLine; decide),fun p2 hp2=>?_⟩
    have s2:=s1.trans (same_upd hp2 (.tup [.ty "list",.ty "tuple"]))
    refine ⟨_,_,_,_,p2,rfl,upd_same,tyT (s2 _ _ ha),by decide,by decide,_,rfl,ifF (by decide) ?_⟩
    refine ⟨_,rfl,_,_,_,rfl,tyT (s2 _ _ ha),by decide,_,rfl,_,_,_,rfl,tyT (s2 _ _ hb),by decide,rfl,_,rfl,ifF (by decide) ?_⟩
    refine ⟨_,rfl,a,_,rfl,.inr (SqT.of (s2 _ _ ha)),_,rfl,b,_,rfl,.inr (SqT.of (s2 _ _ hb)),rfl,_,rfl,?_⟩
    generalize upd (upd H p (.tup [.ty "list",.ty "tuple"])) p2 (.tup [.ty "list",.ty "tuple"])=H2 at *
    refine ifT (by rw [hl]; simp) ?_
    refine ⟨_,rfl,_,rfl,a,b,rfl,.inr ⟨_,_,SqT.of (s2 _ _ ha),SqT.of (s2 _ _ hb),fun l hl'=>?_⟩⟩
    have hlH:H l=none:=s2.free hl'
    refine comp_zipT (K:=K) (a:=a) (b:=b) (xs:=xs) (zs:=ys) (l:=l) hl (fun i zs σ H'=>∃ v0 v1:Option V,σ=[v0,v1]∧zs=(List.replicate i true).map V.bl∧H' l=some (.lst zs)∧Same H H')
      ⟨none,none,rfl,by simp,upd_same,s2.trans (same_upd hl' _)⟩ (fun i zs σ H' _ ⟨_,_,_,_,_,q⟩=>⟨SqT.of (q _ _ ha),SqT.of (q _ _ hb)⟩) ?_ ?_
    · rintro i x z t zs σ H' hii hxi hzi hzl ⟨v0,v1,rfl,rfl,h1,s3⟩ ht
      have s4:=s3.trans (same_upd ht (.tup [x,z]))
      have ntl:l≠t:=ne_of_none h1 ht
      refine ⟨t,_,rfl,SqT.of upd_same,rfl,_,_,rfl,_,_,rfl,rfl,?_⟩
      refine ⟨_,rfl,_,rfl,x,z,rfl,(hi i x z hxi hzi).same s4,fun H5 s5=>?_⟩
      refine CNx.of (Nat.le_of_lt (small1000 hlen)) hii hzl (s5 _ _ (by rw [upd_ne ntl]; exact h1)) ⟨_,_,rfl,by rw [List.replicate_succ',List.map_append]; rfl,upd_same,?_⟩
      intro c o e
      rw [upd_ne (ne_of_none e hlH)]
      exact s5 _ _ (s4 _ _ e)
    · rintro zs σ H' hzl ⟨v0,v1,rfl,rfl,h1,s3⟩
      refine ⟨l,_,rfl,SqL.of h1,?_⟩
      rw [show (List.replicate xs.length true).all id=true by rw [List.all_eq_true]; intro z hz; rw [(List.mem_replicate.mp hz).2]; rfl]
      exact k H' s3
def spNo:Sp:=fun _ _ _ _=>False
theorem own_same {f:Addr} {fd:FuncData} (F:Fun K "_law_same" "_law_same" s_same f fd) (bi:Binds K fd P_same []) (m:mg "_law_same" = some (.ref f)) (T:Txt K mg):∀ n,Def P w K mg base "_law_same" (n+1) P_same (spSameE n)
  | 0=>by
    have D0:Def P w K mg base "_law_same" 0 P_same spNo:=⟨f,fd,⟨fun _ _ _ _ h=>h.elim,fun _ _ _ _ _ _ _ _ _ _ _ _ _ h=>h.elim⟩,m,F.kp,bi⟩
    exact ⟨f,fd,ok_same (n:=0) (fun _ h=>by omega) F T D0,m,F.kp,bi⟩
  | n+1=>⟨f,fd,ok_same (n:=n+1) (fun j h=>by cases (show j=n by omega); rfl) F T (own_same F bi m T n),m,F.kp,bi⟩
end
def optV:Option Int→V
  | none=>.non
  | some g=>.int g
theorem gN {i:Nat} {v:V} {σ:St} {H:Hp} {Q:St→Hp→Prop} (h:Q (σ.set i (some v)) H):gName i v σ H Q:=h
theorem ite_dec' {b:Bool} {A B:Prop} (h1:b=true→A) (h2:¬ b=true→B):if b=true then A else B:=by
  by_cases h:b=true
  · rw [if_pos h]; exact h1 h
  · rw [if_neg h]; exact h2 h
theorem ints_at {ns:List Int} {i:Nat} {x:V} (h:(ns.map V.int)[i]?=some x):∃ z,ns[i]?=some z∧x=V.int z:=by
  rw [List.getElem?_map] at h
  cases e:ns[i]? with
  | none=>rw [e] at h; cases h
  | some z=>rw [e] at h; exact ⟨z,rfl,(Option.some.inj h).symm⟩
theorem inV_int (z:Int) (ns:List Int):inV (.int z) (ns.map V.int)=decide (z∈ns):=by
  unfold inV
  rw [List.any_map,Bool.eq_iff_iff,List.any_eq_true,decide_eq_true_eq]
  constructor
  · rintro ⟨x,hx,e⟩
    have:x=z:=by simpa [eqV] using e
    rw [← this]; exact hx
  · intro h
    exact ⟨z,h,by simp [eqV]⟩
structure Rec where
  b:Int
  t0:Int
  t1:Int
  n:Int
def recOf (S:List Rec) (b:Int):Option Rec:=S.find? fun r=>decide (r.b=b)
def putR (S:List Rec) (q:Rec):List Rec:=if S.any (fun r=>decide (r.b=q.b)) then S.map (fun r=>if r.b=q.b then q else r) else S++[q]
def dropR (S:List Rec) (b:Int):List Rec:=S.filter fun r=>decide (r.b≠b)
def byL (ru:Str):List Int:=if ru = "old" then [1] else if ru = "come" then [0] else [2,0]
def fld (r:Rec) (k:Int):Int:=if k=0 then r.t0 else if k=1 then r.t1 else r.n
def keyR (ru:Str) (r:Rec):List Int:=(byL ru).map (fld r)
def onShelf (sh b:Int) (S:List Rec):List Rec:=S.filter fun r=>decide (V.int (r.b % sh)=V.int (b % sh))
def bestR (ru:Str) (S:List Rec):Nat:=argBest (fun i j=>HT.lexLt ((S.map fun r=>keyR ru r++[r.b]).getD i []) ((S.map fun r=>keyR ru r++[r.b]).getD j [])) (S.length - 1)
def goesF (sh pl:Int) (ru:Str) (S:List Rec) (b:Int):Option Int:=if ((onShelf sh b S).length:Int)<pl then none else ((onShelf sh b S)[bestR ru (onShelf sh b S)]?).map (·.b)
def Uq (S:List Rec):Prop:=(S.map (·.b)).Nodup
theorem Uq.rec:∀ {S:List Rec},Uq S→∀ r∈S,recOf S r.b=some r
  | [],_,_,h=>nomatch h
  | q :: S,u,r,h=>by
    have u':(q.b :: S.map (·.b)).Nodup:=u
    obtain ⟨u1,u2⟩:=List.nodup_cons.mp u'
    rcases List.mem_cons.mp h with rfl | h
    · unfold recOf
      rw [List.find?_cons_of_pos (by simp)]
    · have ne:¬ q.b=r.b:=fun e=>u1 (by rw [e]; exact List.mem_map.mpr ⟨r,h,rfl⟩)
      unfold recOf
      rw [List.find?_cons_of_neg (by simpa using ne)]
      exact Uq.rec u2 r h
theorem put_bs (S:List Rec) (q:Rec):(S.map fun r=>if r.b=q.b then q else r).map (·.b)=S.map (·.b):=by
  rw [List.map_map]
  refine List.map_congr_left fun r _=>?_
  show (if r.b=q.b then q else r).b=r.b
  split
  · rename_i e; exact e.symm
  · rfl
theorem Uq.put {S:List Rec} (u:Uq S) (q:Rec):Uq (putR S q):=by
  unfold putR
  by_cases e:(S.any fun r=>decide (r.b=q.b))=true
  · rw [if_pos e]
    show ((S.map fun r=>if r.b=q.b then q else r).map (·.b)).Nodup
    rw [put_bs]; exact u
  · rw [if_neg e]
    show ((S++[q]).map (·.b)).Nodup
    rw [List.map_append]
    refine nd_snoc u fun m=>e ?_
    obtain ⟨r,hr,z⟩:=List.mem_map.mp m
    exact List.any_eq_true.mpr ⟨r,hr,by simpa using z⟩
theorem Uq.drop {S:List Rec} (u:Uq S) (b:Int):Uq (dropR S b):=List.Nodup.sublist (List.Sublist.map _ List.filter_sublist) u
theorem put_len (S:List Rec) (q:Rec):(putR S q).length≤S.length+1:=by
  unfold putR
  split
  · rw [List.length_map]; omega
  · simp
theorem drop_len (S:List Rec) (b:Int):(dropR S b).length≤S.length:=List.length_filter_le ..
def lessR (S:List Rec):Option Int→List Rec
  | none=>S
  | some g=>dropR S g
def stepR (sh pl:Int) (ru:Str) (i:Nat) (b:Int) (S:List Rec):List Rec×(Bool×Option Int) :=
  match recOf S b with
  | some r=>(putR S ⟨b,r.t0,i,r.n+1⟩,(true,none))
  | none=>(putR (lessR S (goesF sh pl ru S b)) ⟨b,i,i,0⟩,(false,goesF sh pl ru S b))
def runR (sh pl:Int) (ru:Str) (row:List Int):Nat→List Rec×List (Bool×Option Int)
  | 0=>([],[])
  | i+1=>((stepR sh pl ru i (row.getD i 0) (runR sh pl ru row i).1).1,(runR sh pl ru row i).2++[(stepR sh pl ru i (row.getD i 0) (runR sh pl ru row i).1).2])
def rowF (sh pl:Int) (ru:Str) (row:List Int):List (Bool×Option Int):=(runR sh pl ru row row.length).2
theorem Uq.less {S:List Rec} (u:Uq S) (g:Option Int):Uq (lessR S g):=by
  cases g with
  | none=>exact u
  | some g=>exact u.drop g
theorem lessR_len (S:List Rec) (g:Option Int):(lessR S g).length≤S.length:=by
  cases g with
  | none=>exact Nat.le_refl _
  | some g=>exact drop_len S g
theorem step_ok (sh pl:Int) (ru:Str) (i:Nat) (b:Int) (S:List Rec) (u:Uq S):Uq (stepR sh pl ru i b S).1∧(stepR sh pl ru i b S).1.length≤S.length+1:=by
  unfold stepR
  cases recOf S b with
  | some r=>exact ⟨u.put _,put_len _ _⟩
  | none=>exact ⟨(u.less _).put _,Nat.le_trans (put_len _ _) (Nat.add_le_add_right (lessR_len _ _) 1)⟩
theorem run_ok (sh pl:Int) (ru:Str) (row:List Int) (i:Nat):Uq (runR sh pl ru row i).1∧(runR sh pl ru row i).1.length≤i∧(runR sh pl ru row i).2.length=i:=by
  induction i with
  | zero=>exact ⟨List.nodup_nil,Nat.le_refl _,rfl⟩
  | succ i ih =>
    obtain ⟨h1,h2⟩:=step_ok sh pl ru i (row.getD i 0) (runR sh pl ru row i).1 ih.1
    refine ⟨h1,Nat.le_trans h2 (Nat.add_le_add_right ih.2.1 1),?_⟩
    show ((runR sh pl ru row i).2++_).length=_
    rw [List.length_append,ih.2.2]; rfl
def Told (H:Hp) (l:Addr) (fs:List (Bool×Option Int)):Prop:=∃ ads:List Addr,H l=some (.lst (ads.map V.ref))∧ads.length=fs.length∧∀ (m:Nat) (ad:Addr) (f:Bool×Option Int),ads[m]?=some ad→fs[m]?=some f→H ad=some (.tup [.bl f.1,optV f.2])
theorem row_len (sh pl:Int) (ru:Str) (row:List Int):(rowF sh pl ru row).length=row.length:=(run_ok sh pl ru row row.length).2.2
def tpos:Pos:=(match (defBody s_Room_going).head? with
  | some (.If _ (.Return (some (.Call _ _ (⟨_,.Lambda _ _ _ pos,_⟩ :: _) _)) _ :: _) _ _)=>pos
  | _=>⟨0,0,0,0⟩)
abbrev tqual:Str := "Room.going" ++ ".<locals>." ++ "<lambda>"
def Tb (K:PySem.W.Frag) (H:Hp):Prop:=H (tabOf K "Room" "going")=some (.tbl tpos tqual)
theorem Tb.same {K:PySem.W.Frag} {H H':Hp} (t:Tb K H) (s:Same H H'):Tb K H':=s _ _ t
def spRun (K:PySem.W.Frag):Sp:=fun vs H Q _=>∃ (sh pl:Int) (ru:Str) (a:Addr) (row:List Int),vs=[.int sh,.int pl,.str ru,.ref a]∧SqL K H a (row.map V.int)∧1≤sh∧sh≤64∧1≤pl∧pl≤16∧Rule ru∧row.length≤400∧Bds 9999 row∧Tb K H ∧
  ∀ (l:Addr) (H':Hp),H l=none→Same H H'→Told H' l (rowF sh pl ru row)→Q (.ref l) H'
theorem lex_irr:∀ a:List Int,HT.lexLt a a=false
  | []=>rfl
  | x :: xs=>by rw [HT.lexLt_cons,if_pos rfl]; exact lex_irr xs
theorem lex_trans:∀ {a b c:List Int},HT.lexLt a b=true→HT.lexLt b c=true→HT.lexLt a c=true
  | [],[],_,h,_=>by rw [HT.lexLt_nil_nil] at h; cases h
  | [],_ :: _,[],_,h=>by rw [HT.lexLt_cons_nil] at h; cases h
  | [],_ :: _,_ :: _,_,_=>rfl
  | _ :: _,[],_,h,_=>by rw [HT.lexLt_cons_nil] at h; cases h
  | _ :: _,_ :: _,[],_,h=>by rw [HT.lexLt_cons_nil] at h; cases h
  | x :: xs,y :: ys,z :: zs,h1,h2=>by
    rw [HT.lexLt_cons] at h1 h2 ⊢
    by_cases e1:x=y
    · subst e1
      rw [if_pos rfl] at h1
      by_cases e2:x=z
      · subst e2
        rw [if_pos rfl] at h2 ⊢
        exact lex_trans h1 h2
      · rw [if_neg e2] at h2 ⊢; exact h2
    · rw [if_neg e1] at h1
      have l1:=of_decide_eq_true h1
      by_cases e2:y=z
      · subst e2
        rw [if_neg e1]; exact h1
      · rw [if_neg e2] at h2
        have l2:=of_decide_eq_true h2
        rw [if_neg (by omega)]
        exact decide_eq_true (by omega)
theorem best_ok (f:Nat→List Int):∀ k,argBest (fun i j=>HT.lexLt (f i) (f j)) k≤k∧∀ j,j≤k→HT.lexLt (f j) (f (argBest (fun i j=>HT.lexLt (f i) (f j)) k))=false
  | 0=>⟨Nat.le_refl _,fun j hj=>by
      have:j=0:=by omega
      subst this; exact lex_irr _⟩
  | k+1=>by
    obtain ⟨h1,h2⟩:=best_ok f k
    unfold argBest
    by_cases c:HT.lexLt (f (k+1)) (f (argBest (fun i j=>HT.lexLt (f i) (f j)) k))=true
    · rw [if_pos c]
      refine ⟨Nat.le_refl _,fun j hj=>?_⟩
      by_cases e:j=k+1
      · subst e; exact lex_irr _
      · cases q:HT.lexLt (f j) (f (k+1)) with
        | false=>rfl
        | true =>
          have:=lex_trans q c
          rw [h2 j (by omega)] at this; cases this
    · rw [if_neg c]
      refine ⟨by omega,fun j hj=>?_⟩
      by_cases e:j=k+1
      · subst e; simpa using c
      · exact h2 j (by omega)
theorem goes_least {sh pl:Int} {ru:Str} {S:List Rec} {b:Int} (hpl:1≤pl) (hfull:¬ ((onShelf sh b S).length:Int)<pl):∃ r∈onShelf sh b S,goesF sh pl ru S b=some r.b∧∀ r'∈onShelf sh b S,HT.lexLt (keyR ru r'++[r'.b]) (keyR ru r++[r.b])=false:=by
  unfold goesF
  rw [if_neg hfull]
  generalize onShelf sh b S=T at *
  have pos:0<T.length:=by omega
  obtain ⟨h1,h2⟩:=best_ok (fun i=>(T.map fun r=>keyR ru r++[r.b]).getD i []) (T.length - 1)
  have e:argBest (fun i j=>HT.lexLt ((T.map fun r=>keyR ru r++[r.b]).getD i []) ((T.map fun r=>keyR ru r++[r.b]).getD j [])) (T.length - 1)=bestR ru T:=rfl
  rw [e] at h1 h2
  have hlt:bestR ru T<T.length:=by omega
  have at':∀ i (h:i<T.length),(T.map fun r=>keyR ru r++[r.b]).getD i []=keyR ru T[i]++[T[i].b]:=fun i h=>by
    rw [List.getD_eq_getElem?_getD,List.getElem?_map,List.getElem?_eq_getElem h]; rfl
  refine ⟨T[bestR ru T],List.getElem_mem hlt,by rw [List.getElem?_eq_getElem hlt]; rfl,fun r' hr'=>?_⟩
  obtain ⟨j,hj,rfl⟩:=List.getElem_of_mem hr'
  have q:=h2 j (by omega)
  rw [at' j hj,at' _ hlt] at q
  exact q
def bds (S:List Rec):List Int:=S.map (·.b)
theorem recOf_none {S:List Rec} {b:Int}:recOf S b=none↔b∉bds S:=by
  unfold recOf bds
  rw [List.find?_eq_none]
  constructor
  · intro h m
    obtain ⟨r,hr,e⟩:=List.mem_map.mp m
    exact h r hr (by simpa using e)
  · intro h r hr e
    exact h (List.mem_map.mpr ⟨r,hr,by simpa using e⟩)
theorem recOf_some {S:List Rec} {b:Int} {r:Rec} (h:recOf S b=some r):r∈S∧r.b=b:=by
  unfold recOf at h
  exact ⟨List.mem_of_find?_eq_some h,by simpa using List.find?_some h⟩
theorem recOf_put {S:List Rec} {q:Rec} (x:Int):recOf (putR S q) x=if x=q.b then some q else recOf S x:=by
  unfold putR
  by_cases e:(S.any fun r=>decide (r.b=q.b))=true
  · rw [if_pos e]
    induction S with
    | nil=>simp at e
    | cons r S ih =>
      rw [List.map_cons]
      by_cases er:r.b=q.b
      · rw [if_pos er]
        by_cases ex:x=q.b
        · rw [if_pos ex]
          unfold recOf
          rw [List.find?_cons_of_pos (by simpa using ex.symm)]
        · rw [if_neg ex]
          have e1:recOf (q :: S.map fun r=>if r.b=q.b then q else r) x=recOf (S.map fun r=>if r.b=q.b then q else r) x:=by
            unfold recOf
            rw [List.find?_cons_of_neg (by simpa using Ne.symm ex)]
          have e2:recOf (r :: S) x=recOf S x:=by
            unfold recOf
            rw [List.find?_cons_of_neg (by rw [er]; simpa using Ne.symm ex)]
          rw [e1,e2]
          clear e ih e1 e2
          induction S with
          | nil=>rfl
          | cons s S ih2 =>
            rw [List.map_cons]
            by_cases es:s.b=q.b
            · rw [if_pos es]
              unfold recOf at ih2 ⊢
              rw [List.find?_cons_of_neg (by simpa using Ne.symm ex),List.find?_cons_of_neg (by rw [es]; simpa using Ne.symm ex)]
              exact ih2
            · rw [if_neg es]
              unfold recOf at ih2 ⊢
              by_cases esx:s.b=x
              · rw [List.find?_cons_of_pos (by simpa using esx),List.find?_cons_of_pos (by simpa using esx)]
              · rw [List.find?_cons_of_neg (by simpa using esx),List.find?_cons_of_neg (by simpa using esx)]
                exact ih2
      · rw [if_neg er]
        rw [List.any_cons] at e
        have e':(S.any fun r=>decide (r.b=q.b))=true:=by
          rcases Bool.or_eq_true _ _ |>.mp e with h | h
          · exact absurd (of_decide_eq_true h) er
          · exact h
        have ih':=ih e'
        unfold recOf at ih' ⊢
        by_cases erx:r.b=x
        · rw [List.find?_cons_of_pos (by simpa using erx),List.find?_cons_of_pos (by simpa using erx),if_neg (by rw [← erx]; exact er)]
        · rw [List.find?_cons_of_neg (by simpa using erx),List.find?_cons_of_neg (by simpa using erx)]
          exact ih'
  · rw [if_neg e]
    unfold recOf
    rw [List.find?_append]
    by_cases ex:x=q.b
    · rw [if_pos ex]
      have:S.find? (fun r=>decide (r.b=x))=none:=by
        rw [List.find?_eq_none]
        intro r hr hx
        exact e (List.any_eq_true.mpr ⟨r,hr,by rw [← ex]; exact hx⟩)
      rw [this,Option.none_or]
      rw [List.find?_cons_of_pos (by simpa using ex.symm)]
    · rw [if_neg ex]
      have:List.find? (fun r=>decide (r.b=x)) [q]=none:=by
        rw [List.find?_cons_of_neg (by simpa using Ne.symm ex)]; rfl
      rw [this,Option.or_none]
theorem recOf_drop {S:List Rec} {g:Int} (x:Int):recOf (dropR S g) x=if x=g then none else recOf S x:=by
  by_cases ex:x=g
  · rw [if_pos ex,recOf_none]
    intro m
    obtain ⟨r,hr,e⟩:=List.mem_map.mp m
    have:=(List.mem_filter.mp hr).2
    simp [e,ex] at this
  · rw [if_neg ex]
    induction S with
    | nil=>rfl
    | cons r S ih =>
      unfold dropR recOf at ih ⊢
      rw [List.filter_cons]
      by_cases er:r.b=g
      · rw [if_neg (by simp [er]),List.find?_cons_of_neg (by rw [er]; simpa using Ne.symm ex)]
        exact ih
      · rw [if_pos (by simpa using er)]
        by_cases erx:r.b=x
        · rw [List.find?_cons_of_pos (by simpa using erx),List.find?_cons_of_pos (by simpa using erx)]
        · rw [List.find?_cons_of_neg (by simpa using erx),List.find?_cons_of_neg (by simpa using erx)]
          exact ih
theorem bds_put {S:List Rec} {q:Rec} (x:Int):x∈bds (putR S q)↔x=q.b∨x∈bds S:=by
  have h:=recOf_put (S:=S) (q:=q) x
  constructor
  · intro m
    by_cases e:x=q.b
    · exact .inl e
    · rw [if_neg e] at h
      refine .inr ?_
      by_cases c:x∈bds S
      · exact c
      · rw [recOf_none.mpr c] at h
        exact absurd m (recOf_none.mp h)
  · intro m
    by_cases c:x∈bds (putR S q)
    · exact c
    · rw [recOf_none.mpr c] at h
      by_cases e:x=q.b
      · rw [if_pos e] at h; cases h
      · rw [if_neg e] at h
        rcases m with m | m
        · exact absurd m e
        · exact absurd m (recOf_none.mp h.symm)
theorem bds_drop {S:List Rec} {g:Int} (x:Int):x∈bds (dropR S g)↔x∈bds S∧x≠g:=by
  have h:=recOf_drop (S:=S) (g:=g) x
  constructor
  · intro m
    by_cases e:x=g
    · rw [if_pos e] at h
      exact absurd m (recOf_none.mp h)
    · rw [if_neg e] at h
      refine ⟨?_,e⟩
      by_cases c:x∈bds S
      · exact c
      · rw [recOf_none.mpr c] at h
        exact absurd m (recOf_none.mp h)
  · rintro ⟨m,e⟩
    rw [if_neg e] at h
    by_cases c:x∈bds (dropR S g)
    · exact c
    · rw [recOf_none.mpr c] at h
      exact absurd m (recOf_none.mp h.symm)
def shelfS (sh s:Int) (there:List Int):List Int:=there.filter fun o=>decide (o % sh=s)
theorem shelfS_app (sh s b:Int) (there:List Int):shelfS sh s (there++[b])=if b % sh=s then shelfS sh s there++[b] else shelfS sh s there:=by
  unfold shelfS
  rw [List.filter_append]
  by_cases h:b % sh=s
  · rw [if_pos h,List.filter_cons,if_pos (by simpa using h),List.filter_nil]
  · rw [if_neg h,List.filter_cons,if_neg (by simpa using h),List.filter_nil,List.append_nil]
theorem shelfS_erase (sh s g:Int) (there:List Int):shelfS sh s (there.erase g)=(shelfS sh s there).erase g:=by
  unfold shelfS
  rw [List.erase_filter]
theorem mem_shelfS {sh s b:Int} {there:List Int}:b∈shelfS sh s there↔b∈there∧b % sh=s:=by
  unfold shelfS
  rw [List.mem_filter,decide_eq_true_eq]
structure Shl (H:Hp) (ls:Addr) (ads:List Addr) (sh:Int) (there:List Int):Prop where
  top:H ls=some (.lst (ads.map V.ref))
  len:ads.length=sh.toNat
  nd:ads.Nodup
  off:ls∉ads
  at_:∀ (s:Nat) (ad:Addr),ads[s]?=some ad→H ad=some (.lst ((shelfS sh s there).map V.int))
theorem Shl.other {H:Hp} {ls:Addr} {ads:List Addr} {sh:Int} {there:List Int} (h:Shl H ls ads sh there) {a:Addr} (o:HO) (h1:a≠ls) (h2:a∉ads):Shl (upd H a o) ls ads sh there :=
  ⟨by rw [upd_ne (Ne.symm h1)]; exact h.top,h.len,h.nd,h.off,fun i ad e=>by rw [upd_ne (fun z:ad=a=>h2 (z ▸ List.mem_of_getElem? e))]; exact h.at_ i ad e⟩
theorem Shl.put {H:Hp} {ls:Addr} {ads:List Addr} {sh:Int} {there there':List Int} (h:Shl H ls ads sh there) {s0:Nat} {ad:Addr} {ns:List Int} (e0:ads[s0]?=some ad) (hn:shelfS sh s0 there'=ns) (ho:∀ s:Nat,s≠s0→shelfS sh s there'=shelfS sh s there):Shl (upd H ad (.lst (ns.map V.int))) ls ads sh there':=by
  refine ⟨by rw [upd_ne (fun z:ls=ad=>h.off (z ▸ List.mem_of_getElem? e0))]; exact h.top,h.len,h.nd,h.off,fun s a e=>?_⟩
  by_cases hs:s=s0
  · subst hs
    rw [e0] at e
    cases e
    rw [upd_same,hn]
  · have ne:a≠ad:=fun z=>by
      subst z
      exact hs ((List.getElem?_inj (List.getElem?_eq_some_iff.mp e).1 h.nd).mp (e.trans e0.symm))
    rw [upd_ne ne,ho s hs]
    exact h.at_ s a e
theorem Shl.get {H:Hp} {ls:Addr} {ads:List Addr} {sh:Int} {there:List Int} (h:Shl H ls ads sh there) {k:Int} (h0:0≤k) (h1:k<sh):∃ (s:Nat) (ad:Addr),(s:Int)=k∧ads[s]?=some ad∧atI (ads.map V.ref) k=some (.ref ad)∧H ad=some (.lst ((shelfS sh k there).map V.int)):=by
  have hk:k.toNat<ads.length:=by rw [h.len]; omega
  have e:ads[k.toNat]?=some ads[k.toNat]:=List.getElem?_eq_getElem hk
  have ek:((k.toNat:Nat):Int)=k:=by omega
  have q:atI (ads.map V.ref) ((k.toNat:Nat):Int)=some (.ref ads[k.toNat]):=atI_nat (by rw [List.getElem?_map,e]; rfl)
  have q2:=h.at_ _ _ e
  rw [ek] at q q2
  exact ⟨k.toNat,_,ek,e,q,q2⟩
theorem Shl.one {H:Hp} {ls:Addr} {ads:List Addr} {sh:Int} {there:List Int} (h:Shl H ls ads sh there) {ad:Addr} (m:ad∈ads):∃ xs,H ad=some (.lst xs):=by
  obtain ⟨s,e⟩:=List.getElem?_of_mem m
  exact ⟨_,h.at_ s ad e⟩
def flds (sh pl:Int) (ru:Str) (ls du:Addr):List (Str×V):=putF "uses" (.ref du) (putF "standing" (.ref ls) (putF "rule" (.str ru) (putF "places" (.int pl) (putF "shelves" (.int sh) []))))
theorem fl_uses (sh pl:Int) (ru:Str) (ls du:Addr):(flds sh pl ru ls du).lookup ("uses" : Str)=some (.ref du):=by
  unfold flds
  rw [lookup_putF,if_pos rfl]
theorem fl_standing (sh pl:Int) (ru:Str) (ls du:Addr):(flds sh pl ru ls du).lookup ("standing" : Str)=some (.ref ls):=by
  unfold flds
  rw [lookup_putF,if_neg (by decide +kernel),lookup_putF,if_pos rfl]
theorem fl_rule (sh pl:Int) (ru:Str) (ls du:Addr):(flds sh pl ru ls du).lookup ("rule" : Str)=some (.str ru):=by
  unfold flds
  rw [lookup_putF,if_neg (by decide +kernel),lookup_putF,if_neg (by decide +kernel),lookup_putF,if_pos rfl]
theorem fl_places (sh pl:Int) (ru:Str) (ls du:Addr):(flds sh pl ru ls du).lookup ("places" : Str)=some (.int pl):=by
  unfold flds
  rw [lookup_putF,if_neg (by decide +kernel),lookup_putF,if_neg (by decide +kernel),lookup_putF,if_neg (by decide +kernel),lookup_putF,if_pos rfl]
theorem fl_shelves (sh pl:Int) (ru:Str) (ls du:Addr):(flds sh pl ru ls du).lookup ("shelves" : Str)=some (.int sh):=by
  unfold flds
  rw [lookup_putF,if_neg (by decide +kernel),lookup_putF,if_neg (by decide +kernel),lookup_putF,if_neg (by decide +kernel),lookup_putF,if_neg (by decide +kernel),lookup_putF,if_pos rfl]
theorem fl_no (sh pl:Int) (ru:Str) (ls du:Addr) {m:Str} (h1:¬ m = "uses" := by decide +kernel) (h2:¬ m = "standing" := by decide +kernel) (h3:¬ m = "rule" := by decide +kernel) (h4:¬ m = "places" := by decide +kernel) (h5:¬ m = "shelves" := by decide +kernel):(flds sh pl ru ls du).lookup m=none:=by
  unfold flds
  rw [lookup_putF,if_neg h1,lookup_putF,if_neg h2,lookup_putF,if_neg h3,lookup_putF,if_neg h4,lookup_putF,if_neg h5]
  rfl
structure RoomAt (K:PySem.W.Frag) (H:Hp) (p:Addr) (sh pl:Int) (ru:Str) (ls:Addr) (ads:List Addr) (du:Addr) (seq:List Int) (us:Int→Int) (n:Nat):Prop where
  ob:∃ dx,H p=some (.ins (clsOf K "Room") dx (flds sh pl ru ls du))
  st:Shl H ls ads sh seq
  dc:∃ kvs,H du=some (.dK kvs)∧kvs.length≤n∧∀ b,valV kvs (Sum.inl b:Key)=if b∈seq then some (.int (us b)) else none
  nd:seq.Nodup
  s0:1≤sh
  s1:sh≤64
def SR (ads:List Addr) (du:Addr) (H H':Hp):Prop:=∀ b o,H b=some o→b≠du→b∉ads→H' b=some o
theorem SR.of {ads:List Addr} {du:Addr} {H H':Hp} (s:Same H H'):SR ads du H H':=fun b o h _ _=>s b o h
theorem SR.trans {ads:List Addr} {du:Addr} {H H1 H2:Hp} (a:SR ads du H H1) (b:SR ads du H1 H2):SR ads du H H2:=fun c o h n1 n2=>b c o (a c o h n1 n2) n1 n2
section
variable {K:PySem.W.Frag} {H H':Hp} {p:Addr} {sh pl:Int} {ru:Str} {ls:Addr} {ads:List Addr} {du:Addr} {seq:List Int} {us:Int→Int} {n:Nat}
theorem RoomAt.off (R:RoomAt K H p sh pl ru ls ads du seq us n):p≠du∧p∉ads∧ls≠du∧ls∉ads∧du∉ads∧p≠ls:=by
  obtain ⟨dx,h1⟩:=R.ob
  obtain ⟨kvs,h2,_⟩:=R.dc
  refine ⟨fun z=>?_,fun z=>?_,fun z=>?_,R.st.off,fun z=>?_,fun z=>?_⟩
  · rw [z,h2] at h1; cases h1
  · obtain ⟨xs,e⟩:=R.st.one z
    rw [e] at h1; cases h1
  · have e:=R.st.top
    rw [z,h2] at e; cases e
  · obtain ⟨xs,e⟩:=R.st.one z
    rw [e] at h2; cases h2
  · have e:=R.st.top
    rw [← z,h1] at e; cases e
theorem RoomAt.same (R:RoomAt K H p sh pl ru ls ads du seq us n) (s:Same H H'):RoomAt K H' p sh pl ru ls ads du seq us n:=by
  obtain ⟨dx,h1⟩:=R.ob
  obtain ⟨kvs,h2,h3⟩:=R.dc
  exact ⟨⟨dx,s _ _ h1⟩,⟨s _ _ R.st.top,R.st.len,R.st.nd,R.st.off,fun i ad e=>s _ _ (R.st.at_ i ad e)⟩,⟨kvs,s _ _ h2,h3⟩,R.nd,R.s0,R.s1⟩
theorem SR.keep {o:HO} {b:Addr} (s:SR ads du H H') (R:RoomAt K H p sh pl ru ls ads du seq us n) (h:H b=some o) (n1:∀ kvs,o≠.dK kvs) (n2:∀ xs,o≠.lst xs):H' b=some o:=by
  refine s _ _ h (fun z=>?_) fun z=>?_
  · obtain ⟨kvs,e,_⟩:=R.dc
    rw [z,e] at h
    exact n1 kvs (Option.some.inj h).symm
  · obtain ⟨xs,e⟩:=R.st.one z
    rw [e] at h
    exact n2 xs (Option.some.inj h).symm
theorem RoomAt.shelf (R:RoomAt K H p sh pl ru ls ads du seq us n) (b:Int):∃ (s:Nat) (ad:Addr),(s:Int)=b % sh∧ads[s]?=some ad∧atI (ads.map V.ref) (b % sh)=some (.ref ad)∧H ad=some (.lst ((shelfS sh (b % sh) seq).map V.int)):=by
  have h0:=R.s0
  exact R.st.get (Int.emod_nonneg _ (by omega)) (Int.emod_lt_of_pos _ (by omega))
end
section
variable {P:Program} {w:World} {K:PySem.W.Frag} {mg:Str→Option Value} {base:Heap}
def spShelf:Sp:=fun vs H Q _=>∃ sh b:Int,vs=[.int sh,.int b]∧1≤sh∧Q (.int (b % sh)) H
theorem ok_shelf_of {f:Addr} {fd:FuncData} (F:Fun K "shelf_of" "shelf_of" s_shelf_of f fd) (T:Txt K mg):FnOk P w K mg base CX0 1 f fd P_shelf_of spShelf:=by
  refine F.ok sc_shelf_of (fun vs H Q E h=>?_) (fun cdv A outer st H vs Q E hr h=>?_)
  · obtain ⟨sh,b,rfl,_⟩:=h
    rfl
  obtain ⟨sh,b,rfl,h0,k⟩:=h
  have nd:=sc_shelf_of.nd
  refine ⟨_,(pss_one (ps_ret (pe_op op_mod (pv 1) (pv 0)))),?_⟩
  exact ⟨_,rfl,_,rfl,_,_,rfl,rfl,(by show 0<sh; omega),k⟩
def spHas (K:PySem.W.Frag):Sp:=fun vs H Q _=>∃ (p:Addr) (b sh pl:Int) (ru:Str) (ls:Addr) (ads:List Addr) (du:Addr) (seq:List Int) (us:Int→Int) (n:Nat),vs=[.ref p,.int b]∧RoomAt K H p sh pl ru ls ads du seq us n∧Q (.bl (decide (b∈seq))) H
theorem ok_Room_has {f:Addr} {fd:FuncData} (F:Fun K "has" "Room.has" s_Room_has f fd) (T:Txt K mg):FnOk P w K mg base CX0 1 f fd P_Room_has (spHas K):=by
  refine F.ok sc_Room_has (fun vs H Q E h=>?_) (fun cdv A outer st H vs Q E hr h=>?_)
  · obtain ⟨p,b,sh,pl,ru,ls,ads,du,seq,us,n,rfl,_⟩:=h
    rfl
  obtain ⟨p,b,sh,pl,ru,ls,ads,du,seq,us,n,rfl,R,k⟩:=h
  have nd:=sc_Room_has.nd
  have hu:=hu_of hr
  refine ⟨_,(pss_one (ps_ret (pe_cmp (pc_din hu (pv 1) (pe_fldK (K:=K) rfl (pv 0) rfl))))),?_⟩
  obtain ⟨dx,h1⟩:=R.ob
  obtain ⟨kvs,h2,h3,h4⟩:=R.dc
  refine ⟨_,rfl,_,rfl,p,_,dx,_,_,rfl,h1,T.cl_Room,T.n_Room_uses,fl_uses ..,du,_,rfl,DGet.k (k:=Sum.inl b) h2,?_⟩
  rw [h4 b]
  by_cases c:b∈seq
  · rw [if_pos c]
    rw [decide_eq_true c] at k
    exact k
  · rw [if_neg c]
    rw [decide_eq_false c] at k
    exact k
def spMates (K:PySem.W.Frag):Sp:=fun vs H Q _=>∃ (p:Addr) (b sh pl:Int) (ru:Str) (ls:Addr) (ads:List Addr) (du:Addr) (seq:List Int) (us:Int→Int) (n:Nat),vs=[.ref p,.int b]∧RoomAt K H p sh pl ru ls ads du seq us n ∧
  ∀ (s:Nat) (ad:Addr),(s:Int)=b % sh→ads[s]?=some ad→H ad=some (.lst ((shelfS sh (b % sh) seq).map V.int))→Q (.ref ad) H
theorem ok_Room_mates {f:Addr} {fd:FuncData} (F:Fun K "mates" "Room.mates" s_Room_mates f fd) (T:Txt K mg) (D_shelf_of:Def P w K mg base "shelf_of" 1 P_shelf_of spShelf):FnOk P w K mg base CX0 2 f fd P_Room_mates (spMates K):=by
  refine F.ok sc_Room_mates (fun vs H Q E h=>?_) (fun cdv A outer st H vs Q E hr h=>?_)
  · obtain ⟨p,b,sh,pl,ru,ls,ads,du,seq,us,n,rfl,_⟩:=h
    rfl
  obtain ⟨p,b,sh,pl,ru,ls,ads,du,seq,us,n,rfl,R,k⟩:=h
  have nd:=sc_Room_mates.nd
  refine ⟨_,(pss_one (ps_ret (pe_ix (ix_listK (K:=K) rfl) (pe_fldK (K:=K) rfl (pv 0) rfl) (pe_defN D_shelf_of hr.m rfl (pc (pe_fldK (K:=K) rfl (pv 0) rfl) (pc (pv 1) pa_nil))) (fun _ _=>rfl)))),?_⟩
  obtain ⟨dx,h1⟩:=R.ob
  obtain ⟨s,ad,e1,e2,e3,e4⟩:=R.shelf b
  exact ⟨_,rfl,p,_,dx,_,_,rfl,h1,T.cl_Room,T.n_Room_standing,fl_standing ..,_,rfl,p,_,dx,_,_,rfl,h1,T.cl_Room,T.n_Room_shelves,fl_shelves ..,_,rfl,sh,b,rfl,R.s0,ls,_,_,_,rfl,rfl,SqL.of R.st.top,e3,k s ad e1 e2 e4⟩
def spNeed (K:PySem.W.Frag):Sp:=fun vs H Q _=>∃ (p:Addr) (b sh pl:Int) (ru:Str) (ls:Addr) (ads:List Addr) (du:Addr) (seq:List Int) (us:Int→Int) (n:Nat),vs=[.ref p,.int b]∧RoomAt K H p sh pl ru ls ads du seq us n∧b∈seq∧Q .non H
theorem ok_Room_need {f:Addr} {fd:FuncData} (F:Fun K "need" "Room.need" s_Room_need f fd) (T:Txt K mg) (M_Room_has:MDef P w K mg base (clsOf K "Room") "has" 1 P_Room_has (spHas K)):FnOk P w K mg base CX0 2 f fd P_Room_need (spNeed K):=by
  refine F.ok sc_Room_need (fun vs H Q E h=>?_) (fun cdv A outer st H vs Q E hr h=>?_)
  · obtain ⟨p,b,sh,pl,ru,ls,ads,du,seq,us,n,rfl,_⟩:=h
    rfl
  obtain ⟨p,b,sh,pl,ru,ls,ads,du,seq,us,n,rfl,R,hb,k⟩:=h
  have nd:=sc_Room_need.nd
  refine ⟨_,(pss_one (ps_if (pt_not (pt_val (pe_methN M_Room_has hr.m T.cl_Room (pv 0) (pc (pv 1) pa_nil)))) (pss_one ps_no) pss_nil)),?_⟩
  obtain ⟨dx,h1⟩:=R.ob
  refine ⟨_,rfl,p,dx,_,rfl,h1,fl_no ..,_,rfl,p,b,sh,pl,ru,ls,ads,du,seq,us,n,rfl,R,?_⟩
  rw [decide_eq_true hb]
  exact ⟨_,rfl,ifF rfl k⟩
end
section
variable {P:Program} {w:World} {K:PySem.W.Frag} {mg:Str→Option Value} {base:Heap}
def spGoing (K:PySem.W.Frag):Sp:=fun vs H Q _=>∃ (p m:Addr) (ms:List Int) (sh pl:Int) (ru:Str) (ls:Addr) (ads:List Addr) (du:Addr) (seq:List Int) (us:Int→Int) (n:Nat),vs=[.ref p,.ref m]∧RoomAt K H p sh pl ru ls ads du seq us n∧Tb K H∧H m=some (.lst (ms.map V.int))∧ms.length<64∧ms.Nodup∧(∀ b∈ms,b∈seq) ∧
  ∀ (D:Addr) (H':Hp) (os:List Int),H D=none→Same H H'→H' D=some (.lst (os.map V.int))→os.Perm ms→(ru = "few" → os.Pairwise (KLt us ms))→(ru ≠ "few" → os=ms)→Q (.ref D) H'
theorem ok_Room_going {f tp cg:Addr} {fd:FuncData} (F:Fun K "going" "Room.going" s_Room_going f fd) (hfc:fd.code=.ref cg) (htp:tabOf K "Room" "going" = tp) (hch:PySem.W.codeHdIn K cg tp=true) (bm:BMod base mg) (T:Txt K mg):FnOk P w K mg base CX0 2 f fd P_Room_going (spGoing K):=by
  refine F.okC sc_Room_going (fun vs H Q E h=>?_) (fun cdv A outer st H vs Q E hcv hr h=>?_)
  · obtain ⟨p,m,ms,sh,pl,ru,ls,ads,du,seq,us,n,rfl,_⟩:=h
    rfl
  obtain ⟨p,m,ms,sh,pl,ru,ls,ads,du,seq,us,n,rfl,R,tb,hm,h64,hnd,hin,k⟩:=h
  have nd:=sc_Room_going.nd
  have hu:=hu_of hr
  have hc0:cdv=.ref cg:=hcv.symm.trans hfc
  refine ⟨_,(pss_cons (ps_if (pt_cmpR op_eq (pe_fldK (K:=K) rfl (pv 0) rfl) pe_str (nomark _)) (pss_one (ps_ret (pe_sortK (X:=(cxOf CX0 P w K mg base N_Room_going "Room.going" (defScope s_Room_going) f cdv A outer st H E).nox) (K:=K) (P:=tp) (c0:=cg) rfl hr rfl rfl T.z_sorted (lamOk_of (osc:=(defScope s_Room_going)) (oN:=N_Room_going) (x := "board") (fr:=["self"]) (js:=[0]) (by decide +kernel) rfl rfl) hc0 hch bm rfl rfl rfl (fun _ _ _ _ _=>rfl) (pv 1) (fun _ _ _ _ _=>(pe_dget (hu_lam hr) (pe_fldK (K:=K) rfl (pv 1) rfl) (pv 0) (fun _ _=>rfl)))))) pss_nil)
      (pss_one (ps_ret (pe_callTyN (call_list_ofK (K:=K) rfl) rfl T.z_list boot_listT (pc (pv 1) pa_nil))))),?_⟩
  obtain ⟨dx,h1⟩:=R.ob
  obtain ⟨kvs,h2,h3,h4⟩:=R.dc
  refine ⟨_,rfl,p,_,dx,_,_,rfl,h1,T.cl_Room,T.n_Room_rule,fl_rule ..,rfl,_,rfl,?_⟩
  refine ite_dec (fun c=>?_) (fun c=>?_)
  · have c':ru = "few" := by injection c
    have tb':H tp=some (.tbl tpos tqual):=by
      have t:=tb
      unfold Tb at t
      rw [htp] at t
      exact t
    refine ⟨_,rfl,m,ms,us,rfl,SqL.of hm,h64,hnd,tb',fun z hz H2 sm=>?_,fun D H' os hD sm hl po so=>k D H' os hD sm hl po (fun _=>so) fun z=>absurd c' z⟩
    have v:=h4 z
    rw [if_pos (hin z hz)] at v
    exact ⟨_,rfl,p,_,dx,_,_,rfl,sm _ _ h1,T.cl_Room,T.n_Room_uses,fl_uses ..,_,rfl,du,_,rfl,(by have q:=DGet.k (k:=Sum.inl z) (sm _ _ h2); rw [v] at q; exact q),rfl,rfl⟩
  · have c':¬ ru = "few" := fun z=>c (by rw [z])
    exact ⟨_,rfl,m,_,rfl,.inl (SqL.of hm),fun D hD=>k D _ ms hD (same_upd hD _) upd_same (List.Perm.refl _) (fun z=>absurd z c') fun _=>rfl⟩
theorem val_drop {kvs:List (Key×V)} {k:Key} (j:Key):valV (dropK kvs k) j=if j=k then none else valV kvs j:=by
  induction kvs with
  | nil=>by_cases e:j=k <;> simp [dropK,valV,e]
  | cons q r ih =>
    by_cases e:q.1=k
    · rw [dropK_pos e,ih]
      by_cases c:j=k
      · rw [if_pos c,if_pos c]
      · rw [if_neg c,if_neg c,valV_neg (fun z=>c (z.symm.trans e))]
    · rw [dropK_neg e]
      by_cases c:q.1=j
      · rw [valV_pos c,if_neg (fun z=>e (c.trans z)),valV_pos c]
      · rw [valV_neg c,ih,valV_neg c]
theorem drop_lenK (kvs:List (Key×V)) (k:Key):(dropK kvs k).length≤kvs.length:=List.length_filter_le ..
def spDrop (K:PySem.W.Frag):Sp:=fun vs H Q _=>∃ (p:Addr) (b sh pl:Int) (ru:Str) (ls:Addr) (ads:List Addr) (du:Addr) (seq:List Int) (us:Int→Int) (n:Nat),vs=[.ref p,.int b]∧RoomAt K H p sh pl ru ls ads du seq us n∧b∈seq ∧
  ∀ H',RoomAt K H' p sh pl ru ls ads du (seq.erase b) us n→SR ads du H H'→Q .non H'
theorem ok_Room_drop {f:Addr} {fd:FuncData} (F:Fun K "drop" "Room.drop" s_Room_drop f fd) (T:Txt K mg) (M_Room_need:MDef P w K mg base (clsOf K "Room") "need" 2 P_Room_need (spNeed K)) (M_Room_mates:MDef P w K mg base (clsOf K "Room") "mates" 2 P_Room_mates (spMates K)):FnOk P w K mg base CX0 3 f fd P_Room_drop (spDrop K):=by
  refine F.ok sc_Room_drop (fun vs H Q E h=>?_) (fun cdv A outer st H vs Q E hr h=>?_)
  · obtain ⟨p,b,sh,pl,ru,ls,ads,du,seq,us,n,rfl,_⟩:=h
    rfl
  obtain ⟨p,b,sh,pl,ru,ls,ads,du,seq,us,n,rfl,R,hb,k⟩:=h
  have nd:=sc_Room_drop.nd
  refine ⟨_,(pss_cons (ps_expr (pe_methN M_Room_need hr.m T.cl_Room (pv 0) (pc (pv 1) pa_nil)))
      (pss_cons (ps_expr (pe_bmC (K:=K) rfl (pe_bm PySem.F.plainAttrs_list PySem.F.slot_list_remove PySem.F.type_list_remove mt_remove (pe_methN M_Room_mates hr.m T.cl_Room (pv 0) (pc (pv 1) pa_nil)) (pc (pv 1) pa_nil))))
      (pss_one (ps_expr (pe_dpop1 (pe_fldK (K:=K) rfl (pv 0) rfl) (pv 1) ⟨rfl,rfl,rfl,rfl⟩))))),?_⟩
  obtain ⟨dx,h1⟩:=R.ob
  obtain ⟨kvs,h2,h3,h4⟩:=R.dc
  obtain ⟨o1,o2,o3,o4,o5,o6⟩:=R.off
  refine ⟨_,rfl,p,dx,_,rfl,h1,fl_no ..,_,rfl,p,b,sh,pl,ru,ls,ads,du,seq,us,n,rfl,R,hb,?_⟩
  refine ⟨_,rfl,p,dx,_,rfl,h1,fl_no ..,_,rfl,p,b,sh,pl,ru,ls,ads,du,seq,us,n,rfl,R,fun s ad es hs had=>?_⟩
  have mad:ad∈ads:=List.mem_of_getElem? hs
  have hmem:b∈shelfS sh (b % sh) seq:=mem_shelfS.mpr ⟨hb,rfl⟩
  refine ⟨.inl ⟨rfl,_,SqL.of had⟩,_,rfl,ad,_,b,rfl,rfl,had,hmem,?_⟩
  have S1:Shl (upd H ad (.lst (((shelfS sh (b % sh) seq).erase b).map V.int))) ls ads sh (seq.erase b):=by
    refine R.st.put hs ?_ fun s' hs'=>?_
    · rw [shelfS_erase,es]
    · rw [shelfS_erase]
      exact List.erase_of_not_mem fun m=>hs' (by have:=(mem_shelfS.mp m).2; omega)
  have np:p≠ad:=fun z=>o2 (z ▸ mad)
  have nd':du≠ad:=fun z=>o5 (z ▸ mad)
  have h1':upd H ad (.lst (((shelfS sh (b % sh) seq).erase b).map V.int)) p=some (.ins (clsOf K "Room") dx (flds sh pl ru ls du)):=by rw [upd_ne np]; exact h1
  have h2':upd H ad (.lst (((shelfS sh (b % sh) seq).erase b).map V.int)) du=some (.dK kvs):=by rw [upd_ne nd']; exact h2
  refine ⟨_,rfl,p,_,dx,_,_,rfl,h1',T.cl_Room,T.n_Room_uses,fl_uses ..,du,rfl,.inl ⟨_,.inl h2'⟩,_,rfl,kvs,Sum.inl b,_,h2',rfl,(by rw [h4 b,if_pos hb]),?_⟩
  refine k _ ⟨⟨dx,by rw [upd_ne o1]; exact h1'⟩,S1.other _ (Ne.symm o3) o5,⟨_,upd_same,Nat.le_trans (drop_lenK _ _) h3,fun x=>?_⟩,R.nd.erase b,R.s0,R.s1⟩ fun x o e n1 n2=>?_
  · rw [val_drop,h4 x]
    by_cases c:x=b
    · subst c
      rw [if_pos rfl,if_neg (fun m=>((List.Nodup.mem_erase_iff R.nd).mp m).1 rfl)]
    · rw [if_neg (fun z=>c (Sum.inl.inj z))]
      by_cases m:x∈seq
      · rw [if_pos m,if_pos ((List.Nodup.mem_erase_iff R.nd).mpr ⟨c,m⟩)]
      · rw [if_neg m,if_neg (fun z=>m (List.mem_of_mem_erase z))]
  · rw [upd_ne n1,upd_ne (fun z:x=ad=>n2 (z ▸ mad))]
    exact e
def bump (us:Int→Int) (b:Int):Int→Int:=fun x=>if x=b then us b+1 else us x
def spUse (K:PySem.W.Frag):Sp:=fun vs H Q _=>∃ (p:Addr) (b sh pl:Int) (ru:Str) (ls:Addr) (ads:List Addr) (du:Addr) (seq:List Int) (us:Int→Int) (n:Nat),vs=[.ref p,.int b]∧RoomAt K H p sh pl ru ls ads du seq us n∧n≤900∧b∈seq∧seq.length≤900 ∧
  ∀ H',RoomAt K H' p sh pl ru ls ads du (if ru = "old" then seq.erase b++[b] else seq) (bump us b) (n+1)→SR ads du H H'→Q .non H'
theorem ok_Room_use {f:Addr} {fd:FuncData} (F:Fun K "use" "Room.use" s_Room_use f fd) (T:Txt K mg) (M_Room_need:MDef P w K mg base (clsOf K "Room") "need" 2 P_Room_need (spNeed K)) (M_Room_mates:MDef P w K mg base (clsOf K "Room") "mates" 2 P_Room_mates (spMates K)):FnOk P w K mg base CX0 3 f fd P_Room_use (spUse K):=by
  refine F.ok sc_Room_use (fun vs H Q E h=>?_) (fun cdv A outer st H vs Q E hr h=>?_)
  · obtain ⟨p,b,sh,pl,ru,ls,ads,du,seq,us,n,rfl,_⟩:=h
    rfl
  obtain ⟨p,b,sh,pl,ru,ls,ads,du,seq,us,n,rfl,R,hn,hb,hsl,k⟩:=h
  have nd:=sc_Room_use.nd
  have hu:=hu_of hr
  refine ⟨_,(pss_cons (ps_expr (pe_methN M_Room_need hr.m T.cl_Room (pv 0) (pc (pv 1) pa_nil)))
      (pss_cons (ps_daug hu (pe_fldK (K:=K) rfl (pv 0) rfl) (pv 1) pe_int in_add (fun _ _ _=>rfl))
      (pss_one (ps_if (pt_cmpR op_eq (pe_fldK (K:=K) rfl (pv 0) rfl) pe_str (nomark _)) (pss_cons (pst 2 nd (pe_methN M_Room_mates hr.m T.cl_Room (pv 0) (pc (pv 1) pa_nil)))
      (pss_cons (ps_expr (pe_bmC (K:=K) rfl (pe_bm PySem.F.plainAttrs_list PySem.F.slot_list_remove PySem.F.type_list_remove mt_remove (pv 2) (pc (pv 1) pa_nil))))
      (pss_one (ps_expr (pe_bmC (K:=K) rfl (pe_bm PySem.F.plainAttrs_list PySem.F.slot_list_append PySem.F.type_list_append mt_append (pv 2) (pc (pv 1) pa_nil))))))) pss_nil)))),?_⟩
  obtain ⟨dx,h1⟩:=R.ob
  obtain ⟨kvs,h2,h3,h4⟩:=R.dc
  obtain ⟨o1,o2,o3,o4,o5,o6⟩:=R.off
  refine ⟨_,rfl,p,dx,_,rfl,h1,fl_no ..,_,rfl,p,b,sh,pl,ru,ls,ads,du,seq,us,n,rfl,R,hb,?_⟩
  refine ⟨_,rfl,p,_,dx,_,_,rfl,h1,T.cl_Room,T.n_Room_uses,fl_uses ..,_,rfl,du,_,rfl,(by have q:=DGet.k (k:=Sum.inl b) h2; rw [h4 b,if_pos hb] at q; exact q),_,_,rfl,rfl,_,DPut.k (k:=Sum.inl b) h2 (small1000 (by omega)),?_⟩
  have R1:RoomAt K (upd H du (.dK (putK kvs (Sum.inl b) (.int (us b+1))))) p sh pl ru ls ads du seq (bump us b) (n+1):=by
    refine ⟨⟨dx,by rw [upd_ne o1]; exact h1⟩,R.st.other _ (Ne.symm o3) o5,⟨_,upd_same,Nat.le_trans (length_putK ..) (by omega),fun x=>?_⟩,R.nd,R.s0,R.s1⟩
    rw [valV_put]
    unfold bump
    by_cases c:x=b
    · subst c
      rw [if_pos rfl,if_pos hb,if_pos rfl]
    · rw [if_neg (fun z=>c (Sum.inl.inj z)),h4 x,if_neg c]
  have s1:SR ads du H (upd H du (.dK (putK kvs (Sum.inl b) (.int (us b+1))))):=fun x o e n1 n2=>by rw [upd_ne n1]; exact e
  generalize upd H du (.dK (putK kvs (Sum.inl b) (.int (us b+1))))=H1 at *
  obtain ⟨dx1,g1⟩:=R1.ob
  refine ⟨_,rfl,p,_,dx1,_,_,rfl,g1,T.cl_Room,T.n_Room_rule,fl_rule ..,rfl,_,rfl,?_⟩
  refine ite_dec (fun c=>?_) (fun c=>?_)
  · have c':ru = "old" := by injection c
    rw [if_pos c'] at k
    refine ⟨_,rfl,p,dx1,_,rfl,g1,fl_no ..,_,rfl,p,b,sh,pl,ru,ls,ads,du,seq,_,_,rfl,R1,fun s ad es hs had=>?_⟩
    have mad:ad∈ads:=List.mem_of_getElem? hs
    have hmem:b∈shelfS sh (b % sh) seq:=mem_shelfS.mpr ⟨hb,rfl⟩
    refine ⟨_,rfl,.inl ⟨rfl,_,SqL.of had⟩,_,rfl,ad,_,b,rfl,rfl,had,hmem,?_⟩
    have ll:((shelfS sh (b % sh) seq).erase b).length≤900:=Nat.le_trans List.length_erase_le (Nat.le_trans (List.length_filter_le ..) hsl)
    refine ⟨_,rfl,.inl ⟨rfl,_,SqL.of upd_same⟩,_,rfl,ad,_,_,rfl,rfl,upd_same,small1000 (by rw [List.length_map]; omega),?_⟩
    rw [upd_upd]
    have e1:(((shelfS sh (b % sh) seq).erase b).map V.int++[V.int b])=((shelfS sh (b % sh) seq).erase b++[b]).map V.int:=by rw [List.map_append]; rfl
    have S2:Shl (upd H1 ad (.lst (((shelfS sh (b % sh) seq).erase b++[b]).map V.int))) ls ads sh (seq.erase b++[b]):=by
      refine R1.st.put hs ?_ fun s' hs'=>?_
      · rw [shelfS_app,if_pos es.symm,shelfS_erase,es]
      · rw [shelfS_app,if_neg (by omega),shelfS_erase]
        exact List.erase_of_not_mem fun m=>hs' (by have:=(mem_shelfS.mp m).2; omega)
    have np:p≠ad:=fun z=>o2 (z ▸ mad)
    have ndu:du≠ad:=fun z=>o5 (z ▸ mad)
    obtain ⟨kvs1,g2,g3,g4⟩:=R1.dc
    have hme:∀ x,x∈seq.erase b++[b]↔x∈seq:=fun x=>by
      rw [List.mem_append,List.mem_singleton,List.Nodup.mem_erase_iff R.nd]
      constructor
      · rintro (⟨_,m⟩ | rfl)
        · exact m
        · exact hb
      · intro m
        by_cases z:x=b
        · exact .inr z
        · exact .inl ⟨z,m⟩
    rw [e1]
    refine k _ ⟨⟨dx1,by rw [upd_ne np]; exact g1⟩,S2,⟨kvs1,by rw [upd_ne ndu]; exact g2,g3,fun x=>?_⟩,?_,R.s0,R.s1⟩ fun x o e n1 n2=>?_
    · rw [g4 x]
      by_cases m:x∈seq
      · rw [if_pos m,if_pos ((hme x).mpr m)]
      · rw [if_neg m,if_neg (fun z=>m ((hme x).mp z))]
    · refine nd_snoc (R.nd.erase b) fun m=>((List.Nodup.mem_erase_iff R.nd).mp m).1 rfl
    · rw [upd_ne (fun z:x=ad=>n2 (z ▸ mad))]
      exact s1 _ _ e n1 n2
  · have c':¬ ru = "old" := fun z=>c (by rw [z])
    rw [if_neg c'] at k
    exact k _ R1 s1
end
def tmR (ru:Str) (r:Rec):Int:=if ru = "old" then r.t1 else r.t0
def tm (ru:Str) (S:List Rec) (x:Int):Int:=match recOf S x with
  | some r=>tmR ru r
  | none=>0
theorem tm_rec {ru:Str} {S:List Rec} {r:Rec} (u:Uq S) (h:r∈S):tm ru S r.b=tmR ru r:=by
  unfold tm
  rw [u.rec r h]
def lessO (seq:List Int):Option Int→List Int
  | none=>seq
  | some g=>seq.erase g
structure Link (sh pl:Int) (ru:Str) (S:List Rec) (seq:List Int) (us:Int→Int) (i:Nat):Prop where
  uq:Uq S
  nd:seq.Nodup
  mem:∀ b,b∈seq↔b∈bds S
  ord:seq.Pairwise fun a b=>tm ru S a<tm ru S b
  bnd:∀ b∈seq,tm ru S b<i
  usn:∀ r∈S,us r.b=r.n
  cap:∀ s,((shelfS sh s seq).length:Int)≤pl
def goneP (ru:Str) (us:Int→Int) (pl:Int) (ms:List Int) (gone:Option Int):Prop :=
  ((ms.length:Int)<pl→gone=none)∧(¬ (ms.length:Int)<pl→∃ (g:Int) (rest:List Int),gone=some g∧(g :: rest).Perm ms∧(ru = "few" → (g :: rest).Pairwise (KLt us ms))∧(ru ≠ "few" → g :: rest=ms))
theorem len_of_mem:∀ {a b:List Int},a.Nodup→b.Nodup→(∀ x,x∈a↔x∈b)→a.length=b.length
  | [],b,_,_,h=>by
    cases b with
    | nil=>rfl
    | cons y r=>exact absurd ((h y).mpr List.mem_cons_self) (by simp)
  | x :: a,b,na,nb,h=>by
    obtain ⟨n1,n2⟩:=List.nodup_cons.mp na
    have mb:x∈b:=(h x).mp List.mem_cons_self
    have ih:=len_of_mem n2 (nb.erase x) fun y=>by
      rw [List.Nodup.mem_erase_iff nb]
      constructor
      · intro m
        exact ⟨fun z=>n1 (z ▸ m),(h y).mp (List.mem_cons_of_mem _ m)⟩
      · rintro ⟨z,m⟩
        rcases List.mem_cons.mp ((h y).mpr m) with q | q
        · exact absurd q z
        · exact q
    rw [List.length_cons,ih,List.length_erase_of_mem mb]
    have:0<b.length:=List.length_pos_of_mem mb
    omega
theorem Link.onsh {sh pl:Int} {ru:Str} {S:List Rec} {seq:List Int} {us:Int→Int} {i:Nat} (L:Link sh pl ru S seq us i) (z:Int):((onShelf sh z S).length=(shelfS sh (z % sh) seq).length)∧∀ x,x∈shelfS sh (z % sh) seq↔∃ r∈onShelf sh z S,r.b=x:=by
  have hm:∀ x,x∈shelfS sh (z % sh) seq↔∃ r∈onShelf sh z S,r.b=x:=fun x=>by
    rw [mem_shelfS,L.mem x]
    constructor
    · rintro ⟨m,e⟩
      obtain ⟨r,hr,rfl⟩:=List.mem_map.mp m
      exact ⟨r,List.mem_filter.mpr ⟨hr,by simp [e]⟩,rfl⟩
    · rintro ⟨r,hr,rfl⟩
      obtain ⟨h1,h2⟩:=List.mem_filter.mp hr
      exact ⟨List.mem_map.mpr ⟨r,h1,rfl⟩,by simpa using h2⟩
  refine ⟨?_,hm⟩
  have nd1:((onShelf sh z S).map (·.b)).Nodup:=List.Nodup.sublist (List.Sublist.map _ List.filter_sublist) L.uq
  have nd2:(shelfS sh (z % sh) seq).Nodup:=List.Nodup.sublist List.filter_sublist L.nd
  have e:=len_of_mem nd1 nd2 fun x=>by
    rw [hm x,List.mem_map]
  rw [List.length_map] at e
  exact e
theorem pair_idx {R:Int→Int→Prop} {l:List Int} (p:l.Pairwise R) {a b:Int} (ha:a∈l) (hb:b∈l) (h:l.idxOf a<l.idxOf b):R a b:=by
  have la:=List.idxOf_lt_length_of_mem ha
  have lb:=List.idxOf_lt_length_of_mem hb
  have q:=List.pairwise_iff_getElem.mp p _ _ la lb h
  rwa [List.getElem_idxOf la,List.getElem_idxOf lb] at q
theorem lex_lt2 {a b:Int} {x y:List Int} (h:a<b):HT.lexLt (a :: x) (b :: y)=true:=by
  rw [HT.lexLt_cons,if_neg (by omega),decide_eq_true h]
theorem goes_eq {sh pl:Int} {ru:Str} {S:List Rec} {seq:List Int} {us:Int→Int} {i:Nat} {z:Int} {gone:Option Int} (L:Link sh pl ru S seq us i) (hpl:1≤pl) (hru:Rule ru) (G:goneP ru us pl (shelfS sh (z % sh) seq) gone):goesF sh pl ru S z=gone:=by
  obtain ⟨hlen,hmem⟩:=L.onsh z
  by_cases c:((onShelf sh z S).length:Int)<pl
  · rw [G.1 (by rw [← hlen]; exact c)]
    unfold goesF
    rw [if_pos c]
  · obtain ⟨g,rest,rfl,pm,h1,h2⟩:=G.2 (by rw [← hlen]; exact c)
    obtain ⟨r,hr,e,least⟩:=goes_least (ru:=ru) hpl c
    rw [e]
    have hg:g∈shelfS sh (z % sh) seq:=pm.mem_iff.mp List.mem_cons_self
    obtain ⟨r0,hr0,e0⟩:=(hmem g).mp hg
    have hrb:r.b∈shelfS sh (z % sh) seq:=(hmem r.b).mpr ⟨r,hr,rfl⟩
    by_cases eq:r.b=g
    · rw [eq]
    · exfalso
      have hrest:r.b∈rest:=by
        rcases List.mem_cons.mp (pm.mem_iff.mpr hrb) with q | q
        · exact absurd q eq
        · exact q
      have inS:r∈S:=(List.mem_filter.mp hr).1
      have inS0:r0∈S:=(List.mem_filter.mp hr0).1
      have ordS:(shelfS sh (z % sh) seq).Pairwise fun a b=>tm ru S a<tm ru S b:=List.Pairwise.sublist List.filter_sublist L.ord
      have bad:=least r0 hr0
      have ht:∀ {a b:Int},a∈shelfS sh (z % sh) seq→b∈shelfS sh (z % sh) seq→(shelfS sh (z % sh) seq).idxOf a<(shelfS sh (z % sh) seq).idxOf b→tm ru S a<tm ru S b:=fun ha hb h=>pair_idx ordS ha hb h
      by_cases few:ru = "few"
      · have k:=List.rel_of_pairwise_cons (h1 few) hrest
        have e1:tm ru S r0.b=r0.t0:=by rw [tm_rec L.uq inS0,tmR,if_neg (by rw [few]; decide)]
        have e2:tm ru S r.b=r.t0:=by rw [tm_rec L.uq inS,tmR,if_neg (by rw [few]; decide)]
        have u1:=L.usn r0 inS0
        have u2:=L.usn r inS
        have kk:∀ q:Rec,keyR ru q=[q.n,q.t0]:=fun q=>by
          unfold keyR byL
          rw [few,if_neg (by decide),if_neg (by decide)]
          rfl
        rw [kk,kk] at bad
        rcases k with k | ⟨k1,k2⟩
        · rw [← e0,u1,u2] at k
          rw [show [r0.n,r0.t0]++[r0.b]=r0.n :: [r0.t0,r0.b] from rfl,show [r.n,r.t0]++[r.b]=r.n :: [r.t0,r.b] from rfl,lex_lt2 k] at bad
          cases bad
        · have t:=ht hg hrb k2
          rw [← e0,e1,e2] at t
          rw [← e0,u1,u2] at k1
          rw [show [r0.n,r0.t0]++[r0.b]=r0.n :: [r0.t0,r0.b] from rfl,show [r.n,r.t0]++[r.b]=r.n :: [r.t0,r.b] from rfl,HT.lexLt_cons,if_pos k1,lex_lt2 t] at bad
          cases bad
      · have e3:=h2 few
        have t:tm ru S g<tm ru S r.b:=by
          rw [← e3] at ordS
          exact List.rel_of_pairwise_cons ordS hrest
        rw [← e0,tm_rec L.uq inS0,tm_rec L.uq inS] at t
        have kk:∀ q:Rec,keyR ru q++[q.b]=[tmR ru q,q.b]:=fun q=>by
          rcases hru with rfl | rfl | rfl
          · unfold keyR byL tmR
            rw [if_pos rfl,if_pos rfl]
            rfl
          · unfold keyR byL tmR
            rw [if_neg (by decide),if_pos rfl,if_neg (by decide)]
            rfl
          · exact absurd rfl few
        rw [kk,kk,lex_lt2 t] at bad
        cases bad
theorem tm_put {ru:Str} {S:List Rec} {q:Rec} (x:Int):tm ru (putR S q) x=if x=q.b then tmR ru q else tm ru S x:=by
  unfold tm
  rw [recOf_put]
  by_cases e:x=q.b
  · rw [if_pos e,if_pos e]
  · rw [if_neg e,if_neg e]
theorem tm_less {ru:Str} {S:List Rec} {g:Option Int} {x:Int} (h:∀ y,g=some y→x≠y):tm ru (lessR S g) x=tm ru S x:=by
  cases g with
  | none=>rfl
  | some y =>
    unfold tm
    rw [show recOf (lessR S (some y)) x=recOf S x by
      show recOf (dropR S y) x=_
      rw [recOf_drop,if_neg (h y rfl)]]
theorem len_less {seq:List Int} {g:Option Int}:(lessO seq g).length≤seq.length:=by
  cases g with
  | none=>exact Nat.le_refl _
  | some g=>exact List.length_erase_le
theorem less_sub {seq:List Int} {g:Option Int}:(lessO seq g).Sublist seq:=by
  cases g with
  | none=>exact List.Sublist.refl _
  | some g=>exact List.erase_sublist
theorem mem_less {seq:List Int} {g:Option Int} (nd:seq.Nodup) {x:Int}:x∈lessO seq g↔x∈seq∧∀ y,g=some y→x≠y:=by
  cases g with
  | none=>exact ⟨fun h=>⟨h,fun y e=>by cases e⟩,fun h=>h.1⟩
  | some g =>
    show x∈seq.erase g↔_
    rw [List.Nodup.mem_erase_iff nd]
    exact ⟨fun h=>⟨h.2,fun y e=>by cases e; exact h.1⟩,fun h=>⟨h.2 g rfl,h.1⟩⟩
theorem bds_less {S:List Rec} {g:Option Int} {x:Int}:x∈bds (lessR S g)↔x∈bds S∧∀ y,g=some y→x≠y:=by
  cases g with
  | none=>exact ⟨fun h=>⟨h,fun y e=>by cases e⟩,fun h=>h.1⟩
  | some g =>
    show x∈bds (dropR S g)↔_
    rw [bds_drop]
    exact ⟨fun h=>⟨h.1,fun y e=>by cases e; exact h.2⟩,fun h=>⟨h.1,h.2 g rfl⟩⟩
theorem mem_lessR' {S:List Rec} {o:Option Int} {r:Rec} (h:r∈lessR S o):r∈S:=by
  cases o with
  | none=>exact h
  | some g=>exact (List.mem_filter.mp h).1
theorem mem_putR' {S:List Rec} {q r:Rec} (u:Uq S) (h:r∈putR S q):r=q∨(r∈S∧r.b≠q.b):=by
  have e:=(u.put q).rec r h
  rw [recOf_put] at e
  by_cases c:r.b=q.b
  · rw [if_pos c] at e
    exact .inl (Option.some.inj e).symm
  · rw [if_neg c] at e
    exact .inr ⟨(recOf_some e).1,c⟩
theorem pair_snoc {R:Int→Int→Prop} {l:List Int} {z:Int} (p:l.Pairwise R) (h:∀ x∈l,R x z):(l++[z]).Pairwise R:=by
  rw [List.pairwise_append]
  exact ⟨p,List.pairwise_singleton _ _,fun a ha b hb=>by rw [List.mem_singleton.mp hb]; exact h a ha⟩
theorem Link.missed {sh pl:Int} {ru:Str} {S:List Rec} {seq:List Int} {us us':Int→Int} {i:Nat} {z:Int} {gone:Option Int} (L:Link sh pl ru S seq us i) (hz:z∉seq) (hg:goesF sh pl ru S z=gone) (hu:∀ x,us' x=if x=z then 0 else us x)
    (hc:((shelfS sh (z % sh) seq).length:Int)<pl∨∃ g∈shelfS sh (z % sh) seq,gone=some g):Link sh pl ru (putR (lessR S gone) ⟨z,i,i,0⟩) (lessO seq gone++[z]) us' (i+1):=by
  have u1:=L.uq.less gone
  have nz:z∉lessO seq gone:=fun m=>hz (less_sub.subset m)
  have tq:tmR ru ⟨z,i,i,0⟩=(i:Int):=by unfold tmR; split <;> rfl
  have te:∀ x∈lessO seq gone,tm ru (putR (lessR S gone) ⟨z,i,i,0⟩) x=tm ru S x:=fun x m=>by
    obtain ⟨m1,m2⟩:=(mem_less L.nd).mp m
    rw [tm_put,if_neg (fun e:x=z=>nz (e ▸ m)),tm_less m2]
  have tz:tm ru (putR (lessR S gone) ⟨z,i,i,0⟩) z=(i:Int):=by rw [tm_put,if_pos rfl,tq]
  refine ⟨u1.put _,nd_snoc (L.nd.sublist less_sub) nz,fun x=>?_,pair_snoc ?_ ?_,fun x m=>?_,fun r hr=>?_,fun s=>?_⟩
  · rw [List.mem_append,List.mem_singleton,bds_put,mem_less L.nd,bds_less,L.mem x]
    exact ⟨fun h=>h.elim (fun q=>.inr q) fun q=>.inl q,fun h=>h.elim (fun q=>.inr q) fun q=>.inl q⟩
  · have p:=L.ord.sublist (less_sub (g:=gone))
    exact p.imp_of_mem fun ha hb h=>by rw [te _ ha,te _ hb]; exact h
  · intro x m
    rw [te x m,tz]
    exact L.bnd x (less_sub.subset m)
  · rcases List.mem_append.mp m with m | m
    · rw [te x m]
      have:=L.bnd x (less_sub.subset m)
      omega
    · rw [List.mem_singleton.mp m,tz]
      omega
  · rcases mem_putR' u1 hr with rfl | ⟨h1,h2⟩
    · rw [hu,if_pos rfl]
    · rw [hu,if_neg h2]
      exact L.usn r (mem_lessR' h1)
  · rw [shelfS_app]
    have hl:shelfS sh s (lessO seq gone)=lessO (shelfS sh s seq) gone:=by
      cases gone with
      | none=>rfl
      | some g=>exact shelfS_erase sh s g seq
    rw [hl]
    have cs:=L.cap s
    have ll:=len_less (seq:=shelfS sh s seq) (g:=gone)
    split
    · rename_i e
      rw [List.length_append]
      rcases hc with hc | ⟨g,hg',rfl⟩
      · rw [e] at hc
        have:[z].length=1:=rfl
        omega
      · rw [e] at hg'
        have e1:(lessO (shelfS sh s seq) (some g)).length=(shelfS sh s seq).length - 1:=List.length_erase_of_mem hg'
        have p0:0<(shelfS sh s seq).length:=List.length_pos_of_mem hg'
        have:[z].length=1:=rfl
        omega
    · omega
theorem Link.found {sh pl:Int} {ru:Str} {S:List Rec} {seq:List Int} {us us':Int→Int} {i:Nat} {z:Int} {r:Rec} (L:Link sh pl ru S seq us i) (hr:recOf S z=some r) (hu:∀ x,us' x=if x=z then us z+1 else us x) :
    Link sh pl ru (putR S ⟨z,r.t0,i,r.n+1⟩) (if ru = "old" then seq.erase z++[z] else seq) us' (i+1):=by
  obtain ⟨rS,rb⟩:=recOf_some hr
  subst rb
  have zin:r.b∈seq:=(L.mem _).mpr (List.mem_map.mpr ⟨r,rS,rfl⟩)
  have usr:∀ q∈putR S ⟨r.b,r.t0,i,r.n+1⟩,us' q.b=q.n:=fun q hq=>by
    rcases mem_putR' L.uq hq with rfl | ⟨h1,h2⟩
    · rw [hu,if_pos rfl,L.usn r rS]
    · rw [hu,if_neg h2]
      exact L.usn q h1
  have memS:∀ x,x∈bds (putR S ⟨r.b,r.t0,i,r.n+1⟩)↔x∈bds S:=fun x=>by
    rw [bds_put]
    constructor
    · rintro (rfl | h)
      · exact (L.mem _).mp zin
      · exact h
    · exact fun h=>.inr h
  by_cases old:ru = "old"
  · rw [if_pos old]
    have nz:r.b∉seq.erase r.b:=fun m=>((List.Nodup.mem_erase_iff L.nd).mp m).1 rfl
    have te:∀ x∈seq.erase r.b,tm ru (putR S ⟨r.b,r.t0,i,r.n+1⟩) x=tm ru S x:=fun x m=>by
      rw [tm_put,if_neg (fun e:x=r.b=>nz (e ▸ m))]
    have tz:tm ru (putR S ⟨r.b,r.t0,i,r.n+1⟩) r.b=(i:Int):=by rw [tm_put,if_pos rfl,tmR,if_pos old]
    refine ⟨L.uq.put _,nd_snoc (L.nd.erase _) nz,fun x=>?_,pair_snoc ?_ ?_,fun x m=>?_,usr,fun s=>?_⟩
    · rw [memS,← L.mem x,List.mem_append,List.mem_singleton,List.Nodup.mem_erase_iff L.nd]
      constructor
      · rintro (⟨_,m⟩ | rfl)
        · exact m
        · exact zin
      · intro m
        by_cases e:x=r.b
        · exact .inr e
        · exact .inl ⟨e,m⟩
    · have p:=L.ord.sublist (List.erase_sublist (a:=r.b))
      exact p.imp_of_mem fun ha hb h=>by rw [te _ ha,te _ hb]; exact h
    · intro x m
      rw [te x m,tz]
      exact L.bnd x (List.mem_of_mem_erase m)
    · rcases List.mem_append.mp m with m | m
      · rw [te x m]
        have:=L.bnd x (List.mem_of_mem_erase m)
        omega
      · rw [List.mem_singleton.mp m,tz]
        omega
    · rw [shelfS_app,shelfS_erase]
      have cs:=L.cap s
      split
      · rename_i e
        have hin:r.b∈shelfS sh s seq:=mem_shelfS.mpr ⟨zin,e⟩
        rw [List.length_append,List.length_erase_of_mem hin]
        have p0:0<(shelfS sh s seq).length:=List.length_pos_of_mem hin
        have:[r.b].length=1:=rfl
        omega
      · have:((shelfS sh s seq).erase r.b).length≤(shelfS sh s seq).length:=List.length_erase_le
        omega
  · rw [if_neg old]
    have te:∀ x,tm ru (putR S ⟨r.b,r.t0,i,r.n+1⟩) x=tm ru S x:=fun x=>by
      rw [tm_put]
      by_cases e:x=r.b
      · rw [if_pos e,e,tm_rec L.uq rS,tmR,tmR,if_neg old,if_neg old]
      · rw [if_neg e]
    refine ⟨L.uq.put _,L.nd,fun x=>by rw [memS,L.mem x],L.ord.imp fun h=>by rw [te,te]; exact h,fun x m=>?_,usr,L.cap⟩
    rw [te]
    have:=L.bnd x m
    omega
section
variable {P:Program} {w:World} {K:PySem.W.Frag} {mg:Str→Option Value} {base:Heap}
def spRoom (K:PySem.W.Frag):Sp:=fun vs H Q _=>∃ (p dx:Addr) (sh pl:Int) (ru:Str),vs=[.ref p,.int sh,.int pl,.str ru]∧H p=some (.ins (clsOf K "Room") dx [])∧1≤sh∧sh≤64 ∧
  ∀ (ls:Addr) (ads:List Addr) (du:Addr) (H':Hp),RoomAt K H' p sh pl ru ls ads du [] (fun _=>0) 0→H ls=none→H du=none→(∀ ad∈ads,H ad=none)→(∀ b o,H b=some o→b≠p→H' b=some o)→Q .non H'
theorem ok_Room_init {f:Addr} {fd:FuncData} (F:Fun K "__init__" "Room.__init__" s_Room_init f fd) (T:Txt K mg):FnOk P w K mg base CX0 1 f fd P_Room_init (spRoom K):=by
  refine F.ok sc_Room_init (fun vs H Q E h=>?_) (fun cdv A outer st H vs Q E hr h=>?_)
  · obtain ⟨p,dx,sh,pl,ru,rfl,_⟩:=h
    rfl
  obtain ⟨p,dx,sh,pl,ru,rfl,hp,hs0,hs1,k⟩:=h
  have nd:=sc_Room_init.nd
  refine ⟨_,(pss_cons (ps_fld (pv 0) (pv 1) rfl)
      (pss_cons (ps_fld (pv 0) (pv 2) rfl)
      (pss_cons (ps_fld (pv 0) (pv 3) rfl)
      (pss_cons (ps_fld (pv 0) (pe_comp0 (compOk_of (osc:=(defScope s_Room_init)) (oN:=N_Room_init) (N:=["number"]) (own:=1) (js:=[]) (by decide +kernel) rfl rfl) rfl (pi_range1 rfl T.z_range (pc (pv 1) pa_nil)) (fun _ _ _ _ _ _=>(pgn 0 (show List.Nodup (["number"]:List Str) by decide +kernel))) (fun _ _ _ _ _ _=>(pe_lst pa_nil))) rfl)
      (pss_one (ps_fld (pv 0) pe_dnewK rfl)))))),?_⟩
  refine ⟨_,rfl,_,rfl,p,_,dx,_,rfl,hp,T.cl_Room,T.n_Room_shelves,(by show 0<1000; decide),?_⟩
  refine ⟨_,rfl,_,rfl,p,_,dx,_,rfl,upd_same,T.cl_Room,T.n_Room_places,(by show 1<1000; decide),?_⟩
  refine ⟨_,rfl,_,rfl,p,_,dx,_,rfl,upd_same,T.cl_Room,T.n_Room_rule,(by show 2<1000; decide),?_⟩
  have e3:upd (upd (upd H p (.ins (clsOf K "Room") dx (putF "shelves" (.int sh) []))) p (.ins (clsOf K "Room") dx (putF "places" (.int pl) (putF "shelves" (.int sh) [])))) p (.ins (clsOf K "Room") dx (putF "rule" (.str ru) (putF "places" (.int pl) (putF "shelves" (.int sh) [])))) p=some (.ins (clsOf K "Room") dx (putF "rule" (.str ru) (putF "places" (.int pl) (putF "shelves" (.int sh) [])))):=upd_same
  have o3:∀ b o,H b=some o→b≠p→upd (upd (upd H p (.ins (clsOf K "Room") dx (putF "shelves" (.int sh) []))) p (.ins (clsOf K "Room") dx (putF "places" (.int pl) (putF "shelves" (.int sh) [])))) p (.ins (clsOf K "Room") dx (putF "rule" (.str ru) (putF "places" (.int pl) (putF "shelves" (.int sh) [])))) b=some o:=fun b o e n=>by rw [upd_ne n,upd_ne n,upd_ne n]; exact e
  generalize upd (upd (upd H p (.ins (clsOf K "Room") dx (putF "shelves" (.int sh) []))) p (.ins (clsOf K "Room") dx (putF "places" (.int pl) (putF "shelves" (.int sh) [])))) p (.ins (clsOf K "Room") dx (putF "rule" (.str ru) (putF "places" (.int pl) (putF "shelves" (.int sh) []))))=H3 at *
  have f3:∀ b,H3 b=none→H b=none:=fun b e=>by
    cases q:H b with
    | none=>rfl
    | some o =>
      by_cases z:b=p
      · rw [z,e3] at e; cases e
      · rw [o3 b o q z] at e; cases e
  refine ⟨_,rfl,sh,rfl,by omega,by omega,fun ls hls=>?_⟩
  refine comp_range (lo:=0) (n:=sh.toNat) (l:=ls) (fun j ys σ G=>∃ (v0:Option V) (ads:List Addr),σ=[v0]∧ys=ads.map V.ref∧ads.length=j∧ads.Nodup∧ls∉ads∧G ls=some (.lst ys)∧(∀ ad∈ads,H3 ad=none∧G ad=some (.lst []))∧Same H3 G)
    ⟨none,[],rfl,rfl,rfl,List.nodup_nil,by simp,upd_same,by simp,same_upd hls _⟩ ?_ ?_
  · rintro j ys σ G hj hy ⟨v0,ads,rfl,rfl,hlen,hnd,hoff,g1,g2,s1⟩
    refine ⟨(by show 0≤sizeLine; decide),fun q hq=>?_⟩
    have nq:ls≠q:=ne_of_none g1 hq
    have niq:q∉ads:=fun m=>by rw [(g2 q m).2] at hq; cases hq
    refine CNx.of (Nat.le_trans (by omega:sh.toNat≤64) (by decide)) hj hy (by rw [upd_ne nq]; exact g1) ⟨_,ads++[q],rfl,by rw [List.map_append]; rfl,by rw [List.length_append,hlen]; rfl,nd_snoc hnd niq,?_,upd_same,fun ad m=>?_,?_⟩
    · intro m
      rcases List.mem_append.mp m with m | m
      · exact hoff m
      · exact nq (by simpa using m)
    · rcases List.mem_append.mp m with m | m
      · rw [upd_ne (fun z:ad=ls=>hoff (z ▸ m)),upd_ne (fun z:ad=q=>niq (z ▸ m))]
        exact g2 ad m
      · have e:ad=q:=by simpa using m
        subst e
        rw [upd_ne (Ne.symm nq)]
        exact ⟨s1.free hq,upd_same⟩
    · intro e o y
      rw [upd_ne (ne_of_none y hls),upd_ne (ne_of_none (s1 _ _ y) hq)]
      exact s1 _ _ y
  rintro ys σ G hy ⟨v0,ads,rfl,rfl,hlen,hnd,hoff,g1,g2,s1⟩
  have gp:=s1 _ _ e3
  refine ⟨_,rfl,p,_,dx,_,rfl,gp,T.cl_Room,T.n_Room_standing,(by show 3<1000; decide),?_⟩
  intro du hdu
  have nls:ls≠p:=fun z=>by rw [z,e3] at hls; cases hls
  have nas:∀ ad∈ads,ad≠p:=fun ad m z=>by have q:=(g2 ad m).1; rw [z,e3] at q; cases q
  have npd:p≠du:=ne_of_none (upd_same (H:=G) (a:=p) (o:=.ins (clsOf K "Room") dx (putF "standing" (.ref ls) (putF "rule" (.str ru) (putF "places" (.int pl) (putF "shelves" (.int sh) [])))))) hdu
  have gl:ls≠du:=fun z=>by rw [← z,upd_ne nls,g1] at hdu; cases hdu
  have ga:du∉ads:=fun m=>by rw [upd_ne (Ne.symm npd),(g2 du m).2] at hdu; cases hdu
  refine ⟨_,rfl,p,_,dx,_,rfl,(by rw [upd_ne npd]; exact upd_same),T.cl_Room,T.n_Room_uses,(by show 4<1000; decide),?_⟩
  have hduH3:H3 du=none:=by
    rw [upd_ne (Ne.symm npd)] at hdu
    exact s1.free hdu
  refine k ls ads du _ ⟨⟨dx,upd_same⟩,⟨?_,hlen,hnd,hoff,fun i ad e=>?_⟩,⟨[],?_,Nat.le_refl _,fun b=>by simp [valV]⟩,List.nodup_nil,hs0,hs1⟩ (f3 _ hls) (f3 _ hduH3) (fun ad m=>f3 _ (g2 ad m).1) fun b o e n=>?_
  · rw [upd_ne nls,upd_ne gl,upd_ne nls]
    exact g1
  · have m:=List.mem_of_getElem? e
    rw [upd_ne (nas ad m),upd_ne (fun z:ad=du=>ga (z ▸ m)),upd_ne (nas ad m)]
    exact (g2 ad m).2
  · rw [upd_ne (Ne.symm npd)]
    exact upd_same
  · have q:=s1 _ _ (o3 b o e n)
    have nb:b≠du:=fun z=>by
      rw [← z,upd_ne n,q] at hdu
      cases hdu
    rw [upd_ne n,upd_ne nb,upd_ne n]
    exact q
def zero (us:Int→Int) (b:Int):Int→Int:=fun x=>if x=b then 0 else us x
def spBring (K:PySem.W.Frag):Sp:=fun vs H Q _=>∃ (p:Addr) (b sh pl:Int) (ru:Str) (ls:Addr) (ads:List Addr) (du:Addr) (seq:List Int) (us:Int→Int) (n:Nat),vs=[.ref p,.int b]∧RoomAt K H p sh pl ru ls ads du seq us n∧Tb K H∧n≤900∧b∉seq∧1≤pl∧(shelfS sh (b % sh) seq).length<64 ∧
  ∀ (gone:Option Int) (H':Hp),goneP ru us pl (shelfS sh (b % sh) seq) gone→RoomAt K H' p sh pl ru ls ads du (lessO seq gone++[b]) (zero us b) (n+1)→SR ads du H H'→Q (optV gone) H'
def spLeaver (K:PySem.W.Frag):Sp:=fun vs H Q _=>∃ (p:Addr) (b sh pl:Int) (ru:Str) (ls:Addr) (ads:List Addr) (du:Addr) (seq:List Int) (us:Int→Int) (n:Nat),vs=[.ref p,.int b]∧RoomAt K H p sh pl ru ls ads du seq us n∧Tb K H∧1≤pl∧(shelfS sh (b % sh) seq).length<64 ∧
  ∀ (gone:Option Int) (H':Hp),goneP ru us pl (shelfS sh (b % sh) seq) gone→Same H H'→Q (optV gone) H'
theorem ok_Room_leaver_for {f:Addr} {fd:FuncData} (F:Fun K "leaver_for" "Room.leaver_for" s_Room_leaver_for f fd) (T:Txt K mg) (M_Room_mates:MDef P w K mg base (clsOf K "Room") "mates" 2 P_Room_mates (spMates K)) (M_Room_going:MDef P w K mg base (clsOf K "Room") "going" 2 P_Room_going (spGoing K)):FnOk P w K mg base CX0 3 f fd P_Room_leaver_for (spLeaver K):=by
  refine F.ok sc_Room_leaver_for (fun vs H Q E h=>?_) (fun cdv A outer st H vs Q E hr h=>?_)
  · obtain ⟨p,b,sh,pl,ru,ls,ads,du,seq,us,n,rfl,_⟩:=h
    rfl
  obtain ⟨p,b,sh,pl,ru,ls,ads,du,seq,us,n,rfl,R,tb,hpl,h64,k⟩:=h
  have nd:=sc_Room_leaver_for.nd
  have hu:=hu_of hr
  refine ⟨_,(pss_cons (pst 2 nd (pe_methN M_Room_mates hr.m T.cl_Room (pv 0) (pc (pv 1) pa_nil)))
      (pss_cons (ps_if (pt_cmpR op_lt (pe_callBN (call_len_seqK (K:=K) rfl) rfl T.z_len PySem.boot_len (pc (pv 2) pa_nil)) (pe_fldK (K:=K) rfl (pv 0) rfl) (nomark _)) (pss_one (ps_ret pe_non)) pss_nil)
      (pss_one (ps_ret (pe_ix (ix_listK (K:=K) rfl) (pe_methN M_Room_going hr.m T.cl_Room (pv 0) (pc (pv 2) pa_nil)) pe_int (fun _ _=>rfl)))))),?_⟩
  obtain ⟨dx,h1⟩:=R.ob
  refine ⟨_,rfl,p,dx,_,rfl,h1,fl_no ..,_,rfl,p,b,sh,pl,ru,ls,ads,du,seq,us,n,rfl,R,fun s ad es hs had=>?_⟩
  have hnd:(shelfS sh (b % sh) seq).Nodup:=R.nd.sublist List.filter_sublist
  refine ⟨_,rfl,ad,_,rfl,.inl (SqL.of had),_,rfl,p,_,dx,_,_,rfl,h1,T.cl_Room,T.n_Room_places,fl_places ..,_,_,rfl,rfl,_,rfl,?_⟩
  rw [List.length_map]
  refine ite_dec (fun c=>?_) (fun c=>?_)
  · exact k none H ⟨fun _=>rfl,fun z=>absurd z (by omega)⟩ (Same.refl _)
  · refine ⟨_,rfl,p,dx,_,rfl,h1,fl_no ..,_,rfl,p,ad,shelfS sh (b % sh) seq,sh,pl,ru,ls,ads,du,seq,us,n,rfl,R,tb,had,h64,hnd,(fun x m=>(mem_shelfS.mp m).1),fun D H' os hD sm hl po s1 s2=>?_⟩
    have lo:=po.length_eq
    match os,hl,po,s1,s2,lo with
    | [],_,_,_,_,lo=>exact absurd lo (by simp; omega)
    | g :: rest,hl,po,s1,s2,lo =>
      refine ⟨D,_,_,_,rfl,rfl,SqL.of hl,atI0,?_⟩
      exact k (some g) H' ⟨fun z=>absurd c (by omega),fun _=>⟨g,rest,rfl,po,s1,s2⟩⟩ sm
theorem ok_Room_bring {f:Addr} {fd:FuncData} (F:Fun K "bring" "Room.bring" s_Room_bring f fd) (T:Txt K mg) (M_Room_has:MDef P w K mg base (clsOf K "Room") "has" 1 P_Room_has (spHas K)) (M_Room_leaver_for:MDef P w K mg base (clsOf K "Room") "leaver_for" 3 P_Room_leaver_for (spLeaver K)) (M_Room_mates:MDef P w K mg base (clsOf K "Room") "mates" 2 P_Room_mates (spMates K)) (M_Room_drop:MDef P w K mg base (clsOf K "Room") "drop" 3 P_Room_drop (spDrop K)):FnOk P w K mg base CX0 4 f fd P_Room_bring (spBring K):=by
  refine F.ok sc_Room_bring (fun vs H Q E h=>?_) (fun cdv A outer st H vs Q E hr h=>?_)
  · obtain ⟨p,b,sh,pl,ru,ls,ads,du,seq,us,n,rfl,_⟩:=h
    rfl
  obtain ⟨p,b,sh,pl,ru,ls,ads,du,seq,us,n,rfl,R,tb,hn,hb,hpl,h64,k⟩:=h
  have nd:=sc_Room_bring.nd
  have hu:=hu_of hr
  refine ⟨_,(pss_cons (ps_if (pt_val (pe_methN M_Room_has hr.m T.cl_Room (pv 0) (pc (pv 1) pa_nil))) (pss_one ps_no) pss_nil)
      (pss_cons (pst 2 nd (pe_methN M_Room_leaver_for hr.m T.cl_Room (pv 0) (pc (pv 1) pa_nil)))
      (pss_cons (ps_if (pt_cmp (pc_notN (pv 2))) (pss_one (ps_expr (pe_methN M_Room_drop hr.m T.cl_Room (pv 0) (pc (pv 2) pa_nil)))) pss_nil)
      (pss_cons (ps_expr (pe_bmC (K:=K) rfl (pe_bm PySem.F.plainAttrs_list PySem.F.slot_list_append PySem.F.type_list_append mt_append (pe_methN M_Room_mates hr.m T.cl_Room (pv 0) (pc (pv 1) pa_nil)) (pc (pv 1) pa_nil))))
      (pss_cons (ps_dput hu (pe_fldK (K:=K) rfl (pv 0) rfl) (pv 1) pe_int rfl)
      (pss_one (ps_ret (pv 2)))))))),?_⟩
  obtain ⟨dx,h1⟩:=R.ob
  refine ⟨_,rfl,p,dx,_,rfl,h1,fl_no ..,_,rfl,p,b,sh,pl,ru,ls,ads,du,seq,us,n,rfl,R,?_⟩
  rw [decide_eq_false hb]
  refine ⟨_,rfl,ifF rfl ?_⟩
  refine ⟨_,rfl,p,dx,_,rfl,h1,fl_no ..,_,rfl,p,b,sh,pl,ru,ls,ads,du,seq,us,n,rfl,R,tb,hpl,h64,fun gone H1 gp sm=>?_⟩
  refine gN ?_
  dsimp only
  have R0:=R.same sm
  have hnd:(shelfS sh (b % sh) seq).Nodup:=R.nd.sublist List.filter_sublist
  refine cpI (fun σ G=>σ=[some (.ref p),some (.int b),some (optV gone)]∧RoomAt K G p sh pl ru ls ads du (lessO seq gone) us n∧SR ads du H G) (fun D' _ k'=>?_) ?_
  · match gone,gp with
    | none,gp=>exact ⟨_,rfl,_,rfl,ifF rfl (k' _ _ ⟨rfl,R0,SR.of sm⟩)⟩
    | some g,gp =>
      have hg:g∈shelfS sh (b % sh) seq:=by
        by_cases c:((shelfS sh (b % sh) seq).length:Int)<pl
        · exact absurd (gp.1 c) (by simp)
        · obtain ⟨g',rest,e,po,_⟩:=gp.2 c
          injection e with e
          subst e
          exact po.mem_iff.mp List.mem_cons_self
      obtain ⟨dx',h1'⟩:=R0.ob
      exact ⟨_,rfl,_,rfl,ifT rfl ⟨_,rfl,p,dx',_,rfl,h1',fl_no ..,_,rfl,p,g,sh,pl,ru,ls,ads,du,seq,us,n,rfl,R0,(mem_shelfS.mp hg).1,fun H2 R2 s3=>k' _ _ ⟨rfl,R2,(SR.of sm).trans s3⟩⟩⟩
  rintro _ G ⟨rfl,R1,s1⟩
  obtain ⟨dx1,g1⟩:=R1.ob
  obtain ⟨kvs,g2,g3,g4⟩:=R1.dc
  obtain ⟨o1,o2,o3,o4,o5,o6⟩:=R1.off
  refine ⟨_,rfl,p,dx1,_,rfl,g1,fl_no ..,_,rfl,p,b,sh,pl,ru,ls,ads,du,lessO seq gone,us,n,rfl,R1,fun s ad es hs had0=>?_⟩
  have mad:ad∈ads:=List.mem_of_getElem? hs
  have had1:=R1.st.at_ s ad hs
  have ll:(shelfS sh s (lessO seq gone)).length≤64:=by
    have q:(shelfS sh s (lessO seq gone)).Sublist (shelfS sh s seq):=List.Sublist.filter _ (less_sub (g:=gone))
    have q2:=q.length_le
    rw [es] at q2 ⊢
    omega
  refine ⟨.inl ⟨rfl,_,SqL.of had1⟩,_,rfl,ad,_,_,rfl,rfl,had1,small1000 (by rw [List.length_map]; omega),?_⟩
  have nb:b∉lessO seq gone:=fun m=>hb (less_sub.subset m)
  have e1:((shelfS sh s (lessO seq gone)).map V.int++[V.int b])=(shelfS sh s (lessO seq gone)++[b]).map V.int:=by rw [List.map_append]; rfl
  rw [e1]
  have S2:Shl (upd G ad (.lst ((shelfS sh s (lessO seq gone)++[b]).map V.int))) ls ads sh (lessO seq gone++[b]):=by
    refine R1.st.put hs ?_ fun s' hs'=>?_
    · rw [shelfS_app,if_pos es.symm]
    · rw [shelfS_app,if_neg (by omega)]
  have np:p≠ad:=fun z=>o2 (z ▸ mad)
  have ndu:du≠ad:=fun z=>o5 (z ▸ mad)
  have g1':upd G ad (.lst ((shelfS sh s (lessO seq gone)++[b]).map V.int)) p=some (.ins (clsOf K "Room") dx1 (flds sh pl ru ls du)):=by rw [upd_ne np]; exact g1
  have g2':upd G ad (.lst ((shelfS sh s (lessO seq gone)++[b]).map V.int)) du=some (.dK kvs):=by rw [upd_ne ndu]; exact g2
  refine ⟨_,rfl,p,_,dx1,_,_,rfl,g1',T.cl_Room,T.n_Room_uses,fl_uses ..,_,rfl,du,_,rfl,DPut.k (k:=Sum.inl b) g2' (small1000 (by omega)),?_⟩
  refine ⟨_,rfl,k gone _ gp ⟨⟨dx1,by rw [upd_ne o1]; exact g1'⟩,S2.other _ (Ne.symm o3) o5,⟨_,upd_same,Nat.le_trans (length_putK ..) (by omega),fun x=>?_⟩,nd_snoc R1.nd nb,R.s0,R.s1⟩ fun x o e n1 n2=>?_⟩
  · rw [valV_put]
    unfold zero
    by_cases c:x=b
    · subst c
      rw [if_pos rfl,if_pos (List.mem_append_right _ (List.mem_singleton.mpr rfl)),if_pos rfl]
    · rw [if_neg (fun z=>c (Sum.inl.inj z)),g4 x,if_neg c]
      by_cases m:x∈lessO seq gone
      · rw [if_pos m,if_pos (List.mem_append_left _ m)]
      · rw [if_neg m,if_neg (fun z=>(List.mem_append.mp z).elim m fun q=>c (List.mem_singleton.mp q))]
  · rw [upd_ne n1,upd_ne (fun z:x=ad=>n2 (z ▸ mad))]
    exact s1 _ _ e n1 n2
end
section
variable {P:Program} {w:World} {K:PySem.W.Frag} {mg:Str→Option Value} {base:Heap}
def spAsk (K:PySem.W.Frag):Sp:=fun vs H Q _=>∃ (p:Addr) (b sh pl:Int) (ru:Str) (ls:Addr) (ads:List Addr) (du:Addr) (seq:List Int) (us:Int→Int) (n:Nat),vs=[.ref p,.int b]∧RoomAt K H p sh pl ru ls ads du seq us n∧Tb K H∧n≤900∧seq.length≤900∧1≤pl∧(shelfS sh (b % sh) seq).length<64 ∧
  (∀ (t:Addr) (H':Hp),b∈seq→H t=none→RoomAt K H' p sh pl ru ls ads du (if ru = "old" then seq.erase b++[b] else seq) (bump us b) (n+1)→SR ads du H H'→H' t=some (.tup [.bl true,.non])→Q (.ref t) H') ∧
  ∀ (t:Addr) (gone:Option Int) (H':Hp),b∉seq→H t=none→goneP ru us pl (shelfS sh (b % sh) seq) gone→RoomAt K H' p sh pl ru ls ads du (lessO seq gone++[b]) (zero us b) (n+1)→SR ads du H H'→H' t=some (.tup [.bl false,optV gone])→Q (.ref t) H'
theorem SR.free {ads:List Addr} {du:Addr} {H H':Hp} {p:Addr} {sh pl:Int} {ru:Str} {ls:Addr} {seq:List Int} {us:Int→Int} {n:Nat} (s:SR ads du H H') (R':RoomAt K H' p sh pl ru ls ads du seq us n) {t:Addr} (h:H' t=none):H t=none:=by
  cases q:H t with
  | none=>rfl
  | some o =>
    have n1:t≠du:=fun z=>by
      obtain ⟨kvs,e,_⟩:=R'.dc
      rw [z,e] at h; cases h
    have n2:t∉ads:=fun z=>by
      obtain ⟨xs,e⟩:=R'.st.one z
      rw [e] at h; cases h
    rw [s _ _ q n1 n2] at h
    cases h
theorem ok_ask {f:Addr} {fd:FuncData} (F:Fun K "ask" "ask" s_ask f fd) (T:Txt K mg) (M_Room_has:MDef P w K mg base (clsOf K "Room") "has" 1 P_Room_has (spHas K)) (M_Room_use:MDef P w K mg base (clsOf K "Room") "use" 3 P_Room_use (spUse K)) (M_Room_bring:MDef P w K mg base (clsOf K "Room") "bring" 4 P_Room_bring (spBring K)):FnOk P w K mg base CX0 5 f fd P_ask (spAsk K):=by
  refine F.ok sc_ask (fun vs H Q E h=>?_) (fun cdv A outer st H vs Q E hr h=>?_)
  · obtain ⟨p,b,sh,pl,ru,ls,ads,du,seq,us,n,rfl,_⟩:=h
    rfl
  obtain ⟨p,b,sh,pl,ru,ls,ads,du,seq,us,n,rfl,R,tb,hn,hsl,hpl,h64,k1,k2⟩:=h
  have nd:=sc_ask.nd
  refine ⟨_,(pss_cons (ps_if (pt_val (pe_methN M_Room_has hr.m T.cl_Room (pv 0) (pc (pv 1) pa_nil))) (pss_cons (ps_expr (pe_methN M_Room_use hr.m T.cl_Room (pv 0) (pc (pv 1) pa_nil)))
      (pss_one (ps_ret (pe_tup (pc pe_bl (pc pe_non pa_nil)))))) pss_nil)
      (pss_one (ps_ret (pe_tup (pc pe_bl (pc (pe_methN M_Room_bring hr.m T.cl_Room (pv 0) (pc (pv 1) pa_nil)) pa_nil)))))),?_⟩
  obtain ⟨dx,h1⟩:=R.ob
  refine ⟨_,rfl,p,dx,_,rfl,h1,fl_no ..,_,rfl,p,b,sh,pl,ru,ls,ads,du,seq,us,n,rfl,R,_,rfl,?_⟩
  refine ite_dec (fun c=>?_) (fun c=>?_)
  · refine ⟨_,rfl,p,dx,_,rfl,h1,fl_no ..,_,rfl,p,b,sh,pl,ru,ls,ads,du,seq,us,n,rfl,R,hn,c,hsl,fun H1 R1 s1=>?_⟩
    exact ⟨(by show 2≤sizeLine; decide),fun t ht=>k1 t _ c (s1.free R1 ht) (R1.same (same_upd ht _)) (s1.trans (SR.of (same_upd ht _))) upd_same⟩
  · refine ⟨_,rfl,p,dx,_,rfl,h1,fl_no ..,_,rfl,p,b,sh,pl,ru,ls,ads,du,seq,us,n,rfl,R,tb,hn,c,hpl,h64,fun gone H1 gp R1 s1=>?_⟩
    exact ⟨(by show 2≤sizeLine; decide),fun t ht=>k2 t gone _ c (s1.free R1 ht) gp (R1.same (same_upd ht _)) (s1.trans (SR.of (same_upd ht _))) upd_same⟩
end
section
variable {P:Program} {w:World} {K:PySem.W.Frag} {mg:Str→Option Value} {base:Heap}
theorem Link.nil (sh pl:Int) (ru:Str) (hpl:1≤pl):Link sh pl ru [] [] (fun _=>0) 0 :=
  ⟨List.nodup_nil,List.nodup_nil,fun b=>by simp [bds],List.Pairwise.nil,(fun b m=>nomatch m),(fun r m=>nomatch m),fun s=>by show ((0:Nat):Int)≤pl; omega⟩
theorem ok_run_row {f:Addr} {fd:FuncData} (F:Fun K "run_row" "run_row" s_run_row f fd) (T:Txt K mg) (K_Room:KDef P w K mg base (clsOf K "Room") "Room" 1 P_Room_init (spRoom K)) (D_ask:Def P w K mg base "ask" 5 P_ask (spAsk K)):FnOk P w K mg base CX0 7 f fd P_run_row (spRun K):=by
  refine F.ok sc_run_row (fun vs H Q E h=>?_) (fun cdv A outer st H vs Q E hr h=>?_)
  · obtain ⟨sh,pl,ru,a,row,rfl,_⟩:=h
    rfl
  obtain ⟨sh,pl,ru,a,row,rfl,hS,hs0,hs1,hp0,hp1,hru,hl,bd,tb,k⟩:=h
  have nd:=sc_run_row.nd
  refine ⟨_,(pss_cons (pst 4 nd (pe_makeN K_Room hr.m rfl (pc (pv 0) (pc (pv 1) (pc (pv 2) pa_nil)))))
      (pss_one (ps_ret (pe_comp0 (compOk_of (osc:=(defScope s_run_row)) (oN:=N_run_row) (N:=["board", "room"]) (own:=1) (js:=[4]) (by decide +kernel) rfl rfl) rfl (pi_listK (K:=K) rfl (pv 3)) (fun _ _ _ _ _ _=>(pgn 0 (show List.Nodup (["board", "room"]:List Str) by decide +kernel))) (fun _ _ _ _ _ _=>(pe_defN D_ask hr.m rfl (pc (pv 1) (pc (pv 0) pa_nil)))))))),?_⟩
  refine ⟨_,rfl,_,rfl,_,rfl,fun x dx nx ndx ne=>?_⟩
  have s0:Same H (upd (upd H dx (.own x)) x (.ins (clsOf K "Room") dx [])):=fun b o e=>by
    rw [upd_ne (ne_of_none e nx),upd_ne (ne_of_none e ndx)]
    exact e
  refine ⟨x,dx,sh,pl,ru,rfl,upd_same,hs0,hs1,fun ls ads du H1 R1 fl fd' fa o1=>⟨rfl,?_⟩⟩
  have s1:Same H H1:=fun b o e=>o1 b o (s0 b o e) (ne_of_none e nx)
  have fls:=s0.free fl
  have fdu:=s0.free fd'
  have fads:∀ ad∈ads,H ad=none:=fun ad m=>s0.free (fa ad m)
  refine gN ?_
  dsimp only
  refine ⟨_,rfl,a,rfl,⟨_,s1.seq hS⟩,fun l hl'=>?_⟩
  have hlH:H l=none:=s1.free hl'
  have nll:l≠ls:=fun z'=>by rw [z',R1.st.top] at hl'; cases hl'
  have nlx:l∉ads∧l≠du:=by
    refine ⟨fun m=>?_,fun z=>?_⟩
    · obtain ⟨xs,e⟩:=R1.st.one m
      rw [e] at hl'; cases hl'
    · obtain ⟨kvs,e,_⟩:=R1.dc
      rw [z,e] at hl'; cases hl'
  refine comp_list (K:=K) (a:=a) (xs:=row.map V.int) (l:=l) (fun j ys σ' G=>∃ (v0:Option V) (as:List Addr) (seq:List Int) (us:Int→Int),σ'=[v0,some (.ref x)]∧ys=as.map V.ref∧as.length=j∧G l=some (.lst ys)∧RoomAt K G x sh pl ru ls ads du seq us j∧Link sh pl ru (runR sh pl ru row j).1 seq us j∧seq.length≤j ∧
      (∀ (m:Nat) (ad:Addr) (f:Bool×Option Int),as[m]?=some ad→(runR sh pl ru row j).2[m]?=some f→G ad=some (.tup [.bl f.1,optV f.2]))∧Same H G)
    ⟨none,[],[],_,rfl,rfl,rfl,upd_same,R1.same (same_upd hl' _),Link.nil sh pl ru hp0,Nat.le_refl _,fun m ad f h=>(by simp at h),s1.trans (same_upd hl' _)⟩ (fun j ys σ' G _ ⟨_,_,_,_,_,_,_,_,_,_,_,_,q⟩=>q.seq hS) ?_ ?_
  · rintro j y ys σ' G hj hy hys ⟨v0,as,seq,us,rfl,rfl,hlen,g1,R,L,lsq,q2,s2⟩
    obtain ⟨z,hz,rfl⟩:=ints_at hy
    have hjr:j<row.length:=(List.getElem?_eq_some_iff.mp hz).1
    have eg:row.getD j 0=z:=by rw [List.getD_eq_getElem?_getD,hz]; rfl
    have c64:(shelfS sh (z % sh) seq).length<64:=by have:=L.cap (z % sh); omega
    have tb2:Tb K G:=tb.same s2
    obtain ⟨_,rl1,rl2⟩:=run_ok sh pl ru row j
    have e1:(runR sh pl ru row (j+1)).1=(stepR sh pl ru j z (runR sh pl ru row j).1).1:=by rw [← eg]; rfl
    have e2:(runR sh pl ru row (j+1)).2=(runR sh pl ru row j).2++[(stepR sh pl ru j z (runR sh pl ru row j).1).2]:=by rw [← eg]; rfl
    have fin:∀ (t:Addr) (H':Hp) (seq':List Int) (us':Int→Int) (f:Bool×Option Int),G t=none→RoomAt K H' x sh pl ru ls ads du seq' us' (j+1)→SR ads du G H'→H' t=some (.tup [.bl f.1,optV f.2])→(stepR sh pl ru j z (runR sh pl ru row j).1).2=f→Link sh pl ru (runR sh pl ru row (j+1)).1 seq' us' (j+1)→seq'.length≤j+1 →
        CNx (row.map V.int).length l (fun j ys σ' G=>∃ (v0:Option V) (as:List Addr) (seq:List Int) (us:Int→Int),σ'=[v0,some (.ref x)]∧ys=as.map V.ref∧as.length=j∧G l=some (.lst ys)∧RoomAt K G x sh pl ru ls ads du seq us j∧Link sh pl ru (runR sh pl ru row j).1 seq us j∧seq.length≤j ∧
          (∀ (m:Nat) (ad:Addr) (f:Bool×Option Int),as[m]?=some ad→(runR sh pl ru row j).2[m]?=some f→G ad=some (.tup [.bl f.1,optV f.2]))∧Same H G) j (as.map V.ref) [some (.int z),some (.ref x)] (.ref t) H':=by
      intro t H' seq' us' f ht R' sr hH' hf L' ls'
      have ntl:l≠t:=ne_of_none g1 ht
      have g1':=sr _ _ g1 nlx.2 nlx.1
      have sG:Same H H':=fun b o e=>sr _ _ (s2 _ _ e) (ne_of_none e fdu) fun m=>by rw [fads b m] at e; cases e
      refine CNx.of (Nat.le_of_lt (small1000 (by rw [List.length_map]; omega))) hj hys g1' ⟨_,as++[t],seq',us',rfl,by rw [List.map_append]; rfl,by rw [List.length_append,hlen]; rfl,upd_same,?_,L',ls',fun m ad f' hm hf'=>?_,?_⟩
      · obtain ⟨o1',o2',o3',o4',o5',o6'⟩:=R'.off
        obtain ⟨dx',w1⟩:=R'.ob
        obtain ⟨kvs,w2,w3⟩:=R'.dc
        have nxl:x≠l:=fun z'=>by rw [z',g1'] at w1; cases w1
        exact ⟨⟨dx',by rw [upd_ne nxl]; exact w1⟩,R'.st.other _ nll nlx.1,⟨kvs,by rw [upd_ne (Ne.symm nlx.2)]; exact w2,w3⟩,R'.nd,R'.s0,R'.s1⟩
      · rw [e2,hf] at hf'
        by_cases hmj:m<as.length
        · rw [List.getElem?_append_left hmj] at hm
          rw [List.getElem?_append_left (by omega)] at hf'
          have q:=q2 m ad f' hm hf'
          have nal:ad≠l:=fun e=>by rw [e,g1] at q; cases q
          rw [upd_ne nal]
          exact sr.keep R q (fun _ e=>by cases e) fun _ e=>by cases e
        · rw [List.getElem?_append_right (by omega)] at hm
          have em:m=as.length:=by
            have:=(List.getElem?_eq_some_iff.mp hm).1
            simp at this; omega
          subst em
          rw [Nat.sub_self] at hm
          cases hm
          rw [List.getElem?_append_right (by omega),rl2,hlen,Nat.sub_self] at hf'
          cases hf'
          rw [upd_ne (Ne.symm ntl)]
          exact hH'
      · intro e o y'
        rw [upd_ne (ne_of_none y' hlH)]
        exact sG _ _ y'
    refine ⟨_,rfl,_,rfl,x,z,sh,pl,ru,ls,ads,du,seq,us,j,rfl,R,tb2,by omega,by omega,hp0,c64,fun t H' hin ht R' sr hH'=>?_,fun t gone H' hin ht gp R' sr hH'=>?_⟩
    · have hbS:z∈bds (runR sh pl ru row j).1:=(L.mem z).mp hin
      cases hr':recOf (runR sh pl ru row j).1 z with
      | none=>exact absurd hbS (recOf_none.mp hr')
      | some r =>
        have es:stepR sh pl ru j z (runR sh pl ru row j).1=(putR (runR sh pl ru row j).1 ⟨z,r.t0,j,r.n+1⟩,(true,none)):=by
          unfold stepR
          rw [hr']
        refine fin t H' _ _ (true,none) ht R' sr hH' (by rw [es]) ?_ ?_
        · rw [e1,es]
          exact L.found hr' fun x=>rfl
        · split
          · rw [List.length_append,List.length_erase_of_mem hin]
            have:0<seq.length:=List.length_pos_of_mem hin
            have:[z].length=1:=rfl
            omega
          · omega
    · have hbS:z∉bds (runR sh pl ru row j).1:=fun m=>hin ((L.mem z).mpr m)
      have hr':=recOf_none.mpr hbS
      have hg:=goes_eq L hp0 hru gp
      have es:stepR sh pl ru j z (runR sh pl ru row j).1=(putR (lessR (runR sh pl ru row j).1 gone) ⟨z,j,j,0⟩,(false,gone)):=by
        unfold stepR
        rw [hr',hg]
      refine fin t H' _ _ (false,gone) ht R' sr hH' (by rw [es]) ?_ ?_
      · rw [e1,es]
        refine L.missed hin hg (fun x=>rfl) ?_
        by_cases c:((shelfS sh (z % sh) seq).length:Int)<pl
        · exact .inl c
        · obtain ⟨g,rest,rfl,pm,_⟩:=gp.2 c
          exact .inr ⟨g,pm.mem_iff.mp List.mem_cons_self,rfl⟩
      · rw [List.length_append]
        have:=len_less (seq:=seq) (g:=gone)
        have:[z].length=1:=rfl
        omega
  · rintro ys σ' G hys ⟨v0,as,seq,us,rfl,rfl,hlen,g1,R,L,lsq,q2,s2⟩
    rw [List.length_map] at hlen
    refine k l G hlH s2 ⟨as,g1,?_,fun m ad f h1 h2=>?_⟩
    · rw [row_len,hlen]
    · refine q2 m ad f h1 ?_
      rw [List.length_map]
      exact h2
end
def missF (sh pl:Int) (ru:Str) (row:List Int):Nat:=(rowF sh pl ru row).countP fun f=>!f.1
section
variable {P:Program} {w:World} {K:PySem.W.Frag} {mg:Str→Option Value} {base:Heap}
def spMiss (K:PySem.W.Frag):Sp:=fun vs H Q _=>∃ (sh pl:Int) (ru:Str) (a:Addr) (row:List Int),vs=[.int sh,.int pl,.str ru,.ref a]∧SqL K H a (row.map V.int)∧1≤sh∧sh≤64∧1≤pl∧pl≤16∧Rule ru∧row.length≤400∧Bds 9999 row∧Tb K H ∧
  ∀ H',Same H H'→Q (.int (missF sh pl ru row)) H'
theorem ok_misses {f:Addr} {fd:FuncData} (F:Fun K "misses" "misses" s_misses f fd) (T:Txt K mg) (D_run_row:Def P w K mg base "run_row" 7 P_run_row (spRun K)):FnOk P w K mg base CX0 8 f fd P_misses (spMiss K):=by
  refine F.ok sc_misses (fun vs H Q E h=>?_) (fun cdv A outer st H vs Q E hr h=>?_)
  · obtain ⟨sh,pl,ru,a,row,rfl,_⟩:=h
    rfl
  obtain ⟨sh,pl,ru,a,row,rfl,hS,hs0,hs1,hp0,hp1,hru,hl,bd,tb,k⟩:=h
  have nd:=sc_misses.nd
  refine ⟨_,(pss_one (ps_ret (pe_callBN (call_len_seqK (K:=K) rfl) rfl T.z_len PySem.boot_len (pc (pe_comp1 (compOk_of (osc:=(defScope s_misses)) (oN:=N_misses) (N:=["found", "out"]) (own:=2) (js:=[]) (by decide +kernel) rfl rfl) rfl (pi_listK (K:=K) rfl (pe_defN D_run_row hr.m rfl (pc (pv 0) (pc (pv 1) (pc (pv 2) (pc (pv 3) pa_nil)))))) (fun _ _ _ _ _ _=>(pg_tupK (K:=K) (n:=2) rfl rfl (pgs_cons (pgn 0 (show List.Nodup (["found", "out"]:List Str) by decide +kernel)) (pgs_cons (pgn 1 (show List.Nodup (["found", "out"]:List Str) by decide +kernel)) pgs_nil)))) (fun _ _ _ _ _ _=>(pt_not (pt_val (pv 0)))) (fun _ _ _ _ _ _=>(pv 1))) pa_nil)))),?_⟩
  refine ⟨_,rfl,_,rfl,_,rfl,_,rfl,sh,pl,ru,a,row,rfl,hS,hs0,hs1,hp0,hp1,hru,hl,bd,tb,fun lr H1 hlr s1 told=>?_⟩
  obtain ⟨ads,p1,p2,p3⟩:=told
  have rl:=row_len sh pl ru row
  have hmiss:missF sh pl ru row=(rowF sh pl ru row).countP fun f=>!f.1:=rfl
  generalize rowF sh pl ru row=fs at *
  refine ⟨lr,rfl,⟨_,SqL.of p1⟩,fun l hl'=>?_⟩
  refine comp_list (K:=K) (a:=lr) (xs:=ads.map V.ref) (l:=l) (fun j ys σ' G'=>∃ v0 v1:Option V,σ'=[v0,v1]∧ys.length=(fs.take j).countP (fun f=>!f.1)∧G'=upd H1 l (.lst ys))
    ⟨none,none,rfl,rfl,rfl⟩ (fun j ys σ' G' _ ⟨_,_,_,_,q⟩=>SqL.of (by rw [q,upd_ne (ne_of_none p1 hl')]; exact p1)) ?_ ?_
  · rintro j x ys σ' G' hj hxj hys ⟨v0,v1,rfl,hy,rfl⟩
    rw [List.getElem?_map] at hxj
    cases ea:ads[j]? with
    | none=>rw [ea] at hxj; cases hxj
    | some ad =>
      rw [ea] at hxj
      cases hxj
      have hjf:j<fs.length:=by rw [← p2]; exact (List.getElem?_eq_some_iff.mp ea).1
      have ad1:=p3 j ad fs[j] ea (List.getElem?_eq_getElem hjf)
      have tk:(fs.take (j+1)).countP (fun f=>!f.1)=(fs.take j).countP (fun f=>!f.1)+(if (!fs[j].1)=true then 1 else 0):=by
        rw [List.take_succ,List.getElem?_eq_getElem hjf,List.countP_append]
        show _+List.countP _ [fs[j]]=_
        rw [List.countP_cons,List.countP_nil,Nat.zero_add]
      refine ⟨ad,_,rfl,SqT.of (by rw [upd_ne (ne_of_none ad1 hl')]; exact ad1),rfl,_,_,rfl,_,_,rfl,rfl,_,rfl,_,rfl,?_⟩
      refine ite_dec' (fun c'=>?_) (fun c'=>?_)
      · rw [if_pos c'] at tk
        exact ⟨_,rfl,CNx.of (Nat.le_of_lt (small1000 (by rw [List.length_map]; omega))) hj hys upd_same ⟨_,_,rfl,by rw [List.length_append,hy,tk]; rfl,upd_upd⟩⟩
      · rw [if_neg c',Nat.add_zero] at tk
        exact CNo.of hj hys ⟨_,_,rfl,hy.trans tk.symm,rfl⟩
  rintro ys σ' G' _ ⟨v0,v1,rfl,hy,rfl⟩
  rw [List.length_map,p2,List.take_length] at hy
  refine ⟨l,_,rfl,.inl (SqL.of upd_same),?_⟩
  rw [hy]
  have q:=k _ (s1.trans (same_upd hl' (.lst ys)))
  rw [hmiss] at q
  exact q
end
def mayB (pl:Int) (ms:List Int) (b:Int) (o:Option Int):Bool :=
  if b∈ms∨(ms.length:Int)<pl then o.isNone else (match o with | some g=>decide (g∈ms) | none=>false)
def ordS (sh pl:Int) (b:Int) (o:Option Int) (S:List Int×Nat):Option (List Int×Nat) :=
  if mayB pl (shelfS sh (b % sh) S.1) b o=true then (if b∈S.1 then some S else some (lessO S.1 o++[b],S.2+1)) else none
def ordR (sh pl:Int) (row:List Int) (os:List (Option Int)):Nat→Option (List Int×Nat)
  | 0=>some ([],0)
  | i+1=>(ordR sh pl row os i).bind (ordS sh pl (row.getD i 0) (os.getD i none))
def cntF (sh pl:Int) (row:List Int) (os:List (Option Int)):Option Int:=if os.length=row.length then (ordR sh pl row os row.length).map (fun S=>(S.2:Int)) else none
theorem ordR_none {sh pl:Int} {row:List Int} {os:List (Option Int)} {i:Nat} (h:ordR sh pl row os i=none):∀ d,ordR sh pl row os (i+d)=none
  | 0=>h
  | d+1=>by
    show (ordR sh pl row os (i+d)).bind _=none
    rw [ordR_none h d]
    rfl
theorem ordR_len {sh pl:Int} {row:List Int} {os:List (Option Int)}:∀ {i:Nat} {S:List Int×Nat},ordR sh pl row os i=some S→S.1.length≤i∧S.2≤i
  | 0,S,h=>by
    have:S=([],0):=(Option.some.inj h).symm
    subst this
    exact ⟨Nat.le_refl _,Nat.le_refl _⟩
  | i+1,S,h=>by
    have h':(ordR sh pl row os i).bind (ordS sh pl (row.getD i 0) (os.getD i none))=some S:=h
    cases e:ordR sh pl row os i with
    | none=>rw [e] at h'; cases h'
    | some T =>
      obtain ⟨h1,h2⟩:=ordR_len e
      rw [e] at h'
      have h3:ordS sh pl (row.getD i 0) (os.getD i none) T=some S:=h'
      unfold ordS at h3
      split at h3
      · split at h3
        · cases h3
          exact ⟨by omega,by omega⟩
        · cases h3
          have:(lessO T.1 (os.getD i none)).length≤T.1.length:=by
            cases os.getD i none with
            | none=>exact Nat.le_refl _
            | some g=>exact List.length_erase_le
          refine ⟨?_,?_⟩
          · show (lessO T.1 (os.getD i none)++[_]).length≤_
            rw [List.length_append]
            show _+1≤_
            omega
          · show T.2+1≤_
            omega
      · cases h3
section
variable {P:Program} {w:World} {K:PySem.W.Frag} {mg:Str→Option Value} {base:Heap}
def spNumO:Sp:=fun vs H Q _=>∃ o:Option Int,vs=[optV o]∧Q (.bl o.isSome) H
theorem ok_is_number {f:Addr} {fd:FuncData} (F:Fun K "is_number" "is_number" s_is_number f fd) (T:Txt K mg):FnOk P w K mg base CX0 1 f fd P_is_number spNumO:=by
  refine F.ok sc_is_number (fun vs H Q E h=>?_) (fun cdv A outer s H vs Q E hr h=>?_)
  · obtain ⟨x,rfl,_⟩:=h
    rfl
  obtain ⟨x,rfl,q⟩:=h
  have nd:=sc_is_number.nd
  refine ⟨_,(pss_one (ps_ret (pe_and (pe_callBN call_isi rfl T.z_isinstance boot_isi (pc (pv 0) (pc (pe_bltn (v:=.ty "int") rfl T.z_int boot_intT rfl) pa_nil))) (pe_one (pe_not (pe_callBN call_isi rfl T.z_isinstance boot_isi (pc (pv 0) (pc (pe_bltn (v:=.ty "bool") rfl T.z_bool boot_boolT rfl) pa_nil)))))))),?_⟩
  cases x with
  | none=>exact ⟨_,rfl,_,_,_,rfl,rfl,by decide,_,rfl,ifF (by decide) q⟩
  | some g=>exact ⟨_,rfl,_,_,_,rfl,rfl,by decide,_,rfl,ifT (by decide) ⟨_,rfl,_,_,_,rfl,rfl,by decide,_,rfl,q⟩⟩
def spMay (K:PySem.W.Frag):Sp:=fun vs H Q _=>∃ (pl:Int) (m:Addr) (ms:List Int) (b:Int) (o:Option Int),vs=[.int pl,.ref m,.int b,optV o]∧H m=some (.lst (ms.map V.int))∧Q (.bl (mayB pl ms b o)) H
theorem ok_may_go {f:Addr} {fd:FuncData} (F:Fun K "may_go" "may_go" s_may_go f fd) (T:Txt K mg) (D_is_number:Def P w K mg base "is_number" 1 P_is_number spNumO):FnOk P w K mg base CX0 2 f fd P_may_go (spMay K):=by
  refine F.ok sc_may_go (fun vs H Q E h=>?_) (fun cdv A outer st H vs Q E hr h=>?_)
  · obtain ⟨pl,m,ms,b,o,rfl,_⟩:=h
    rfl
  obtain ⟨pl,m,ms,b,o,rfl,hm,k⟩:=h
  have nd:=sc_may_go.nd
  refine ⟨_,(pss_cons (ps_if (PW.pt (pw_or (pt_cmpR (op_in_seqK (K:=K) rfl) (pv 2) (pv 1) rfl) (pw_or1 (pt_cmpR op_lt (pe_callBN (call_len_seqK (K:=K) rfl) rfl T.z_len PySem.boot_len (pc (pv 1) pa_nil)) (pv 0) (nomark _))))) (pss_one (ps_ret (pe_cmp (pc_isN (pv 3))))) pss_nil)
      (pss_one (ps_ret (pe_and (pe_defN D_is_number hr.m rfl (pc (pv 3) pa_nil)) (pe_one (pe_cmpR (op_in_seqK (K:=K) rfl) (pv 3) (pv 1) rfl)))))),?_⟩
  refine ⟨_,rfl,_,rfl,m,_,rfl,.inl (SqL.of hm),rfl,ints_flat _,_,rfl,?_⟩
  rw [inV_int,if_neg (by decide)]
  have e1:b∈ms∨(ms.length:Int)<pl→mayB pl ms b o=decide (optV o=.non):=fun c=>by
    unfold mayB
    rw [if_pos c]
    cases o <;> rfl
  by_cases c:b∈ms
  · rw [e1 (.inl c)] at k
    exact ifT (decide_eq_true c) (ifT rfl ⟨_,rfl,k⟩)
  · refine ifF (decide_eq_false c) ⟨_,rfl,m,_,rfl,.inl (SqL.of hm),_,rfl,_,_,rfl,rfl,_,rfl,?_⟩
    rw [List.length_map]
    refine ite_dec (fun c2=>?_) (fun c2=>?_)
    · rw [e1 (.inr c2)] at k
      exact ⟨_,rfl,k⟩
    · refine ⟨_,rfl,o,rfl,?_⟩
      have e2:¬ (b∈ms∨(ms.length:Int)<pl):=fun q=>q.elim c c2
      unfold mayB at k
      rw [if_neg e2] at k
      cases o with
      | none=>exact ⟨_,rfl,ifF rfl k⟩
      | some g =>
        refine ⟨_,rfl,ifT rfl ⟨_,rfl,_,rfl,m,_,rfl,.inl (SqL.of hm),rfl,ints_flat _,?_⟩⟩
        show Q (V.bl (inV (.int g) (ms.map V.int))) H
        rw [inV_int]
        exact k
def spCome:Sp:=fun vs H Q _=>∃ (m:Addr) (ms:List Int) (b:Int) (out:Option Int),vs=[.ref m,.int b,optV out]∧H m=some (.lst (ms.map V.int))∧ms.length≤900∧(∀ g,out=some g→g∈ms)∧Q .non (upd H m (.lst ((lessO ms out++[b]).map V.int)))
theorem ok_come {f:Addr} {fd:FuncData} (F:Fun K "come" "come" s_come f fd) (T:Txt K mg):FnOk P w K mg base CX0 1 f fd P_come spCome:=by
  refine F.ok sc_come (fun vs H Q E h=>?_) (fun cdv A outer st H vs Q E hr h=>?_)
  · obtain ⟨m,ms,b,out,rfl,_⟩:=h
    rfl
  obtain ⟨m,ms,b,out,rfl,hm,hl,hg,k⟩:=h
  have nd:=sc_come.nd
  refine ⟨_,(pss_cons (ps_if (pt_cmp (pc_notN (pv 2))) (pss_one (ps_expr (pe_bmC (K:=K) rfl (pe_bm PySem.F.plainAttrs_list PySem.F.slot_list_remove PySem.F.type_list_remove mt_remove (pv 0) (pc (pv 2) pa_nil))))) pss_nil)
      (pss_one (ps_expr (pe_bmC (K:=K) rfl (pe_bm PySem.F.plainAttrs_list PySem.F.slot_list_append PySem.F.type_list_append mt_append (pv 0) (pc (pv 1) pa_nil)))))),?_⟩
  refine cpI (fun σ G=>σ=[some (.ref m),some (.int b),some (optV out)]∧G=upd H m (.lst ((lessO ms out).map V.int))) (fun D' _ k'=>?_) ?_
  · cases out with
    | none=>exact ⟨_,rfl,_,rfl,ifF rfl (k' _ _ ⟨rfl,by rw [show upd H m (.lst ((lessO ms none).map V.int))=H from upd_id hm]⟩)⟩
    | some g=>exact ⟨_,rfl,_,rfl,ifT rfl ⟨_,rfl,.inl ⟨rfl,_,SqL.of hm⟩,_,rfl,m,ms,g,rfl,rfl,hm,hg g rfl,k' _ _ ⟨rfl,rfl⟩⟩⟩
  rintro _ _ ⟨rfl,rfl⟩
  have len:(lessO ms out).length≤ms.length:=by
    cases out with
    | none=>exact Nat.le_refl _
    | some g=>exact List.length_erase_le
  refine ⟨_,rfl,.inl ⟨rfl,_,SqL.of upd_same⟩,_,rfl,m,_,_,rfl,rfl,upd_same,small1000 (by rw [List.length_map]; omega),?_⟩
  rw [upd_upd]
  rw [List.map_append] at k
  exact k
def spCnt (K:PySem.W.Frag):Sp:=fun vs H Q _=>∃ (sh pl:Int) (a lo:Addr) (row:List Int) (os:List (Option Int)),vs=[.int sh,.int pl,.ref a,.ref lo]∧SqL K H a (row.map V.int)∧H lo=some (.lst (os.map optV))∧1≤sh∧sh≤64∧row.length≤400 ∧
  ∀ H',Same H H'→Q (optV (cntF sh pl row os)) H'
theorem ok_count_misses {f:Addr} {fd:FuncData} (F:Fun K "count_misses" "count_misses" s_count_misses f fd) (T:Txt K mg) (D_shelf_of:Def P w K mg base "shelf_of" 1 P_shelf_of spShelf) (D_may_go:Def P w K mg base "may_go" 2 P_may_go (spMay K)) (D_come:Def P w K mg base "come" 1 P_come spCome):FnOk P w K mg base CX0 3 f fd P_count_misses (spCnt K):=by
  refine F.ok sc_count_misses (fun vs H Q E h=>?_) (fun cdv A outer st H vs Q E hr h=>?_)
  · obtain ⟨sh,pl,a,lo,row,os,rfl,_⟩:=h
    rfl
  obtain ⟨sh,pl,a,lo,row,os,rfl,hS,hO,hs0,hs1,hl,k⟩:=h
  have nd:=sc_count_misses.nd
  refine ⟨_,(pss_cons (ps_if (PW.pt (pw_or (pt_not (pt_val (pe_callBN call_isi rfl T.z_isinstance boot_isi (pc (pv 3) (pc (pe_bltn (v:=.ty "list") rfl T.z_list boot_listT rfl) pa_nil))))) (pw_or1 (pt_cmpR op_ne (pe_callBN (call_len_seqK (K:=K) rfl) rfl T.z_len PySem.boot_len (pc (pv 3) pa_nil)) (pe_callBN (call_len_seqK (K:=K) rfl) rfl T.z_len PySem.boot_len (pc (pv 2) pa_nil)) (nomark _))))) (pss_one (ps_ret pe_non)) pss_nil)
      (pss_cons (ps_comp0 4 (compOk_of (osc:=(defScope s_count_misses)) (oN:=N_count_misses) (N:=["number"]) (own:=1) (js:=[]) (by decide +kernel) rfl rfl) rfl nd rfl rfl (pi_range1 rfl T.z_range (pc (pv 0) pa_nil)) (fun _ _ _ _ _ _=>(pgn 0 (show List.Nodup (["number"]:List Str) by decide +kernel))) (fun _ _ _ _ _ _=>(pe_lst pa_nil)))
      (pss_cons (pst 5 nd pe_int)
      (pss_cons (ps_for PassesOwn.never rfl (pi_zip rfl T.z_zip (pc (pv 2) (pc (pv 3) pa_nil))) (pg_tupK (K:=K) (n:=2) rfl rfl (pgs_cons (pgn 6 nd) (pgs_cons (pgn 7 nd) pgs_nil))) (pss_cons (pst 8 nd (pe_ix (ix_listK (K:=K) rfl) (pv 4) (pe_defN D_shelf_of hr.m rfl (pc (pv 0) (pc (pv 6) pa_nil))) (fun _ _=>rfl)))
      (pss_cons (ps_if (pt_not (pt_val (pe_defN D_may_go hr.m rfl (pc (pv 1) (pc (pv 8) (pc (pv 6) (pc (pv 7) pa_nil))))))) (pss_one (ps_ret pe_non)) pss_nil)
      (pss_one (ps_if (pt_cmpR (op_notIn_seqK (K:=K) rfl) (pv 6) (pv 8) rfl) (pss_cons (ps_aug (i:=5) nd rfl (by first | exact Or.inl rfl | exact Or.inr rfl) pe_int ip_add)
      (pss_one (ps_expr (pe_defN D_come hr.m rfl (pc (pv 8) (pc (pv 6) (pc (pv 7) pa_nil))))))) pss_nil)))))
      (pss_one (ps_ret (pv 5))))))),?_⟩
  have ty:tyN H (.ref lo)=some "list" := by simp only [tyN,hO]
  refine ⟨_,rfl,_,_,_,rfl,ty,by decide,_,rfl,ifF (by decide) ⟨_,rfl,lo,_,rfl,.inl (SqL.of hO),_,rfl,a,_,rfl,.inl hS,rfl,_,rfl,?_⟩⟩
  rw [List.length_map,List.length_map]
  by_cases hlen0:os.length=row.length
  case neg =>
    refine ifT (by simp; omega) ?_
    have q:=k H (Same.refl _)
    unfold cntF at q
    rw [if_neg hlen0] at q
    exact q
  refine ifF (by simp [hlen0]) ?_
  refine ⟨_,rfl,sh,rfl,by omega,by omega,fun ls hls=>?_⟩
  refine comp_range (lo:=0) (n:=sh.toNat) (l:=ls) (fun j ys σ G=>∃ (v0:Option V) (ads:List Addr),σ=[v0]∧ys=ads.map V.ref∧ads.length=j∧ads.Nodup∧ls∉ads∧G ls=some (.lst ys)∧(∀ ad∈ads,H ad=none∧G ad=some (.lst []))∧Same H G)
    ⟨none,[],rfl,rfl,rfl,List.nodup_nil,by simp,upd_same,by simp,same_upd hls _⟩ ?_ ?_
  · rintro j ys σ G hj hy ⟨v0,ads,rfl,rfl,hlen,hnd,hoff,g1,g2,s1⟩
    refine ⟨(by show 0≤sizeLine; decide),fun p hp=>?_⟩
    have np:ls≠p:=ne_of_none g1 hp
    have nip:p∉ads:=fun m=>by rw [(g2 p m).2] at hp; cases hp
    refine CNx.of (Nat.le_trans (by omega:sh.toNat≤64) (by decide)) hj hy (by rw [upd_ne np]; exact g1) ⟨_,ads++[p],rfl,by rw [List.map_append]; rfl,by rw [List.length_append,hlen]; rfl,nd_snoc hnd nip,?_,upd_same,fun ad m=>?_,?_⟩
    · intro m
      rcases List.mem_append.mp m with m | m
      · exact hoff m
      · exact np (by simpa using m)
    · rcases List.mem_append.mp m with m | m
      · rw [upd_ne (fun z:ad=ls=>hoff (z ▸ m)),upd_ne (fun z:ad=p=>nip (z ▸ m))]
        exact g2 ad m
      · have e:ad=p:=by simpa using m
        subst e
        rw [upd_ne (Ne.symm np)]
        exact ⟨s1.free hp,upd_same⟩
    · intro e o y
      rw [upd_ne (ne_of_none y hls),upd_ne (ne_of_none (s1 _ _ y) hp)]
      exact s1 _ _ y
  rintro ys σ G hy ⟨v0,ads,rfl,rfl,hlen,hnd,hoff,g1,g2,s1⟩
  refine gN ?_
  have S0:Shl G ls ads sh []:=⟨g1,hlen,hnd,hoff,fun i ad e=>(g2 ad (List.mem_of_getElem? e)).2⟩
  have fr:∀ ad∈ads,H ad=none:=fun ad m=>(g2 ad m).1
  clear g1 g2 hy
  dsimp only
  refine gN ?_
  dsimp only
  refine ⟨_,rfl,_,rfl,a,lo,rfl,⟨_,s1.seq hS⟩,⟨_,SqL.of (s1 _ _ hO)⟩,for_zip (K:=K) (a:=a) (b:=lo) (xs:=row.map V.int) (ys:=os.map optV) (fun i σ G=>∃ (v6 v7 v8:Option V) (S:List Int×Nat),σ=[some (.int sh),some (.int pl),some (.ref a),some (.ref lo),some (.ref ls),some (.int S.2),v6,v7,v8]∧ordR sh pl row os i=some S∧Shl G ls ads sh S.1∧Same H G)
    (by rw [List.length_map,List.length_map,hlen0]) ⟨none,none,none,([],0),rfl,rfl,S0,s1⟩ (fun i σ G _ ⟨_,_,_,_,_,_,_,q⟩=>⟨q.seq hS,SqL.of (q _ _ hO)⟩) ?_ ?_⟩
  · clear S0 s1
    rintro i x y t σ G hx hy ⟨v6,v7,v8,S,rfl,hR,Sh,s1⟩ ht
    obtain ⟨z,hz,rfl⟩:=ints_at hx
    rw [List.getElem?_map] at hy
    cases ho:os[i]? with
    | none=>rw [ho] at hy; cases hy
    | some o =>
    rw [ho] at hy
    cases hy
    have hi:i<row.length:=(List.getElem?_eq_some_iff.mp hz).1
    have eg:row.getD i 0=z:=by rw [List.getD_eq_getElem?_getD,hz]; rfl
    have eo:os.getD i none=o:=by rw [List.getD_eq_getElem?_getD,ho]; rfl
    have r1:ordR sh pl row os (i+1)=ordS sh pl z o S:=by
      show (ordR sh pl row os i).bind _=_
      rw [hR,eg,eo]
      rfl
    obtain ⟨len1,len2⟩:=ordR_len hR
    refine ⟨t,_,rfl,SqT.of upd_same,rfl,_,_,rfl,_,_,rfl,rfl,?_⟩
    have w:=same_upd ht (.tup [.int z,optV o])
    have S1:Shl (upd G t (.tup [.int z,optV o])) ls ads sh S.1:=⟨w _ _ Sh.top,Sh.len,Sh.nd,Sh.off,fun i ad e=>w _ _ (Sh.at_ i ad e)⟩
    have s2:=s1.trans w
    generalize upd G t (.tup [.int z,optV o])=G1 at *
    clear Sh s1 w
    obtain ⟨s0,ad,es0,had,hat,hm⟩:=S1.get (k:=z % sh) (Int.emod_nonneg _ (by omega)) (Int.emod_lt_of_pos _ (by omega))
    refine ⟨_,rfl,_,rfl,_,rfl,sh,z,rfl,hs0,ls,_,_,_,rfl,rfl,SqL.of S1.top,hat,?_⟩
    refine gN ?_
    dsimp only
    have lm:(shelfS sh (z % sh) S.1).length≤S.1.length:=List.length_filter_le ..
    have hin:z∈shelfS sh (z % sh) S.1↔z∈S.1:=⟨fun m=>(mem_shelfS.mp m).1,fun m=>mem_shelfS.mpr ⟨m,rfl⟩⟩
    unfold ordS at r1
    refine ⟨_,rfl,_,rfl,_,rfl,_,rfl,pl,ad,shelfS sh (z % sh) S.1,z,o,rfl,hm,_,rfl,?_⟩
    by_cases c:mayB pl (shelfS sh (z % sh) S.1) z o=true
    case neg =>
      rw [if_neg c] at r1
      refine ifT (by simpa using c) ?_
      have q:=k G1 s2
      have e:cntF sh pl row os=none:=by
        unfold cntF
        rw [if_pos hlen0]
        have:=ordR_none r1 (row.length - (i+1))
        rw [show i+1+(row.length - (i+1))=row.length by omega] at this
        rw [this]
        rfl
      rw [e] at q
      exact q
    rw [if_pos c] at r1
    refine ifF (by simpa using c) ?_
    refine ⟨_,rfl,_,rfl,ad,_,rfl,.inl (SqL.of hm),rfl,ints_flat _,_,rfl,?_⟩
    rw [inV_int,if_pos rfl]
    by_cases c2:z∈S.1
    · rw [if_pos c2] at r1
      refine ifF (by simpa using hin.mpr c2) ?_
      exact ⟨_,_,_,S,rfl,r1,S1,s2⟩
    · rw [if_neg c2] at r1
      have c3:z∉shelfS sh (z % sh) S.1:=fun m=>c2 (hin.mp m)
      refine ifT (by simpa using c3) ?_
      have gmem:∀ g,o=some g→g∈shelfS sh (z % sh) S.1:=fun g e=>by
        subst e
        unfold mayB at c
        split at c
        · cases c
        · exact of_decide_eq_true c
      refine ⟨_,rfl,_,_,rfl,rfl,?_⟩
      refine ⟨_,rfl,_,rfl,_,rfl,ad,shelfS sh (z % sh) S.1,z,o,rfl,hm,by omega,gmem,?_⟩
      refine ⟨_,_,_,(lessO S.1 o++[z],S.2+1),rfl,r1,?_,fun e u y=>?_⟩
      · refine S1.put had ?_ fun s hs=>?_
        · rw [shelfS_app,if_pos es0.symm,es0]
          cases o with
          | none=>rfl
          | some g=>show shelfS _ _ (S.1.erase g)++_=_; rw [shelfS_erase]; rfl
        · have ne:¬ z % sh=(s:Int):=fun q=>hs (by omega)
          rw [shelfS_app,if_neg ne]
          cases o with
          | none=>rfl
          | some g =>
            show shelfS _ _ (S.1.erase g)=_
            rw [shelfS_erase]
            exact List.erase_of_not_mem fun m=>ne ((mem_shelfS.mp (gmem g rfl)).2.symm.trans (mem_shelfS.mp m).2)
      · rw [upd_ne (ne_of_none y (fr ad (List.mem_of_getElem? had)))]
        exact s2 _ _ y
  · rintro σ G3 ⟨v6,v7,v8,S,rfl,hR,Sh,s3⟩
    rw [List.length_map] at hR
    have q:=k G3 s3
    unfold cntF at q
    rw [if_pos hlen0,hR] at q
    exact ⟨_,rfl,q⟩
end
def nxtG (b:Int):Nat→List Int→Int
  | _,[]=>1000000
  | p,x :: xs=>if x=b then (p:Int) else nxtG b (p+1) xs
def nxtF (row:List Int) (p:Nat) (b:Int):Int:=nxtG b (p+1) (row.drop (p+1))
theorem nxtG_step {row:List Int} {b:Int} {p:Nat} {x:Int} (h:row[p]?=some x):nxtG b p (row.drop p)=if x=b then (p:Int) else nxtG b (p+1) (row.drop (p+1)):=by
  obtain ⟨hp,rfl⟩:=List.getElem?_eq_some_iff.mp h
  rw [List.drop_eq_getElem_cons hp]
  rfl
theorem nxtG_end {row:List Int} {b:Int} {p:Nat} (h:row.length≤p):nxtG b p (row.drop p)=1000000:=by
  rw [List.drop_eq_nil_of_le h]
  rfl
def shelfF (sh b:Int) (there:List Int):List Int:=there.filter fun o=>decide (V.int (o % sh)=V.int (b % sh))
def bestF (row:List Int) (p:Nat) (some:List Int):Nat:=argBest (fun i j=>HT.lexLt ((some.map fun o=>[nxtF row p o,o]).getD j []) ((some.map fun o=>[nxtF row p o,o]).getD i [])) (some.length - 1)
def goneF (sh pl:Int) (row:List Int) (p:Nat) (b:Int) (there:List Int):Option Int :=
  if b∉there∧pl≤((shelfF sh b there).length:Int) then (shelfF sh b there)[bestF row p (shelfF sh b there)]? else none
def addF (b:Int) (there:List Int):List Int:=if b∈there then there else there++[b]
def runF (sh pl:Int) (row:List Int):Nat→List Int×List (Option Int)
  | 0=>([],[])
  | i+1=>(addF (row.getD i 0) (lessO (runF sh pl row i).1 (goneF sh pl row i (row.getD i 0) (runF sh pl row i).1)),(runF sh pl row i).2++[goneF sh pl row i (row.getD i 0) (runF sh pl row i).1])
def dueF (sh pl:Int) (row:List Int):List (Option Int):=(runF sh pl row row.length).2
theorem less_len (there:List Int) (g:Option Int):(lessO there g).length≤there.length:=by
  cases g with
  | none=>exact Nat.le_refl _
  | some g=>exact List.length_erase_le
theorem add_len (b:Int) (there:List Int):(addF b there).length≤there.length+1:=by
  unfold addF
  split
  · omega
  · simp
theorem run_len (sh pl:Int) (row:List Int) (i:Nat):(runF sh pl row i).1.length≤i∧(runF sh pl row i).2.length=i:=by
  induction i with
  | zero=>exact ⟨Nat.le_refl _,rfl⟩
  | succ i ih =>
    refine ⟨?_,?_⟩
    · have h1:=add_len (row.getD i 0) (lessO (runF sh pl row i).1 (goneF sh pl row i (row.getD i 0) (runF sh pl row i).1))
      have h2:=less_len (runF sh pl row i).1 (goneF sh pl row i (row.getD i 0) (runF sh pl row i).1)
      show (addF _ _).length≤_
      omega
    · show ((runF sh pl row i).2++_).length=_
      rw [List.length_append,ih.2]; rfl
def spDue (K:PySem.W.Frag):Sp:=fun vs H Q _=>∃ (sh pl:Int) (a:Addr) (row:List Int),vs=[.int sh,.int pl,.ref a]∧SqL K H a (row.map V.int)∧1≤sh∧sh≤64∧1≤pl∧pl≤16∧row.length≤400∧Bds 9999 row ∧
  ∀ (l:Addr) (H':Hp),H l=none→Same H H'→H' l=some (.lst ((dueF sh pl row).map optV))→Q (.ref l) H'
def nxtD (d b:Int):Nat→List Int→Int
  | _,[]=>d
  | p,x :: xs=>if x=b then (p:Int) else nxtD d b (p+1) xs
theorem nxtD_step {d b:Int} {row:List Int} {p:Nat} {x:Int} (h:row[p]?=some x):nxtD d b p (row.drop p)=if x=b then (p:Int) else nxtD d b (p+1) (row.drop (p+1)):=by
  obtain ⟨hp,rfl⟩:=List.getElem?_eq_some_iff.mp h
  rw [List.drop_eq_getElem_cons hp]
  rfl
def agn (row:List Int) (p:Nat) (b:Int):Int:=nxtD row.length b p (row.drop p)
theorem agn_end {row:List Int} {p:Nat} {b:Int} (h:row.length≤p):agn row p b=row.length:=by
  unfold agn
  rw [List.drop_eq_nil_of_le h]
  rfl
theorem agn_step {row:List Int} {p:Nat} {b x:Int} (h:row[p]?=some x):agn row p b=if x=b then (p:Int) else agn row (p+1) b:=nxtD_step h
def againF (row:List Int):List Int:=(List.range row.length).map fun i=>agn row (i+1) (row.getD i 0)
def againD (row:List Int) (j:Nat):List Int:=(List.range j).map fun k=>agn row (row.length - k) (row.getD (row.length - 1 - k) 0)
theorem againD_rev (row:List Int):(againD row row.length).reverse=againF row:=by
  unfold againD againF
  apply List.ext_getElem?
  intro i
  by_cases h:i<row.length
  · rw [List.getElem?_reverse (by simpa using h)]
    simp only [List.length_map,List.length_range,List.getElem?_map]
    rw [List.getElem?_range (by omega),List.getElem?_range h]
    show some (agn row (row.length - (row.length - 1 - i)) (row.getD (row.length - 1 - (row.length - 1 - i)) 0))=some (agn row (i+1) (row.getD i 0))
    rw [show row.length - (row.length - 1 - i)=i+1 by omega,show row.length - 1 - (row.length - 1 - i)=i by omega]
  · rw [List.getElem?_eq_none (by simpa using h),List.getElem?_eq_none (by simpa using h)]
theorem againF_len (row:List Int):(againF row).length=row.length:=by unfold againF; simp
theorem againF_at {row:List Int} {i:Nat} {y:Int} (h:(againF row)[i]?=some y):y=agn row (i+1) (row.getD i 0):=by
  have hi:i<row.length:=by rw [← againF_len row]; exact (List.getElem?_eq_some_iff.mp h).1
  unfold againF at h
  rw [List.getElem?_map,List.getElem?_range hi] at h
  exact (Option.some.inj h).symm
theorem againD_succ (row:List Int) (j:Nat):againD row (j+1)=againD row j++[agn row (row.length - j) (row.getD (row.length - 1 - j) 0)]:=by
  unfold againD
  rw [List.range_succ,List.map_append]
  rfl
section
variable {P:Program} {w:World} {K:PySem.W.Frag} {mg:Str→Option Value} {base:Heap}
def spAgain (K:PySem.W.Frag):Sp:=fun vs H Q _=>∃ (a:Addr) (row:List Int),vs=[.ref a]∧SqL K H a (row.map V.int)∧row.length≤400 ∧
  ∀ (l:Addr) (H':Hp),H l=none→Same H H'→H' l=some (.lst ((againF row).map V.int))→Q (.ref l) H'
theorem ok_asked_again {f:Addr} {fd:FuncData} (F:Fun K "asked_again" "asked_again" s_asked_again f fd) (T:Txt K mg):FnOk P w K mg base CX0 1 f fd P_asked_again (spAgain K):=by
  refine F.ok sc_asked_again (fun vs H Q E h=>?_) (fun cdv A outer st H vs Q E hr h=>?_)
  · obtain ⟨a,row,rfl,_⟩:=h
    rfl
  obtain ⟨a,row,rfl,hS,hl,k⟩:=h
  have nd:=sc_asked_again.nd
  have hu:=hu_of hr
  refine ⟨_,(pss_cons (pst 1 nd (pe_lst pa_nil))
      (pss_cons (pst 2 nd pe_dnewK)
      (pss_cons (ps_for PassesOwn.never rfl (pi_range3 rfl T.z_range (pc (pe_op op_sub (pe_callBN (call_len_seqK (K:=K) rfl) rfl T.z_len PySem.boot_len (pc (pv 0) pa_nil)) pe_int) (pc (pe_un un_neg pe_int) (pc (pe_un un_neg pe_int) pa_nil)))) (pgn 3 nd) (pss_cons (pst 4 nd (pe_ix (ix_listK (K:=K) rfl) (pv 0) (pv 3) (fun _ _=>rfl)))
      (pss_cons (ps_expr (pe_bmC (K:=K) rfl (pe_bm PySem.F.plainAttrs_list PySem.F.slot_list_append PySem.F.type_list_append mt_append (pv 1) (pc (pe_dget2 hu (pv 2) (pv 4) (pe_callBN (call_len_seqK (K:=K) rfl) rfl T.z_len PySem.boot_len (pc (pv 0) pa_nil)) ⟨rfl,rfl,rfl,rfl⟩) pa_nil))))
      (pss_one (ps_dput hu (pv 2) (pv 4) (pv 3) rfl)))))
      (pss_one (ps_ret (pe_slice3 (K:=K) rfl (pv 1) po_none po_none (po_some (pe_un un_neg pe_int)))))))),?_⟩
  have len:(row.map V.int).length=row.length:=List.length_map ..
  refine ⟨(by show 0≤sizeLine; decide),fun lt hlt=>fun ld hld=>?_⟩
  have s0:=(same_upd hlt (.lst [])).trans (same_upd hld (.dK []))
  have hdH:H ld=none:=(same_upd hlt (.lst [])).free hld
  have ntd:lt≠ld:=ne_of_none (upd_same (H:=H) (a:=lt) (o:=.lst [])) hld
  refine ⟨_,rfl,a,_,rfl,.inl (s0.seq hS),_,_,rfl,rfl,_,rfl,_,rfl,_,_,rfl,⟨by omega,by omega,by omega,by omega⟩,for_down (hi:=((row.map V.int).length:Int) - 1) (n:=(((row.map V.int).length:Int) - 1 - -1).toNat) (fun j σ G=>∃ (v3 v4:Option V) (kvs:List (Key×V)),σ=[some (.ref a),some (.ref lt),some (.ref ld),v3,v4]∧G lt=some (.lst ((againD row j).map V.int))∧G ld=some (.dK kvs)∧kvs.length≤j∧(∀ b,(valV kvs (Sum.inl b:Key)).getD (.int row.length)=.int (agn row (row.length - j) b))∧Same H G)
    ⟨none,none,[],rfl,by rw [upd_ne ntd]; exact upd_same,upd_same,Nat.le_refl _,fun b=>by rw [agn_end (by omega)]; rfl,s0⟩ ?_ ?_⟩
  · rintro j σ G hj ⟨v3,v4,kvs,rfl,h1,h2,hk,hv,s1⟩
    have hjn:j<row.length:=by omega
    have hlt':row.length - 1 - j<row.length:=by omega
    have hget:row[row.length - 1 - j]?=some row[row.length - 1 - j]:=List.getElem?_eq_getElem hlt'
    have hat:atI (row.map V.int) (((row.map V.int).length:Int) - 1 - (j:Int))=some (.int row[row.length - 1 - j]):=by
      have q:atI (row.map V.int) ((row.length - 1 - j:Nat):Int)=some (.int row[row.length - 1 - j]):=atI_nat (by rw [List.getElem?_map,hget]; rfl)
      rw [show ((row.length - 1 - j:Nat):Int)=((row.map V.int).length:Int) - 1 - (j:Int) by omega] at q
      exact q
    have eg:row.getD (row.length - 1 - j) 0=row[row.length - 1 - j]:=by rw [List.getD_eq_getElem?_getD,hget]; rfl
    have ea:=againD_succ row j
    rw [eg] at ea
    generalize row[row.length - 1 - j]=z at *
    refine ⟨_,rfl,_,rfl,a,_,_,_,rfl,rfl,s1.seq hS,hat,?_⟩
    refine ⟨_,rfl,.inl ⟨rfl,_,SqL.of h1⟩,_,rfl,ld,rfl,.inl ⟨_,.inl h2⟩,_,rfl,_,rfl,a,_,rfl,.inl (s1.seq hS),_,DGet.k (k:=Sum.inl z) h2,lt,_,_,rfl,rfl,h1,small1000 (by rw [List.length_map]; unfold againD; simp; omega),?_⟩
    rw [len,hv z]
    have h2':upd G lt (.lst ((againD row j).map V.int++[.int (agn row (row.length - j) z)])) ld=some (.dK kvs):=by rw [upd_ne (Ne.symm ntd)]; exact h2
    refine ⟨_,rfl,_,rfl,_,rfl,ld,_,rfl,DPut.k (k:=Sum.inl z) h2' (small1000 (by omega)),⟨_,_,_,rfl,?_,upd_same,?_,fun b=>?_,?_⟩⟩
    · rw [upd_ne ntd,upd_same,ea,List.map_append]; rfl
    · exact Nat.le_trans (length_putK ..) (by omega)
    · rw [valV_put,show row.length - (j+1)=row.length - 1 - j by omega,agn_step hget]
      by_cases e:z=b
      · subst e
        rw [if_pos rfl,if_pos rfl]
        show V.int _=V.int _
        congr 1
        omega
      · rw [if_neg (fun q=>e (Sum.inl.inj q).symm),if_neg e,hv b,show row.length - 1 - j+1=row.length - j by omega]
    · intro e o y
      rw [upd_ne (ne_of_none y hdH),upd_ne (ne_of_none y hlt)]
      exact s1 _ _ y
  · rintro σ G ⟨v3,v4,kvs,rfl,h1,h2,hk,hv,s1⟩
    rw [show (((row.map V.int).length:Int) - 1 - -1).toNat=row.length by omega] at h1
    refine ⟨_,rfl,1,rfl,_,rfl,lt,_,rfl,SqL.of h1,by decide,?_,fun p hp=>?_⟩
    · rw [pickV_rev,List.length_reverse,List.length_map]; unfold againD; simp; exact Nat.le_of_lt (small1000 (by omega))
    · rw [pickV_rev,← List.map_reverse,againD_rev]
      exact k p _ (s1.free hp) (s1.trans (same_upd hp _)) upd_same
end
theorem shelfF_S (sh b:Int) (there:List Int):shelfF sh b there=shelfS sh (b % sh) there:=by
  unfold shelfF shelfS
  refine List.filter_congr fun o _=>?_
  rw [decide_eq_decide]
  exact ⟨fun e=>by injection e,fun e=>by rw [e]⟩
theorem shelfS_less (sh s:Int) (there:List Int) (g:Option Int):shelfS sh s (lessO there g)=lessO (shelfS sh s there) g:=by
  cases g with
  | none=>rfl
  | some g =>
    show (there.erase g).filter _=(there.filter _).erase g
    rw [List.erase_filter]
theorem lessO_not {l:List Int} {g:Option Int} (h:∀ x,g=some x→x∉l):lessO l g=l:=by
  cases g with
  | none=>rfl
  | some g=>exact List.erase_of_not_mem (h g rfl)
theorem Shl.same {H H':Hp} {ls:Addr} {ads:List Addr} {sh:Int} {there:List Int} (h:Shl H ls ads sh there) (s:Same H H'):Shl H' ls ads sh there :=
  ⟨s _ _ h.top,h.len,h.nd,h.off,fun i ad e=>s _ _ (h.at_ i ad e)⟩
theorem Shl.free {H:Hp} {ls:Addr} {ads:List Addr} {sh:Int} {there:List Int} (h:Shl H ls ads sh there) {p:Addr} (hp:H p=none):p≠ls∧p∉ads:=by
  refine ⟨fun e=>?_,fun m=>?_⟩
  · rw [e,h.top] at hp; cases hp
  · obtain ⟨s,e⟩:=List.getElem?_of_mem m
    rw [h.at_ s p e] at hp; cases hp
theorem best_congr {f g:Nat→Nat→Bool}:∀ k,(∀ i j,i≤k→j≤k→f i j=g i j)→argBest f k=argBest g k∧argBest g k≤k
  | 0,_=>⟨rfl,Nat.le_refl _⟩
  | k+1,h=>by
    obtain ⟨e,l⟩:=best_congr k fun i j hi hj=>h i j (by omega) (by omega)
    unfold argBest
    rw [e,h (k+1) (argBest g k) (Nat.le_refl _) (by omega)]
    refine ⟨rfl,?_⟩
    split <;> omega
theorem nxtGD (d b:Int):∀ (xs:List Int) (p:Nat),(nxtG b p xs=1000000∧nxtD d b p xs=d)∨(nxtG b p xs=nxtD d b p xs∧(p:Int)≤nxtD d b p xs∧nxtD d b p xs<p+xs.length)
  | [],p=>.inl ⟨rfl,rfl⟩
  | x :: xs,p=>by
    unfold nxtG nxtD
    by_cases e:x=b
    · rw [if_pos e,if_pos e]
      refine .inr ⟨rfl,by omega,?_⟩
      rw [List.length_cons]; omega
    · rw [if_neg e,if_neg e]
      rcases nxtGD d b xs (p+1) with h | ⟨h1,h2,h3⟩
      · exact .inl h
      · refine .inr ⟨h1,by omega,?_⟩
        rw [List.length_cons]; omega
theorem agn_nxt {row:List Int} {i:Nat} {o:Int} (hi:i<row.length):(nxtF row i o=1000000∧agn row (i+1) o=row.length)∨(nxtF row i o=agn row (i+1) o∧agn row (i+1) o<row.length):=by
  rcases nxtGD row.length o (row.drop (i+1)) (i+1) with h | ⟨h1,h2,h3⟩
  · exact .inl h
  · refine .inr ⟨h1,?_⟩
    rw [List.length_drop] at h3
    show nxtD _ _ _ _<_
    omega
theorem lex2 (a b c d:Int):HT.lexLt [a,b] [c,d]=if a=c then decide (b<d) else decide (a<c):=by
  rw [HT.lexLt_cons,HT.lexLt_cons]
  split
  · split
    · rename_i _ e; subst e; simp [HT.lexLt]
    · rfl
  · rfl
theorem best_far {row mates:List Int} {i:Nat} (hi:i<row.length) (hl:row.length≤400) (hne:mates≠[]) :
    argBest (fun a b=>HT.lexLt ((mates.map fun o=>[agn row (i+1) o,o]).getD b []) ((mates.map fun o=>[agn row (i+1) o,o]).getD a [])) (mates.length - 1)=bestF row i mates:=by
  have pos:0<mates.length:=List.length_pos_iff.mpr hne
  refine (best_congr _ fun a b ha hb=>?_).1
  have la:a<mates.length:=by omega
  have lb:b<mates.length:=by omega
  simp only [List.getD_eq_getElem?_getD,List.getElem?_map,List.getElem?_eq_getElem la,List.getElem?_eq_getElem lb,Option.map_some,Option.getD_some]
  rw [lex2,lex2]
  rcases agn_nxt (row:=row) (i:=i) (o:=mates[a]) hi with ⟨x1,x2⟩ | ⟨x1,x2⟩ <;> rcases agn_nxt (row:=row) (i:=i) (o:=mates[b]) hi with ⟨y1,y2⟩ | ⟨y1,y2⟩
  · rw [x1,x2,y1,y2]; simp
  · rw [x1,x2,y1,if_neg (by omega),if_neg (by omega),decide_eq_decide]; omega
  · rw [x1,y2,y1,if_neg (by omega),if_neg (by omega),decide_eq_decide]; omega
  · rw [x1,y1]
theorem hideD {t:TS} {D:Ends} {σ:St} {H:Hp} (h:∀ D':Ends,(∀ σ G,D.nx σ G→D'.nx σ G)→t D' σ H):t D σ H:=h D fun _ _ x=>x
section
variable {P:Program} {w:World} {K:PySem.W.Frag} {mg:Str→Option Value} {base:Heap}
theorem ok_farthest {f:Addr} {fd:FuncData} (F:Fun K "farthest" "farthest" s_farthest f fd) (T:Txt K mg) (D_shelf_of:Def P w K mg base "shelf_of" 1 P_shelf_of spShelf) (D_come:Def P w K mg base "come" 1 P_come spCome) (D_asked_again:Def P w K mg base "asked_again" 1 P_asked_again (spAgain K)):FnOk P w K mg base CX0 8 f fd P_farthest (spDue K):=by
  refine F.ok sc_farthest (fun vs H Q E h=>?_) (fun cdv A outer st H vs Q E hr h=>?_)
  · obtain ⟨sh,pl,a,row,rfl,_⟩:=h
    rfl
  obtain ⟨sh,pl,a,row,rfl,hS,hs0,hs1,hp0,hp1,hl,bd,k⟩:=h
  have nd:=sc_farthest.nd
  have hu:=hu_of hr
  refine ⟨_,(pss_cons (ps_comp0 3 (compOk_of (osc:=(defScope s_farthest)) (oN:=N_farthest) (N:=["number"]) (own:=1) (js:=[]) (by decide +kernel) rfl rfl) rfl nd rfl rfl (pi_range1 rfl T.z_range (pc (pv 0) pa_nil)) (fun _ _ _ _ _ _=>(pgn 0 (show List.Nodup (["number"]:List Str) by decide +kernel))) (fun _ _ _ _ _ _=>(pe_lst pa_nil)))
      (pss_cons (pst 4 nd pe_dnewK)
      (pss_cons (pst 5 nd (pe_lst pa_nil))
      (pss_cons (ps_for PassesOwn.never rfl (pi_zip rfl T.z_zip (pc (pv 2) (pc (pe_defN D_asked_again hr.m rfl (pc (pv 2) pa_nil)) pa_nil))) (pg_tupK (K:=K) (n:=2) rfl rfl (pgs_cons (pgn 6 nd) (pgs_cons (pgn 7 nd) pgs_nil))) (pss_cons (pst 8 nd (pe_ix (ix_listK (K:=K) rfl) (pv 3) (pe_defN D_shelf_of hr.m rfl (pc (pv 0) (pc (pv 6) pa_nil))) (fun _ _=>rfl)))
      (pss_cons (pst 9 nd pe_non)
      (pss_cons (ps_if (pt_cmpR (op_notIn_seqK (K:=K) rfl) (pv 6) (pv 8) rfl) (pss_cons (ps_if (pt_cmpR op_ge (pe_callBN (call_len_seqK (K:=K) rfl) rfl T.z_len PySem.boot_len (pc (pv 8) pa_nil)) (pv 1) (nomark _)) (pss_one (ps_asg (pe_callBN (call_maxT rfl hu rfl) rfl T.z_max boot_max (pc (pe_comp0 (compOk_of (osc:=(defScope s_farthest)) (oN:=N_farthest) (N:=["mate", "again"]) (own:=1) (js:=[4]) (by decide +kernel) rfl rfl) rfl (pi_listK (K:=K) rfl (pv 8)) (fun _ _ _ _ _ _=>(pgn 0 (show List.Nodup (["mate", "again"]:List Str) by decide +kernel))) (fun _ _ _ _ _ _=>(pe_tup (pc (pe_dget hu (pv 1) (pv 0) (fun _ _=>rfl)) (pc (pv 0) pa_nil))))) pa_nil)) (pg_tupK (K:=K) (n:=2) rfl rfl (pgs_cons (pgn 10 nd) (pgs_cons (pgn 9 nd) pgs_nil))))) pss_nil)
      (pss_one (ps_expr (pe_defN D_come hr.m rfl (pc (pv 8) (pc (pv 6) (pc (pv 9) pa_nil))))))) pss_nil)
      (pss_cons (ps_dput hu (pv 4) (pv 6) (pv 7) rfl)
      (pss_one (ps_expr (pe_bmC (K:=K) rfl (pe_bm PySem.F.plainAttrs_list PySem.F.slot_list_append PySem.F.type_list_append mt_append (pv 5) (pc (pv 9) pa_nil))))))))))
      (pss_one (ps_ret (pv 5))))))),?_⟩
  refine ⟨_,rfl,sh,rfl,by omega,by omega,fun ls hls=>?_⟩
  refine comp_range (lo:=0) (n:=sh.toNat) (l:=ls) (fun j ys σ G=>∃ (v0:Option V) (ads:List Addr),σ=[v0]∧ys=ads.map V.ref∧ads.length=j∧ads.Nodup∧ls∉ads∧G ls=some (.lst ys)∧(∀ ad∈ads,H ad=none∧G ad=some (.lst []))∧Same H G)
    ⟨none,[],rfl,rfl,rfl,List.nodup_nil,by simp,upd_same,by simp,same_upd hls _⟩ ?_ ?_
  · rintro j ys σ G hj hy ⟨v0,ads,rfl,rfl,hlen,hnd,hoff,g1,g2,s1⟩
    refine ⟨(by show 0≤sizeLine; decide),fun p hp=>?_⟩
    have np:ls≠p:=ne_of_none g1 hp
    have nip:p∉ads:=fun m=>by rw [(g2 p m).2] at hp; cases hp
    refine CNx.of (Nat.le_trans (by omega:sh.toNat≤64) (by decide)) hj hy (by rw [upd_ne np]; exact g1) ⟨_,ads++[p],rfl,by rw [List.map_append]; rfl,by rw [List.length_append,hlen]; rfl,nd_snoc hnd nip,?_,upd_same,fun ad m=>?_,?_⟩
    · intro m
      rcases List.mem_append.mp m with m | m
      · exact hoff m
      · exact np (by simpa using m)
    · rcases List.mem_append.mp m with m | m
      · rw [upd_ne (fun z:ad=ls=>hoff (z ▸ m)),upd_ne (fun z:ad=p=>nip (z ▸ m))]
        exact g2 ad m
      · have e:ad=p:=by simpa using m
        subst e
        rw [upd_ne (Ne.symm np)]
        exact ⟨s1.free hp,upd_same⟩
    · intro e o y
      rw [upd_ne (ne_of_none y hls),upd_ne (ne_of_none (s1 _ _ y) hp)]
      exact s1 _ _ y
  rintro ys σ G hy ⟨v0,ads,rfl,rfl,hlen,hnd,hoff,g1,g2,s1⟩
  refine gN ?_
  have S0:Shl G ls ads sh []:=⟨g1,hlen,hnd,hoff,fun i ad e=>(g2 ad (List.mem_of_getElem? e)).2⟩
  have fr:∀ ad∈ads,H ad=none:=fun ad m=>(g2 ad m).1
  clear g1 g2 hy
  dsimp only
  intro ld hld
  refine ⟨(by show 0≤sizeLine; decide),fun lo hlo=>?_⟩
  obtain ⟨nd1,nd2⟩:=S0.free hld
  have S1:=S0.same (same_upd hld (.dK []))
  obtain ⟨no1,no2⟩:=S1.free hlo
  have S2:=S1.same (same_upd hlo (.lst []))
  have nod:lo≠ld:=fun e=>by rw [e,upd_same] at hlo; cases hlo
  have s3:=s1.trans ((same_upd hld (.dK [])).trans (same_upd hlo (.lst [])))
  have e1:upd (upd G ld (.dK [])) lo (.lst []) ld=some (.dK []):=by rw [upd_ne (Ne.symm nod)]; exact upd_same
  have e2:upd (upd G ld (.dK [])) lo (.lst []) lo=some (.lst []):=upd_same
  have hdH:H ld=none:=s1.free hld
  have hoH:H lo=none:=(s1.trans (same_upd hld (.dK []))).free hlo
  generalize upd (upd G ld (.dK [])) lo (.lst [])=G2 at *
  refine ⟨_,rfl,_,rfl,a,row,rfl,s3.seq hS,hl,fun la G3 hla s4 e3=>?_⟩
  obtain ⟨na1,na2⟩:=S2.free hla
  have nao:la≠lo:=fun e=>by rw [e,e2] at hla; cases hla
  have nad:la≠ld:=fun e=>by rw [e,e1] at hla; cases hla
  have s5:=s3.trans s4
  refine ⟨a,la,rfl,⟨_,s5.seq hS⟩,⟨_,SqL.of e3⟩,for_zip (K:=K) (a:=a) (b:=la) (xs:=row.map V.int) (ys:=(againF row).map V.int) (fun i σ G=>∃ (v6 v7 v8 v9 v10:Option V) (kvs:List (Key×V)),σ=[some (.int sh),some (.int pl),some (.ref a),some (.ref ls),some (.ref ld),some (.ref lo),v6,v7,v8,v9,v10]∧Shl G ls ads sh (runF sh pl row i).1∧G lo=some (.lst ((runF sh pl row i).2.map optV))∧G ld=some (.dK kvs)∧kvs.length≤i∧(∀ b∈(runF sh pl row i).1,valV kvs (Sum.inl b:Key)=some (.int (agn row i b)))∧G la=some (.lst ((againF row).map V.int))∧Same H G)
    (by rw [List.length_map,List.length_map,againF_len]) ⟨none,none,none,none,none,[],rfl,S2.same s4,s4 _ _ e2,s4 _ _ e1,Nat.le_refl _,fun b m=>(nomatch m),e3,s5⟩ (fun i σ G _ h=>by obtain ⟨_,_,_,_,_,_,_,_,_,_,_,_,q1,q2⟩:=h; exact ⟨q2.seq hS,SqL.of q1⟩) ?_ ?_⟩
  · clear S0 S1 S2 e1 e2 s3 s4 s5 e3 hld hlo hla s1
    rintro i x y t σ G hx hy ⟨v6,v7,v8,v9,v10,kvs,rfl,S,h1,h2,hk,hv,h3,s1⟩ ht
    obtain ⟨z,hz,rfl⟩:=ints_at hx
    obtain ⟨y,hy',rfl⟩:=ints_at hy
    have ey:=againF_at hy'
    have hi:i<row.length:=(List.getElem?_eq_some_iff.mp hz).1
    have eg:row.getD i 0=z:=by rw [List.getD_eq_getElem?_getD,hz]; rfl
    rw [eg] at ey
    obtain ⟨len1,len2⟩:=run_len sh pl row i
    have r1:(runF sh pl row (i+1)).1=addF z (lessO (runF sh pl row i).1 (goneF sh pl row i z (runF sh pl row i).1)):=by rw [← eg]; rfl
    have r2:(runF sh pl row (i+1)).2=(runF sh pl row i).2++[goneF sh pl row i z (runF sh pl row i).1]:=by rw [← eg]; rfl
    generalize (runF sh pl row i).1=there at *
    generalize (runF sh pl row i).2=found at *
    refine ⟨t,_,rfl,SqT.of upd_same,rfl,_,_,rfl,_,_,rfl,rfl,?_⟩
    refine hideD fun Dz hDz=>?_
    try dsimp only
    refine hide fun u1 e1=>?_
    have w:=same_upd ht (.tup [.int z,.int y])
    have S1:=S.same w
    have g1:=w _ _ h1
    have g2:=w _ _ h2
    have g3:=w _ _ h3
    have s2:=s1.trans w
    generalize upd G t (.tup [.int z,.int y])=G1 at *
    clear S h1 h2 h3 s1 w
    obtain ⟨s0,ad,es0,had,hat,hm⟩:=S1.get (k:=z % sh) (Int.emod_nonneg _ (by omega)) (Int.emod_lt_of_pos _ (by omega))
    refine ⟨_,rfl,_,rfl,_,rfl,sh,z,rfl,hs0,ls,_,_,_,rfl,rfl,SqL.of S1.top,hat,?_⟩
    have hg:goneF sh pl row i z there=if z∉there∧pl≤((shelfS sh (z % sh) there).length:Int) then (shelfS sh (z % sh) there)[bestF row i (shelfS sh (z % sh) there)]? else none:=by unfold goneF; rw [shelfF_S]
    have lm:(shelfS sh (z % sh) there).length≤there.length:=List.length_filter_le ..
    have hin:∀ b,b∈shelfS sh (z % sh) there↔b∈there∧b % sh=z % sh:=fun b=>mem_shelfS
    have hsl:∀ gone:Option Int,(∀ g,gone=some g→g∈shelfS sh (z % sh) there)→z∉there→Shl (upd G1 ad (.lst ((lessO (shelfS sh (z % sh) there) gone++[z]).map V.int))) ls ads sh (addF z (lessO there gone)):=fun gone hgm hnz=>by
      have e:addF z (lessO there gone)=lessO there gone++[z]:=by
        unfold addF
        rw [if_neg]
        cases gone with
        | none=>exact hnz
        | some g=>exact fun m=>hnz (List.mem_of_mem_erase m)
      refine S1.put had ?_ fun s hs=>?_
      · rw [e,shelfS_app,if_pos es0.symm,shelfS_less,es0]
      · have ne:¬ z % sh=(s:Int):=fun q=>hs (by omega)
        rw [e,shelfS_app,if_neg ne,shelfS_less]
        exact lessO_not fun x hx m=>ne (((hin x).mp (hgm x hx)).2.symm.trans (mem_shelfS.mp m).2)
    have hfar:∀ o∈shelfS sh (z % sh) there,z∉there→valV kvs (Sum.inl o:Key)=some (.int (agn row (i+1) o)):=fun o mo hnz=>by
      have mt:=((hin o).mp mo).1
      have ne:¬ z=o:=fun e=>hnz (e ▸ mt)
      rw [hv o mt,agn_step hz,if_neg ne]
    generalize shelfS sh (z % sh) there=mates at *
    generalize hgo:goneF sh pl row i z there=gone at *
    have gmem:∀ g,gone=some g→g∈mates:=fun g e=>by
      rw [hg] at e
      split at e
      · exact List.mem_of_getElem? e
      · cases e
    refine gN ?_
    subst e1
    dsimp only
    refine cpA (fun v G'=>v=.non∧G1=G') (fun Q' k'=>k' _ _ ⟨rfl,rfl⟩) ?_
    rintro _ _ ⟨rfl,rfl⟩
    refine gN ?_
    refine cpI (fun σ G'=>∃ v10:Option V,σ=[some (.int sh),some (.int pl),some (.ref a),some (.ref ls),some (.ref ld),some (.ref lo),some (.int z),some (.int y),some (.ref ad),some (optV gone),v10]∧Shl G' ls ads sh (addF z (lessO there gone))∧G' lo=some (.lst (found.map optV))∧G' ld=some (.dK kvs)∧G' la=some (.lst ((againF row).map V.int))∧Same H G') (fun D' _ k'=>?_) ?_
    · refine ⟨_,rfl,_,rfl,ad,_,rfl,.inl (SqL.of hm),rfl,ints_flat _,_,rfl,?_⟩
      rw [inV_int,if_pos rfl]
      refine ite_dec' (fun c=>?_) (fun c=>?_)
      · have c':z∉mates:=by simpa using c
        have hnz:z∉there:=fun m=>c' ((hin z).mpr ⟨m,rfl⟩)
        refine cpI (fun σ G'=>∃ v10:Option V,σ=[some (.int sh),some (.int pl),some (.ref a),some (.ref ls),some (.ref ld),some (.ref lo),some (.int z),some (.int y),some (.ref ad),some (optV gone),v10]∧Same G1 G') (fun D'' _ k''=>?_) ?_
        · refine ⟨_,rfl,ad,_,rfl,.inl (SqL.of hm),_,rfl,_,_,rfl,rfl,_,rfl,?_⟩
          rw [List.length_map]
          refine ite_dec (fun c2=>?_) (fun c2=>?_)
          · rw [if_pos ⟨hnz,c2⟩] at hg
            have pos:0<mates.length:=by omega
            refine ⟨_,rfl,ad,rfl,⟨_,SqL.of hm⟩,fun l2 hl2=>?_⟩
            refine comp_list (K:=K) (a:=ad) (xs:=mates.map V.int) (l:=l2) (fun j ys σ' G'=>∃ (v0:Option V) (as:List Addr),σ'=[v0,some (.ref ld)]∧ys=as.map V.ref∧as.length=j∧G' l2=some (.lst ys)∧(∀ (m:Nat) (ad:Addr) (o:Int),as[m]?=some ad→mates[m]?=some o→G' ad=some (.tup [.int (agn row (i+1) o),.int o]))∧Same G1 G')
              ⟨none,[],rfl,rfl,rfl,upd_same,fun m ad o h=>(by simp at h),same_upd hl2 _⟩ (fun j ys σ' G' _ h=>by obtain ⟨_,_,_,_,_,_,_,q⟩:=h; exact SqL.of (q _ _ hm)) ?_ ?_
            · rintro j x ys σ' G' hj hxj hys ⟨v0,as,rfl,rfl,hj',q1,q2,q3⟩
              obtain ⟨o,ho,rfl⟩:=ints_at hxj
              have ev:=hfar o (List.mem_of_getElem? ho) hnz
              refine ⟨_,rfl,_,rfl,ld,_,rfl,(by have q:=DGet.k (k:=Sum.inl o) (q3 _ _ g2); rw [ev] at q; exact q),_,rfl,(by show 2≤sizeLine; decide),fun p hp=>?_⟩
              have np:l2≠p:=ne_of_none q1 hp
              refine CNx.of (Nat.le_of_lt (small1000 (by rw [List.length_map]; omega))) hj hys (by rw [upd_ne np]; exact q1) ⟨_,as++[p],rfl,by rw [List.map_append]; rfl,by rw [List.length_append,hj']; rfl,upd_same,fun m ad o' hm ho'=>?_,?_⟩
              · by_cases hmj:m<as.length
                · rw [List.getElem?_append_left hmj] at hm
                  have q:=q2 m ad o' hm ho'
                  have na:ad≠l2:=fun e=>by rw [e,q1] at q; cases q
                  rw [upd_ne na,upd_ne (ne_of_none q hp)]
                  exact q
                · rw [List.getElem?_append_right (by omega)] at hm
                  have em:m=as.length:=by
                    have:=(List.getElem?_eq_some_iff.mp hm).1
                    simp at this; omega
                  subst em
                  rw [Nat.sub_self] at hm
                  cases hm
                  rw [hj',ho] at ho'
                  cases ho'
                  rw [upd_ne (Ne.symm np)]
                  exact upd_same
              · intro e o' y
                rw [upd_ne (ne_of_none y hl2)]
                exact same_upd hp _ _ _ (q3 _ _ y)
            · rintro ys σ' G' hys ⟨v0,as,rfl,rfl,hj',q1,q2,q3⟩
              rw [List.length_map] at hj'
              refine ⟨l2,as,mates.map (fun o=>[agn row (i+1) o,o]),rfl,SqL.of q1,fun e=>?_,by rw [List.length_map]; exact hj',fun m ad ns hm hns=>?_,fun m ad2 hm2 had2=>?_⟩
              · rw [e] at hj'; simp at hj'; omega
              · rw [List.getElem?_map] at hns
                cases ho:mates[m]? with
                | none=>rw [ho] at hns; cases hns
                | some o =>
                  rw [ho] at hns
                  cases hns
                  exact SqT.of (q2 m ad o hm ho)
              · have hm':m=bestF row i mates:=by
                  rw [hm2,hj']
                  exact best_far hi hl (List.length_pos_iff.mp pos)
                rw [← hm'] at hg
                have mlt:m<mates.length:=by rw [← hj']; exact (List.getElem?_eq_some_iff.mp had2).1
                rw [List.getElem?_eq_getElem mlt] at hg
                have q4:=q2 m ad2 _ had2 (List.getElem?_eq_getElem mlt)
                subst hg
                exact ⟨ad2,_,rfl,SqT.of q4,rfl,_,_,rfl,_,_,rfl,rfl,k'' _ _ ⟨_,rfl,q3⟩⟩
          · rw [if_neg (fun q=>c2 q.2)] at hg
            subst hg
            exact k'' _ _ ⟨_,rfl,Same.refl _⟩
        · rintro _ G2 ⟨v10,rfl,t1⟩
          have hm2:=t1 _ _ hm
          have nal:ad≠lo:=fun e:ad=lo=>no2 (e ▸ List.mem_of_getElem? had)
          have nad':ad≠ld:=fun e:ad=ld=>nd2 (e ▸ List.mem_of_getElem? had)
          have naa:ad≠la:=fun e:ad=la=>na2 (e ▸ List.mem_of_getElem? had)
          refine ⟨_,rfl,_,rfl,_,rfl,ad,mates,z,gone,rfl,hm2,by omega,gmem,k' _ _ ⟨_,rfl,?_,?_,?_,?_,?_⟩⟩
          · have S2:=hsl gone gmem hnz
            refine ⟨?_,S2.len,S2.nd,S2.off,fun s a e=>?_⟩
            · rw [upd_ne (fun z:ls=ad=>S1.off (z ▸ List.mem_of_getElem? had))]
              exact t1 _ _ S1.top
            · have q:=S2.at_ s a e
              by_cases ea:a=ad
              · subst ea
                rw [upd_same] at q ⊢
                exact q
              · rw [upd_ne ea] at q ⊢
                exact t1 _ _ q
          · rw [upd_ne (Ne.symm nal)]; exact t1 _ _ g1
          · rw [upd_ne (Ne.symm nad')]; exact t1 _ _ g2
          · rw [upd_ne (Ne.symm naa)]; exact t1 _ _ g3
          · intro e o q
            rw [upd_ne (ne_of_none q (fr ad (List.mem_of_getElem? had)))]
            exact t1 _ _ (s2 _ _ q)
      · have c':z∈there:=((hin z).mp (by simpa using c)).1
        rw [if_neg (fun q=>q.1 c')] at hg
        subst hg
        refine k' _ _ ⟨_,rfl,?_,g1,g2,g3,s2⟩
        show Shl G1 ls ads sh (addF z there)
        rw [addF,if_pos c']
        exact S1
    rintro _ G3 ⟨v10,rfl,S3,m1,m2,m3,s4⟩
    refine ⟨_,rfl,_,rfl,_,rfl,ld,_,rfl,DPut.k (k:=Sum.inl z) m2 (small1000 (by omega)),?_⟩
    have m1':upd G3 ld (.dK (putK kvs (Sum.inl z) (.int y))) lo=some (.lst (found.map optV)):=by rw [upd_ne nod]; exact m1
    refine ⟨_,rfl,.inl ⟨rfl,_,SqL.of m1'⟩,_,rfl,lo,_,_,rfl,rfl,m1',small1000 (by rw [List.length_map]; omega),hDz _ _ ⟨_,_,_,_,_,putK kvs (Sum.inl z) (.int y),rfl,?_,?_,?_,?_,?_,?_,?_⟩⟩
    · rw [r1]
      exact (S3.other _ nd1 nd2).other _ no1 no2
    · rw [upd_same,r2,List.map_append]; rfl
    · rw [upd_ne (Ne.symm nod)]; exact upd_same
    · exact Nat.le_trans (length_putK ..) (by omega)
    · intro b m
      rw [r1] at m
      rw [valV_put]
      by_cases e:b=z
      · subst e
        rw [if_pos rfl,ey]
      · rw [if_neg (fun q=>e (Sum.inl.inj q))]
        have mt:b∈there:=by
          have m':b∈lessO there gone:=by
            unfold addF at m
            split at m
            · exact m
            · rcases List.mem_append.mp m with m | m
              · exact m
              · exact absurd (by simpa using m) e
          cases gone with
          | none=>exact m'
          | some g=>exact List.mem_of_mem_erase m'
        rw [hv b mt,agn_step hz,if_neg (fun q=>e q.symm)]
    · rw [upd_ne nao,upd_ne nad]; exact m3
    · intro e o q
      rw [upd_ne (ne_of_none q hoH),upd_ne (ne_of_none q hdH)]
      exact s4 _ _ q
  · rintro σ G ⟨v6,v7,v8,v9,v10,kvs,rfl,S,h1,h2,hk,hv,h3,s1⟩
    rw [List.length_map] at h1
    exact ⟨_,rfl,k lo G hoH s1 h1⟩
end
theorem best_le (f:Nat→Nat→Bool) (k:Nat):argBest f k≤k:=(best_congr (f:=f) (g:=f) k fun _ _ _ _=>rfl).2
theorem due_at {sh pl:Int} {row:List Int}:∀ {n i:Nat},i<n→(runF sh pl row n).2[i]?=some (goneF sh pl row i (row.getD i 0) (runF sh pl row i).1)
  | 0,i,h=>absurd h (Nat.not_lt_zero _)
  | n+1,i,h=>by
    have len:=(run_len sh pl row n).2
    show ((runF sh pl row n).2++[_])[i]?=_
    by_cases c:i<n
    · rw [List.getElem?_append_left (by rw [len]; exact c)]
      exact due_at c
    · have e:i=n:=by omega
      subst e
      rw [List.getElem?_append_right (by rw [len]; exact Nat.le_refl _),len,Nat.sub_self]
      rfl
theorem due_len (sh pl:Int) (row:List Int):(dueF sh pl row).length=row.length:=(run_len sh pl row row.length).2
theorem due_may {sh pl:Int} (hp:1≤pl) (row:List Int) (i:Nat) (b:Int) (there:List Int):mayB pl (shelfS sh (b % sh) there) b (goneF sh pl row i b there)=true:=by
  have hin:b∈shelfS sh (b % sh) there↔b∈there:=⟨fun m=>(mem_shelfS.mp m).1,fun m=>mem_shelfS.mpr ⟨m,rfl⟩⟩
  unfold goneF mayB
  rw [shelfF_S]
  by_cases c:b∈there∨((shelfS sh (b % sh) there).length:Int)<pl
  · rw [if_pos (c.imp hin.mpr id),if_neg]
    · rfl
    · rintro ⟨q1,q2⟩
      rcases c with c | c
      · exact q1 c
      · omega
  · have c1:b∉there:=fun q=>c (.inl q)
    have c2:pl≤((shelfS sh (b % sh) there).length:Int):=by
      have:¬ ((shelfS sh (b % sh) there).length:Int)<pl:=fun q=>c (.inr q)
      omega
    rw [if_neg (fun q=>c (q.imp hin.mp id)),if_pos ⟨c1,c2⟩]
    have lt:bestF row i (shelfS sh (b % sh) there)<(shelfS sh (b % sh) there).length:=by
      have:=best_le (fun i' j=>HT.lexLt (((shelfS sh (b % sh) there).map fun o=>[nxtF row i o,o]).getD j []) (((shelfS sh (b % sh) there).map fun o=>[nxtF row i o,o]).getD i' [])) ((shelfS sh (b % sh) there).length - 1)
      have e:bestF row i (shelfS sh (b % sh) there)≤(shelfS sh (b % sh) there).length - 1:=this
      omega
    rw [List.getElem?_eq_getElem lt]
    exact decide_eq_true (List.getElem_mem lt)
theorem ord_due {sh pl:Int} (hp:1≤pl) (row:List Int):∀ i,i≤row.length→∃ c,ordR sh pl row (dueF sh pl row) i=some ((runF sh pl row i).1,c)
  | 0,_=>⟨0,rfl⟩
  | i+1,h=>by
    obtain ⟨c,e⟩:=ord_due hp row i (by omega)
    have eo:(dueF sh pl row).getD i none=goneF sh pl row i (row.getD i 0) (runF sh pl row i).1:=by
      rw [List.getD_eq_getElem?_getD]
      unfold dueF
      rw [due_at (by omega:i<row.length)]
      rfl
    have hm:=due_may (sh:=sh) hp row i (row.getD i 0) (runF sh pl row i).1
    have r1:(runF sh pl row (i+1)).1=addF (row.getD i 0) (lessO (runF sh pl row i).1 (goneF sh pl row i (row.getD i 0) (runF sh pl row i).1)):=rfl
    have r2:ordR sh pl row (dueF sh pl row) (i+1)=ordS sh pl (row.getD i 0) (goneF sh pl row i (row.getD i 0) (runF sh pl row i).1) ((runF sh pl row i).1,c):=by
      show (ordR sh pl row (dueF sh pl row) i).bind _=_
      rw [e,eo]
      rfl
    rw [r1,r2]
    have hg:row.getD i 0∈(runF sh pl row i).1→goneF sh pl row i (row.getD i 0) (runF sh pl row i).1=none:=fun m=>by
      unfold goneF
      rw [if_neg (fun q=>q.1 m)]
    generalize goneF sh pl row i (row.getD i 0) (runF sh pl row i).1=o at *
    generalize row.getD i 0=b at *
    generalize (runF sh pl row i).1=there at *
    unfold ordS
    rw [if_pos hm]
    by_cases c2:b∈there
    · rw [if_pos c2,hg c2]
      refine ⟨c,?_⟩
      show some (there,c)=some (addF b there,c)
      unfold addF
      rw [if_pos c2]
    · rw [if_neg c2]
      refine ⟨c+1,?_⟩
      unfold addF
      rw [if_neg]
      cases o with
      | none=>exact c2
      | some g=>exact fun m=>c2 (List.mem_of_mem_erase m)
theorem due_fits {sh pl:Int} (hp:1≤pl) (row:List Int):∃ c:Nat,cntF sh pl row (dueF sh pl row)=some (c:Int)∧c≤row.length:=by
  obtain ⟨c,e⟩:=ord_due hp row row.length (Nat.le_refl _)
  refine ⟨c,?_,(ordR_len e).2⟩
  unfold cntF
  rw [if_pos (due_len sh pl row),e]
  rfl
def leastF (sh pl:Int) (row:List Int):Int:=(cntF sh pl row (dueF sh pl row)).getD 0
section
variable {P:Program} {w:World} {K:PySem.W.Frag} {mg:Str→Option Value} {base:Heap}
def spBy (K:PySem.W.Frag):Sp:=fun vs H Q _=>∃ (sh pl:Int) (a lo:Addr) (row:List Int) (os:List (Option Int)) (c:Int),vs=[.int sh,.int pl,.ref a,.ref lo]∧SqL K H a (row.map V.int)∧H lo=some (.lst (os.map optV))∧1≤sh∧sh≤64∧row.length≤400∧cntF sh pl row os=some c ∧
  ∀ H',Same H H'→Q (.int c) H'
theorem ok_misses_by {f:Addr} {fd:FuncData} (F:Fun K "misses_by" "misses_by" s_misses_by f fd) (T:Txt K mg) (D_count_misses:Def P w K mg base "count_misses" 3 P_count_misses (spCnt K)):FnOk P w K mg base CX0 4 f fd P_misses_by (spBy K):=by
  refine F.ok sc_misses_by (fun vs H Q E h=>?_) (fun cdv A outer st H vs Q E hr h=>?_)
  · obtain ⟨sh,pl,a,lo,row,os,c,rfl,_⟩:=h
    rfl
  obtain ⟨sh,pl,a,lo,row,os,c,rfl,hS,hO,hs0,hs1,hl,hc,k⟩:=h
  have nd:=sc_misses_by.nd
  refine ⟨_,(pss_cons (pst 4 nd (pe_defN D_count_misses hr.m rfl (pc (pv 0) (pc (pv 1) (pc (pv 2) (pc (pv 3) pa_nil))))))
      (pss_cons (ps_if (pt_cmp (pc_isN (pv 4))) (pss_one ps_no) pss_nil)
      (pss_one (ps_ret (pv 4))))),?_⟩
  refine ⟨_,rfl,_,rfl,_,rfl,_,rfl,sh,pl,a,lo,row,os,rfl,hS,hO,hs0,hs1,hl,fun H1 s1=>?_⟩
  rw [hc]
  exact ⟨_,rfl,_,rfl,ifF rfl ⟨_,rfl,k H1 s1⟩⟩
def spLeast (K:PySem.W.Frag):Sp:=fun vs H Q _=>∃ (sh pl:Int) (a:Addr) (row:List Int),vs=[.int sh,.int pl,.ref a]∧SqL K H a (row.map V.int)∧1≤sh∧sh≤64∧1≤pl∧pl≤16∧row.length≤400∧Bds 9999 row ∧
  ∀ H',Same H H'→Q (.int (leastF sh pl row)) H'
theorem ok_least_misses {f:Addr} {fd:FuncData} (F:Fun K "least_misses" "least_misses" s_least_misses f fd) (T:Txt K mg) (D_farthest:Def P w K mg base "farthest" 8 P_farthest (spDue K)) (D_misses_by:Def P w K mg base "misses_by" 4 P_misses_by (spBy K)):FnOk P w K mg base CX0 9 f fd P_least_misses (spLeast K):=by
  refine F.ok sc_least_misses (fun vs H Q E h=>?_) (fun cdv A outer st H vs Q E hr h=>?_)
  · obtain ⟨sh,pl,a,row,rfl,_⟩:=h
    rfl
  obtain ⟨sh,pl,a,row,rfl,hS,hs0,hs1,hp0,hp1,hl,bd,k⟩:=h
  have nd:=sc_least_misses.nd
  refine ⟨_,(pss_one (ps_ret (pe_defN D_misses_by hr.m rfl (pc (pv 0) (pc (pv 1) (pc (pv 2) (pc (pe_defN D_farthest hr.m rfl (pc (pv 0) (pc (pv 1) (pc (pv 2) pa_nil)))) pa_nil))))))),?_⟩
  obtain ⟨c,hc,_⟩:=due_fits (sh:=sh) hp0 row
  refine ⟨_,rfl,_,rfl,_,rfl,_,rfl,_,rfl,_,rfl,sh,pl,a,row,rfl,hS,hs0,hs1,hp0,hp1,hl,bd,fun lo H1 hlo s1 e1=>?_⟩
  refine ⟨sh,pl,a,lo,row,_,c,rfl,s1.seq hS,e1,hs0,hs1,hl,hc,fun H2 s2=>?_⟩
  have q:=k H2 (s1.trans s2)
  unfold leastF at q
  rw [hc] at q
  exact q
end
theorem nd_le:∀ {a b:List Int},a.Nodup→(∀ x∈a,x∈b)→a.length≤b.length
  | [],_,_,_=>Nat.zero_le _
  | x :: a,b,h,m=>by
    obtain ⟨h1,h2⟩:=List.nodup_cons.mp h
    have q:=nd_le (b:=b.erase x) h2 fun y hy=>(List.mem_erase_of_ne (fun z:y=x=>h1 (by rw [← z]; exact hy))).mpr (m y (List.mem_cons_of_mem _ hy))
    rw [List.length_erase_of_mem (m x List.mem_cons_self)] at q
    have:=List.length_pos_of_mem (m x List.mem_cons_self)
    rw [List.length_cons]
    omega
def cN (p:Int→Bool) (S:List Int):Nat:=(S.filter p).length
theorem cN_le {p q:Int→Bool} {A B:List Int} (nd:A.Nodup) (h:∀ x∈A,p x=true→x∈B∧q x=true):cN p A≤cN q B :=
  nd_le (nd.sublist List.filter_sublist) fun x hx=>let ⟨h1,h2⟩:=List.mem_filter.mp hx; List.mem_filter.mpr (h x h1 h2)
theorem cN_le1 {p q:Int→Bool} {A B:List Int} (b:Int) (nd:A.Nodup) (h:∀ x∈A,p x=true→x=b∨(x∈B∧q x=true)):cN p A≤cN q B+1:=by
  refine nd_le (b:=b :: B.filter q) (nd.sublist List.filter_sublist) fun x hx=>?_
  obtain ⟨h1,h2⟩:=List.mem_filter.mp hx
  rcases h x h1 h2 with rfl | h
  · exact List.mem_cons_self
  · exact List.mem_cons_of_mem _ (List.mem_filter.mpr h)
theorem cN_ge1 {p q:Int→Bool} {A B:List Int} {b:Int} (nd:A.Nodup) (hb:b∉A∨p b=false) (hB:b∈B∧q b=true) (h:∀ x∈A,p x=true→x∈B∧q x=true):cN p A+1≤cN q B:=by
  have nb:b∉A.filter p:=fun m=>by
    obtain ⟨m1,m2⟩:=List.mem_filter.mp m
    rcases hb with hb | hb
    · exact hb m1
    · rw [hb] at m2; cases m2
  have:=nd_le (a:=b :: A.filter p) (b:=B.filter q) (List.nodup_cons.mpr ⟨nb,nd.sublist List.filter_sublist⟩) fun x hx=>by
    rcases List.mem_cons.mp hx with rfl | hx
    · exact List.mem_filter.mpr hB
    · obtain ⟨h1,h2⟩:=List.mem_filter.mp hx
      exact List.mem_filter.mpr (h x h1 h2)
  rw [List.length_cons] at this
  exact this
theorem cN_split (p q:Int→Bool) (S:List Int):cN p S=cN (fun x=>p x && q x) S+cN (fun x=>p x && !q x) S:=by
  unfold cN
  induction S with
  | nil=>rfl
  | cons x S ih =>
    simp only [List.filter_cons]
    cases h1:p x <;> cases h2:q x <;> simp <;> omega
theorem cN_eq {p q:Int→Bool} {S:List Int} (h:∀ x∈S,p x=q x):cN p S=cN q S:=by
  unfold cN
  rw [List.filter_congr h]
structure Pol (sh pl:Int) (row:List Int) (O:Nat→List Int) (m:Nat→Nat):Prop where
  z:O 0=[]∧m 0=0
  nd:∀ i,i≤row.length→(O i).Nodup
  sz:∀ i,i≤row.length→∀ s,((shelfS sh s (O i)).length:Int)≤pl
  hit:∀ i,i<row.length→row.getD i 0∈O i→(∀ x∈O (i+1),x∈O i)∧m (i+1)=m i
  mis:∀ i,i<row.length→row.getD i 0∉O i→(∀ x∈O (i+1),x=row.getD i 0∨x∈O i)∧m (i+1)=m i+1
  now:∀ i,i<row.length→row.getD i 0∈O (i+1)
structure Far (sh pl:Int) (row:List Int) (F:Nat→List Int) (m:Nat→Nat):Prop where
  z:F 0=[]∧m 0=0
  nd:∀ i,i≤row.length→(F i).Nodup
  hit:∀ i,i<row.length→row.getD i 0∈F i→(∀ x∈F i,x∈F (i+1))∧m (i+1)=m i
  mis:∀ i,i<row.length→row.getD i 0∉F i→m (i+1)=m i+1∧row.getD i 0∈F (i+1)∧((∀ x∈F i,x∈F (i+1))∨∃ z∈F i,(∀ x∈F i,x≠z→x∈F (i+1))∧pl≤((shelfS sh (row.getD i 0 % sh) (F i)).length:Int)∧z % sh=row.getD i 0 % sh∧∀ x∈F i,x % sh=row.getD i 0 % sh→nxtF row i x≤nxtF row i z)
def nx (row:List Int) (i:Nat) (x:Int):Int:=nxtG x i (row.drop i)
theorem nx_eq {row:List Int} {i:Nat} (hi:i<row.length) (x:Int):nx row i x=if row.getD i 0=x then (i:Int) else nx row (i+1) x:=by
  have h:row[i]?=some (row.getD i 0):=by rw [List.getD_eq_getElem?_getD,List.getElem?_eq_getElem hi]; rfl
  exact nxtG_step h
theorem nx_ge {row:List Int} (hl:row.length≤1000000) (x:Int):∀ k i,i+k=row.length→(i:Int)≤nx row i x
  | 0,i,e=>by
    unfold nx
    rw [nxtG_end (by omega)]
    omega
  | k+1,i,e=>by
    rw [nx_eq (by omega)]
    have:=nx_ge hl x k (i+1) (by omega)
    split <;> omega
section
variable {sh pl pk:Int} {row:List Int} {O F:Nat→List Int} {m n:Nat→Nat}
def pT (sh:Int) (row:List Int) (i:Nat) (T:Int→Int) (x:Int):Bool:=decide (nx row i x≤T (x % sh))
theorem pT_at {i:Nat} {T:Int→Int} {x v:Int} (h:T (x % sh)=v):pT sh row i T x=decide (nx row i x≤v):=by unfold pT; rw [h]
theorem and2 {a b:Bool} (h:(a && b)=true):a=true∧b=true:=by simpa using h
theorem opt_step {i:Nat} (hl:row.length≤1000000) (hi:i<row.length) (hk:pk≤pl) (o:Pol sh pk row O m) (f:Far sh pl row F n)
    (J:∀ T:Int→Int,(cN (pT sh row i T) (O i):Int) - cN (pT sh row i T) (F i)≤(m i:Int) - n i) (T:Int→Int):(cN (pT sh row (i+1) T) (O (i+1)):Int) - cN (pT sh row (i+1) T) (F (i+1))≤(m (i+1):Int) - n (i+1):=by
  have ob:=o.now i hi
  have ndO:=o.nd i (by omega)
  have ndO':=o.nd (i+1) (by omega)
  have ndF:=f.nd i (by omega)
  have ndF':=f.nd (i+1) (by omega)
  have szO:=o.sz (i+1) (by omega) (row.getD i 0 % sh)
  have hO:∀ x∈O (i+1),x=row.getD i 0∨x∈O i:=fun x hx=>by
    by_cases c:row.getD i 0∈O i
    · exact .inr ((o.hit i hi c).1 x hx)
    · exact (o.mis i hi c).1 x hx
  have fb:row.getD i 0∈F (i+1):=by
    by_cases c:row.getD i 0∈F i
    · exact (f.hit i hi c).1 _ c
    · exact (f.mis i hi c).2.1
  have dm:(m (i+1):Int)=m i+(if row.getD i 0∈O i then 0 else 1):=by
    by_cases c:row.getD i 0∈O i
    · rw [if_pos c,(o.hit i hi c).2]; omega
    · rw [if_neg c,(o.mis i hi c).2]; omega
  have dn:(n (i+1):Int)=n i+(if row.getD i 0∈F i then 0 else 1):=by
    by_cases c:row.getD i 0∈F i
    · rw [if_pos c,(f.hit i hi c).2]; omega
    · rw [if_neg c,(f.mis i hi c).1]; omega
  have nb:nx row i (row.getD i 0)=i:=by rw [nx_eq hi,if_pos rfl]
  have no:∀ x,x≠row.getD i 0→nx row i x=nx row (i+1) x:=fun x hx=>by rw [nx_eq hi,if_neg (Ne.symm hx)]
  have ng:∀ x,(i:Int)+1≤nx row (i+1) x:=fun x=>by have:=nx_ge hl x (row.length - (i+1)) (i+1) (by omega); omega
  have fm:=f.mis i hi
  have fh:=f.hit i hi
  have hnx:∀ x,nxtF row i x=nx row (i+1) x:=fun x=>rfl
  generalize row.getD i 0=b at *
  have J1:=J fun s=>if s=b % sh then (i:Int) else T s
  have eo:∀ S:List Int,S.Nodup→(cN (pT sh row i fun s=>if s=b % sh then (i:Int) else T s) S:Int)=cN (fun x=>pT sh row (i+1) T x && !decide (x % sh=b % sh)) S+(if b∈S then 1 else 0):=fun S nd=>by
    have e1:=cN_split (pT sh row i fun s=>if s=b % sh then (i:Int) else T s) (fun x=>decide (x % sh=b % sh)) S
    have e2:cN (fun x=>pT sh row i (fun s=>if s=b % sh then (i:Int) else T s) x && !decide (x % sh=b % sh)) S=cN (fun x=>pT sh row (i+1) T x && !decide (x % sh=b % sh)) S:=cN_eq fun x _=>by
      by_cases c:x % sh=b % sh
      · rw [decide_eq_true c]; simp
      · rw [decide_eq_false c]
        rw [pT_at (T:=fun s=>if s=b % sh then (i:Int) else T s) (v:=T (x % sh)) (if_neg c),no x (fun z=>c (by rw [z]))]; rfl
    have e3:cN (fun x=>pT sh row i (fun s=>if s=b % sh then (i:Int) else T s) x && decide (x % sh=b % sh)) S=cN (fun x=>decide (x=b)) S:=cN_eq fun x _=>by
      by_cases c:x=b
      · subst c
        rw [pT_at (T:=fun s=>if s=x % sh then (i:Int) else T s) (v:=(i:Int)) (if_pos rfl),nb]; simp
      · rw [decide_eq_false c]
        by_cases d:x % sh=b % sh
        · rw [pT_at (T:=fun s=>if s=b % sh then (i:Int) else T s) (v:=(i:Int)) (if_pos d),no x c]
          have:=ng x
          rw [decide_eq_false (by omega)]; rfl
        · rw [decide_eq_false d,Bool.and_false]
    have e4:cN (fun x=>decide (x=b)) S=if b∈S then 1 else 0:=by
      by_cases c:b∈S
      · rw [if_pos c]
        have h1:cN (fun x=>decide (x=b)) S≤1:=nd_le (b:=[b]) (nd.sublist List.filter_sublist) fun x hx=>by
          have:=(List.mem_filter.mp hx).2
          exact List.mem_singleton.mpr (of_decide_eq_true this)
        have h2:0<cN (fun x=>decide (x=b)) S:=List.length_pos_of_mem (List.mem_filter.mpr ⟨c,decide_eq_true rfl⟩)
        omega
      · rw [if_neg c]
        unfold cN
        rw [List.filter_eq_nil_iff.mpr fun x hx z=>c (by rw [← of_decide_eq_true z]; exact hx)]; rfl
    rw [e1,e2,e3,e4]
    split <;> omega
  rw [eo _ ndO,eo _ ndF] at J1
  have s1:=cN_split (pT sh row (i+1) T) (fun x=>decide (x % sh=b % sh)) (O (i+1))
  have s2:=cN_split (pT sh row (i+1) T) (fun x=>decide (x % sh=b % sh)) (F (i+1))
  have oO:cN (fun x=>pT sh row (i+1) T x && !decide (x % sh=b % sh)) (O (i+1))≤cN (fun x=>pT sh row (i+1) T x && !decide (x % sh=b % sh)) (O i):=cN_le ndO' fun x hx hp=>by
    refine ⟨(hO x hx).resolve_left fun z=>?_,hp⟩
    rw [z] at hp
    simp at hp
  have oF:(∀ x∈F i,x % sh≠b % sh→x∈F (i+1))→cN (fun x=>pT sh row (i+1) T x && !decide (x % sh=b % sh)) (F i)≤cN (fun x=>pT sh row (i+1) T x && !decide (x % sh=b % sh)) (F (i+1)):=fun h=>cN_le ndF fun x hx hp=>by
    refine ⟨h x hx ?_,hp⟩
    intro z
    rw [decide_eq_true z] at hp
    simp at hp
  have shO:cN (fun x=>pT sh row (i+1) T x && decide (x % sh=b % sh)) (O (i+1))+(if pT sh row (i+1) T b=true then 0 else 1)≤(shelfS sh (b % sh) (O (i+1))).length:=by
    have e:(shelfS sh (b % sh) (O (i+1))).length=cN (fun x=>decide (x % sh=b % sh)) (O (i+1)):=rfl
    rw [e]
    by_cases c:pT sh row (i+1) T b=true
    · rw [if_pos c]
      exact cN_le ndO' fun x hx hp=>⟨hx,(and2 hp).2⟩
    · rw [if_neg c]
      refine cN_ge1 (b:=b) ndO' (.inr (by simp at c; simp [c])) ⟨ob,by simp⟩ fun x hx hp=>⟨hx,(and2 hp).2⟩
  by_cases hA:∃ z∈F i,b∉F i∧(∀ x∈F i,x≠z→x∈F (i+1))∧pl≤((shelfS sh (b % sh) (F i)).length:Int)∧z % sh=b % sh∧(∀ x∈F i,x % sh=b % sh→nxtF row i x≤nxtF row i z)∧pT sh row (i+1) T z=true
  · obtain ⟨z,hz,hbF,hst,hfull,hzs,hfar,hpz⟩:=hA
    have oF':=oF fun x hx hne=>hst x hx fun e=>hne (by rw [e,hzs])
    have shF:(shelfS sh (b % sh) (F i)).length≤cN (fun x=>pT sh row (i+1) T x && decide (x % sh=b % sh)) (F (i+1))+(if pT sh row (i+1) T b=true then 0 else 1):=by
      have e:(shelfS sh (b % sh) (F i)).length=cN (fun x=>decide (x % sh=b % sh)) (F i):=rfl
      have all:∀ x∈F i,x % sh=b % sh→pT sh row (i+1) T x=true:=fun x hx hs=>by
        have h1:=hfar x hx hs
        rw [hnx,hnx] at h1
        have h2:=of_decide_eq_true hpz
        refine decide_eq_true ?_
        rw [hs]
        rw [hzs] at h2
        omega
      rw [e]
      by_cases c:pT sh row (i+1) T b=true
      · rw [if_pos c]
        have h1:cN (fun x=>decide (x % sh=b % sh) && decide (x≠z)) (F i)+1≤cN (fun x=>pT sh row (i+1) T x && decide (x % sh=b % sh)) (F (i+1)):=by
          refine cN_ge1 (b:=b) ndF (.inl hbF) ⟨fb,by simp [c]⟩ fun x hx hp=>?_
          have hp':=and2 hp
          have p1:=of_decide_eq_true hp'.1
          exact ⟨hst x hx (of_decide_eq_true hp'.2),by rw [all x hx p1,decide_eq_true p1]; rfl⟩
        have h2:cN (fun x=>decide (x % sh=b % sh)) (F i)≤cN (fun x=>decide (x % sh=b % sh) && decide (x≠z)) (F i)+1:=cN_le1 z ndF fun x hx hp=>by
          by_cases d:x=z
          · exact .inl d
          · exact .inr ⟨hx,by rw [hp,decide_eq_true d]; rfl⟩
        omega
      · rw [if_neg c]
        refine cN_le1 z ndF fun x hx hp=>?_
        by_cases d:x=z
        · exact .inl d
        · have p1:=of_decide_eq_true hp
          exact .inr ⟨hst x hx d,by rw [all x hx p1,decide_eq_true p1]; rfl⟩
    rw [if_neg hbF] at J1 dn
    generalize cN (fun x=>pT sh row (i+1) T x && !decide (x % sh=b % sh)) (O i)=a1 at *
    generalize cN (fun x=>pT sh row (i+1) T x && !decide (x % sh=b % sh)) (F i)=a2 at *
    split at dm <;> simp only [*,if_true,if_false] at J1 <;> omega
  · -- all else stays
    have JT:=J T
    have stay:∀ x∈F i,pT sh row (i+1) T x=true→x∈F (i+1):=fun x hx hp=>by
      by_cases c:b∈F i
      · exact (fh c).1 x hx
      · obtain ⟨_,_,h | ⟨z,hz,h1,h2,h3,h4⟩⟩:=fm c
        · exact h x hx
        · by_cases d:x=z
          · exact absurd ⟨z,hz,c,h1,h2,h3,h4,d ▸ hp⟩ hA
          · exact h1 x hx d
    have same:∀ x,x≠b→pT sh row i T x=pT sh row (i+1) T x:=fun x hx=>by unfold pT; rw [no x hx]
    by_cases pb:(i:Int)≤T (b % sh)
    · have pb':pT sh row i T b=true:=by unfold pT; rw [nb]; exact decide_eq_true pb
      have wO:=cN_split (pT sh row i T) (fun x=>decide (x=b)) (O i)
      have wF:=cN_split (pT sh row i T) (fun x=>decide (x=b)) (F i)
      have one:∀ S:List Int,S.Nodup→cN (fun x=>pT sh row i T x && decide (x=b)) S=if b∈S then 1 else 0:=fun S nd=>by
        by_cases c:b∈S
        · rw [if_pos c]
          have h1:cN (fun x=>pT sh row i T x && decide (x=b)) S≤1:=nd_le (b:=[b]) (nd.sublist List.filter_sublist) fun x hx=>by
            have:=(and2 (List.mem_filter.mp hx).2).2
            exact List.mem_singleton.mpr (of_decide_eq_true this)
          have h2:0<cN (fun x=>pT sh row i T x && decide (x=b)) S:=List.length_pos_of_mem (List.mem_filter.mpr ⟨c,by rw [pb']; simp⟩)
          omega
        · rw [if_neg c]
          unfold cN
          rw [List.filter_eq_nil_iff.mpr fun x hx z=>c (by rw [← of_decide_eq_true (and2 z).2]; exact hx)]; rfl
      rw [one _ ndO] at wO
      rw [one _ ndF] at wF
      have gO:cN (pT sh row (i+1) T) (O (i+1))≤cN (fun x=>pT sh row i T x && !decide (x=b)) (O i)+(if pT sh row (i+1) T b=true then 1 else 0):=by
        by_cases c:pT sh row (i+1) T b=true
        · rw [if_pos c]
          refine cN_le1 b ndO' fun x hx hp=>?_
          by_cases d:x=b
          · exact .inl d
          · exact .inr ⟨(hO x hx).resolve_left d,by rw [same x d,hp,decide_eq_false d]; rfl⟩
        · rw [if_neg c]
          refine cN_le ndO' fun x hx hp=>?_
          have d:x≠b:=fun z=>c (z ▸ hp)
          exact ⟨(hO x hx).resolve_left d,by rw [same x d,hp,decide_eq_false d]; rfl⟩
      have gF:cN (fun x=>pT sh row i T x && !decide (x=b)) (F i)+(if pT sh row (i+1) T b=true then 1 else 0)≤cN (pT sh row (i+1) T) (F (i+1)):=by
        have st:∀ x∈F i,(pT sh row i T x && !decide (x=b))=true→x∈F (i+1)∧pT sh row (i+1) T x=true:=fun x hx hp=>by
          have hp':=and2 hp
          have d:x≠b:=by simpa using hp'.2
          have q:=(same x d) ▸ hp'.1
          exact ⟨stay x hx q,q⟩
        by_cases c:pT sh row (i+1) T b=true
        · rw [if_pos c]
          exact cN_ge1 (b:=b) ndF (.inr (by simp)) ⟨fb,c⟩ st
        · rw [if_neg c]
          exact cN_le ndF st
      generalize (if pT sh row (i+1) T b=true then 1 else 0)=e at gO gF
      generalize cN (fun x=>pT sh row i T x && !decide (x=b)) (O i)=a1 at *
      generalize cN (fun x=>pT sh row i T x && !decide (x=b)) (F i)=a2 at *
      clear J1 eo s1 s2 oO oF shO hA
      by_cases c1:b∈O i <;> by_cases c2:b∈F i <;> simp only [c1,c2,if_true,if_false] at wO wF dm dn <;> omega
    · have z1:pT sh row (i+1) T b=false:=by
        unfold pT
        have:=ng b
        exact decide_eq_false (by omega)
      have gO:cN (pT sh row (i+1) T) (O (i+1))≤cN (fun x=>pT sh row (i+1) T x && !decide (x % sh=b % sh)) (O i):=cN_le ndO' fun x hx hp=>by
        have q:x % sh≠b % sh:=fun z=>by
          have h1:=of_decide_eq_true hp
          have h2:=ng x
          rw [z] at h1
          omega
        exact ⟨(hO x hx).resolve_left fun z=>q (by rw [z]),by rw [hp,decide_eq_false q]; rfl⟩
      have gF:cN (fun x=>pT sh row (i+1) T x && !decide (x % sh=b % sh)) (F i)≤cN (pT sh row (i+1) T) (F (i+1)):=cN_le ndF fun x hx hp=>by
        have q:=(and2 hp).1
        exact ⟨stay x hx q,q⟩
      generalize cN (fun x=>pT sh row (i+1) T x && !decide (x % sh=b % sh)) (O i)=a1 at *
      generalize cN (fun x=>pT sh row (i+1) T x && !decide (x % sh=b % sh)) (F i)=a2 at *
      clear eo s1 s2 oO oF shO hA JT
      by_cases c1:b∈O i <;> by_cases c2:b∈F i <;> simp only [c1,c2,if_true,if_false] at J1 dm dn <;> omega
theorem opt_all (hl:row.length≤1000000) (hk:pk≤pl) (o:Pol sh pk row O m) (f:Far sh pl row F n):n row.length≤m row.length:=by
  have J:∀ i,i≤row.length→∀ T:Int→Int,(cN (pT sh row i T) (O i):Int) - cN (pT sh row i T) (F i)≤(m i:Int) - n i:=by
    intro i
    induction i with
    | zero =>
      intro _ T
      rw [o.z.1,f.z.1,o.z.2,f.z.2]
      exact Int.le_refl _
    | succ i ih=>exact fun h T=>opt_step hl (by omega) hk o f (ih (by omega)) T
  have h:=J row.length (Nat.le_refl _) fun _ => -1
  have e:∀ S:List Int,cN (pT sh row row.length fun _ => -1) S=0:=fun S=>by
    unfold cN
    rw [List.filter_eq_nil_iff.mpr fun x _ z=>?_]; rfl
    have h1:nx row row.length x ≤ -1:=of_decide_eq_true z
    have h2:=nx_ge hl x 0 row.length rfl
    omega
  rw [e,e] at h
  omega
end
theorem best_max (f:Nat→List Int):∀ k,argBest (fun i j=>HT.lexLt (f j) (f i)) k≤k∧∀ j,j≤k→HT.lexLt (f (argBest (fun i j=>HT.lexLt (f j) (f i)) k)) (f j)=false
  | 0=>⟨Nat.le_refl _,fun j hj=>by
      have:j=0:=by omega
      subst this; exact lex_irr _⟩
  | k+1=>by
    obtain ⟨h1,h2⟩:=best_max f k
    unfold argBest
    by_cases c:HT.lexLt (f (argBest (fun i j=>HT.lexLt (f j) (f i)) k)) (f (k+1))=true
    · rw [if_pos c]
      refine ⟨Nat.le_refl _,fun j hj=>?_⟩
      by_cases e:j=k+1
      · subst e; exact lex_irr _
      · cases q:HT.lexLt (f (k+1)) (f j) with
        | false=>rfl
        | true =>
          have:=lex_trans c q
          rw [h2 j (by omega)] at this; cases this
    · rw [if_neg c]
      refine ⟨by omega,fun j hj=>?_⟩
      by_cases e:j=k+1
      · subst e; simpa using c
      · exact h2 j (by omega)
theorem far_best {row:List Int} {p:Nat} {S:List Int} (h:S≠[]):∃ z,S[bestF row p S]?=some z∧z∈S∧∀ x∈S,nxtF row p x≤nxtF row p z:=by
  have pos:0<S.length:=List.length_pos_iff.mpr h
  obtain ⟨h1,h2⟩:=best_max (fun i=>(S.map fun o=>[nxtF row p o,o]).getD i []) (S.length - 1)
  have e:argBest (fun i j=>HT.lexLt ((S.map fun o=>[nxtF row p o,o]).getD j []) ((S.map fun o=>[nxtF row p o,o]).getD i [])) (S.length - 1)=bestF row p S:=rfl
  rw [e] at h1 h2
  have hlt:bestF row p S<S.length:=by omega
  have at':∀ i (h:i<S.length),(S.map fun o=>[nxtF row p o,o]).getD i []=[nxtF row p S[i],S[i]]:=fun i h=>by
    rw [List.getD_eq_getElem?_getD,List.getElem?_map,List.getElem?_eq_getElem h]; rfl
  refine ⟨S[bestF row p S],List.getElem?_eq_getElem hlt,List.getElem_mem hlt,fun x hx=>?_⟩
  obtain ⟨j,hj,rfl⟩:=List.getElem_of_mem hx
  have q:=h2 j (by omega)
  rw [at' j hj,at' _ hlt,HT.lexLt_cons] at q
  by_cases c:nxtF row p S[bestF row p S]=nxtF row p S[j]
  · omega
  · rw [if_neg c] at q
    have:=of_decide_eq_false q
    omega
section
variable {sh pl:Int} {row:List Int} {os:List (Option Int)}
def oS (sh pl:Int) (row:List Int) (os:List (Option Int)) (i:Nat):List Int×Nat:=(ordR sh pl row os i).getD ([],0)
theorem ord_up {i:Nat} {S:List Int×Nat} (h:ordR sh pl row os (i+1)=some S):ordR sh pl row os i=some (oS sh pl row os i)∧ordS sh pl (row.getD i 0) (os.getD i none) (oS sh pl row os i)=some S:=by
  have h':(ordR sh pl row os i).bind (ordS sh pl (row.getD i 0) (os.getD i none))=some S:=h
  unfold oS
  cases e:ordR sh pl row os i with
  | none=>rw [e] at h'; cases h'
  | some U=>rw [e] at h'; exact ⟨rfl,h'⟩
theorem ord_all {n:Nat} {S:List Int×Nat} (h:ordR sh pl row os n=some S):∀ i,i≤n→ordR sh pl row os i=some (oS sh pl row os i):=by
  induction n generalizing S with
  | zero =>
    intro i hi
    have:i=0:=by omega
    subst this
    rfl
  | succ n ih =>
    intro i hi
    by_cases c:i=n+1
    · subst c; unfold oS; rw [h]; rfl
    · exact ih (ord_up h).1 i (by omega)
theorem ord_step {n i:Nat} {S:List Int×Nat} (h:ordR sh pl row os n=some S) (hi:i<n):mayB pl (shelfS sh (row.getD i 0 % sh) (oS sh pl row os i).1) (row.getD i 0) (os.getD i none)=true∧(row.getD i 0∈(oS sh pl row os i).1→oS sh pl row os (i+1)=oS sh pl row os i)∧(row.getD i 0∉(oS sh pl row os i).1→oS sh pl row os (i+1)=(lessO (oS sh pl row os i).1 (os.getD i none)++[row.getD i 0],(oS sh pl row os i).2+1)):=by
  have q:=(ord_up (ord_all h (i+1) (by omega))).2
  unfold ordS at q
  split at q
  case isFalse=>cases q
  case isTrue c =>
    refine ⟨c,fun hb=>?_,fun hb=>?_⟩
    · rw [if_pos hb] at q; exact (Option.some.inj q).symm
    · rw [if_neg hb] at q; exact (Option.some.inj q).symm
theorem in_less {l:List Int} {o:Option Int} {x:Int} (h:x∈lessO l o):x∈l:=by
  cases o with
  | none=>exact h
  | some g=>exact List.mem_of_mem_erase h
theorem ord_pol (hp:1≤pl) {S:List Int×Nat} (h:ordR sh pl row os row.length=some S):Pol sh pl row (fun i=>(oS sh pl row os i).1) fun i=>(oS sh pl row os i).2:=by
  have inv:∀ i,i≤row.length→(oS sh pl row os i).1.Nodup∧∀ s,((shelfS sh s (oS sh pl row os i).1).length:Int)≤pl:=by
    intro i
    induction i with
    | zero=>exact fun _=>⟨List.nodup_nil,fun s=>by show ((0:Nat):Int)≤pl; omega⟩
    | succ i ih =>
      intro hi
      obtain ⟨n1,z1⟩:=ih (by omega)
      obtain ⟨hm,hh,hn⟩:=ord_step h (by omega:i<row.length)
      by_cases c:row.getD i 0∈(oS sh pl row os i).1
      · rw [hh c]; exact ⟨n1,z1⟩
      · rw [hn c]
        have cb:row.getD i 0∉shelfS sh (row.getD i 0 % sh) (oS sh pl row os i).1:=fun m=>c (mem_shelfS.mp m).1
        refine ⟨?_,fun s=>?_⟩
        · show (lessO _ _++[_]).Nodup
          rw [List.nodup_append]
          exact ⟨n1.sublist less_sub,by simp,fun x hx y hy e=>c (by rw [List.mem_singleton.mp hy] at e; rw [← e]; exact in_less hx)⟩
        · show ((shelfS sh s (lessO _ _++[_])).length:Int)≤pl
          rw [shelfS_app]
          have zs:=z1 s
          unfold mayB at hm
          cases eo:os.getD i none with
          | none =>
            rw [eo] at hm
            show ((if _ then shelfS sh s (oS sh pl row os i).1++[_] else shelfS sh s (oS sh pl row os i).1).length:Int)≤pl
            split
            · rename_i e
              rw [List.length_append,List.length_singleton]
              split at hm
              case isFalse=>cases hm
              case isTrue q =>
                rcases q with q | q
                · exact absurd q cb
                · rw [e] at q; omega
            · exact zs
          | some g =>
            rw [eo] at hm
            show ((if _ then shelfS sh s ((oS sh pl row os i).1.erase g)++[_] else shelfS sh s ((oS sh pl row os i).1.erase g)).length:Int)≤pl
            rw [shelfS_erase]
            split at hm
            case isTrue=>cases hm
            case isFalse q =>
              have mg:=of_decide_eq_true hm
              split
              · rename_i e
                rw [e] at mg
                rw [List.length_append,List.length_singleton,List.length_erase_of_mem mg]
                have:=List.length_pos_of_mem mg
                omega
              · have:=List.length_erase_le (a:=g) (l:=shelfS sh s (oS sh pl row os i).1)
                omega
  refine ⟨⟨rfl,rfl⟩,fun i hi=>(inv i hi).1,fun i hi=>(inv i hi).2,fun i hi hb=>?_,fun i hi hb=>?_,fun i hi=>?_⟩
  · obtain ⟨_,hh,_⟩:=ord_step h hi
    try dsimp only
    rw [hh hb]
    exact ⟨fun x hx=>hx,rfl⟩
  · obtain ⟨_,_,hn⟩:=ord_step h hi
    try dsimp only
    rw [hn hb]
    refine ⟨fun x hx=>?_,rfl⟩
    rcases List.mem_append.mp hx with hx | hx
    · exact .inr (in_less hx)
    · exact .inl (List.mem_singleton.mp hx)
  · obtain ⟨_,hh,hn⟩:=ord_step h hi
    try dsimp only
    by_cases c:row.getD i 0∈(oS sh pl row os i).1
    · rw [hh c]; exact c
    · rw [hn c]; exact List.mem_append_right _ (List.mem_singleton.mpr rfl)
theorem due_st (hp:1≤pl) {i:Nat} (hi:i≤row.length):(oS sh pl row (dueF sh pl row) i).1=(runF sh pl row i).1:=by
  obtain ⟨c,e⟩:=ord_due (sh:=sh) hp row i hi
  unfold oS
  rw [e]; rfl
theorem due_far (hp:1≤pl):Far sh pl row (fun i=>(oS sh pl row (dueF sh pl row) i).1) fun i=>(oS sh pl row (dueF sh pl row) i).2:=by
  obtain ⟨c,e⟩:=ord_due (sh:=sh) hp row row.length (Nat.le_refl _)
  have P:=ord_pol hp e
  refine ⟨P.z,P.nd,fun i hi hb=>?_,fun i hi hb=>?_⟩
  · obtain ⟨_,hh,_⟩:=ord_step e hi
    try dsimp only
    rw [hh hb]
    exact ⟨fun x hx=>hx,rfl⟩
  · obtain ⟨_,_,hn⟩:=ord_step e hi
    try dsimp only at hb ⊢
    rw [hn hb]
    refine ⟨rfl,List.mem_append_right _ (List.mem_singleton.mpr rfl),?_⟩
    have eo:(dueF sh pl row).getD i none=goneF sh pl row i (row.getD i 0) (runF sh pl row i).1:=by
      rw [List.getD_eq_getElem?_getD]
      unfold dueF
      rw [due_at (by omega:i<row.length)]
      rfl
    rw [eo]
    rw [due_st hp (by omega)] at hb ⊢
    generalize row.getD i 0=b at *
    generalize (runF sh pl row i).1=there at *
    unfold goneF
    by_cases c:b∉there∧pl≤((shelfF sh b there).length:Int)
    · rw [if_pos c]
      have ne:shelfF sh b there≠[]:=fun z=>by
        have h2:=c.2
        rw [z] at h2
        have h3:pl≤((0:Nat):Int):=h2
        omega
      obtain ⟨z,hz,zm,zf⟩:=far_best (row:=row) (p:=i) ne
      rw [hz]
      right
      have h2:=c.2
      rw [shelfF_S] at zm zf h2
      refine ⟨z,(mem_shelfS.mp zm).1,fun x hx hne=>List.mem_append_left _ ((List.mem_erase_of_ne hne).mpr hx),h2,(mem_shelfS.mp zm).2,fun x hx hs=>zf x (mem_shelfS.mpr ⟨hx,hs⟩)⟩
    · rw [if_neg c]
      exact .inl fun x hx=>List.mem_append_left _ hx
theorem least_eq (hp:1≤pl):leastF sh pl row=(oS sh pl row (dueF sh pl row) row.length).2:=by
  obtain ⟨c,e⟩:=ord_due (sh:=sh) hp row row.length (Nat.le_refl _)
  unfold leastF cntF oS
  rw [if_pos (due_len sh pl row),e]
  rfl
theorem least_le {pk:Int} {O:Nat→List Int} {m:Nat→Nat} (hl:row.length≤1000000) (hp:1≤pl) (hk:pk≤pl) (o:Pol sh pk row O m):leastF sh pl row≤m row.length:=by
  rw [least_eq hp]
  exact Int.ofNat_le.mpr (opt_all hl hk o (due_far hp))
theorem least_mono {pk:Int} (hl:row.length≤1000000) (h1:1≤pk) (hk:pk≤pl):leastF sh pl row≤leastF sh pk row:=by
  obtain ⟨c,e⟩:=ord_due (sh:=sh) h1 row row.length (Nat.le_refl _)
  have:=least_le hl (by omega) hk (ord_pol h1 e)
  rw [least_eq h1]
  exact this
end
theorem run_get (sh pl:Int) (ru:Str) (row:List Int):∀ (n i:Nat),i<n→(runR sh pl ru row n).2[i]?=some (stepR sh pl ru i (row.getD i 0) (runR sh pl ru row i).1).2
  | 0,i,h=>absurd h (Nat.not_lt_zero _)
  | n+1,i,h=>by
    have l:=(run_ok sh pl ru row n).2.2
    show ((runR sh pl ru row n).2++[_])[i]?=_
    by_cases c:i<n
    · rw [List.getElem?_append_left (by omega)]
      exact run_get sh pl ru row n i c
    · have e:i=n:=by omega
      subst e
      rw [List.getElem?_append_right (by omega),l,Nat.sub_self]; rfl
def ruO (sh pl:Int) (ru:Str) (row:List Int):List (Option Int):=(rowF sh pl ru row).map fun f=>f.2
theorem shelf_len {sh:Int} {S:List Rec} {T:List Int} (u:Uq S) (nd:T.Nodup) (h:∀ x,x∈T↔x∈bds S) (b:Int):((shelfS sh (b % sh) T).length=(onShelf sh b S).length)∧∀ r∈onShelf sh b S,r.b∈shelfS sh (b % sh) T:=by
  have mem:∀ x,x∈shelfS sh (b % sh) T↔x∈(onShelf sh b S).map (·.b):=fun x=>by
    rw [mem_shelfS,h x,List.mem_map]
    constructor
    · rintro ⟨h1,h2⟩
      obtain ⟨r,hr,e⟩:=List.mem_map.mp h1
      refine ⟨r,List.mem_filter.mpr ⟨hr,?_⟩,e⟩
      rw [← e] at h2
      simp [h2]
    · rintro ⟨r,hr,e⟩
      obtain ⟨h1,h2⟩:=List.mem_filter.mp hr
      refine ⟨List.mem_map.mpr ⟨r,h1,e⟩,?_⟩
      rw [← e]
      simpa using h2
  have nd1:(shelfS sh (b % sh) T).Nodup:=nd.sublist List.filter_sublist
  have nd2:((onShelf sh b S).map (·.b)).Nodup:=List.Nodup.sublist (List.Sublist.map _ List.filter_sublist) u
  refine ⟨?_,fun r hr=>(mem _).mpr (List.mem_map_of_mem hr)⟩
  rw [len_of_mem nd1 nd2 mem,List.length_map]
theorem ru_fits (sh pl:Int) (ru:Str) (row:List Int) (hpl:1≤pl):∀ i,i≤row.length→∃ T:List Int×Nat,ordR sh pl row (ruO sh pl ru row) i=some T∧T.1.Nodup∧(∀ x,x∈T.1↔x∈bds (runR sh pl ru row i).1)∧T.2=(runR sh pl ru row i).2.countP fun f=>!f.1
  | 0,_=>⟨([],0),rfl,List.nodup_nil,fun x=>by simp [runR,bds],rfl⟩
  | i+1,hi=>by
    obtain ⟨T,h1,h2,h3,h4⟩:=ru_fits sh pl ru row hpl i (by omega)
    have u:=(run_ok sh pl ru row i).1
    have eg:(ruO sh pl ru row).getD i none=(stepR sh pl ru i (row.getD i 0) (runR sh pl ru row i).1).2.2:=by
      unfold ruO rowF
      rw [List.getD_eq_getElem?_getD,List.getElem?_map,run_get sh pl ru row row.length i (by omega)]; rfl
    obtain ⟨sl,sm⟩:=shelf_len (sh:=sh) u h2 h3 (row.getD i 0)
    have e:ordR sh pl row (ruO sh pl ru row) (i+1)=ordS sh pl (row.getD i 0) (stepR sh pl ru i (row.getD i 0) (runR sh pl ru row i).1).2.2 T:=by
      show (ordR sh pl row (ruO sh pl ru row) i).bind _=_
      rw [h1,eg]; rfl
    rw [e]
    have ec:(runR sh pl ru row (i+1)).2.countP (fun f=>!f.1)=T.2+(if (!(stepR sh pl ru i (row.getD i 0) (runR sh pl ru row i).1).2.1)=true then 1 else 0):=by
      show ((runR sh pl ru row i).2++[_]).countP _=_
      rw [List.countP_append,h4,List.countP_cons,List.countP_nil,Nat.zero_add]
    have eb:(runR sh pl ru row (i+1)).1=(stepR sh pl ru i (row.getD i 0) (runR sh pl ru row i).1).1:=rfl
    rw [ec,eb]
    generalize row.getD i 0=b at *
    generalize (runR sh pl ru row i).1=S at *
    have nb:∀ x:Int,b∈shelfS sh (b % sh) T.1↔b∈T.1:=fun _=>by rw [mem_shelfS]; exact ⟨fun z=>z.1,fun z=>⟨z,rfl⟩⟩
    unfold stepR ordS
    cases er:recOf S b with
    | some r =>
      obtain ⟨r1,r2⟩:=recOf_some er
      have hb:b∈T.1:=(h3 b).mpr (r2 ▸ List.mem_map_of_mem r1)
      have hm:mayB pl (shelfS sh (b % sh) T.1) b none=true:=by unfold mayB; rw [if_pos (.inl ((nb 0).mpr hb))]; rfl
      refine ⟨T,by rw [if_pos hm,if_pos hb],h2,fun x=>?_,by simp⟩
      rw [bds_put,h3 x]
      exact ⟨.inr,fun z=>z.elim (fun z=>(h3 x).mp (z ▸ hb)) id⟩
    | none =>
      have hb:b∉T.1:=fun z=>recOf_none.mp er ((h3 b).mp z)
      have hm:mayB pl (shelfS sh (b % sh) T.1) b (goesF sh pl ru S b)=true∧∀ g,goesF sh pl ru S b=some g→g∈T.1:=by
        by_cases c:((onShelf sh b S).length:Int)<pl
        · have eg:goesF sh pl ru S b=none:=by unfold goesF; rw [if_pos c]
          rw [eg]
          exact ⟨by unfold mayB; rw [if_pos (.inr (by rw [sl]; exact c))]; rfl,fun _ z=>by cases z⟩
        · obtain ⟨r,hr,eg,_⟩:=goes_least (ru:=ru) hpl c
          rw [eg]
          refine ⟨?_,fun g z=>by cases z; exact (mem_shelfS.mp (sm r hr)).1⟩
          unfold mayB
          rw [if_neg (fun z=>z.elim (fun z=>hb ((nb 0).mp z)) (by rw [sl]; exact c))]
          exact decide_eq_true (sm r hr)
      refine ⟨(lessO T.1 (goesF sh pl ru S b)++[b],T.2+1),by rw [if_pos hm.1,if_neg hb],?_,fun x=>?_,by simp⟩
      · rw [List.nodup_append]
        exact ⟨h2.sublist less_sub,by simp,fun x hx y hy z=>hb (by rw [List.mem_singleton.mp hy] at z; rw [← z]; exact less_sub.subset hx)⟩
      · rw [List.mem_append,List.mem_singleton,mem_less h2,bds_put,bds_less,h3 x]
        exact Or.comm
theorem ru_cnt (sh pl:Int) (ru:Str) (row:List Int) (hpl:1≤pl):cntF sh pl row (ruO sh pl ru row)=some ((rowF sh pl ru row).countP (fun f=>!f.1):Int):=by
  obtain ⟨T,h1,_,_,h4⟩:=ru_fits sh pl ru row hpl row.length (Nat.le_refl _)
  unfold cntF
  rw [if_pos (by unfold ruO; rw [List.length_map,row_len]),h1]
  show some (T.2:Int)=_
  rw [h4]; rfl
theorem mayB_congr {pl b:Int} {ms ms':List Int} {o:Option Int} (h1:∀ x,x∈ms↔x∈ms') (h2:ms.length=ms'.length):mayB pl ms b o=mayB pl ms' b o:=by
  unfold mayB
  rw [h2]
  have e:(b∈ms∨(ms'.length:Int)<pl)↔(b∈ms'∨(ms'.length:Int)<pl):=or_congr (h1 b) Iff.rfl
  by_cases c:b∈ms'∨(ms'.length:Int)<pl
  · rw [if_pos c,if_pos (e.mpr c)]
  · rw [if_neg c,if_neg (fun z=>c (e.mp z))]
    cases o with
    | some g=>exact decide_eq_decide.mpr (h1 g)
    | none=>rfl
theorem ordR_app {sh pl:Int} {row:List Int} {os:List (Option Int)} (y:Option Int):∀ i,i≤os.length→ordR sh pl row (os++[y]) i=ordR sh pl row os i
  | 0,_=>rfl
  | i+1,h=>by
    show (ordR sh pl row (os++[y]) i).bind _=(ordR sh pl row os i).bind _
    have e:(os++[y]).getD i none=os.getD i none:=by rw [List.getD_eq_getElem?_getD,List.getD_eq_getElem?_getD,List.getElem?_append_left (by omega)]
    rw [ordR_app y i (by omega),e]
def keepP (y:V) (z:Int) (x:Int):Bool:=(!decide (V.int x=y)) && !decide (V.int x=V.int z)
theorem ord_turn {sh pl z:Int} {o:Option Int} {S:List Int×Nat} {T:List Int} (nd:S.1.Nodup) (ndT:T.Nodup) (h:∀ x,x∈T↔x∈S.1) (c:mayB pl (shelfS sh (z % sh) S.1) z o=true) :
    ∃ S',ordS sh pl z o S=some S'∧S'.1.Nodup∧(T.filter (keepP (optV o) z)++[z]).Nodup∧(∀ x,x∈T.filter (keepP (optV o) z)++[z]↔x∈S'.1)∧S'.2=S.2+(if z∈T then 0 else 1):=by
  have kp:∀ x,keepP (optV o) z x=true↔V.int x≠optV o∧x≠z:=fun x=>by
    unfold keepP
    simp
  have nT:(T.filter (keepP (optV o) z)++[z]).Nodup:=by
    rw [List.nodup_append]
    exact ⟨ndT.sublist List.filter_sublist,by simp,fun x hx w hw e=>((kp x).mp (List.mem_filter.mp hx).2).2 (e.trans (List.mem_singleton.mp hw))⟩
  have mT:∀ x,x∈T.filter (keepP (optV o) z)++[z]↔(x∈T∧V.int x≠optV o∧x≠z)∨x=z:=fun x=>by
    rw [List.mem_append,List.mem_filter,kp,List.mem_singleton]
  unfold ordS
  rw [if_pos c]
  by_cases hz:z∈S.1
  · rw [if_pos hz]
    have ey:o=none:=by
      unfold mayB at c
      rw [if_pos (.inl (mem_shelfS.mpr ⟨hz,rfl⟩))] at c
      exact Option.isNone_iff_eq_none.mp c
    refine ⟨S,rfl,nd,nT,fun x=>?_,by rw [if_pos ((h z).mpr hz)]; rfl⟩
    rw [mT,h x,ey]
    constructor
    · rintro (⟨h1,_⟩ | rfl)
      · exact h1
      · exact hz
    · intro h1
      by_cases e:x=z
      · exact .inr e
      · exact .inl ⟨h1,(fun w=>nomatch w),e⟩
  · rw [if_neg hz]
    refine ⟨_,rfl,?_,nT,fun x=>?_,by rw [if_neg (fun w=>hz ((h z).mp w))]⟩
    · rw [List.nodup_append]
      exact ⟨nd.sublist less_sub,by simp,fun x hx w hw e=>hz (by rw [List.mem_singleton.mp hw] at e; rw [← e]; exact less_sub.subset hx)⟩
    · rw [mT,List.mem_append,List.mem_singleton,mem_less nd,h x]
      constructor
      · rintro (⟨h1,h2,_⟩ | rfl)
        · exact .inl ⟨h1,fun g eg e=>h2 (by rw [eg,e]; rfl)⟩
        · exact .inr rfl
      · rintro (⟨h1,h2⟩ | rfl)
        · refine .inl ⟨h1,fun e=>?_,fun e=>hz (e ▸ h1)⟩
          cases o with
          | none=>cases e
          | some g=>exact h2 g rfl (by cases e; rfl)
        · exact .inr rfl
section
variable {P:Program} {w:World} {K:PySem.W.Frag} {mg:Str→Option Value} {base:Heap}
def spDrw (K:PySem.W.Frag):Sp:=fun vs H Q _=>∃ (b lr:Addr) (a q c sh pl:Int) (row:List Int),vs=[.ref b,.int sh,.int pl,.ref lr]∧BoxAt H b a q c∧c<310000000∧H lr=some (.lst (row.map V.int))∧lr≠b∧row.length≤200∧1≤sh∧1≤pl ∧
  ∀ (D:Addr) (H':Hp) (os:List (Option Int)) (a' c':Int),H D=none→H' D=some (.lst (os.map optV))→os.length=row.length→(∃ c,cntF sh pl row os=some c)→BoxAt H' b a' q c'→c'≤c+row.length→SB b H H'→Q (.ref D) H'
theorem ok_drawn_order {f:Addr} {fd:FuncData} (F:Fun K "_law_drawn_order" "_law_drawn_order" s_drawn_order f fd) (T:Txt K mg) (D_take:Def P w K mg base "_law_take" 1 P_take spTake):FnOk P w K mg base CX0 2 f fd P_drawn_order (spDrw K):=by
  refine F.ok sc_drawn_order (fun vs H Q E h=>?_) (fun cdv A outer st H vs Q E hr h=>?_)
  · obtain ⟨b,lr,a,q,c,sh,pl,row,rfl,_⟩:=h
    rfl
  obtain ⟨b,lr,a,q,c,sh,pl,row,rfl,B,hc,hR,nlb,hl,hs0,hp0,k⟩:=h
  have nd:=sc_drawn_order.nd
  refine ⟨_,(pss_cons (ps_par (i:=4) (j:=5) rfl nd rfl rfl (by decide) rfl rfl (pc (pe_lst pa_nil) (pc (pe_lst pa_nil) pa_nil)) rfl)
      (pss_cons (ps_for PassesOwn.never rfl (pi_listK (K:=K) rfl (pv 3)) (pgn 6 nd) (pss_cons (ps_comp1 7 (compOk_of (osc:=(defScope s_drawn_order)) (oN:=N_drawn_order) (N:=["_law_one", "_law_shelves", "_law_board"]) (own:=1) (js:=[1,6]) (by decide +kernel) rfl rfl) rfl nd rfl rfl (pi_listK (K:=K) rfl (pv 4)) (fun _ _ _ _ _ _=>(pgn 0 (show List.Nodup (["_law_one", "_law_shelves", "_law_board"]:List Str) by decide +kernel))) (fun _ _ _ _ _ _=>(pt_cmpR op_eq (pe_op op_mod (pv 0) (pv 1)) (pe_op op_mod (pv 2) (pv 1)) (nomark _))) (fun _ _ _ _ _ _=>(pv 0)))
      (pss_cons (pst 8 nd pe_non)
      (pss_cons (ps_if (PW.pt (pw_and (pt_cmpR (op_notIn_seqK (K:=K) rfl) (pv 6) (pv 4) rfl) (pw_and1 (pt_cmpR op_ge (pe_callBN (call_len_seqK (K:=K) rfl) rfl T.z_len PySem.boot_len (pc (pv 7) pa_nil)) (pv 2) (nomark _))))) (pss_one (pst 8 nd (pe_ix (ix_listK (K:=K) rfl) (pv 7) (pe_defN D_take hr.m rfl (pc (pv 0) (pc (pe_callBN (call_len_seqK (K:=K) rfl) rfl T.z_len PySem.boot_len (pc (pv 7) pa_nil)) pa_nil))) (fun _ _=>rfl)))) pss_nil)
      (pss_cons (pst 4 nd (pe_op op_cat (pe_comp1 (compOk_of (osc:=(defScope s_drawn_order)) (oN:=N_drawn_order) (N:=["_law_one", "_law_gone", "_law_board"]) (own:=1) (js:=[8,6]) (by decide +kernel) rfl rfl) rfl (pi_listK (K:=K) rfl (pv 4)) (fun _ _ _ _ _ _=>(pgn 0 (show List.Nodup (["_law_one", "_law_gone", "_law_board"]:List Str) by decide +kernel))) (fun _ _ _ _ _ _=>(PW.pt (pw_and (pt_cmpR op_ne (pv 0) (pv 1) (nomark _)) (pw_and1 (pt_cmpR op_ne (pv 0) (pv 2) (nomark _)))))) (fun _ _ _ _ _ _=>(pv 0))) (pe_lst (pc (pv 6) pa_nil))))
      (pss_one (ps_expr (pe_bmC (K:=K) rfl (pe_bm PySem.F.plainAttrs_list PySem.F.slot_list_append PySem.F.type_list_append mt_append (pv 5) (pc (pv 8) pa_nil))))))))))
      (pss_one (ps_ret (pv 5))))),?_⟩
  refine ⟨(by show 0≤sizeLine; decide),fun l0 hl0=>⟨(by show 0≤sizeLine; decide),fun lf hlf=>⟨_,_,rfl,?_⟩⟩⟩
  try dsimp only
  have s0:=(same_upd hl0 (.lst [])).trans (same_upd hlf (.lst []))
  have e0:upd (upd H l0 (.lst [])) lf (.lst []) l0=some (.lst []):=same_upd hlf _ _ _ upd_same
  have ef0:upd (upd H l0 (.lst [])) lf (.lst []) lf=some (.lst []):=upd_same
  have hlfH:H lf=none:=(same_upd hl0 (.lst [])).free hlf
  have nf0:lf≠l0:=fun z=>by rw [z,upd_same] at hlf; cases hlf
  have nbf:b≠lf:=ne_of_none B.at' hlfH
  have nrf:lr≠lf:=ne_of_none hR hlfH
  have B0:=B.same s0
  generalize upd (upd H l0 (.lst [])) lf (.lst [])=G0 at *
  refine ⟨_,rfl,lr,rfl,⟨_,SqL.of (s0 _ _ hR)⟩,for_list (K:=K) (a:=lr) (xs:=row.map V.int) (fun i σ G=>∃ (v6 v7 v8:Option V) (lt:Addr) (TT:List Int) (os:List (Option Int)) (a' c':Int),σ=[some (.ref b),some (.int sh),some (.int pl),some (.ref lr),some (.ref lt),some (.ref lf),v6,v7,v8]∧lt≠lf∧lt≠b∧G lt=some (.lst (TT.map V.int))∧TT.length≤i∧G lf=some (.lst (os.map optV))∧os.length=i∧BoxAt G b a' q c'∧c'≤c+i∧SB b H G∧TT.Nodup∧∃ S:List Int×Nat,ordR sh pl row os i=some S∧S.1.Nodup∧∀ x,x∈TT↔x∈S.1)
    ⟨none,none,none,l0,[],[],a,c,rfl,Ne.symm nf0,(fun z=>by rw [z,B.at'] at hl0; cases hl0),e0,Nat.le_refl _,ef0,rfl,B0,by omega,(fun x o _ e=>s0 _ _ e),List.nodup_nil,([],0),rfl,List.nodup_nil,fun _=>Iff.rfl⟩ (fun i σ G _ h=>by obtain ⟨_,_,_,_,_,_,_,_,_,_,_,_,_,_,_,_,_,sb,_⟩:=h; exact SqL.of (sb _ _ nlb hR)) ?_ ?_⟩
  · clear s0 e0 ef0 B0
    rintro i x σ G hx ⟨v6,v7,v8,lt,TT,os,a',c',rfl,nlf,nlb',elt,hTl,ef,hos,Bg,hcg,sb,nT,S,hR',nS,hmm⟩
    obtain ⟨z,hz,rfl⟩:=ints_at hx
    have hi:i<row.length:=(List.getElem?_eq_some_iff.mp hz).1
    have eg:row.getD i 0=z:=by rw [List.getD_eq_getElem?_getD,hz]; rfl
    have emay:∀ y,mayB pl (shelfS sh (z % sh) TT) z y=mayB pl (shelfS sh (z % sh) S.1) z y:=fun y=>by
      have mm:∀ x,x∈shelfS sh (z % sh) TT↔x∈shelfS sh (z % sh) S.1:=fun x=>by rw [mem_shelfS,mem_shelfS,hmm x]
      exact mayB_congr mm (len_of_mem (nT.sublist List.filter_sublist) (nS.sublist List.filter_sublist) mm)
    have hin:z∈shelfS sh (z % sh) TT↔z∈TT:=⟨fun m=>(mem_shelfS.mp m).1,fun m=>mem_shelfS.mpr ⟨m,rfl⟩⟩
    have hbig:(TT.map V.int).length≤sizeLine:=Nat.le_of_lt (small1000 (by rw [List.length_map]; omega))
    refine gN ?_
    refine hideD fun Dz hDz=>?_
    try dsimp only
    refine hide fun u1 e1=>?_
    refine ⟨_,rfl,lt,rfl,⟨_,SqL.of elt⟩,fun ls hls=>?_⟩
    refine comp_list (K:=K) (a:=lt) (xs:=TT.map V.int) (l:=ls) (fun i ys σ G'=>∃ v0:Option V,σ=[v0,some (.int sh),some (.int z)]∧ys=(shelfS sh (z % sh) (TT.take i)).map V.int∧G'=upd G ls (.lst ys)) ⟨none,rfl,rfl,rfl⟩ (fun i ys σ G' _ h=>by obtain ⟨_,_,_,q⟩:=h; exact SqL.of (by rw [q,upd_ne (ne_of_none elt hls)]; exact elt)) ?_ ?_
    · rintro i x ys σ G hi hxi hys ⟨v0,rfl,rfl,rfl⟩
      obtain ⟨y,ey,rfl⟩:=ints_at hxi
      have ets:TT.take (i+1)=TT.take i++[y]:=by rw [List.take_succ,ey]; rfl
      refine ⟨_,rfl,_,rfl,_,_,rfl,rfl,by omega,_,rfl,_,rfl,_,_,rfl,rfl,by omega,rfl,_,rfl,?_⟩
      by_cases c:y % sh=z % sh
      · refine ifT (by simp [c]) ⟨_,rfl,CNx.of hbig hi hys upd_same ⟨_,rfl,?_,upd_upd⟩⟩
        rw [ets,shelfS_app,if_pos c,List.map_append]; rfl
      · refine ifF (by simp [c]) (CNo.of hi hys ⟨_,rfl,?_,rfl⟩)
        rw [ets,shelfS_app,if_neg c]
    subst e1
    rintro ys σ G' _ ⟨v0,rfl,rfl,rfl⟩
    rw [List.length_map,List.take_length]
    refine gN ?_
    try dsimp only
    have ss:=same_upd hls (.lst ((shelfS sh (z % sh) TT).map V.int))
    have els:upd G ls (.lst ((shelfS sh (z % sh) TT).map V.int)) ls=some (.lst ((shelfS sh (z % sh) TT).map V.int)):=upd_same
    have nlsb:ls≠b:=fun w=>by rw [w,Bg.at'] at hls; cases hls
    have elt:=ss _ _ elt
    have ef:=ss _ _ ef
    have Bg:=Bg.same ss
    have sb:SB b H (upd G ls (.lst ((shelfS sh (z % sh) TT).map V.int))):=fun x o nx e=>ss _ _ (sb _ _ nx e)
    generalize upd G ls (.lst ((shelfS sh (z % sh) TT).map V.int))=G1 at *
    refine gN (i:=8) (v:=.non) ?_
    dsimp only
    refine cpI (fun σ G=>∃ (o:Option Int) (a2 c2:Int),σ=[some (.ref b),some (.int sh),some (.int pl),some (.ref lr),some (.ref lt),some (.ref lf),some (.int z),some (.ref ls),some (optV o)]∧G lt=some (.lst (TT.map V.int))∧G lf=some (.lst (os.map optV))∧BoxAt G b a2 q c2∧c2≤c+(i+1)∧SB b H G∧mayB pl (shelfS sh (z % sh) TT) z o=true) (fun D' _ k'=>?_) ?_
    · refine ⟨_,rfl,_,rfl,lt,_,rfl,.inl (SqL.of elt),rfl,ints_flat _,_,rfl,?_⟩
      rw [inV_int]
      have k0:=fun m=>k' _ _ ⟨none,a',c',rfl,elt,ef,Bg,by omega,sb,m⟩
      have mN:(z∈shelfS sh (z % sh) TT∨((shelfS sh (z % sh) TT).length:Int)<pl)→mayB pl (shelfS sh (z % sh) TT) z none=true:=fun c=>by unfold mayB; rw [if_pos c]; rfl
      by_cases c1:z∈TT
      · exact ifF (by simp [c1]) (ifF rfl (k0 (mN (.inl (hin.mpr c1)))))
      · refine ifT (by simp [c1]) ⟨_,rfl,ls,_,rfl,.inl (SqL.of els),_,rfl,_,_,rfl,rfl,_,rfl,?_⟩
        rw [List.length_map]
        refine ite_dec (fun c2=>?_) (fun c2=>k0 (mN (.inr (by omega))))
        have l1:(shelfS sh (z % sh) TT).length≤TT.length:=List.length_filter_le ..
        refine ⟨_,rfl,_,rfl,_,rfl,ls,_,rfl,.inl (SqL.of els),b,a',q,c',_,rfl,Bg,by omega,by rw [List.length_map]; omega,by rw [List.length_map]; omega,fun r a2 c2 G2 r0 r1 B2 hc2 t2=>?_⟩
        rw [List.length_map] at r1
        obtain ⟨g,hg,gm⟩:=at_mem r0 r1
        have mS:mayB pl (shelfS sh (z % sh) TT) z (some g)=true:=by unfold mayB; rw [if_neg (fun w=>w.elim (fun w=>c1 (hin.mp w)) (by omega))]; exact decide_eq_true gm
        exact ⟨ls,_,_,_,rfl,rfl,SqL.of (t2 _ _ nlsb els),hg,gN (k' _ _ ⟨some g,a2,c2,rfl,t2 _ _ nlb' elt,t2 _ _ (Ne.symm nbf) ef,B2,by omega,sb.trans t2,mS⟩)⟩
    clear elt ef Bg hcg sb els nlsb
    rintro _ G3 ⟨o,a2,c2,rfl,elt,ef,Bg,hcg,sb,hm⟩
    rw [emay] at hm
    obtain ⟨S',o1,o2,o3,o4,_⟩:=ord_turn nS nT hmm hm
    try dsimp only
    refine hide fun u1 e1=>?_
    refine ⟨_,rfl,lt,rfl,⟨_,SqL.of elt⟩,fun lc hlc=>?_⟩
    refine comp_list (K:=K) (a:=lt) (xs:=TT.map V.int) (l:=lc) (fun j ys σ G=>∃ (v0:Option V),σ=[v0,some (optV o),some (.int z)]∧ys=((TT.take j).filter (keepP (optV o) z)).map V.int∧G=upd G3 lc (.lst ys)) ⟨none,rfl,rfl,rfl⟩ (fun i ys σ G _ h=>by obtain ⟨_,_,_,q⟩:=h; exact SqL.of (by rw [q,upd_ne (ne_of_none elt hlc)]; exact elt)) ?_ ?_
    · rintro j x ys σ G hj hxj hys ⟨v0,rfl,rfl,rfl⟩
      obtain ⟨x0,ex,rfl⟩:=ints_at hxj
      have ets:TT.take (j+1)=TT.take j++[x0]:=by rw [List.take_succ,ex]; rfl
      have sc:scal (V.int x0) (optV o)=true:=by cases o <;> rfl
      have e1:keepP (optV o) z x0=((!decide (V.int x0=optV o)) && !decide (V.int x0=V.int z)):=rfl
      refine ⟨_,rfl,_,rfl,sc,_,rfl,?_⟩
      cases c1:(!decide (V.int x0=optV o)) with
      | false =>
        rw [c1] at e1
        refine ifF rfl (ifF rfl (CNo.of hj hys ⟨_,rfl,?_,rfl⟩))
        rw [ets,List.filter_append,List.filter_cons,if_neg (by rw [e1,Bool.false_and]; exact Bool.false_ne_true)]; simp
      | true =>
        rw [c1,Bool.true_and] at e1
        refine ifT rfl ⟨_,rfl,_,rfl,rfl,_,rfl,?_⟩
        cases c2:(!decide (V.int x0=V.int z)) with
        | false =>
          rw [c2] at e1
          refine ifF rfl (CNo.of hj hys ⟨_,rfl,?_,rfl⟩)
          rw [ets,List.filter_append,List.filter_cons,if_neg (by rw [e1]; decide)]; simp
        | true =>
          rw [c2] at e1
          refine ifT rfl ⟨_,rfl,CNx.of hbig hj hys upd_same ⟨_,rfl,?_,upd_upd⟩⟩
          rw [ets,List.filter_append,List.filter_cons,if_pos e1,List.map_append]; rfl
    subst e1
    rintro ys σ G _ ⟨v0,rfl,rfl,rfl⟩
    rw [List.length_map,List.take_length]
    have hzl:(TT.filter (keepP (optV o) z)).length≤TT.length:=List.length_filter_le ..
    generalize TT.filter (keepP (optV o) z)=zs at *
    have elc:upd G3 lc (.lst (zs.map V.int)) lc=some (.lst (zs.map V.int)):=upd_same
    refine ⟨_,rfl,(by show 1≤sizeLine; decide),fun l1 hl1=>⟨lc,l1,_,_,rfl,rfl,same_upd hl1 _ _ _ elc,upd_same,Nat.le_of_lt (small1000 (by rw [List.length_map]; show _+1≤1000; omega)),fun l2 hl2=>gN ?_⟩⟩
    have s4:=((same_upd hlc (.lst (zs.map V.int))).trans (same_upd hl1 (.lst [V.int z]))).trans (same_upd hl2 (.lst (zs.map V.int++[V.int z])))
    have e2:upd (upd (upd G3 lc (.lst (zs.map V.int))) l1 (.lst [V.int z])) l2 (.lst (zs.map V.int++[V.int z])) l2=some (.lst ((zs++[z]).map V.int)):=by rw [upd_same,List.map_append]; rfl
    have n2:G3 l2=none:=((same_upd hlc (.lst (zs.map V.int))).trans (same_upd hl1 (.lst [V.int z]))).free hl2
    have ef3:=ef
    have ef:=s4 _ _ ef
    have Bg':=Bg.same s4
    try dsimp only
    generalize upd (upd (upd G3 lc (.lst (zs.map V.int))) l1 (.lst [V.int z])) l2 (.lst (zs.map V.int++[V.int z]))=G4 at *
    have n2f:l2≠lf:=fun w=>by rw [w,ef3] at n2; cases n2
    refine ⟨_,rfl,.inl ⟨rfl,_,SqL.of ef⟩,_,rfl,lf,_,_,rfl,rfl,ef,small1000 (by rw [List.length_map]; omega),?_⟩
    refine hDz _ _ ⟨_,_,_,l2,zs++[z],os++[o],a2,c2,rfl,n2f,(fun w=>by rw [w,Bg.at'] at n2; cases n2),by rw [upd_ne n2f]; exact e2,by rw [List.length_append]; show _+1≤_; omega,by rw [upd_same,List.map_append]; rfl,by rw [List.length_append,hos]; rfl,⟨by rw [upd_ne nbf]; exact Bg'.at',Bg'.a0,Bg'.q0,Bg'.q1,Bg'.c0⟩,by omega,(fun x o' nx e=>by rw [upd_ne (ne_of_none e hlfH)]; exact s4 _ _ (sb _ _ nx e)),o3,S',?_,o2,o4⟩
    show (ordR sh pl row (os++[o]) i).bind _=_
    rw [ordR_app _ i (by omega),hR',eg,List.getD_eq_getElem?_getD,List.getElem?_append_right (by omega),hos,Nat.sub_self]
    exact o1
  · rintro σ G ⟨v6,v7,v8,lt,TT,os,a',c',rfl,nlf,nlb',elt,hTl,ef,hos,Bg,hcg,sb,_,S,hR',_⟩
    rw [List.length_map] at hos hcg hR'
    exact ⟨_,rfl,k lf G os a' c' hlfH ef hos ⟨_,by unfold cntF; rw [if_pos hos,hR']; rfl⟩ Bg hcg sb⟩
end
def Nxt (k:List Int) (z:Int) (o:Option Int) (k':List Int):Prop:=k'.Pairwise (·<·)∧∀ x,x∈k'↔x∈k.filter (keepP (optV o) z)++[z]
theorem asc_nd {k:List Int} (h:k.Pairwise (·<·)):k.Nodup:=h.imp fun a=>by omega
section
variable {sh pl:Int} {row:List Int}
structure Gd (sh pl:Int) (row:List Int) (i:Nat) (k:List Int) (c:Int):Prop where
  asc:k.Pairwise (·<·)
  ord:∃ (os:List (Option Int)) (S:List Int×Nat),os.length=i∧ordR sh pl row os i=some S∧S.1.Nodup∧(∀ x,x∈k↔x∈S.1)∧(S.2:Int)=c
  sz:∀ s,((shelfS sh s k).length:Int)≤pl
theorem Gd.zero (hp:1≤pl):Gd sh pl row 0 [] 0:=⟨List.Pairwise.nil,⟨[],([],0),rfl,rfl,List.nodup_nil,fun _=>Iff.rfl,rfl⟩,fun s=>by show ((0:Nat):Int)≤pl; omega⟩
theorem keep_lt {A:List Int} {p:Int→Bool} {g:Int} (h:g∈A) (hp:p g=false):(A.filter p).length+1≤A.length:=by
  have:(A.filter p).length<A.length:=List.length_filter_lt_length_iff_exists.mpr ⟨g,h,by rw [hp]; exact Bool.false_ne_true⟩
  omega
theorem Gd.next {i:Nat} {k k':List Int} {c z:Int} {o:Option Int} (g:Gd sh pl row i k c) (hz:row.getD i 0=z) (hm:mayB pl (shelfS sh (z % sh) k) z o=true) (n:Nxt k z o k'):Gd sh pl row (i+1) k' (c+if z∈k then 0 else 1):=by
  obtain ⟨asc,⟨os,S,l,h1,h2,h3,h4⟩,sz⟩:=g
  obtain ⟨n1,n2⟩:=n
  have ndk:=asc_nd asc
  have mm:∀ x,x∈shelfS sh (z % sh) k↔x∈shelfS sh (z % sh) S.1:=fun x=>by rw [mem_shelfS,mem_shelfS,h3 x]
  have hm':mayB pl (shelfS sh (z % sh) S.1) z o=true:=by rw [← mayB_congr mm (len_of_mem (ndk.sublist List.filter_sublist) (h2.sublist List.filter_sublist) mm)]; exact hm
  obtain ⟨S',q1,q2,q3,q4,q5⟩:=ord_turn h2 ndk h3 hm'
  refine ⟨n1,⟨os++[o],S',by rw [List.length_append,l]; rfl,?_,q2,fun x=>(n2 x).trans (q4 x),by rw [q5,← h4]; split <;> simp⟩,fun s=>?_⟩
  · show (ordR sh pl row (os++[o]) i).bind _=_
    rw [ordR_app _ i (by omega),h1,hz,List.getD_eq_getElem?_getD,List.getElem?_append_right (by omega),l,Nat.sub_self]
    exact q1
  · have e:(shelfS sh s k').length=(shelfS sh s (k.filter (keepP (optV o) z)++[z])).length:=len_of_mem ((asc_nd n1).sublist List.filter_sublist) (q3.sublist List.filter_sublist) fun x=>by rw [mem_shelfS,mem_shelfS,n2 x]
    have cm:shelfS sh s (k.filter (keepP (optV o) z))=(shelfS sh s k).filter (keepP (optV o) z):=by
      unfold shelfS
      rw [List.filter_filter,List.filter_filter]
      congr 1
      funext x
      exact Bool.and_comm ..
    have le:((shelfS sh s k).filter (keepP (optV o) z)).length≤(shelfS sh s k).length:=List.length_filter_le ..
    have ks:=sz s
    rw [e,shelfS_app,cm]
    split
    · rename_i es
      rw [List.length_append,List.length_singleton]
      subst es
      unfold mayB at hm
      split at hm
      · rename_i cc
        rcases cc with cc | cc
        · have:=keep_lt (p:=keepP (optV o) z) cc (by unfold keepP; simp)
          omega
        · omega
      · cases o with
        | none=>cases hm
        | some g =>
          have:=keep_lt (p:=keepP (optV (some g)) z) (of_decide_eq_true hm) (by unfold keepP; simp [optV])
          omega
    · omega
theorem Gd.least {k:List Int} {c:Int} (hl:row.length≤1000000) (hp:1≤pl) (g:Gd sh pl row row.length k c):leastF sh pl row≤c:=by
  obtain ⟨_,⟨os,S,l,h1,h2,h3,h4⟩,_⟩:=g
  have:=least_le hl hp (Int.le_refl _) (ord_pol hp h1)
  have e:oS sh pl row os row.length=S:=by unfold oS; rw [h1]; rfl
  try dsimp only at this
  rw [e] at this
  omega
structure Fk (sh pl:Int) (row:List Int) (i:Nat) (k:List Int) (c:Int):Prop where
  asc:k.Pairwise (·<·)
  mem:∀ x,x∈k↔x∈(oS sh pl row (dueF sh pl row) i).1
  le:c≤(oS sh pl row (dueF sh pl row) i).2
theorem Fk.zero:Fk sh pl row 0 [] 0:=⟨List.Pairwise.nil,fun _=>Iff.rfl,Int.le_refl _⟩
theorem Fk.next {i:Nat} {k:List Int} {c z:Int} (hp:1≤pl) (f:Fk sh pl row i k c) (hi:i<row.length) (hz:row.getD i 0=z) :
    ∃ o,mayB pl (shelfS sh (z % sh) k) z o=true∧∀ k',Nxt k z o k'→Fk sh pl row (i+1) k' (c+if z∈k then 0 else 1):=by
  obtain ⟨asc,mem,le⟩:=f
  obtain ⟨cc,e⟩:=ord_due (sh:=sh) hp row row.length (Nat.le_refl _)
  obtain ⟨hm,hh,hn⟩:=ord_step e hi
  have nd:=(ord_pol hp e).nd i (by omega)
  try dsimp only at nd
  rw [hz] at hm hh hn
  generalize (dueF sh pl row).getD i none=o at *
  have ndk:=asc_nd asc
  have mm:∀ x,x∈shelfS sh (z % sh) k↔x∈shelfS sh (z % sh) (oS sh pl row (dueF sh pl row) i).1:=fun x=>by rw [mem_shelfS,mem_shelfS,mem x]
  have hm':mayB pl (shelfS sh (z % sh) k) z o=true:=by rw [mayB_congr mm (len_of_mem (ndk.sublist List.filter_sublist) (nd.sublist List.filter_sublist) mm)]; exact hm
  refine ⟨o,hm',fun k' ⟨n1,n2⟩=>?_⟩
  obtain ⟨S',q1,q2,q3,q4,q5⟩:=ord_turn (S:=oS sh pl row (dueF sh pl row) i) nd ndk mem hm
  have eS:oS sh pl row (dueF sh pl row) (i+1)=S':=by
    unfold ordS at q1
    rw [if_pos hm] at q1
    by_cases c:z∈(oS sh pl row (dueF sh pl row) i).1
    · rw [if_pos c] at q1; rw [hh c]; exact Option.some.inj q1
    · rw [if_neg c] at q1; rw [hn c]; exact Option.some.inj q1
  refine ⟨n1,fun x=>by rw [eS]; exact (n2 x).trans (q4 x),?_⟩
  rw [eS,q5]
  split <;> simp <;> omega
theorem Fk.least {k:List Int} {c:Int} (hp:1≤pl) (f:Fk sh pl row row.length k c):c≤leastF sh pl row:=by
  rw [least_eq hp]
  exact f.le
def kI (k:List Int):List Key:=k.map Sum.inl
theorem kI_inj {a b:List Int} (h:kI a=kI b):a=b:=List.map_inj_right (f:=(Sum.inl:Int→Key)) (fun _ _ e=>Sum.inl.inj e) |>.mp h
theorem val_in {m:List (List Key×V)} {k:List Key} {v:V} (h:valV m k=some v):(k,v)∈m:=by
  unfold valV at h
  cases e:m.find? (fun kv=>decide (kv.1=k)) with
  | none=>rw [e] at h; cases h
  | some p =>
    rw [e] at h
    have e1:=List.mem_of_find?_eq_some e
    have e2:p.1=k:=by simpa using List.find?_some e
    obtain ⟨p1,p2⟩:=p
    cases h
    subst e2
    exact e1
theorem put_in {m:List (List Key×V)} {k:List Key} {v:V} {p:List Key×V} (h:p∈putK m k v):p=(k,v)∨p∈m:=by
  unfold putK at h
  split at h
  · obtain ⟨q,q1,q2⟩:=List.mem_map.mp h
    by_cases c:q.1=k
    · rw [if_pos c] at q2
      exact .inl (by rw [← q2,c])
    · rw [if_neg c] at q2
      exact .inr (by rw [← q2]; exact q1)
  · rcases List.mem_append.mp h with h | h
    · exact .inr h
    · exact .inl (List.mem_singleton.mp h)
def AllG (sh pl:Int) (row:List Int) (i:Nat) (m:List (List Key×V)):Prop:=∀ p∈m,∃ (k:List Int) (c:Int),p=(kI k,.int c)∧Gd sh pl row i k c
def HasF (sh pl:Int) (row:List Int) (i:Nat) (m:List (List Key×V)):Prop:=∃ (k:List Int) (c:Int),Fk sh pl row i k c∧valV m (kI k)=some (.int c)
def lesr (m:List (List Key×V)) (k:List Int) (c:Int):Int:=match valV m (kI k) with
  | some (.int x)=>min c x
  | _=>c
theorem AllG.get {i:Nat} {m:List (List Key×V)} (a:AllG sh pl row i m) {k:List Int} {v:V} (h:valV m (kI k)=some v):∃ c,v=.int c∧Gd sh pl row i k c:=by
  obtain ⟨k',c,e,g⟩:=a _ (val_in h)
  have e1:kI k=kI k':=congrArg Prod.fst e
  have e2:v=.int c:=congrArg Prod.snd e
  have:=kI_inj e1
  subst this
  exact ⟨c,e2,g⟩
theorem AllG.put {i:Nat} {m:List (List Key×V)} (a:AllG sh pl row i m) {k:List Int} {c:Int} (g:Gd sh pl row i k c):AllG sh pl row i (putK m (kI k) (.int (lesr m k c))):=fun p hp=>by
  rcases put_in hp with e | hp
  · refine ⟨k,lesr m k c,e,?_⟩
    unfold lesr
    cases q:valV m (kI k) with
    | none=>exact g
    | some v =>
      obtain ⟨x,rfl,gx⟩:=a.get q
      show Gd sh pl row i k (min c x)
      rcases Int.le_total c x with w | w
      · rw [Int.min_eq_left w]; exact g
      · rw [Int.min_eq_right w]; exact gx
  · exact a p hp
theorem HasF.put {i:Nat} {m:List (List Key×V)} (f:HasF sh pl row i m) (k:List Int) (c:Int):HasF sh pl row i (putK m (kI k) (.int (lesr m k c))):=by
  obtain ⟨k',c',h1,h2⟩:=f
  by_cases e:k'=k
  · subst e
    refine ⟨k',lesr m k' c,⟨h1.asc,h1.mem,?_⟩,by rw [valV_put,if_pos rfl]⟩
    have:=h1.le
    unfold lesr
    rw [h2]
    show min c c'≤_
    have:=Int.min_le_right c c'
    omega
  · exact ⟨k',c',h1,by rw [valV_put,if_neg (fun q=>e (kI_inj q))]; exact h2⟩
theorem HasF.new {i:Nat} {m:List (List Key×V)} {k:List Int} {c:Int} (f:Fk sh pl row i k c) (hv:∀ v,valV m (kI k)=some v→∃ x,v=.int x):HasF sh pl row i (putK m (kI k) (.int (lesr m k c))):=by
  refine ⟨k,lesr m k c,⟨f.asc,f.mem,?_⟩,by rw [valV_put,if_pos rfl]⟩
  have:=f.le
  unfold lesr
  cases q:valV m (kI k) with
  | none=>exact this
  | some v =>
    obtain ⟨x,rfl⟩:=hv v q
    show min c x≤_
    have:=Int.min_le_left c x
    omega
theorem states_zero (hp:1≤pl):AllG sh pl row 0 [([],.int 0)]∧HasF sh pl row 0 [([],.int 0)] :=
  ⟨fun p hp'=>⟨[],0,List.mem_singleton.mp hp',Gd.zero hp⟩,[],0,Fk.zero,rfl⟩
theorem states_least {m:List (List Key×V)} (hl:row.length≤1000000) (hp:1≤pl) (a:AllG sh pl row row.length m) (f:HasF sh pl row row.length m) {ns:List Int} (e:m.map Prod.snd=ns.map V.int) {mn:Int} (h1:mn∈ns) (h2:∀ x∈ns,mn≤x):mn=leastF sh pl row:=by
  have g:∀ x∈ns,leastF sh pl row≤x:=fun x hx=>by
    have:V.int x∈m.map Prod.snd:=by rw [e]; exact List.mem_map_of_mem hx
    obtain ⟨p,p1,p2⟩:=List.mem_map.mp this
    obtain ⟨k,c,rfl,g⟩:=a p p1
    cases p2
    exact g.least hl hp
  obtain ⟨k,c,f1,f2⟩:=f
  have hc:c∈ns:=by
    have:V.int c∈m.map Prod.snd:=List.mem_map.mpr ⟨_,val_in f2,rfl⟩
    rw [e] at this
    obtain ⟨x,x1,x2⟩:=List.mem_map.mp this
    cases x2
    exact x1
  have:=g mn h1
  have:=h2 c hc
  have:=f1.least hp
  omega
end
section
variable {P:Program} {w:World} {K:PySem.W.Frag} {mg:Str→Option Value} {base:Heap}
theorem kI_V (k:List Int):(kI k).map kV=k.map V.int:=by unfold kI; rw [List.map_map]; rfl
theorem asc_of {os T:List Int} (nd:T.Nodup) (p:os.Perm T) (s:os.Pairwise (·≤·)):os.Pairwise (·<·):=by
  have n:os.Nodup:=p.nodup_iff.mpr nd
  have:os.Pairwise fun a b=>a≤b∧a≠b:=List.Pairwise.and s n
  exact this.imp fun h=>by omega
structure Ots (sh pl:Int) (z:Int) (k:List Int) (c:Int) (G:Hp) (lo:Addr) (qs:List (Addr×Addr×List Int)):Prop where
  top:G lo=some (.lst (qs.map fun q=>V.ref q.1))
  len:qs.length≤4
  pr:∀ q∈qs,G q.1=some (.tup [.ref q.2.1,.int (c+if z∈k then 0 else 1)])∧G q.2.1=some (.tup (q.2.2.map V.int))
  snd:∀ q∈qs,∃ o,mayB pl (shelfS sh (z % sh) k) z o=true∧Nxt k z o q.2.2
  all:∀ o,mayB pl (shelfS sh (z % sh) k) z o=true→∃ q∈qs,Nxt k z o q.2.2
def spLs (K:PySem.W.Frag):Sp:=fun vs H Q _=>∃ (a:Addr) (sh pl:Int) (row:List Int),vs=[.int sh,.int pl,.ref a]∧SqL K H a (row.map V.int)∧1≤sh∧1≤pl∧pl≤4∧row.length≤9∧∀ H',Same H H'→Q (.int (leastF sh pl row)) H'
theorem ok_least {f:Addr} {fd:FuncData} (F:Fun K "_law_least" "_law_least" s_least f fd) (T:Txt K mg):FnOk P w K mg base CX0 1 f fd P_least (spLs K):=by
  refine F.ok sc_least (fun vs H Q E h=>?_) (fun cdv A outer st H vs Q E hr h=>?_)
  · obtain ⟨a,sh,pl,row,rfl,_⟩:=h
    rfl
  obtain ⟨a,sh,pl,row,rfl,hS,hs0,hp0,hp4,hl,k⟩:=h
  have nd:=sc_least.nd
  have hu:=hu_of hr
  refine ⟨_,(pss_cons (pst 3 nd (pe_disp1T hu (pps_cons (pe_tup pa_nil) pe_int pps_nil)))
      (pss_cons (ps_for PassesOwn.never rfl (pi_listK (K:=K) rfl (pv 2)) (pgn 4 nd) (pss_cons (pst 5 nd pe_dnewT)
      (pss_cons (ps_for PassesOwn.never rfl (pi_items (pv 3)) (pg_tupK (K:=K) (n:=2) rfl rfl (pgs_cons (pgn 6 nd) (pgs_cons (pgn 7 nd) pgs_nil))) (pss_cons (ps_comp1 8 (compOk_of (osc:=(defScope s_least)) (oN:=N_least) (N:=["_law_one", "_law_shelves", "_law_board"]) (own:=1) (js:=[0,4]) (by decide +kernel) rfl rfl) rfl nd rfl rfl (pi_tupK (K:=K) rfl (pv 6)) (fun _ _ _ _ _ _=>(pgn 0 (show List.Nodup (["_law_one", "_law_shelves", "_law_board"]:List Str) by decide +kernel))) (fun _ _ _ _ _ _=>(pt_cmpR op_eq (pe_op op_mod (pv 0) (pv 1)) (pe_op op_mod (pv 2) (pv 1)) (nomark _))) (fun _ _ _ _ _ _=>(pv 0)))
      (pss_cons (ps_if (pt_cmpR (op_in_seqK (K:=K) rfl) (pv 4) (pv 6) rfl) (pss_one (pst 9 nd (pe_lst (pc (pe_tup (pc (pv 6) (pc (pv 7) pa_nil))) pa_nil)))) (pss_one (ps_if (pt_cmpR op_lt (pe_callBN (call_len_seqK (K:=K) rfl) rfl T.z_len PySem.boot_len (pc (pv 8) pa_nil)) (pv 1) (nomark _)) (pss_one (pst 9 nd (pe_lst (pc (pe_tup (pc (pe_callTyN (call_tuple_ofK (K:=K) rfl) rfl T.z_tuple boot_tupleT (pc (pe_callBN (call_sortedU (K:=K) rfl) rfl T.z_sorted PyProof.Rows.boot_sorted (pc (pe_op op_catU (pv 6) (pe_tup (pc (pv 4) pa_nil))) pa_nil)) pa_nil)) (pc (pe_op op_add (pv 7) pe_int) pa_nil))) pa_nil)))) (pss_cons (ps_comp0 10 (compOk_of (osc:=(defScope s_least)) (oN:=N_least) (N:=["_law_gone", "_law_there"]) (own:=1) (js:=[6]) (by decide +kernel) rfl rfl) rfl nd rfl rfl (pi_listK (K:=K) rfl (pv 8)) (fun _ _ _ _ _ _=>(pgn 0 (show List.Nodup (["_law_gone", "_law_there"]:List Str) by decide +kernel))) (fun _ _ _ _ _ _=>(pe_callTyN (call_tuple_ofK (K:=K) rfl) rfl T.z_tuple boot_tupleT (pc (pe_comp1 (compOk_in (osc:=(defScope s_least)) (oN:=["_law_gone", "_law_there"]) (N:=["_law_one", "_law_gone"]) (own:=1) (js:=[0]) rfl rfl rfl (by decide +kernel)) rfl (pi_tupK (K:=K) rfl (pv 1)) (fun _ _ _ _ _ _=>(pgn 0 (show List.Nodup (["_law_one", "_law_gone"]:List Str) by decide +kernel))) (fun _ _ _ _ _ _=>(pt_cmpR op_ne (pv 0) (pv 1) (nomark _))) (fun _ _ _ _ _ _=>(pv 0))) pa_nil))))
      (pss_one (ps_comp0 9 (compOk_of (osc:=(defScope s_least)) (oN:=N_least) (N:=["_law_rest", "_law_missed", "_law_board"]) (own:=1) (js:=[7,4]) (by decide +kernel) rfl rfl) rfl nd rfl rfl (pi_listK (K:=K) rfl (pv 10)) (fun _ _ _ _ _ _=>(pgn 0 (show List.Nodup (["_law_rest", "_law_missed", "_law_board"]:List Str) by decide +kernel))) (fun _ _ _ _ _ _=>(pe_tup (pc (pe_callTyN (call_tuple_ofK (K:=K) rfl) rfl T.z_tuple boot_tupleT (pc (pe_callBN (call_sortedU (K:=K) rfl) rfl T.z_sorted PyProof.Rows.boot_sorted (pc (pe_op op_catU (pv 0) (pe_tup (pc (pv 2) pa_nil))) pa_nil)) pa_nil)) (pc (pe_op op_add (pv 1) pe_int) pa_nil))))))))))
      (pss_one (ps_for PassesOwn.never rfl (pi_listK (K:=K) rfl (pv 9)) (pg_tupK (K:=K) (n:=2) rfl rfl (pgs_cons (pgn 11 nd) (pgs_cons (pgn 12 nd) pgs_nil))) (pss_one (ps_dput hu (pv 5) (pv 11) (pe_callBN (call_min2 rfl) rfl T.z_min boot_min (pc (pv 12) (pc (pe_dget2 hu (pv 5) (pv 11) (pv 12) ⟨rfl,rfl,rfl,rfl⟩) pa_nil))) rfl)))))))
      (pss_one (pst 3 nd (pv 5))))))
      (pss_one (ps_ret (pe_callBN (call_minI rfl rfl) rfl T.z_min boot_min (pc (pe_callTyN (call_listV rfl) rfl T.z_list boot_listT (pc (pe_valsT (pv 3)) pa_nil)) pa_nil)))))),?_⟩
  refine hide fun u1 e1=>?_
  refine fun d hd=>⟨(by show 0≤sizeLine; decide),fun b0 hb0=>⟨by rw [upd_ne (fun e=>by rw [e,upd_same] at hb0; cases hb0)]; exact upd_same,b0,[],_,rfl,upd_same,gN ?_⟩⟩
  subst e1
  dsimp only
  have sA:Same H (upd (upd (upd H d (.dT [])) b0 (.tup [])) d (.dT [([],V.int 0)])):=fun x o e=>by
    have n1:x≠d:=ne_of_none e hd
    rw [upd_ne n1]
    exact same_upd hb0 _ _ _ (by rw [upd_ne n1]; exact e)
  have eA:upd (upd (upd H d (.dT [])) b0 (.tup [])) d (.dT [([],V.int 0)]) d=some (.dT [([],V.int 0)]):=upd_same
  generalize upd (upd (upd H d (.dT [])) b0 (.tup [])) d (.dT [([],V.int 0)])=G0 at *
  clear hb0
  obtain ⟨z1,z2⟩:=states_zero (sh:=sh) (row:=row) hp0
  refine hide fun u1 e1=>?_
  refine ⟨_,rfl,a,rfl,⟨_,sA.seq hS⟩,for_list (K:=K) (a:=a) (xs:=row.map V.int) (fun i σ G=>∃ (v4 v5 v6 v7 v8 v9 v10 v11 v12:Option V) (d:Addr) (m:List (List Key×V)),σ=[some (.int sh),some (.int pl),some (.ref a),some (.ref d),v4,v5,v6,v7,v8,v9,v10,v11,v12]∧H d=none∧G d=some (.dT m)∧m.length≤4 ^ i∧AllG sh pl row i m∧HasF sh pl row i m∧Same H G)
    ⟨_,_,_,_,_,_,_,_,_,d,_,rfl,hd,eA,Nat.le_refl _,z1,z2,sA⟩ (fun i σ G _ h=>by obtain ⟨_,_,_,_,_,_,_,_,_,_,_,_,_,_,_,_,_,s⟩:=h; exact s.seq hS) ?_ ?_⟩
  · clear z1 z2 sA eA hd
    rintro i x σ G hx ⟨v4,v5,v6,v7,v8,v9,v10,v11,v12,d,m,rfl,hd,ed,hm,ag,hf,sG⟩
    obtain ⟨z,hz,rfl⟩:=ints_at hx
    have hi:i<row.length:=(List.getElem?_eq_some_iff.mp hz).1
    have eg:row.getD i 0=z:=by rw [List.getD_eq_getElem?_getD,hz]; rfl
    refine gN ?_
    refine hideD fun Dz hDz=>?_
    try dsimp only
    refine hide fun u2 e2=>?_
    refine fun e he=>gN ?_
    subst e2
    try dsimp only
    have ee1:upd G e (.dT []) e=some (.dT []):=upd_same
    have ed1:upd G e (.dT []) d=some (.dT m):=by rw [upd_ne (ne_of_none ed he)]; exact ed
    have s1:Same H (upd G e (.dT [])):=sG.trans (same_upd he _)
    have heH:H e=none:=sG.free he
    have nde:d≠e:=ne_of_none ed he
    generalize upd G e (.dT [])=G1 at *
    clear sG ed he
    obtain ⟨kF,cF,fF,vF⟩:=hf
    obtain ⟨jF,hjF,eF⟩:=List.getElem_of_mem (val_in vF)
    refine hide fun u2 e2=>?_
    refine ⟨_,rfl,d,m,rfl,ed1,fun o=>for_items (d:=d) (o:=o) (kvs:=m) (fun j σ G=>∃ (v6 v7 v8 v9 v10 v11 v12:Option V) (m':List (List Key×V)),σ=[some (.int sh),some (.int pl),some (.ref a),some (.ref d),some (.int z),some (.ref e),v6,v7,v8,v9,v10,v11,v12]∧G d=some (.frz o (.dT m))∧G e=some (.dT m')∧m'.length≤4 * j∧AllG sh pl row (i+1) m'∧(jF<j→HasF sh pl row (i+1) m')∧Same H G)
      ⟨_,_,_,_,_,_,_,[],rfl,upd_same,by rw [upd_ne (Ne.symm nde)]; exact ee1,Nat.zero_le _,fun p h=>(nomatch h),fun h=>absurd h (Nat.not_lt_zero _),fun x o' e'=>by rw [upd_ne (ne_of_none e' hd)]; exact s1 _ _ e'⟩ (fun j σ G _ h=>by obtain ⟨_,_,_,_,_,_,_,_,_,q,_⟩:=h; exact q) ?_ ?_⟩
    · clear ee1 ed1 s1
      rintro j key v ta t σ G2 hkv hta ht ⟨v6,v7,v8,v9,v10,v11,v12,m',rfl,fd,fe,lm,ag',hf',sG2⟩
      obtain ⟨k,c,ek,gd⟩:=ag _ (List.mem_of_getElem? hkv)
      have ek1:key=kI k:=congrArg Prod.fst ek
      have ek2:v=.int c:=congrArg Prod.snd ek
      subst ek1 ek2
      rw [kI_V] at hta
      have hj:j<m.length:=(List.getElem?_eq_some_iff.mp hkv).1
      refine ⟨t,_,rfl,SqT.of upd_same,rfl,_,_,rfl,gN ⟨_,_,rfl,gN ⟨rfl,?_⟩⟩⟩
      have w1:=same_upd (H:=G2) ht (.tup [.ref ta,.int c])
      generalize upd G2 t (.tup [.ref ta,.int c])=G3 at *
      have hta:=w1 _ _ hta
      have fd:=w1 _ _ fd
      have fe:=w1 _ _ fe
      have sG3:Same H G3:=sG2.trans w1
      clear w1 ht sG2
      dsimp only
      refine hideD fun Dy hDy=>?_
      try dsimp only
      refine hide fun u3 e3=>?_
      refine ⟨_,rfl,ta,rfl,⟨_,SqT.of hta⟩,fun ls hls=>?_⟩
      have lk:(k.map V.int).length=k.length:=List.length_map ..
      have k9:k.length≤9:=by
        obtain ⟨os,S,l,h1,h2,h3,_⟩:=gd.ord
        have:=(ordR_len h1).1
        rw [len_of_mem (asc_nd gd.asc) h2 h3]
        omega
      have hbig:(k.map V.int).length≤sizeLine:=Nat.le_of_lt (small1000 (by omega))
      refine comp_tup (K:=K) (a:=ta) (xs:=k.map V.int) (l:=ls) (fun i ys σ G'=>∃ v0:Option V,σ=[v0,some (.int sh),some (.int z)]∧ys=(shelfS sh (z % sh) (k.take i)).map V.int∧G'=upd G3 ls (.lst ys)) ⟨none,rfl,rfl,rfl⟩ (fun i ys σ G' _ h=>by obtain ⟨_,_,_,q⟩:=h; exact SqT.of (by rw [q,upd_ne (ne_of_none hta hls)]; exact hta)) ?_ ?_
      · rintro i x ys σ G hi hxi hys ⟨v0,rfl,rfl,rfl⟩
        obtain ⟨y,ey,rfl⟩:=ints_at hxi
        have ets:k.take (i+1)=k.take i++[y]:=by rw [List.take_succ,ey]; rfl
        refine ⟨_,rfl,_,rfl,_,_,rfl,rfl,by omega,_,rfl,_,rfl,_,_,rfl,rfl,by omega,rfl,_,rfl,?_⟩
        by_cases c:y % sh=z % sh
        · refine ifT (by simp [c]) ⟨_,rfl,CNx.of hbig hi hys upd_same ⟨_,rfl,?_,upd_upd⟩⟩
          rw [ets,shelfS_app,if_pos c,List.map_append]; rfl
        · refine ifF (by simp [c]) (CNo.of hi hys ⟨_,rfl,?_,rfl⟩)
          rw [ets,shelfS_app,if_neg c]
      subst e3
      rintro ys σ G' _ ⟨v0,rfl,rfl,rfl⟩
      rw [lk,List.take_length]
      refine gN ?_
      try dsimp only
      have w1:=same_upd hls (.lst ((shelfS sh (z % sh) k).map V.int))
      have els:upd G3 ls (.lst ((shelfS sh (z % sh) k).map V.int)) ls=some (.lst ((shelfS sh (z % sh) k).map V.int)):=upd_same
      have hta:=w1 _ _ hta
      have fd:=w1 _ _ fd
      have fe:=w1 _ _ fe
      have sG3:Same H (upd G3 ls (.lst ((shelfS sh (z % sh) k).map V.int))):=sG3.trans w1
      generalize upd G3 ls (.lst ((shelfS sh (z % sh) k).map V.int))=G4 at *
      clear w1 hls
      refine cpI (fun σ G=>∃ (v10 v11 v12:Option V) (lo:Addr) (qs:List (Addr×Addr×List Int)),σ=[some (.int sh),some (.int pl),some (.ref a),some (.ref d),some (.int z),some (.ref e),some (.ref ta),some (.int c),some (.ref ls),some (.ref lo),v10,v11,v12]∧Ots sh pl z k c G lo qs∧Same G4 G) (fun D' _ k'=>?_) ?_
      · refine ⟨_,rfl,_,rfl,ta,_,rfl,.inr (SqT.of hta),rfl,ints_flat _,_,rfl,?_⟩
        rw [inV_int]
        by_cases c1:z∈k
        · refine ifT (by simp [c1]) ⟨_,rfl,_,rfl,(by show 2≤sizeLine; decide),fun t1 ht1=>⟨(by show 1≤sizeLine; decide),fun lo hlo=>gN (k' _ _ ⟨_,_,_,lo,[(t1,ta,k)],rfl,?_,(same_upd ht1 _).trans (same_upd hlo _)⟩)⟩⟩
          have mN:mayB pl (shelfS sh (z % sh) k) z none=true:=by unfold mayB; rw [if_pos (.inl (mem_shelfS.mpr ⟨c1,rfl⟩))]; rfl
          have nN:Nxt k z none k:=⟨gd.asc,fun x=>by
            rw [List.mem_append,List.mem_filter,List.mem_singleton]
            unfold keepP
            constructor
            · intro h
              by_cases ex:x=z
              · exact .inr ex
              · exact .inl ⟨h,by simp [optV,ex]⟩
            · rintro (⟨h,_⟩ | rfl)
              · exact h
              · exact c1⟩
          refine ⟨upd_same,by show 1≤4; decide,fun q hq=>?_,fun q hq=>?_,fun oo ho=>?_⟩
          · have eq:=List.mem_singleton.mp hq
            subst eq
            rw [if_pos c1,Int.add_zero]
            exact ⟨same_upd hlo _ _ _ upd_same,same_upd hlo _ _ _ (same_upd ht1 _ _ _ hta)⟩
          · have eq:=List.mem_singleton.mp hq
            subst eq
            exact ⟨none,mN,nN⟩
          · have eo:oo=none:=by
              unfold mayB at ho
              rw [if_pos (.inl (mem_shelfS.mpr ⟨c1,rfl⟩))] at ho
              exact Option.isNone_iff_eq_none.mp ho
            subst eo
            exact ⟨_,List.mem_singleton.mpr rfl,nN⟩
        · refine ifF (by simp [c1]) ?_
          have ndz:(k++[z]).Nodup:=by
            rw [List.nodup_append]
            exact ⟨asc_nd gd.asc,by simp,fun x hx y hy e=>c1 (by rw [List.mem_singleton.mp hy] at e; rw [← e]; exact hx)⟩
          have nin:z∉shelfS sh (z % sh) k:=fun m=>c1 (mem_shelfS.mp m).1
          refine ⟨_,rfl,ls,_,rfl,.inl (SqL.of els),_,rfl,_,_,rfl,rfl,_,rfl,?_⟩
          rw [List.length_map]
          refine ite_dec (fun c2=>?_) (fun c2=>?_)
          · refine ⟨_,rfl,_,rfl,(by show 1≤sizeLine; decide),fun tb htb=>⟨ta,tb,_,_,rfl,rfl,same_upd htb _ _ _ hta,upd_same,by simp,(by rw [lk,sizeLine_eq]; show k.length+1≤_; omega),fun p1 H1 w1 ep1=>⟨p1,k++[z],rfl,SqT.of (by rw [List.map_append]; exact ep1),(by rw [List.length_append]; show k.length+1<64; omega),fun D os hD per srt=>⟨D,_,rfl,.inl ⟨SqL.of upd_same,fun tt htt=>⟨_,rfl,_,_,rfl,rfl,(by show 2≤sizeLine; decide),fun t1 ht1=>⟨(by show 1≤sizeLine; decide),fun lo hlo=>gN (k' _ _ ⟨_,_,_,lo,[(t1,tt,os)],rfl,?_,(((((same_upd htb _).trans w1).trans (same_upd hD _)).trans (same_upd htt _)).trans (same_upd ht1 _)).trans (same_upd hlo _)⟩)⟩⟩⟩⟩⟩⟩⟩
            have mN:mayB pl (shelfS sh (z % sh) k) z none=true:=by unfold mayB; rw [if_pos (.inr c2)]; rfl
            have nN:Nxt k z none os:=⟨asc_of ndz per srt,fun x=>by
              rw [per.mem_iff,List.mem_append,List.mem_append,List.mem_filter,List.mem_singleton]
              unfold keepP
              constructor
              · rintro (h | h)
                · exact .inl ⟨h,by have:x≠z:=fun e=>c1 (e ▸ h); simp [optV,this]⟩
                · exact .inr h
              · rintro (⟨h,_⟩ | h)
                · exact .inl h
                · exact .inr h⟩
            refine ⟨upd_same,by show 1≤4; decide,fun q hq=>?_,fun q hq=>?_,fun oo ho=>?_⟩
            · have eq:=List.mem_singleton.mp hq
              subst eq
              rw [if_neg c1]
              exact ⟨same_upd hlo _ _ _ upd_same,same_upd hlo _ _ _ (same_upd ht1 _ _ _ upd_same)⟩
            · have eq:=List.mem_singleton.mp hq
              subst eq
              exact ⟨none,mN,nN⟩
            · have eo:oo=none:=by
                unfold mayB at ho
                rw [if_pos (.inr c2)] at ho
                exact Option.isNone_iff_eq_none.mp ho
              subst eo
              exact ⟨_,List.mem_singleton.mpr rfl,nN⟩
          · have hA:∀ g∈shelfS sh (z % sh) k,mayB pl (shelfS sh (z % sh) k) z (some g)=true:=fun g hg=>by unfold mayB; rw [if_neg (fun q=>q.elim nin c2)]; exact decide_eq_true hg
            have lA:(shelfS sh (z % sh) k).length≤k.length:=List.length_filter_le ..
            have sA:=gd.sz (z % sh)
            have oA:∀ oo,mayB pl (shelfS sh (z % sh) k) z oo=true→∃ g∈shelfS sh (z % sh) k,oo=some g:=fun oo ho=>by
              unfold mayB at ho
              rw [if_neg (fun q=>q.elim nin c2)] at ho
              cases oo with
              | none=>cases ho
              | some g=>exact ⟨g,of_decide_eq_true ho,rfl⟩
            generalize hAA:shelfS sh (z % sh) k=AA at *
            have bigA:(AA.map V.int).length≤sizeLine:=Nat.le_of_lt (small1000 (by rw [List.length_map]; omega))
            refine hide fun u5 e5=>?_
            refine ⟨_,rfl,ls,rfl,⟨_,SqL.of els⟩,fun l1 hl1=>?_⟩
            refine comp_list (K:=K) (a:=ls) (xs:=AA.map V.int) (l:=l1) (fun n ys σ' G'=>∃ (v0:Option V) (as:List Addr),σ'=[v0,some (.ref ta)]∧ys=as.map V.ref∧as.length=n∧G' l1=some (.lst ys)∧(∀ (m:Nat) (ad:Addr) (g:Int),as[m]?=some ad→AA[m]?=some g→G' ad=some (.tup ((k.filter fun x=>!decide (V.int x=V.int g)).map V.int)))∧Same G4 G')
              ⟨none,[],rfl,rfl,rfl,upd_same,fun m ad g h=>(by simp at h),same_upd hl1 _⟩ (fun n ys σ' G' _ h=>by obtain ⟨_,_,_,_,_,_,_,q⟩:=h; exact SqL.of (q _ _ els)) ?_ ?_
            · rintro n x ys σ' G' hn hxn hys ⟨v0,as,rfl,rfl,hn',q1,q2,q3⟩
              obtain ⟨g,hg,rfl⟩:=ints_at hxn
              refine ⟨_,rfl,ta,rfl,⟨_,SqT.of (q3 _ _ hta)⟩,fun l2 hl2=>?_⟩
              refine comp_tup (K:=K) (a:=ta) (xs:=k.map V.int) (l:=l2) (fun i ys σ G''=>∃ v0:Option V,σ=[v0,some (.int g)]∧ys=((k.take i).filter fun x=>!decide (V.int x=V.int g)).map V.int∧G''=upd G' l2 (.lst ys)) ⟨none,rfl,rfl,rfl⟩ (fun i ys σ G'' _ h=>by obtain ⟨_,_,_,q⟩:=h; exact SqT.of (by rw [q,upd_ne (ne_of_none (q3 _ _ hta) hl2)]; exact q3 _ _ hta)) ?_ ?_
              · rintro i x ys σ G'' hi2 hxi hys2 ⟨v1,rfl,rfl,rfl⟩
                obtain ⟨y,ey,rfl⟩:=ints_at hxi
                have tk:(k.take (i+1)).filter (fun x=>!decide (V.int x=V.int g))=(k.take i).filter (fun x=>!decide (V.int x=V.int g))++(if (!decide (V.int y=V.int g))=true then [y] else []):=by rw [List.take_succ,ey,List.filter_append]; show _++List.filter _ [_]=_; rw [List.filter_cons,List.filter_nil]
                refine ⟨_,rfl,_,rfl,rfl,_,rfl,?_⟩
                refine ite_dec' (fun cc=>?_) (fun cc=>?_)
                · rw [if_pos cc] at tk
                  exact ⟨_,rfl,CNx.of hbig hi2 hys2 upd_same ⟨_,rfl,by rw [tk,List.map_append]; rfl,upd_upd⟩⟩
                · rw [if_neg cc,List.append_nil] at tk
                  exact CNo.of hi2 hys2 ⟨_,rfl,by rw [tk],rfl⟩
              rintro ys2 σ2 G'' _ ⟨v1,rfl,rfl,rfl⟩
              rw [lk,List.take_length]
              refine ⟨l2,_,rfl,.inl ⟨SqL.of upd_same,fun p hp=>?_⟩⟩
              have w2:=(same_upd hl2 (.lst ((k.filter fun x=>!decide (V.int x=V.int g)).map V.int))).trans (same_upd hp (.tup ((k.filter fun x=>!decide (V.int x=V.int g)).map V.int)))
              have np:l1≠p:=ne_of_none ((same_upd hl2 _) _ _ q1) hp
              refine CNx.of bigA hn hys (w2 _ _ q1) ⟨_,as++[p],rfl,by rw [List.map_append]; rfl,by rw [List.length_append,hn']; rfl,upd_same,fun m ad g' hm' hg'=>?_,fun x o' e'=>by rw [upd_ne (ne_of_none e' hl1)]; exact w2 _ _ (q3 _ _ e')⟩
              by_cases hmj:m<as.length
              · rw [List.getElem?_append_left hmj] at hm'
                have q:=q2 m ad g' hm' hg'
                have na:ad≠l1:=fun e=>by rw [e,q1] at q; cases q
                rw [upd_ne na]
                exact w2 _ _ q
              · rw [List.getElem?_append_right (by omega)] at hm'
                have em:m=as.length:=by
                  have:=(List.getElem?_eq_some_iff.mp hm').1
                  simp at this; omega
                subst em
                rw [Nat.sub_self] at hm'
                cases hm'
                rw [hn',hg] at hg'
                cases hg'
                rw [upd_ne (Ne.symm np)]
                exact upd_same
            rintro ys σ' G6 _ ⟨v0,as,rfl,rfl,hn',q1,q2,q3⟩
            rw [List.length_map] at hn'
            refine gN ?_
            subst e5
            try dsimp only
            have la:as.length=AA.length:=hn'
            have biga:(as.map V.ref).length≤sizeLine:=Nat.le_of_lt (small1000 (by rw [List.length_map]; omega))
            refine ⟨_,rfl,l1,rfl,⟨_,SqL.of q1⟩,fun lo hlo=>?_⟩
            refine comp_list (K:=K) (a:=l1) (xs:=as.map V.ref) (l:=lo) (fun n ys σ' G'=>∃ (v0:Option V) (qs:List (Addr×Addr×List Int)),σ'=[v0,some (.int c),some (.int z)]∧ys=qs.map (fun q=>V.ref q.1)∧qs.length=n∧G' lo=some (.lst ys)∧(∀ q∈qs,G' q.1=some (.tup [.ref q.2.1,.int (c+1)])∧G' q.2.1=some (.tup (q.2.2.map V.int)))∧(∀ (m:Nat) (q:Addr×Addr×List Int) (g:Int),qs[m]?=some q→AA[m]?=some g→Nxt k z (some g) q.2.2)∧Same G6 G')
              ⟨none,[],rfl,rfl,rfl,upd_same,fun q h=>(nomatch h),fun m q g h=>(by simp at h),same_upd hlo _⟩ (fun n ys σ' G' _ h=>by obtain ⟨_,_,_,_,_,_,_,_,q⟩:=h; exact SqL.of (q _ _ q1)) ?_ ?_
            · rintro n x ys σ' G' hn hxn hys ⟨v0,qs,rfl,rfl,hn2,r1,r2,r3,r4⟩
              rw [List.getElem?_map] at hxn
              cases ea:as[n]? with
              | none=>rw [ea] at hxn; cases hxn
              | some ad =>
                rw [ea] at hxn
                cases hxn
                have hna:n<as.length:=(List.getElem?_eq_some_iff.mp ea).1
                have eg2:AA[n]?=some AA[n]:=List.getElem?_eq_getElem (by omega)
                generalize AA[n]=g at *
                have had:=r4 _ _ (q2 n ad g ea eg2)
                have hgk:((k.filter fun x=>!decide (V.int x=V.int g)).map V.int).length≤k.length:=by rw [List.length_map]; exact List.length_filter_le ..
                have ndf:((k.filter fun x=>!decide (V.int x=V.int g))++[z]).Nodup:=by
                  rw [List.nodup_append]
                  exact ⟨(asc_nd gd.asc).sublist List.filter_sublist,by simp,fun x hx y hy e=>c1 (by rw [List.mem_singleton.mp hy] at e; rw [← e]; exact (List.mem_filter.mp hx).1)⟩
                refine ⟨_,rfl,_,rfl,(by show 1≤sizeLine; decide),fun tb htb=>⟨ad,tb,_,_,rfl,rfl,same_upd htb _ _ _ had,upd_same,by simp,(by rw [sizeLine_eq]; show _+1≤_; omega),fun p1 H1 w1 ep1=>⟨p1,(k.filter fun x=>!decide (V.int x=V.int g))++[z],rfl,SqT.of (by rw [List.map_append]; exact ep1),(by rw [List.length_map] at hgk; rw [List.length_append]; show _+1<64; omega),fun D os hD per srt=>⟨D,_,rfl,.inl ⟨SqL.of upd_same,fun tt htt=>⟨_,rfl,_,_,rfl,rfl,(by show 2≤sizeLine; decide),fun t1 ht1=>?_⟩⟩⟩⟩⟩⟩
                have w5:=(((same_upd htb (.tup [V.int z])).trans w1).trans (same_upd hD (.lst (os.map V.int)))).trans (same_upd htt (.tup (os.map V.int)))
                have w6:=w5.trans (same_upd ht1 (.tup [.ref tt,.int (c+1)]))
                have n1:t1≠lo:=Ne.symm (ne_of_none (w5 _ _ r1) ht1)
                have n2:tt≠lo:=Ne.symm (ne_of_none ((((same_upd htb (.tup [V.int z])).trans w1).trans (same_upd hD (.lst (os.map V.int)))) _ _ r1) htt)
                refine CNx.of biga hn hys (w6 _ _ r1) ⟨_,qs++[(t1,tt,os)],rfl,by rw [List.map_append]; rfl,by rw [List.length_append,hn2]; rfl,upd_same,fun q hq=>?_,fun m q g' hm' hg'=>?_,fun x o' e'=>by rw [upd_ne (ne_of_none e' hlo)]; exact w6 _ _ (r4 _ _ e')⟩
                · rcases List.mem_append.mp hq with hq | hq
                  · obtain ⟨a1,a2⟩:=r2 q hq
                    have b1:q.1≠lo:=fun e=>by rw [e,r1] at a1; cases a1
                    have b2:q.2.1≠lo:=fun e=>by rw [e,r1] at a2; cases a2
                    rw [upd_ne b1,upd_ne b2]
                    exact ⟨w6 _ _ a1,w6 _ _ a2⟩
                  · have eq:=List.mem_singleton.mp hq
                    subst eq
                    rw [upd_ne n1,upd_ne n2]
                    exact ⟨upd_same,same_upd ht1 _ _ _ upd_same⟩
                · by_cases hmj:m<qs.length
                  · rw [List.getElem?_append_left hmj] at hm'
                    exact r3 m q g' hm' hg'
                  · rw [List.getElem?_append_right (by omega)] at hm'
                    have em:m=qs.length:=by
                      have:=(List.getElem?_eq_some_iff.mp hm').1
                      simp at this; omega
                    subst em
                    rw [Nat.sub_self] at hm'
                    cases hm'
                    rw [hn2,eg2] at hg'
                    cases hg'
                    refine ⟨asc_of ndf per srt,fun x=>?_⟩
                    rw [per.mem_iff,List.mem_append,List.mem_append,List.mem_filter,List.mem_filter]
                    have:x∈k→(keepP (optV (some g)) z x=!decide (V.int x=V.int g)):=fun hx=>by
                      have:x≠z:=fun e=>c1 (e ▸ hx)
                      unfold keepP
                      simp [optV,this]
                    constructor
                    · rintro (⟨h1,h2⟩ | h)
                      · exact .inl ⟨h1,by rw [this h1]; exact h2⟩
                      · exact .inr h
                    · rintro (⟨h1,h2⟩ | h)
                      · exact .inl ⟨h1,by rw [← this h1]; exact h2⟩
                      · exact .inr h
            rintro ys σ' G7 _ ⟨v0,qs,rfl,rfl,hn2,r1,r2,r3,r4⟩
            rw [List.length_map] at hn2
            refine gN (k' _ _ ⟨_,_,_,lo,qs,rfl,⟨r1,by omega,fun q hq=>?_,fun q hq=>?_,fun oo ho=>?_⟩,q3.trans r4⟩)
            · rw [if_neg c1]; exact r2 q hq
            · obtain ⟨m,hm',eq⟩:=List.getElem_of_mem hq
              have eg2:AA[m]?=some AA[m]:=List.getElem?_eq_getElem (by omega)
              exact ⟨_,by rw [hAA]; exact hA _ (List.mem_of_getElem? eg2),r3 m q _ (by rw [List.getElem?_eq_getElem hm',eq]) eg2⟩
            · obtain ⟨g,hg,rfl⟩:=oA oo (by rw [← hAA]; exact ho)
              obtain ⟨m,hm',eq⟩:=List.getElem_of_mem hg
              have hq:qs[m]?=some qs[m]:=List.getElem?_eq_getElem (by omega)
              exact ⟨_,List.mem_of_getElem? hq,r3 m _ g hq (by rw [List.getElem?_eq_getElem hm',eq])⟩
      rintro _ G5 ⟨v10,v11,v12,lo,qs,rfl,ot,w5⟩
      have fd:=w5 _ _ fd
      have fe:=w5 _ _ fe
      have sG5:Same H G5:=sG3.trans w5
      clear w5 hta els sG3
      have ed0:e≠lo:=fun z=>by rw [z,ot.top] at fe; cases fe
      refine ⟨_,rfl,lo,rfl,⟨_,SqL.of ot.top⟩,for_list (K:=K) (a:=lo) (xs:=qs.map fun q=>V.ref q.1) (fun n σ G=>∃ (v11 v12:Option V) (m2:List (List Key×V)),σ=[some (.int sh),some (.int pl),some (.ref a),some (.ref d),some (.int z),some (.ref e),some (.ref ta),some (.int c),some (.ref ls),some (.ref lo),v10,v11,v12]∧G d=some (.frz o (.dT m))∧G e=some (.dT m2)∧m2.length≤4 * j+n∧AllG sh pl row (i+1) m2∧(jF<j→HasF sh pl row (i+1) m2)∧(∀ q∈qs.take n,∀ f,Fk sh pl row (i+1) q.2.2 f→f=c+(if z∈k then 0 else 1)→HasF sh pl row (i+1) m2)∧∀ x o',G5 x=some o'→x≠e→G x=some o')
        ⟨v11,v12,m',rfl,fd,fe,lm,ag',hf',(fun q h=>by rw [List.take_zero] at h; cases h),fun x o' e' _=>e'⟩ (fun n σ G _ h=>by obtain ⟨_,_,_,_,_,_,_,_,_,_,s⟩:=h; exact SqL.of (s _ _ ot.top (Ne.symm ed0))) ?_ ?_⟩
      · rintro n x σ G hx ⟨v11,v12,m2,rfl,gd2,ge2,lm2,ag2,hf2,hq2,s2⟩
        rw [List.getElem?_map] at hx
        cases eq:qs[n]? with
        | none=>rw [eq] at hx; cases hx
        | some q =>
          rw [eq] at hx
          cases hx
          have mq:=List.mem_of_getElem? eq
          obtain ⟨p1,p2⟩:=ot.pr q mq
          have n1:q.1≠e:=fun z=>by rw [z,fe] at p1; cases p1
          have n2:q.2.1≠e:=fun z=>by rw [z,fe] at p2; cases p2
          have p1:=s2 _ _ p1 n1
          have p2:=s2 _ _ p2 n2
          obtain ⟨oo,hm',nx⟩:=ot.snd q mq
          have g2:=gd.next eg hm' nx
          refine ⟨q.1,_,rfl,SqT.of p1,rfl,_,_,rfl,gN ⟨_,_,rfl,gN ⟨rfl,?_⟩⟩⟩
          generalize c+(if z∈k then 0 else 1)=c1 at *
          try dsimp only
          obtain ⟨x,x1,x2⟩:∃ x,(valV m2 (kI q.2.2)).getD (.int c1)=.int x∧(if x<c1 then x else c1)=lesr m2 q.2.2 c1:=by
            unfold lesr
            cases ev:valV m2 (kI q.2.2) with
            | none=>exact ⟨c1,rfl,by rw [if_neg (by omega)]⟩
            | some v =>
              obtain ⟨y,rfl,_⟩:=ag2.get ev
              refine ⟨y,rfl,?_⟩
              show _=min c1 y
              split <;> omega
          have kk:G q.2.1=some (.tup ((kI q.2.2).map kV)):=by rw [kI_V]; exact p2
          have l1:=ot.len
          have nlt:n<qs.length:=(List.getElem?_eq_some_iff.mp eq).1
          have lz:m2.length<sizeLine:=by
            have h1:4 ^ i≤4 ^ 8:=Nat.pow_le_pow_right (by decide) (by omega)
            have h2:(4:Nat) ^ 8=65536:=by decide
            rw [sizeLine_eq]
            omega
          refine ⟨_,rfl,_,rfl,e,rfl,.inr ⟨m2,.inl ge2⟩,_,rfl,_,rfl,_,DGet.t ge2 kk,c1,x,by rw [x1],?_⟩
          rw [x2]
          refine ⟨_,rfl,_,rfl,e,_,rfl,DPut.t ge2 kk lz,⟨_,_,_,rfl,by rw [upd_ne nde]; exact gd2,upd_same,?_,ag2.put g2,fun hh=>(hf2 hh).put _ _,fun q' hq' f hf3 ef=>?_,fun x o' e' nx'=>by rw [upd_ne nx']; exact s2 _ _ e' nx'⟩⟩
          · have:=length_putK m2 (kI q.2.2) (.int (lesr m2 q.2.2 c1))
            omega
          · rw [List.take_succ,eq] at hq'
            rcases List.mem_append.mp hq' with hq' | hq'
            · exact (hq2 q' hq' f hf3 ef).put _ _
            · have eqq:q'=q:=by simpa using hq'
              subst eqq ef
              exact HasF.new hf3 fun v hv=>by obtain ⟨y,ey,_⟩:=ag2.get hv; exact ⟨y,ey⟩
      · rintro σ G ⟨v11,v12,m2,rfl,gd2,ge2,lm2,ag2,hf2,hq2,s2⟩
        have l1:=ot.len
        rw [List.length_map] at lm2 hq2
        refine hDy _ _ ⟨_,_,_,_,_,_,_,m2,rfl,gd2,ge2,by omega,ag2,fun hlt=>?_,fun x o' e'=>s2 _ _ (sG5 _ _ e') (ne_of_none e' heH)⟩
        by_cases hj2:jF<j
        · exact hf2 hj2
        · have ejj:jF=j:=by omega
          subst ejj
          rw [List.getElem?_eq_getElem hj,eF] at hkv
          have ek3:=Option.some.inj hkv
          have ek4:kF=k:=kI_inj (congrArg Prod.fst ek3)
          have ek5:cF=c:=by have:=congrArg Prod.snd ek3; cases this; rfl
          subst ek4 ek5
          obtain ⟨oo,hm',nx⟩:=fF.next hp0 hi eg
          obtain ⟨q,mq,nq⟩:=ot.all oo hm'
          exact hq2 q (by rw [List.take_length]; exact mq) _ (nx _ nq) rfl
    · rintro σ G2 ⟨v6,v7,v8,v9,v10,v11,v12,m',rfl,fd,fe,lm,ag',hf',sG2⟩
      subst e2
      try dsimp only
      exact ⟨_,rfl,gN (hDz _ _ ⟨_,_,_,_,_,_,_,_,_,e,m',rfl,heH,fe,by rw [Nat.pow_succ]; omega,ag',hf' hjF,sG2⟩)⟩
  · rintro σ G ⟨v4,v5,v6,v7,v8,v9,v10,v11,v12,d,m,rfl,hd,ed,hm,ag,hf,sG⟩
    subst e1
    try dsimp only
    rw [List.length_map] at ag hf
    refine ⟨_,rfl,d,m,rfl,ed,fun v hv=>⟨v,d,m,rfl,upd_same,by rw [upd_ne (ne_of_none ed hv)]; exact ed,fun l hl'=>?_⟩⟩
    obtain ⟨ns,en⟩:∃ ns:List Int,m.map Prod.snd=ns.map V.int:=by
      refine ⟨m.map fun p=>match p.2 with | .int x=>x | _=>0,?_⟩
      rw [List.map_map]
      refine List.map_congr_left fun p hp=>?_
      obtain ⟨k,c,rfl,_⟩:=ag p hp
      rfl
    rw [en]
    refine ⟨l,ns,rfl,SqL.of upd_same,fun e0=>?_,fun mn h1 h2=>?_⟩
    · obtain ⟨k,c,_,f2⟩:=hf
      have:=val_in f2
      rw [e0] at en
      have:m=[]:=by simpa using en
      rw [this] at f2
      cases f2
    · rw [states_least (by omega) hp0 ag hf en h1 h2]
      exact k _ (sG.trans ((same_upd hv _).trans (same_upd hl' _)))
end
section
variable {sh:Int} {row:List Int}
def lastI (sh:Int) (row:List Int):Nat→Int→Option Int
  | 0,_=>none
  | i+1,s=>if row.getD i 0 % sh=s then some (row.getD i 0) else lastI sh row i s
def aloneF (sh:Int) (row:List Int):Nat→Int
  | 0=>0
  | i+1=>aloneF sh row i+(if lastI sh row i (row.getD i 0 % sh)=some (row.getD i 0) then 0 else 1)
theorem alone_inv {os:List (Option Int)} {S:List Int×Nat} (h:ordR sh 1 row os row.length=some S):∀ i,i≤row.length→(oS sh 1 row os i).1.Nodup∧(∀ x,x∈(oS sh 1 row os i).1↔lastI sh row i (x % sh)=some x)∧((oS sh 1 row os i).2:Int)=aloneF sh row i
  | 0,_=>⟨List.nodup_nil,fun x=>⟨fun h=>(nomatch h),fun h=>(nomatch h)⟩,rfl⟩
  | i+1,hi=>by
    obtain ⟨n1,m1,c1⟩:=alone_inv h i (by omega)
    obtain ⟨hm,hh,hn⟩:=ord_step h (by omega:i<row.length)
    have eL:∀ s,lastI sh row (i+1) s=if row.getD i 0 % sh=s then some (row.getD i 0) else lastI sh row i s:=fun _=>rfl
    have eA:aloneF sh row (i+1)=aloneF sh row i+(if lastI sh row i (row.getD i 0 % sh)=some (row.getD i 0) then 0 else 1):=rfl
    rw [eA]
    generalize row.getD i 0=b at *
    by_cases hb:b∈(oS sh 1 row os i).1
    · have lb:=(m1 b).mp hb
      rw [hh hb,if_pos lb]
      refine ⟨n1,fun x=>?_,by rw [c1]; omega⟩
      rw [eL,m1 x]
      by_cases e:b % sh=x % sh
      · rw [if_pos e,← e,lb]
      · rw [if_neg e]
    · have lb:¬ lastI sh row i (b % sh)=some b:=fun z=>hb ((m1 b).mpr z)
      rw [hn hb,if_neg lb]
      have nb:b∉shelfS sh (b % sh) (oS sh 1 row os i).1:=fun z=>hb (mem_shelfS.mp z).1
      refine ⟨?_,fun x=>?_,by rw [← c1]; rfl⟩
      · show (lessO _ _++[_]).Nodup
        rw [List.nodup_append]
        exact ⟨n1.sublist less_sub,by simp,fun x hx y hy e=>hb (by rw [List.mem_singleton.mp hy] at e; rw [← e]; exact in_less hx)⟩
      · show x∈lessO _ _++[_]↔_
        rw [List.mem_append,List.mem_singleton,mem_less n1,eL]
        unfold mayB at hm
        by_cases e:b % sh=x % sh
        · rw [if_pos e]
          constructor
          · rintro (⟨h1,h2⟩ | rfl)
            · exfalso
              have hx:x∈shelfS sh (b % sh) (oS sh 1 row os i).1:=mem_shelfS.mpr ⟨h1,e.symm⟩
              have hp:=List.length_pos_of_mem hx
              rw [if_neg (fun z=>z.elim nb (by omega))] at hm
              cases eo:os.getD i none with
              | none=>rw [eo] at hm; cases hm
              | some g =>
                rw [eo] at hm
                obtain ⟨g1,g2⟩:=mem_shelfS.mp (of_decide_eq_true hm)
                have q1:=(m1 g).mp g1
                have q2:=(m1 x).mp h1
                rw [g2,e,q2] at q1
                exact h2 g eo (Option.some.inj q1)
            · rfl
          · intro z
            exact .inr (Option.some.inj z).symm
        · rw [if_neg e,← m1 x]
          constructor
          · rintro (⟨h1,_⟩ | rfl)
            · exact h1
            · exact absurd rfl e
          · intro h1
            refine .inl ⟨h1,fun g eg ex=>?_⟩
            rw [eg] at hm
            split at hm
            · cases hm
            · exact e (by rw [← (mem_shelfS.mp (of_decide_eq_true hm)).2,ex])
theorem least_alone:leastF sh 1 row=aloneF sh row row.length:=by
  obtain ⟨c,e⟩:=ord_due (sh:=sh) (Int.le_refl 1) row row.length (Nat.le_refl _)
  rw [least_eq (Int.le_refl 1)]
  exact (alone_inv e row.length (Nat.le_refl _)).2.2
end
section
variable {P:Program} {w:World} {K:PySem.W.Frag} {mg:Str→Option Value} {base:Heap}
def spAl (K:PySem.W.Frag):Sp:=fun vs H Q _=>∃ (a:Addr) (sh:Int) (row:List Int),vs=[.int sh,.ref a]∧SqL K H a (row.map V.int)∧1≤sh∧row.length≤400∧∀ H',Same H H'→Q (.int (aloneF sh row row.length)) H'
theorem ok_alone {f:Addr} {fd:FuncData} (F:Fun K "_law_alone" "_law_alone" s_alone f fd) (T:Txt K mg):FnOk P w K mg base CX0 1 f fd P_alone (spAl K):=by
  refine F.ok sc_alone (fun vs H Q E h=>?_) (fun cdv A outer st H vs Q E hr h=>?_)
  · obtain ⟨a,sh,row,rfl,_⟩:=h
    rfl
  obtain ⟨a,sh,row,rfl,hS,hs0,hl,k⟩:=h
  have nd:=sc_alone.nd
  have hu:=hu_of hr
  refine ⟨_,(pss_cons (ps_par (i:=2) (j:=3) rfl nd rfl rfl (by decide) rfl rfl (pc pe_dnewK (pc pe_int pa_nil)) rfl)
      (pss_cons (ps_for PassesOwn.never rfl (pi_listK (K:=K) rfl (pv 1)) (pgn 4 nd) (pss_cons (pst 3 nd (pe_op op_add (pv 3) (pe_callTyN call_int1 rfl T.z_int boot_intT (pc (pe_cmpR op_ne (pe_dget1 hu (pv 2) (pe_op op_mod (pv 4) (pv 0)) ⟨rfl,rfl,rfl,rfl⟩) (pv 4) (nomark _)) pa_nil))))
      (pss_one (ps_dput hu (pv 2) (pe_op op_mod (pv 4) (pv 0)) (pv 4) rfl))))
      (pss_one (ps_ret (pv 3))))),?_⟩
  refine fun d hd=>⟨_,_,rfl,?_⟩
  have s0:=same_upd (H:=H) hd (.dK [])
  have e0:upd H d (.dK []) d=some (.dK []):=upd_same
  generalize upd H d (.dK [])=G0 at *
  refine ⟨_,rfl,a,rfl,⟨_,s0.seq hS⟩,for_list (K:=K) (a:=a) (xs:=row.map V.int) (fun i σ G=>∃ (v4:Option V) (kvs:List (Key×V)),σ=[some (.int sh),some (.ref a),some (.ref d),some (.int (aloneF sh row i)),v4]∧G d=some (.dK kvs)∧kvs.length≤i∧(∀ s:Int,valV kvs (Sum.inl s:Key)=(lastI sh row i s).map V.int)∧Same H G)
    ⟨none,[],rfl,e0,Nat.le_refl _,fun s=>rfl,s0⟩ (fun i σ G _ h=>by obtain ⟨_,_,_,_,_,_,s⟩:=h; exact s.seq hS) ?_ ?_⟩
  · rintro i x σ G hx ⟨v4,kvs,rfl,gd,hk,hv,sG⟩
    obtain ⟨z,hz,rfl⟩:=ints_at hx
    have hi:i<row.length:=(List.getElem?_eq_some_iff.mp hz).1
    have eg:row.getD i 0=z:=by rw [List.getD_eq_getElem?_getD,hz]; rfl
    have eA:aloneF sh row (i+1)=aloneF sh row i+(if lastI sh row i (z % sh)=some z then 0 else 1):=by rw [← eg]; rfl
    have eL:∀ s,lastI sh row (i+1) s=if z % sh=s then some z else lastI sh row i s:=fun _=>by rw [← eg]; rfl
    refine gN ⟨_,rfl,_,rfl,d,rfl,.inl ⟨_,.inl gd⟩,_,rfl,_,rfl,_,_,rfl,rfl,by omega,_,DGet.k (k:=Sum.inl (z % sh)) gd,?_⟩
    rw [hv (z % sh)]
    have fin:∀ kk:Bool,kk=!decide (((lastI sh row i (z % sh)).map V.int).getD V.non=V.int z)→V.int (aloneF sh row i+(if kk=true then 1 else 0))=V.int (aloneF sh row (i+1)):=fun kk e=>by
      rw [eA,e]
      congr 2
      by_cases c:lastI sh row i (z % sh)=some z
      · rw [if_pos c,c]; simp
      · rw [if_neg c,if_pos]
        cases el:lastI sh row i (z % sh) with
        | none=>rfl
        | some g =>
          have:¬ g=z:=fun q=>c (by rw [el,q])
          simp [this]
    have sc:scal (((lastI sh row i (z % sh)).map V.int).getD V.non) (.int z)=true:=by cases lastI sh row i (z % sh) <;> rfl
    refine ⟨_,rfl,sc,.inr ⟨_,rfl,_,_,rfl,rfl,?_⟩⟩
    dsimp only
    rw [fin _ rfl]
    refine gN ⟨_,rfl,_,rfl,_,rfl,_,rfl,_,_,rfl,rfl,by omega,d,_,rfl,DPut.k (k:=Sum.inl (z % sh)) gd (small1000 (by omega)),⟨_,_,rfl,upd_same,?_,fun s=>?_,fun x o e=>?_⟩⟩
    · exact Nat.le_trans (length_putK ..) (by omega)
    · rw [valV_put,eL]
      by_cases e:z % sh=s
      · subst e
        rw [if_pos rfl,if_pos rfl]; rfl
      · rw [if_neg (fun q=>e (Sum.inl.inj q).symm),if_neg e,hv s]
    · rw [upd_ne (ne_of_none e hd)]
      exact sG _ _ e
  · rintro σ G ⟨v4,kvs,rfl,gd,hk,hv,sG⟩
    rw [List.length_map]
    exact ⟨_,rfl,k G sG⟩
def spFew (K:PySem.W.Frag):Sp:=fun vs H Q _=>∃ (b:Addr) (a q c:Int),vs=[.ref b]∧BoxAt H b a q c∧c<310000000 ∧
  ∀ (l:Addr) (ns:List Int) (a' c':Int) (H':Hp),H l=none→H' l=some (.lst (ns.map V.int))→ns.length≤9→Bds 9999 ns→BoxAt H' b a' q c'→c'≤c+20→SB b H H'→Q (.ref l) H'
theorem ok_few_asked {f:Addr} {fd:FuncData} (F:Fun K "_law_few_asked" "_law_few_asked" s_few_asked f fd) (T:Txt K mg) (D_take:Def P w K mg base "_law_take" 1 P_take spTake):FnOk P w K mg base CX0 2 f fd P_few_asked (spFew K):=by
  refine F.ok sc_few_asked (fun vs H Q E h=>?_) (fun cdv A outer st H vs Q E hr h=>?_)
  · obtain ⟨b,a,q,c,rfl,_⟩:=h
    rfl
  obtain ⟨b,a,q,c,rfl,B,hc,k⟩:=h
  have nd:=sc_few_asked.nd
  refine ⟨_,(pss_cons (pst 1 nd (pe_slice (sl_listK (K:=K) rfl) (pe_lst (pc (pe_defN D_take hr.m rfl (pc (pv 0) (pc pe_int pa_nil))) (pc pe_int (pc pe_int (pc pe_int (pc pe_int (pc pe_int pa_nil))))))) po_none (po_some (pe_op op_add pe_int (pe_defN D_take hr.m rfl (pc (pv 0) (pc pe_int pa_nil)))))))
      (pss_one (ps_ret (pe_comp0 (compOk_of (osc:=(defScope s_few_asked)) (oN:=N_few_asked) (N:=["_law_k", "_law_some", "_law_box_here"]) (own:=1) (js:=[1,0]) (by decide +kernel) rfl rfl) rfl (pi_range1 rfl T.z_range (pc (pe_defN D_take hr.m rfl (pc (pv 0) (pc pe_int pa_nil))) pa_nil)) (fun _ _ _ _ _ _=>(pgn 0 (show List.Nodup (["_law_k", "_law_some", "_law_box_here"]:List Str) by decide +kernel))) (fun _ _ _ _ _ _=>(pe_ix (ix_listK (K:=K) rfl) (pv 1) (pe_defN D_take hr.m rfl (pc (pv 2) (pc (pe_callBN (call_len_seqK (K:=K) rfl) rfl T.z_len PySem.boot_len (pc (pv 1) pa_nil)) pa_nil))) (fun _ _=>rfl))))))),?_⟩
  refine ⟨_,rfl,b,a,q,c,3,rfl,B,by omega,by decide,by decide,fun r1 a1 c1 H1 r10 r11 B1 hc1 s1=>⟨(by show 6≤sizeLine; decide),fun l0 hl0=>?_⟩⟩
  have s2:=same_upd (H:=H1) hl0 (.lst ([r1,3,4,5,9,14].map V.int))
  have e0:upd H1 l0 (.lst ([r1,3,4,5,9,14].map V.int)) l0=some (.lst ([r1,3,4,5,9,14].map V.int)):=upd_same
  have n0b:l0≠b:=Ne.symm (ne_of_none B1.at' hl0)
  have B2:=B1.same s2
  have u2:SB b H _:=s1.trans (s2.sb b)
  refine ⟨_,rfl,b,a1,q,c1,5,rfl,B2,by omega,by decide,by decide,fun r2 a2 c2 H2 r20 r21 B3 hc2 t2=>⟨_,_,rfl,rfl,_,rfl,?_⟩⟩
  refine ⟨l0,_,rfl,SqL.of (t2 _ _ n0b e0),fun l1 hl1=>gN ?_⟩
  obtain ⟨ns0,ens,n1,n2,n3⟩:∃ ns0:List Int,cutV ([r1,3,4,5,9,14].map V.int) none (some (2+r2))=ns0.map V.int∧0<ns0.length∧ns0.length≤6∧Bds 9999 ns0:=by
    have:r2=0∨r2=1∨r2=2∨r2=3∨r2=4:=by omega
    rcases this with rfl | rfl | rfl | rfl | rfl
    · exact ⟨[r1,3],rfl,by simp,by simp,fun n hn=>by simp at hn; omega⟩
    · exact ⟨[r1,3,4],rfl,by simp,by simp,fun n hn=>by simp at hn; omega⟩
    · exact ⟨[r1,3,4,5],rfl,by simp,by simp,fun n hn=>by simp at hn; omega⟩
    · exact ⟨[r1,3,4,5,9],rfl,by simp,by simp,fun n hn=>by simp at hn; omega⟩
    · exact ⟨[r1,3,4,5,9,14],rfl,by simp,by simp,fun n hn=>by simp at hn; omega⟩
  rw [ens]
  have s3:=same_upd (H:=H2) hl1 (.lst (ns0.map V.int))
  have e1:upd H2 l1 (.lst (ns0.map V.int)) l1=some (.lst (ns0.map V.int)):=upd_same
  have n1b:l1≠b:=Ne.symm (ne_of_none B3.at' hl1)
  have B4:=B3.same s3
  have u3:SB b H (upd H2 l1 (.lst (ns0.map V.int))):=(u2.trans t2).trans (s3.sb b)
  generalize upd H2 l1 (.lst (ns0.map V.int))=H3 at *
  refine ⟨_,rfl,b,a2,q,c2,10,rfl,B4,by omega,by decide,by decide,fun r3 a3 c3 H4 r30 r31 B5 hc3 t3=>⟨_,rfl,by omega,by omega,fun l2 hl2=>?_⟩⟩
  have n2b:l2≠b:=Ne.symm (ne_of_none B5.at' hl2)
  have hl2H:H l2=none:=sb_fresh (u3.trans t3) B5.at' hl2
  refine comp_range (lo:=0) (n:=r3.toNat) (l:=l2) (fun j ys σ G=>∃ (v0:Option V) (ns:List Int) (a' c':Int),σ=[v0,some (.ref l1),some (.ref b)]∧ys=ns.map V.int∧ns.length=j∧Bds 9999 ns∧G l2=some (.lst ys)∧BoxAt G b a' q c'∧c'≤c3+j∧SB b H4 G)
    ⟨none,[],a3,c3,rfl,rfl,rfl,fun n h=>(nomatch h),upd_same,B5.same (same_upd hl2 _),by omega,(same_upd hl2 _).sb b⟩ ?_ ?_
  · rintro j ys σ G hj hys ⟨v0,ns,a',c',rfl,rfl,hnl,bd,gl,Bg,hcg,sb⟩
    have g1:=sb _ _ n1b (t3 _ _ n1b e1)
    refine ⟨_,rfl,_,rfl,_,rfl,l1,_,rfl,.inl (SqL.of g1),b,a',q,c',_,rfl,Bg,by omega,by rw [List.length_map]; omega,by rw [List.length_map]; omega,fun r a4 c4 G2 r0 r1' B6 hc4 t4=>?_⟩
    rw [List.length_map] at r1'
    obtain ⟨g,hg,gm⟩:=at_mem r0 r1'
    refine ⟨l1,_,_,_,rfl,rfl,SqL.of (t4 _ _ n1b g1),hg,CNx.of (Nat.le_of_lt (small1000 (by omega))) hj hys (t4 _ _ n2b gl) ⟨_,ns++[g],a4,c4,rfl,by rw [List.map_append]; rfl,by rw [List.length_append,hnl]; rfl,fun n hn=>(List.mem_append.mp hn).elim (bd n) fun hn=>by rw [List.mem_singleton.mp hn]; exact n3 g gm,upd_same,⟨by rw [upd_ne (Ne.symm n2b)]; exact B6.at',B6.a0,B6.q0,B6.q1,B6.c0⟩,by omega,fun x o nx e=>by rw [upd_ne (ne_of_none e hl2)]; exact t4 _ _ nx (sb _ _ nx e)⟩⟩
  · rintro ys σ G _ ⟨v0,ns,a',c',rfl,rfl,hnl,bd,gl,Bg,hcg,sb⟩
    exact k l2 ns a' c' G hl2H gl (by omega) bd Bg (by omega) ((u3.trans t3).trans sb)
def spSmall (K:PySem.W.Frag):Sp:=fun vs H Q _=>∃ (b:Addr) (a q c:Int),vs=[.ref b]∧BoxAt H b a q c∧c<300000000 ∧
  ∀ (p l:Addr) (sh pl:Int) (ns:List Int) (a' c':Int) (H':Hp),H' p=some (.tup [.int sh,.int pl,.ref l])→H l=none→H' l=some (.lst (ns.map V.int))→1≤sh→sh≤3→1≤pl→pl≤4→ns.length≤9→Bds 9999 ns→BoxAt H' b a' q c'→c'≤c+30→SB b H H'→Q (.ref p) H'
theorem ok_small {f:Addr} {fd:FuncData} (F:Fun K "_law_small" "_law_small" s_small f fd) (T:Txt K mg) (D_take:Def P w K mg base "_law_take" 1 P_take spTake) (D_few_asked:Def P w K mg base "_law_few_asked" 2 P_few_asked (spFew K)):FnOk P w K mg base CX0 3 f fd P_small (spSmall K):=by
  refine F.ok sc_small (fun vs H Q E h=>?_) (fun cdv A outer st H vs Q E hr h=>?_)
  · obtain ⟨b,a,q,c,rfl,_⟩:=h
    rfl
  obtain ⟨b,a,q,c,rfl,B,hc,k⟩:=h
  have nd:=sc_small.nd
  refine ⟨_,(pss_cons (ps_par (i:=1) (j:=2) rfl nd rfl rfl (by decide) rfl rfl (pc (pe_op op_add pe_int (pe_defN D_take hr.m rfl (pc (pv 0) (pc pe_int pa_nil)))) (pc (pe_op op_add pe_int (pe_defN D_take hr.m rfl (pc (pv 0) (pc pe_int pa_nil)))) pa_nil)) rfl)
      (pss_one (ps_ret (pe_tup (pc (pv 1) (pc (pv 2) (pc (pe_defN D_few_asked hr.m rfl (pc (pv 0) pa_nil)) pa_nil))))))),?_⟩
  refine ⟨_,rfl,b,a,q,c,3,rfl,B,by omega,by decide,by decide,fun r1 a1 c1 H1 r10 r11 B1 hc1 s1=>⟨_,_,rfl,rfl,_,rfl,b,a1,q,c1,4,rfl,B1,by omega,by decide,by decide,fun r2 a2 c2 H2 r20 r21 B2 hc2 s2=>⟨_,_,rfl,rfl,_,_,rfl,?_⟩⟩⟩
  refine ⟨_,rfl,_,rfl,_,rfl,b,a2,q,c2,rfl,B2,by omega,fun l ns a3 c3 H3 hl el ln bd B3 hc3 s3=>⟨(by show 3≤sizeLine; decide),fun p hp=>?_⟩⟩
  have u2:=s1.trans s2
  exact k p l _ _ ns a3 c3 _ upd_same (sb_fresh u2 B2.at' hl) (same_upd hp _ _ _ el) (by omega) (by omega) (by omega) (by omega) ln bd (B3.same (same_upd hp _)) (by omega) ((u2.trans s3).trans ((same_upd hp _).sb b))
end
section
variable {P:Program} {w:World} {K:PySem.W.Frag} {mg:Str→Option Value} {base:Heap}
def spRight (K:PySem.W.Frag):Sp:=fun vs H Q _=>∃ (b:Addr) (a q c:Int),vs=[.ref b]∧BoxAt H b a q c∧c<290000000∧Tb K H∧∀ H',SB b H H'→Q (.bl true) H'
theorem cnt_le {sh pl:Int} {row:List Int} {os:List (Option Int)} {c:Int} (hl:row.length≤400) (hp:1≤pl) (h:cntF sh pl row os=some c):leastF sh pl row≤c:=by
  unfold cntF at h
  split at h
  case isFalse=>cases h
  case isTrue e =>
    cases e2:ordR sh pl row os row.length with
    | none=>rw [e2] at h; cases h
    | some S =>
      rw [e2] at h
      have q:=least_le (by omega) hp (Int.le_refl pl) (ord_pol hp e2)
      have e3:(oS sh pl row os row.length).2=S.2:=by unfold oS; rw [e2]; rfl
      rw [← Option.some.inj h]
      show leastF sh pl row≤(S.2:Int)
      rw [← e3]
      exact q
theorem reS {t:TS} {D:Ends} {σ:St} {H:Hp} (σ':St) (e:σ=σ') (h:t D σ' H):t D σ H:=e ▸ h
def OrdAt (sh pl:Int) (row:List Int) (G:Hp) (d:Addr):Prop:=∃ os:List (Option Int),G d=some (.lst (os.map optV))∧∃ c,cntF sh pl row os=some c
theorem ok_right {f:Addr} {fd:FuncData} (F:Fun K "_law_right" "_law_right" s_right f fd) (T:Txt K mg) (D_small:Def P w K mg base "_law_small" 3 P_small (spSmall K)) (D_same':∀ n,Def P w K mg base "_law_same" (n+1) P_same (spSameE n)) (D_least_misses:Def P w K mg base "least_misses" 9 P_least_misses (spLeast K)) (D_least:Def P w K mg base "_law_least" 1 P_least (spLs K)) (D_shape:Def P w K mg base "_law_shape" 2 P_shape spShape) (D_asked:Def P w K mg base "_law_asked" 3 P_asked spAsked)
    (D_misses_by:Def P w K mg base "misses_by" 4 P_misses_by (spBy K)) (D_farthest:Def P w K mg base "farthest" 8 P_farthest (spDue K)) (D_alone:Def P w K mg base "_law_alone" 1 P_alone (spAl K)) (D_misses:Def P w K mg base "misses" 8 P_misses (spMiss K)) (D_drawn_order:Def P w K mg base "_law_drawn_order" 2 P_drawn_order (spDrw K)):FnOk P w K mg base CX0 10 f fd P_right (spRight K):=by
  refine F.ok sc_right (fun vs H Q E h=>?_) (fun cdv A outer st H vs Q E hr h=>?_)
  · obtain ⟨b,a,q,c,rfl,_⟩:=h
    rfl
  obtain ⟨b,a,q,c,rfl,B,hc,tb,k⟩:=h
  have ntb:tabOf K "Room" "going" ≠ b:=ne_of tb B.1 (by intro z; cases z)
  have nd:=sc_right.nd
  have hu:=hu_of hr
  have D_same:=D_same' 0
  refine ⟨_,(pss_cons (ps_asg (pe_defN D_small hr.m rfl (pc (pv 0) pa_nil)) (pg_tupK (K:=K) (n:=3) rfl rfl (pgs_cons (pgn 1 nd) (pgs_cons (pgn 2 nd) (pgs_cons (pgn 3 nd) pgs_nil)))))
      (pss_cons (ps_if (pt_not (pt_val (pe_defN D_same hr.m rfl (pc (pe_defN D_least_misses hr.m rfl (pc (pv 1) (pc (pv 2) (pc (pv 3) pa_nil)))) (pc (pe_defN D_least hr.m rfl (pc (pv 1) (pc (pv 2) (pc (pv 3) pa_nil)))) pa_nil))))) (pss_one (ps_ret pe_bl)) pss_nil)
      (pss_cons (ps_asg (pe_defN D_shape hr.m rfl (pc (pv 0) pa_nil)) (pg_tupK (K:=K) (n:=3) rfl rfl (pgs_cons (pgn 1 nd) (pgs_cons (pgn 2 nd) (pgs_cons (pgn 4 nd) pgs_nil)))))
      (pss_cons (pst 3 nd (pe_defN D_asked hr.m rfl (pc (pv 0) (pc pe_int (pc pe_int pa_nil)))))
      (pss_cons (pst 5 nd (pe_callTyN (call_list_ofK (K:=K) rfl) rfl T.z_list boot_listT (pc (pv 3) pa_nil)))
      (pss_cons (pst 6 nd (pe_defN D_least_misses hr.m rfl (pc (pv 1) (pc (pv 2) (pc (pv 3) pa_nil)))))
      (pss_cons (ps_if (pt_cmpR op_ne (pe_defN D_misses_by hr.m rfl (pc (pv 1) (pc (pv 2) (pc (pv 3) (pc (pe_defN D_farthest hr.m rfl (pc (pv 1) (pc (pv 2) (pc (pv 3) pa_nil)))) pa_nil))))) (pv 6) (nomark _)) (pss_one (ps_ret pe_bl)) pss_nil)
      (pss_cons (ps_if (pt_cmpR op_gt (pe_defN D_least_misses hr.m rfl (pc (pv 1) (pc (pe_callBN (call_min2 rfl) rfl T.z_min boot_min (pc pe_int (pc (pe_op op_add (pv 2) pe_int) pa_nil))) (pc (pv 3) pa_nil)))) (pv 6) (nomark _)) (pss_one (ps_ret pe_bl)) pss_nil)
      (pss_cons (ps_if (pt_cmpR op_ne (pe_defN D_least_misses hr.m rfl (pc (pv 1) (pc pe_int (pc (pv 3) pa_nil)))) (pe_defN D_alone hr.m rfl (pc (pv 1) (pc (pv 3) pa_nil))) (nomark _)) (pss_one (ps_ret pe_bl)) pss_nil)
      (pss_cons (ps_if (pt_val (pe_callBN (call_anyL rfl) rfl T.z_any boot_any (pc (pe_comp0 (compOk_of (osc:=(defScope s_right)) (oN:=N_right) (N:=["_law_one", "_law_least_here", "_law_shelves", "_law_places", "_law_row"]) (own:=1) (js:=[6,1,2,3]) (by decide +kernel) rfl rfl) rfl (pi_tupK (K:=K) rfl (pe_tup (pc pe_str (pc pe_str (pc pe_str pa_nil))))) (fun _ _ _ _ _ _=>(pgn 0 (show List.Nodup (["_law_one", "_law_least_here", "_law_shelves", "_law_places", "_law_row"]:List Str) by decide +kernel))) (fun _ _ _ _ _ _=>(pe_cmpR op_lt (pe_defN D_misses hr.m rfl (pc (pv 2) (pc (pv 3) (pc (pv 0) (pc (pv 4) pa_nil))))) (pv 1) (nomark _)))) pa_nil))) (pss_one (ps_ret pe_bl)) pss_nil)
      (pss_cons (ps_comp0 7 (compOk_of (osc:=(defScope s_right)) (oN:=N_right) (N:=["_law_turn", "_law_box_here", "_law_shelves", "_law_places", "_law_row"]) (own:=1) (js:=[0,1,2,3]) (by decide +kernel) rfl rfl) rfl nd rfl rfl (pi_range1 rfl T.z_range (pc pe_int pa_nil)) (fun _ _ _ _ _ _=>(pgn 0 (show List.Nodup (["_law_turn", "_law_box_here", "_law_shelves", "_law_places", "_law_row"]:List Str) by decide +kernel))) (fun _ _ _ _ _ _=>(pe_defN D_drawn_order hr.m rfl (pc (pv 1) (pc (pv 2) (pc (pv 3) (pc (pv 4) pa_nil)))))))
      (pss_cons (ps_if (pt_cmpR (op_neL (K:=K) (Nat.lt_of_succ_lt hu) rfl) (pv 3) (pv 5) (nomark _)) (pss_one (ps_ret pe_bl)) pss_nil)
      (pss_one (ps_ret (pe_not (pe_callBN (call_anyL rfl) rfl T.z_any boot_any (pc (pe_comp0 (compOk_of (osc:=(defScope s_right)) (oN:=N_right) (N:=["_law_choice", "_law_least_here", "_law_shelves", "_law_places", "_law_row"]) (own:=1) (js:=[6,1,2,3]) (by decide +kernel) rfl rfl) rfl (pi_listK (K:=K) rfl (pv 7)) (fun _ _ _ _ _ _=>(pgn 0 (show List.Nodup (["_law_choice", "_law_least_here", "_law_shelves", "_law_places", "_law_row"]:List Str) by decide +kernel))) (fun _ _ _ _ _ _=>(pe_cmpR op_lt (pe_defN D_misses_by hr.m rfl (pc (pv 2) (pc (pv 3) (pc (pv 4) (pc (pv 0) pa_nil))))) (pv 1) (nomark _)))) pa_nil))))))))))))))))),?_⟩
  refine hide fun u1 ee=>?_
  refine ⟨_,rfl,b,a,q,c,rfl,B,by omega,fun p l0 sh pl ns a1 c1 H1 e1 hl0 e0 sh0 sh1 pl0 pl1 ln bd0 B1 hc1 s1=>⟨p,_,rfl,SqT.of e1,rfl,_,_,rfl,gN ⟨_,_,rfl,gN ⟨_,_,rfl,gN ⟨rfl,?_⟩⟩⟩⟩⟩
  subst ee
  try dsimp only
  refine hide fun u1 ee=>?_
  refine ⟨_,rfl,_,rfl,_,rfl,sh,pl,l0,ns,rfl,SqL.of e0,sh0,by omega,pl0,by omega,by omega,bd0,fun H2 t2=>⟨_,rfl,_,rfl,_,rfl,l0,sh,pl,ns,rfl,SqL.of (t2 _ _ e0),sh0,pl0,pl1,ln,fun H3 t3=>⟨_,_,rfl,Eqv.sc (show Sc (V.int (leastF sh pl ns)) from trivial) 0,fun H4 t4=>⟨_,rfl,ifF rfl ?_⟩⟩⟩⟩
  subst ee
  try dsimp only [tNext]
  have s5:=t2.trans (t3.trans t4)
  have B5:=B1.same s5
  have u5:SB b H H4:=s1.trans (s5.sb b)
  clear t2 t3 t4 s5 B1 s1 e0 e1 hl0 bd0 B
  refine hide fun u1 ee=>?_
  refine ⟨_,rfl,b,a1,q,c1,rfl,B5,by omega,fun p sh pl ru a2 c2 H5 e1 sh0 sh1 pl0 pl1 hru B6 hc2 s1=>⟨p,_,rfl,SqT.of e1,rfl,_,_,rfl,gN ⟨_,_,rfl,gN ⟨_,_,rfl,gN ⟨rfl,?_⟩⟩⟩⟩⟩
  subst ee
  try dsimp only
  refine hide fun u1 ee=>?_
  refine ⟨_,rfl,b,a2,q,c2,40,40,rfl,B6,by omega,by decide,by decide,by decide,fun lr row a3 c3 H6 hlr e2 len2 bd B7 hc3 s2=>gN ?_⟩
  subst ee
  try dsimp only
  have u7:=u5.trans (s1.trans s2)
  have nlr:lr≠b:=Ne.symm (ne_of_none B6.at' hlr)
  refine hide fun u1 ee=>?_
  refine ⟨_,rfl,lr,_,rfl,.inl (SqL.of e2),fun lk hlk=>gN ?_⟩
  have g4:=same_upd hlk (.lst (row.map V.int)) _ _ e2
  have g5:upd H6 lk (.lst (row.map V.int)) lk=some (.lst (row.map V.int)):=upd_same
  have u8:SB b H (upd H6 lk (.lst (row.map V.int))):=u7.trans ((same_upd hlk _).sb b)
  have nlk:lk≠b:=Ne.symm (ne_of_none B7.at' hlk)
  have B8:=B7.same (same_upd hlk (.lst (row.map V.int)))
  subst ee
  try dsimp only
  generalize upd H6 lk (.lst (row.map V.int))=H8 at *
  clear s1 s2 u7 u5 B5 B6 B7 e1 e2 hlr hlk
  have l4:row.length≤400:=by omega
  refine hide fun u1 ee=>?_
  refine ⟨_,rfl,_,rfl,_,rfl,sh,pl,lr,row,rfl,SqL.of g4,sh0,sh1,pl0,pl1,l4,bd,fun H9 t9=>gN ?_⟩
  subst ee
  try dsimp only
  have g4:=t9 _ _ g4
  have g5:=t9 _ _ g5
  have B9:=B8.same t9
  have u9:SB b H H9:=u8.trans (t9.sb b)
  clear t9 B8 u8
  refine hide fun u1 ee=>?_
  obtain ⟨c0,f0,_⟩:=due_fits (sh:=sh) pl0 row
  have el:leastF sh pl row=(c0:Int):=by unfold leastF; rw [f0]; rfl
  refine ⟨_,rfl,_,rfl,_,rfl,_,rfl,_,rfl,_,rfl,sh,pl,lr,row,rfl,SqL.of g4,sh0,sh1,pl0,pl1,l4,bd,fun lo H10 hlo t10 e10=>⟨sh,pl,lr,lo,row,_,_,rfl,SqL.of (t10 _ _ g4),e10,sh0,sh1,l4,f0,fun H11 t11=>⟨_,rfl,rfl,?_⟩⟩⟩
  rw [el]
  refine ⟨_,rfl,ifF (by simp) ?_⟩
  subst ee
  try dsimp only [tNext]
  have s11:=t10.trans t11
  have g4:=s11 _ _ g4
  have g5:=s11 _ _ g5
  have B11:=B9.same s11
  have u11:SB b H H11:=u9.trans (s11.sb b)
  clear t10 t11 s11 B9 u9 e10 hlo
  refine reS [some (.ref b),some (.int sh),some (.int pl),some (.ref lr),some (.str ru),some (.ref lk),some (.int c0),none] rfl ?_
  refine hide fun u1 ee=>?_
  have ep:(if pl+1<16 then pl+1 else 16)≤16∧pl≤(if pl+1<16 then pl+1 else 16):=by split <;> omega
  refine ⟨_,rfl,_,rfl,_,_,rfl,rfl,_,_,rfl,_,rfl,?_⟩
  generalize (if pl+1<16 then pl+1 else 16)=pm at *
  have mo:=least_mono (sh:=sh) (row:=row) (pl:=pm) (by omega) pl0 ep.2
  refine ⟨sh,pm,lr,row,rfl,SqL.of g4,sh0,sh1,by omega,ep.1,l4,bd,fun H12 t12=>⟨_,rfl,_,_,rfl,rfl,?_⟩⟩
  refine ⟨_,rfl,ifF (decide_eq_false (by omega)) ?_⟩
  subst ee
  try dsimp only [tNext]
  have g4:=t12 _ _ g4
  have g5:=t12 _ _ g5
  have B12:=B11.same t12
  have u12:SB b H H12:=u11.trans (t12.sb b)
  clear t12 B11 u11 mo ep
  refine hide fun u1 ee=>?_
  refine ⟨_,rfl,_,rfl,sh,1,lr,row,rfl,SqL.of g4,sh0,sh1,by decide,by decide,l4,bd,fun H13 t13=>⟨_,rfl,_,rfl,lr,sh,row,rfl,SqL.of (t13 _ _ g4),sh0,l4,fun H14 t14=>⟨rfl,?_⟩⟩⟩
  rw [least_alone]
  refine ⟨_,rfl,ifF (by simp) ?_⟩
  subst ee
  try dsimp only [tNext]
  have s14:=t13.trans t14
  have g4:=s14 _ _ g4
  have g5:=s14 _ _ g5
  have B14:=B12.same s14
  have u14:SB b H H14:=u12.trans (s14.sb b)
  have tb14:Tb K H14:=u14 _ _ ntb tb
  clear t13 t14 s14 B12 u12
  refine hide fun u1 ee=>?_
  refine ⟨(by show 3≤sizeLine; decide),fun tq htq=>?_⟩
  have sm:=same_upd (H:=H14) htq (.tup [.str "old",.str "come",.str "few"])
  have etq:upd H14 tq (.tup [.str "old",.str "come",.str "few"]) tq=some (.tup [.str "old",.str "come",.str "few"]):=upd_same
  have g4:=sm _ _ g4
  have g5:=sm _ _ g5
  have B15:=B14.same sm
  have u15:SB b H (upd H14 tq (.tup [.str "old",.str "come",.str "few"])):=u14.trans (sm.sb b)
  have tb15:Tb K (upd H14 tq (.tup [.str "old",.str "come",.str "few"])):=tb14.same sm
  generalize upd H14 tq (.tup [.str "old",.str "come",.str "few"])=H15 at *
  clear sm htq B14 u14 tb14
  refine ⟨tq,rfl,⟨_,SqT.of etq⟩,fun lz hlz=>?_⟩
  have nF:∀ n,((List.replicate n false).any id)=false:=fun n=>by rw [List.any_eq_false]; intro z hz; rw [(List.mem_replicate.mp hz).2]; exact Bool.false_ne_true
  have catF:∀ n,(List.replicate n false).map V.bl++[V.bl false]=(List.replicate (n+1) false).map V.bl:=fun n=>by rw [List.replicate_succ',List.map_append]; rfl
  refine comp_tup (K:=K) (a:=tq) (xs:=[.str "old",.str "come",.str "few"]) (l:=lz) (fun i zs σ G=>∃ v0:Option V,σ=[v0,some (.int c0),some (.int sh),some (.int pl),some (.ref lr)]∧zs=(List.replicate i false).map V.bl∧G lz=some (.lst zs)∧Same H15 G)
    ⟨none,rfl,rfl,upd_same,same_upd hlz _⟩ (fun i ys σ G _ h=>by obtain ⟨_,_,_,_,s⟩:=h; exact SqT.of (s _ _ etq)) ?_ ?_
  · rintro i v zs σ G hi hv hzs ⟨v0,rfl,rfl,elz,s⟩
    have ev:∃ ru',v=.str ru'∧Rule ru':=by
      have:i=0∨i=1∨i=2:=by have:i<3:=hi; omega
      rcases this with rfl | rfl | rfl <;> cases hv
      · exact ⟨_,rfl,.inl rfl⟩
      · exact ⟨_,rfl,.inr (.inl rfl)⟩
      · exact ⟨_,rfl,.inr (.inr rfl)⟩
    obtain ⟨ru',rfl,hru'⟩:=ev
    refine ⟨_,rfl,_,rfl,_,rfl,_,rfl,sh,pl,ru',lr,row,rfl,SqL.of (s _ _ g4),sh0,sh1,pl0,pl1,hru',l4,bd,tb15.same s,fun G2 t2=>⟨_,rfl,_,_,rfl,rfl,?_⟩⟩
    have ml:leastF sh pl row≤(missF sh pl ru' row:Int):=cnt_le l4 pl0 (ru_cnt sh pl ru' row pl0)
    dsimp only
    rw [decide_eq_false (by omega)]
    exact CNx.of (by show 3≤sizeLine; decide) hi hzs (t2 _ _ elz) ⟨_,rfl,catF i,upd_same,fun x o e=>by rw [upd_ne (ne_of_none e hlz)]; exact t2 _ _ (s _ _ e)⟩
  rintro zs σ G16 _ ⟨v0,rfl,rfl,elz,s16⟩
  refine ⟨lz,_,rfl,SqL.of elz,_,rfl,?_⟩
  rw [nF]
  refine ifF rfl ?_
  subst ee
  try dsimp only [tNext]
  have g4:=s16 _ _ g4
  have g5:=s16 _ _ g5
  have B16:=B15.same s16
  have u16:SB b H G16:=u15.trans (s16.sb b)
  clear s16 B15 u15 tb15 elz hlz etq
  refine hide fun u1 ee=>?_
  refine ⟨_,rfl,by decide,by decide,fun l2 hl2=>?_⟩
  have n2b:l2≠b:=Ne.symm (ne_of_none B16.at' hl2)
  refine comp_range (lo:=0) (n:=(6:Int).toNat) (l:=l2) (fun j ys σ G=>∃ (v0:Option V) (ds:List Addr) (a' c':Int),σ=[v0,some (.ref b),some (.int sh),some (.int pl),some (.ref lr)]∧ys=ds.map V.ref∧ds.length=j∧G l2=some (.lst ys)∧(∀ d∈ds,OrdAt sh pl row G d∧d≠b∧d≠l2)∧BoxAt G b a' q c'∧c'≤c3+200 * (j:Int)∧SB b G16 G)
    ⟨none,[],a3,c3,rfl,rfl,rfl,upd_same,fun d h=>(nomatch h),B16.same (same_upd hl2 _),by omega,(same_upd hl2 _).sb b⟩ ?_ ?_
  · rintro j ys σ G hj hys ⟨v0,ds,a',c',rfl,rfl,hdl,gl,hds,Bg,hcg,sb⟩
    have hj3:j<6:=hj
    refine ⟨_,rfl,_,rfl,_,rfl,_,rfl,b,lr,a',q,c',sh,pl,row,rfl,Bg,by omega,sb _ _ nlr g4,nlr,by omega,sh0,pl0,fun D G2 os a3 c3 hD eD lD fit B3 hc3 t3=>?_⟩
    have nDb:D≠b:=Ne.symm (ne_of_none Bg.at' hD)
    have nD2:D≠l2:=Ne.symm (ne_of_none gl hD)
    refine CNx.of (by show 6≤sizeLine; decide) hj hys (t3 _ _ n2b gl) ⟨_,ds++[D],a3,c3,rfl,by rw [List.map_append]; rfl,by rw [List.length_append,hdl]; rfl,upd_same,fun d hd=>?_,⟨by rw [upd_ne (Ne.symm n2b)]; exact B3.at',B3.a0,B3.q0,B3.q1,B3.c0⟩,by omega,fun x o nx e=>by rw [upd_ne (ne_of_none e hl2)]; exact t3 _ _ nx (sb _ _ nx e)⟩
    rcases List.mem_append.mp hd with hd | hd
    · obtain ⟨⟨os',h1,h2⟩,h3,h4⟩:=hds d hd
      exact ⟨⟨os',by rw [upd_ne h4]; exact t3 _ _ h3 h1,h2⟩,h3,h4⟩
    · have e:d=D:=by simpa using hd
      subst e
      exact ⟨⟨os,by rw [upd_ne nD2]; exact eD,fit⟩,nDb,nD2⟩
  rintro ys σ G _ ⟨v0,ds,a',c',rfl,rfl,hdl,gl,hds,Bg,hcg,sb⟩
  refine gN ?_
  subst ee
  try dsimp only
  have g4:=sb _ _ nlr g4
  have g5:=sb _ _ nlk g5
  have u17:SB b H G:=u16.trans sb
  clear sb u16 B16 hl2
  refine hide fun u1 ee=>?_
  refine ⟨_,rfl,_,rfl,lr,lk,_,_,rfl,rfl,SqL.of g4,SqL.of g5,_,rfl,ifF (by simp) ?_⟩
  subst ee
  try dsimp only [tNext]
  refine ⟨_,rfl,l2,rfl,⟨_,SqL.of gl⟩,fun lz hlz=>?_⟩
  have lD:(ds.map V.ref).length=ds.length:=List.length_map ..
  refine comp_list (K:=K) (a:=l2) (xs:=ds.map V.ref) (l:=lz) (fun i zs σ G'=>∃ v0:Option V,σ=[v0,some (.int c0),some (.int sh),some (.int pl),some (.ref lr)]∧zs=(List.replicate i false).map V.bl∧G' lz=some (.lst zs)∧Same G G')
    ⟨none,rfl,rfl,upd_same,same_upd hlz _⟩ (fun i ys σ G _ h=>by obtain ⟨_,_,_,_,s⟩:=h; exact SqL.of (s _ _ gl)) ?_ ?_
  · rintro i v zs σ G' hi hv hzs ⟨v0,rfl,rfl,elz,s⟩
    rw [List.getElem?_map] at hv
    cases ed:ds[i]? with
    | none=>rw [ed] at hv; cases hv
    | some d =>
      rw [ed] at hv
      cases hv
      obtain ⟨⟨os,h1,cc,h2⟩,_,_⟩:=hds d (List.mem_of_getElem? ed)
      refine ⟨_,rfl,_,rfl,_,rfl,_,rfl,sh,pl,lr,d,row,os,cc,rfl,SqL.of (s _ _ g4),s _ _ h1,sh0,sh1,l4,h2,fun G2 t2=>⟨_,rfl,_,_,rfl,rfl,?_⟩⟩
      have ml:leastF sh pl row≤cc:=cnt_le l4 pl0 h2
      dsimp only
      rw [decide_eq_false (by omega)]
      exact CNx.of (by rw [lD,hdl]; show 6≤sizeLine; decide) hi hzs (t2 _ _ elz) ⟨_,rfl,catF i,upd_same,fun x o e=>by rw [upd_ne (ne_of_none e hlz)]; exact t2 _ _ (s _ _ e)⟩
  rintro zs σ G18 _ ⟨v0,rfl,rfl,elz,s18⟩
  refine ⟨lz,_,rfl,SqL.of elz,?_⟩
  rw [nF]
  exact ⟨_,rfl,k G18 (u17.trans (s18.sb b))⟩
end
section
variable {P:Program} {w:World} {K:PySem.W.Frag} {mg:Str→Option Value} {base:Heap}
def spLaw (K:PySem.W.Frag):Sp:=fun vs H Q _=>∃ (a:Addr) (ns:List Int),vs=[.ref a]∧SqL K H a (ns.map V.int)∧ns.length≤63∧Tb K H∧∀ H',Q (.bl true) H'
theorem ok_law {f:Addr} {fd:FuncData} (F:Fun K "law" "law" s_law f fd) (T:Txt K mg) (D_box:Def P w K mg base "_law_box" 1 P_box (spBox K)) (D_folded:Def P w K mg base "_law_folded" 1 P_folded (spFolded K)) (D_right:Def P w K mg base "_law_right" 10 P_right (spRight K)):FnOk P w K mg base CX0 11 f fd P_law (spLaw K):=by
  refine F.ok sc_law (fun vs H Q E h=>?_) (fun cdv A outer st H vs Q E hr h=>?_)
  · obtain ⟨a,ns,rfl,_⟩:=h
    rfl
  obtain ⟨a,ns,rfl,hS,h63,tb,k⟩:=h
  have nd:=sc_law.nd
  have hu:=hu_of hr
  refine ⟨_,(pss_cons (pst 1 nd (pe_defN D_folded hr.m rfl (pc (pv 0) (pc pe_int pa_nil))))
      (pss_one (ps_ret (pe_callBN (call_allL rfl) rfl T.z_all boot_all (pc (pe_comp0 (compOk_of (osc:=(defScope s_law)) (oN:=N_law) (N:=["_law_k", "_law_cells"]) (own:=1) (js:=[1]) (by decide +kernel) rfl rfl) rfl (pi_range1 rfl T.z_range (pc (pe_callBN (call_max2 rfl) rfl T.z_max boot_max (pc pe_int (pc (pe_callBN (call_len_seqK (K:=K) rfl) rfl T.z_len PySem.boot_len (pc (pv 1) pa_nil)) pa_nil))) pa_nil)) (fun _ _ _ _ _ _=>(pgn 0 (show List.Nodup (["_law_k", "_law_cells"]:List Str) by decide +kernel))) (fun _ _ _ _ _ _=>(pe_defN D_right hr.m rfl (pc (pe_defN D_box hr.m rfl (pc (pv 1) (pc (pv 0) pa_nil))) pa_nil)))) pa_nil))))),?_⟩
  refine ⟨_,rfl,a,ns,8,rfl,hS,h63,by decide,by decide,fun r ms H1 hr' s1 e1 lm=>?_⟩
  have lc:(if ((ms.map V.int).length:Int) > 2 then ((ms.map V.int).length:Int) else 2)≤63:=by rw [List.length_map]; split <;> omega
  refine ⟨_,rfl,r,_,rfl,.inl (SqL.of e1),_,_,rfl,_,rfl,?_,?_,fun l hl'=>?_⟩
  · split <;> omega
  · omega
  generalize (if ((ms.map V.int).length:Int) > 2 then ((ms.map V.int).length:Int) else 2)=n at *
  have n63:n.toNat≤63:=by omega
  have nrl:r≠l:=ne_of_none e1 hl'
  have tb1:=tb.same s1
  have ntl:tabOf K "Room" "going" ≠ l:=ne_of_none tb1 hl'
  refine comp_range (lo:=0) (n:=n.toNat) (l:=l) (fun j ys σ G=>∃ v0:Option V,σ=[v0,some (.ref r)]∧ys=(List.replicate j true).map V.bl∧G l=some (.lst ys)∧G r=some (.lst (ms.map V.int))∧Tb K G)
    ⟨none,rfl,rfl,upd_same,by rw [upd_ne nrl]; exact e1,by unfold Tb; rw [upd_ne ntl]; exact tb1⟩ ?_ ?_
  · rintro j ys σ G hj hy ⟨v0,rfl,rfl,g1,g2,g3⟩
    refine ⟨_,rfl,_,rfl,r,ms,_,rfl,SqL.of g2,by omega,by omega,fun b ba bq G1 hb t1 B1=>?_⟩
    refine ⟨b,ba,bq,0,rfl,B1,by decide,g3.same t1,fun G2 t2=>?_⟩
    have nlb:l≠b:=ne_of_none g1 hb
    have nrb:r≠b:=ne_of_none g2 hb
    have ntb:tabOf K "Room" "going" ≠ b:=ne_of_none g3 hb
    refine CNx.of (Nat.le_trans n63 (by decide)) hj hy (t2 _ _ nlb (t1 _ _ g1)) ⟨_,rfl,by rw [List.replicate_succ',List.map_append]; rfl,upd_same,?_,?_⟩
    · rw [upd_ne nrl]
      exact t2 _ _ nrb (t1 _ _ g2)
    · unfold Tb
      rw [upd_ne ntl]
      exact t2 _ _ ntb (t1 _ _ g3)
  · rintro ys σ G hy ⟨v0,rfl,rfl,g1,g2,g3⟩
    refine ⟨l,_,rfl,SqL.of g1,?_⟩
    rw [show (List.replicate n.toNat true).all id=true by rw [List.all_eq_true]; intro z hz; rw [(List.mem_replicate.mp hz).2]; rfl]
    exact k G
end
theorem ln1 {fn:FuncData} {ps:List Str} {us:List Value} (hl:us.length=1) (h:∀ v0,bindArgs fn ⟨[v0],[]⟩=pure (ps.zip [v0])):bindArgs fn ⟨us,[]⟩=pure (ps.zip us):=match us,hl with | [v0],_=>(h v0)
theorem ln2 {fn:FuncData} {ps:List Str} {us:List Value} (hl:us.length=2) (h:∀ v0 v1,bindArgs fn ⟨[v0,v1],[]⟩=pure (ps.zip [v0,v1])):bindArgs fn ⟨us,[]⟩=pure (ps.zip us):=match us,hl with | [v0,v1],_=>(h v0 v1)
theorem ln3 {fn:FuncData} {ps:List Str} {us:List Value} (hl:us.length=3) (h:∀ v0 v1 v2,bindArgs fn ⟨[v0,v1,v2],[]⟩=pure (ps.zip [v0,v1,v2])):bindArgs fn ⟨us,[]⟩=pure (ps.zip us):=match us,hl with | [v0,v1,v2],_=>(h v0 v1 v2)
theorem ln4 {fn:FuncData} {ps:List Str} {us:List Value} (hl:us.length=4) (h:∀ v0 v1 v2 v3,bindArgs fn ⟨[v0,v1,v2,v3],[]⟩=pure (ps.zip [v0,v1,v2,v3])):bindArgs fn ⟨us,[]⟩=pure (ps.zip us):=match us,hl with | [v0,v1,v2,v3],_=>(h v0 v1 v2 v3)
theorem all_mk {l:PySem.W.OpenLaw} {w:World} {K:PySem.W.Frag} {h:Heap} {mg:Str→Option Value} {fa:Addr} {tp cg:Addr} (X:K.In h) (G:h.Ns mainGlobals mg) (hfa:mg "law" = some (.ref fa))
    {CaRoom:Addr} (aCRoom:PySem.W.nsIn K mainGlobals "Room" = some (some (.ref CaRoom)))
    {f0:Addr} {od0 an0:Option Addr} {sl0:Array (Option Value)} {oc0 kV0 dc0 pm0 cd0 ct0:Value}
    (a0:PySem.W.nsIn K mainGlobals "_law_take" = some (some (.ref f0))) (l0:K.lookup f0=some ⟨oc0,od0,.func (PySem.W.fnOf "_law_take" "_law_take" (defArgs s_take) (defBody s_take) (defScope s_take) .none kV0 dc0 pm0 an0 cd0 ct0),sl0⟩) (c0:PySem.W.codeIn K cd0 "_law_take" = true) (k0:PySem.W.keepIn K (.ref f0)=true)
    {f1:Addr} {od1 an1:Option Addr} {sl1:Array (Option Value)} {oc1 kV1 dc1 pm1 cd1 ct1:Value}
    (a1:PySem.W.nsIn K mainGlobals "_law_box" = some (some (.ref f1))) (l1:K.lookup f1=some ⟨oc1,od1,.func (PySem.W.fnOf "_law_box" "_law_box" (defArgs s_box) (defBody s_box) (defScope s_box) .none kV1 dc1 pm1 an1 cd1 ct1),sl1⟩) (c1:PySem.W.codeIn K cd1 "_law_box" = true) (k1:PySem.W.keepIn K (.ref f1)=true)
    {f2:Addr} {od2 an2:Option Addr} {sl2:Array (Option Value)} {oc2 kV2 dc2 pm2 cd2 ct2:Value}
    (a2:PySem.W.nsIn K mainGlobals "_law_folded" = some (some (.ref f2))) (l2:K.lookup f2=some ⟨oc2,od2,.func (PySem.W.fnOf "_law_folded" "_law_folded" (defArgs s_folded) (defBody s_folded) (defScope s_folded) .none kV2 dc2 pm2 an2 cd2 ct2),sl2⟩) (c2:PySem.W.codeIn K cd2 "_law_folded" = true) (k2:PySem.W.keepIn K (.ref f2)=true)
    {f3:Addr} {od3 an3:Option Addr} {sl3:Array (Option Value)} {oc3 kV3 dc3 pm3 cd3 ct3:Value}
    (a3:PySem.W.nsIn K mainGlobals "_law_some_boards" = some (some (.ref f3))) (l3:K.lookup f3=some ⟨oc3,od3,.func (PySem.W.fnOf "_law_some_boards" "_law_some_boards" (defArgs s_some_boards) (defBody s_some_boards) (defScope s_some_boards) .none kV3 dc3 pm3 an3 cd3 ct3),sl3⟩) (c3:PySem.W.codeIn K cd3 "_law_some_boards" = true) (k3:PySem.W.keepIn K (.ref f3)=true)
    {f4:Addr} {od4 an4:Option Addr} {sl4:Array (Option Value)} {oc4 kV4 dc4 pm4 cd4 ct4:Value}
    (a4:PySem.W.nsIn K mainGlobals "_law_shape" = some (some (.ref f4))) (l4:K.lookup f4=some ⟨oc4,od4,.func (PySem.W.fnOf "_law_shape" "_law_shape" (defArgs s_shape) (defBody s_shape) (defScope s_shape) .none kV4 dc4 pm4 an4 cd4 ct4),sl4⟩) (c4:PySem.W.codeIn K cd4 "_law_shape" = true) (k4:PySem.W.keepIn K (.ref f4)=true)
    {f5:Addr} {od5 an5:Option Addr} {sl5:Array (Option Value)} {oc5 kV5 dc5 pm5 cd5 ct5:Value}
    (a5:PySem.W.nsIn K mainGlobals "_law_asked" = some (some (.ref f5))) (l5:K.lookup f5=some ⟨oc5,od5,.func (PySem.W.fnOf "_law_asked" "_law_asked" (defArgs s_asked) (defBody s_asked) (defScope s_asked) .none kV5 dc5 pm5 an5 cd5 ct5),sl5⟩) (c5:PySem.W.codeIn K cd5 "_law_asked" = true) (k5:PySem.W.keepIn K (.ref f5)=true)
    {f6:Addr} {od6 an6:Option Addr} {sl6:Array (Option Value)} {oc6 kV6 dc6 pm6 cd6 ct6:Value}
    (a6:PySem.W.nsIn K mainGlobals "_law_same" = some (some (.ref f6))) (l6:K.lookup f6=some ⟨oc6,od6,.func (PySem.W.fnOf "_law_same" "_law_same" (defArgs s_same) (defBody s_same) (defScope s_same) .none kV6 dc6 pm6 an6 cd6 ct6),sl6⟩) (c6:PySem.W.codeIn K cd6 "_law_same" = true) (k6:PySem.W.keepIn K (.ref f6)=true)
    {f7:Addr} {od7 an7:Option Addr} {sl7:Array (Option Value)} {oc7 kV7 dc7 pm7 cd7 ct7:Value}
    (a7:PySem.W.nsIn K mainGlobals "shelf_of" = some (some (.ref f7))) (l7:K.lookup f7=some ⟨oc7,od7,.func (PySem.W.fnOf "shelf_of" "shelf_of" (defArgs s_shelf_of) (defBody s_shelf_of) (defScope s_shelf_of) .none kV7 dc7 pm7 an7 cd7 ct7),sl7⟩) (c7:PySem.W.codeIn K cd7 "shelf_of" = true) (k7:PySem.W.keepIn K (.ref f7)=true)
    {f8:Addr} {od8 an8:Option Addr} {sl8:Array (Option Value)} {oc8 kV8 dc8 pm8 cd8 ct8:Value}
    (a8:PySem.W.findIn K (.ref CaRoom) "has" = some (some (.ref f8))) (i8:PySem.W.isFn K (.ref f8)=true) (l8:K.lookup f8=some ⟨oc8,od8,.func (PySem.W.fnOf "has" "Room.has" (defArgs s_Room_has) (defBody s_Room_has) (defScope s_Room_has) .none kV8 dc8 pm8 an8 cd8 ct8),sl8⟩) (c8:PySem.W.codeIn K cd8 "Room.has" = true) (k8:PySem.W.keepIn K (.ref f8)=true)
    {f9:Addr} {od9 an9:Option Addr} {sl9:Array (Option Value)} {oc9 kV9 dc9 pm9 cd9 ct9:Value}
    (a9:PySem.W.findIn K (.ref CaRoom) "mates" = some (some (.ref f9))) (i9:PySem.W.isFn K (.ref f9)=true) (l9:K.lookup f9=some ⟨oc9,od9,.func (PySem.W.fnOf "mates" "Room.mates" (defArgs s_Room_mates) (defBody s_Room_mates) (defScope s_Room_mates) .none kV9 dc9 pm9 an9 cd9 ct9),sl9⟩) (c9:PySem.W.codeIn K cd9 "Room.mates" = true) (k9:PySem.W.keepIn K (.ref f9)=true)
    {f10:Addr} {od10 an10:Option Addr} {sl10:Array (Option Value)} {oc10 kV10 dc10 pm10 cd10 ct10:Value}
    (a10:PySem.W.findIn K (.ref CaRoom) "need" = some (some (.ref f10))) (i10:PySem.W.isFn K (.ref f10)=true) (l10:K.lookup f10=some ⟨oc10,od10,.func (PySem.W.fnOf "need" "Room.need" (defArgs s_Room_need) (defBody s_Room_need) (defScope s_Room_need) .none kV10 dc10 pm10 an10 cd10 ct10),sl10⟩) (c10:PySem.W.codeIn K cd10 "Room.need" = true) (k10:PySem.W.keepIn K (.ref f10)=true)
    {f11:Addr} {od11 an11:Option Addr} {sl11:Array (Option Value)} {oc11 kV11 dc11 pm11 ct11:Value}
    (a11:PySem.W.findIn K (.ref CaRoom) "going" = some (some (.ref f11))) (i11:PySem.W.isFn K (.ref f11)=true) (l11:K.lookup f11=some ⟨oc11,od11,.func (PySem.W.fnOf "going" "Room.going" (defArgs s_Room_going) (defBody s_Room_going) (defScope s_Room_going) .none kV11 dc11 pm11 an11 (.ref cg) ct11),sl11⟩) (c11:PySem.W.codeIn K (.ref cg) "Room.going" = true) (k11:PySem.W.keepIn K (.ref f11)=true)
    {f12:Addr} {od12 an12:Option Addr} {sl12:Array (Option Value)} {oc12 kV12 dc12 pm12 cd12 ct12:Value}
    (a12:PySem.W.findIn K (.ref CaRoom) "drop" = some (some (.ref f12))) (i12:PySem.W.isFn K (.ref f12)=true) (l12:K.lookup f12=some ⟨oc12,od12,.func (PySem.W.fnOf "drop" "Room.drop" (defArgs s_Room_drop) (defBody s_Room_drop) (defScope s_Room_drop) .none kV12 dc12 pm12 an12 cd12 ct12),sl12⟩) (c12:PySem.W.codeIn K cd12 "Room.drop" = true) (k12:PySem.W.keepIn K (.ref f12)=true)
    {f13:Addr} {od13 an13:Option Addr} {sl13:Array (Option Value)} {oc13 kV13 dc13 pm13 cd13 ct13:Value}
    (a13:PySem.W.findIn K (.ref CaRoom) "use" = some (some (.ref f13))) (i13:PySem.W.isFn K (.ref f13)=true) (l13:K.lookup f13=some ⟨oc13,od13,.func (PySem.W.fnOf "use" "Room.use" (defArgs s_Room_use) (defBody s_Room_use) (defScope s_Room_use) .none kV13 dc13 pm13 an13 cd13 ct13),sl13⟩) (c13:PySem.W.codeIn K cd13 "Room.use" = true) (k13:PySem.W.keepIn K (.ref f13)=true)
    {f14:Addr} {od14 an14:Option Addr} {sl14:Array (Option Value)} {oc14 kV14 dc14 pm14 cd14 ct14:Value}
    (a14:PySem.W.findIn K (.ref CaRoom) "__init__" = some (some (.ref f14))) (i14:PySem.W.isFn K (.ref f14)=true) (l14:K.lookup f14=some ⟨oc14,od14,.func (PySem.W.fnOf "__init__" "Room.__init__" (defArgs s_Room_init) (defBody s_Room_init) (defScope s_Room_init) .none kV14 dc14 pm14 an14 cd14 ct14),sl14⟩) (c14:PySem.W.codeIn K cd14 "Room.__init__" = true) (k14:PySem.W.keepIn K (.ref f14)=true)
    {f15:Addr} {od15 an15:Option Addr} {sl15:Array (Option Value)} {oc15 kV15 dc15 pm15 cd15 ct15:Value}
    (a15:PySem.W.findIn K (.ref CaRoom) "leaver_for" = some (some (.ref f15))) (i15:PySem.W.isFn K (.ref f15)=true) (l15:K.lookup f15=some ⟨oc15,od15,.func (PySem.W.fnOf "leaver_for" "Room.leaver_for" (defArgs s_Room_leaver_for) (defBody s_Room_leaver_for) (defScope s_Room_leaver_for) .none kV15 dc15 pm15 an15 cd15 ct15),sl15⟩) (c15:PySem.W.codeIn K cd15 "Room.leaver_for" = true) (k15:PySem.W.keepIn K (.ref f15)=true)
    {f16:Addr} {od16 an16:Option Addr} {sl16:Array (Option Value)} {oc16 kV16 dc16 pm16 cd16 ct16:Value}
    (a16:PySem.W.findIn K (.ref CaRoom) "bring" = some (some (.ref f16))) (i16:PySem.W.isFn K (.ref f16)=true) (l16:K.lookup f16=some ⟨oc16,od16,.func (PySem.W.fnOf "bring" "Room.bring" (defArgs s_Room_bring) (defBody s_Room_bring) (defScope s_Room_bring) .none kV16 dc16 pm16 an16 cd16 ct16),sl16⟩) (c16:PySem.W.codeIn K cd16 "Room.bring" = true) (k16:PySem.W.keepIn K (.ref f16)=true)
    {f17:Addr} {od17 an17:Option Addr} {sl17:Array (Option Value)} {oc17 kV17 dc17 pm17 cd17 ct17:Value}
    (a17:PySem.W.nsIn K mainGlobals "ask" = some (some (.ref f17))) (l17:K.lookup f17=some ⟨oc17,od17,.func (PySem.W.fnOf "ask" "ask" (defArgs s_ask) (defBody s_ask) (defScope s_ask) .none kV17 dc17 pm17 an17 cd17 ct17),sl17⟩) (c17:PySem.W.codeIn K cd17 "ask" = true) (k17:PySem.W.keepIn K (.ref f17)=true)
    {f18:Addr} {od18 an18:Option Addr} {sl18:Array (Option Value)} {oc18 kV18 dc18 pm18 cd18 ct18:Value}
    (a18:PySem.W.nsIn K mainGlobals "run_row" = some (some (.ref f18))) (l18:K.lookup f18=some ⟨oc18,od18,.func (PySem.W.fnOf "run_row" "run_row" (defArgs s_run_row) (defBody s_run_row) (defScope s_run_row) .none kV18 dc18 pm18 an18 cd18 ct18),sl18⟩) (c18:PySem.W.codeIn K cd18 "run_row" = true) (k18:PySem.W.keepIn K (.ref f18)=true)
    {f19:Addr} {od19 an19:Option Addr} {sl19:Array (Option Value)} {oc19 kV19 dc19 pm19 cd19 ct19:Value}
    (a19:PySem.W.nsIn K mainGlobals "misses" = some (some (.ref f19))) (l19:K.lookup f19=some ⟨oc19,od19,.func (PySem.W.fnOf "misses" "misses" (defArgs s_misses) (defBody s_misses) (defScope s_misses) .none kV19 dc19 pm19 an19 cd19 ct19),sl19⟩) (c19:PySem.W.codeIn K cd19 "misses" = true) (k19:PySem.W.keepIn K (.ref f19)=true)
    {f20:Addr} {od20 an20:Option Addr} {sl20:Array (Option Value)} {oc20 kV20 dc20 pm20 cd20 ct20:Value}
    (a20:PySem.W.nsIn K mainGlobals "is_number" = some (some (.ref f20))) (l20:K.lookup f20=some ⟨oc20,od20,.func (PySem.W.fnOf "is_number" "is_number" (defArgs s_is_number) (defBody s_is_number) (defScope s_is_number) .none kV20 dc20 pm20 an20 cd20 ct20),sl20⟩) (c20:PySem.W.codeIn K cd20 "is_number" = true) (k20:PySem.W.keepIn K (.ref f20)=true)
    {f21:Addr} {od21 an21:Option Addr} {sl21:Array (Option Value)} {oc21 kV21 dc21 pm21 cd21 ct21:Value}
    (a21:PySem.W.nsIn K mainGlobals "may_go" = some (some (.ref f21))) (l21:K.lookup f21=some ⟨oc21,od21,.func (PySem.W.fnOf "may_go" "may_go" (defArgs s_may_go) (defBody s_may_go) (defScope s_may_go) .none kV21 dc21 pm21 an21 cd21 ct21),sl21⟩) (c21:PySem.W.codeIn K cd21 "may_go" = true) (k21:PySem.W.keepIn K (.ref f21)=true)
    {f22:Addr} {od22 an22:Option Addr} {sl22:Array (Option Value)} {oc22 kV22 dc22 pm22 cd22 ct22:Value}
    (a22:PySem.W.nsIn K mainGlobals "come" = some (some (.ref f22))) (l22:K.lookup f22=some ⟨oc22,od22,.func (PySem.W.fnOf "come" "come" (defArgs s_come) (defBody s_come) (defScope s_come) .none kV22 dc22 pm22 an22 cd22 ct22),sl22⟩) (c22:PySem.W.codeIn K cd22 "come" = true) (k22:PySem.W.keepIn K (.ref f22)=true)
    {f23:Addr} {od23 an23:Option Addr} {sl23:Array (Option Value)} {oc23 kV23 dc23 pm23 cd23 ct23:Value}
    (a23:PySem.W.nsIn K mainGlobals "count_misses" = some (some (.ref f23))) (l23:K.lookup f23=some ⟨oc23,od23,.func (PySem.W.fnOf "count_misses" "count_misses" (defArgs s_count_misses) (defBody s_count_misses) (defScope s_count_misses) .none kV23 dc23 pm23 an23 cd23 ct23),sl23⟩) (c23:PySem.W.codeIn K cd23 "count_misses" = true) (k23:PySem.W.keepIn K (.ref f23)=true)
    {f24:Addr} {od24 an24:Option Addr} {sl24:Array (Option Value)} {oc24 kV24 dc24 pm24 cd24 ct24:Value}
    (a24:PySem.W.nsIn K mainGlobals "asked_again" = some (some (.ref f24))) (l24:K.lookup f24=some ⟨oc24,od24,.func (PySem.W.fnOf "asked_again" "asked_again" (defArgs s_asked_again) (defBody s_asked_again) (defScope s_asked_again) .none kV24 dc24 pm24 an24 cd24 ct24),sl24⟩) (c24:PySem.W.codeIn K cd24 "asked_again" = true) (k24:PySem.W.keepIn K (.ref f24)=true)
    {f25:Addr} {od25 an25:Option Addr} {sl25:Array (Option Value)} {oc25 kV25 dc25 pm25 cd25 ct25:Value}
    (a25:PySem.W.nsIn K mainGlobals "farthest" = some (some (.ref f25))) (l25:K.lookup f25=some ⟨oc25,od25,.func (PySem.W.fnOf "farthest" "farthest" (defArgs s_farthest) (defBody s_farthest) (defScope s_farthest) .none kV25 dc25 pm25 an25 cd25 ct25),sl25⟩) (c25:PySem.W.codeIn K cd25 "farthest" = true) (k25:PySem.W.keepIn K (.ref f25)=true)
    {f26:Addr} {od26 an26:Option Addr} {sl26:Array (Option Value)} {oc26 kV26 dc26 pm26 cd26 ct26:Value}
    (a26:PySem.W.nsIn K mainGlobals "misses_by" = some (some (.ref f26))) (l26:K.lookup f26=some ⟨oc26,od26,.func (PySem.W.fnOf "misses_by" "misses_by" (defArgs s_misses_by) (defBody s_misses_by) (defScope s_misses_by) .none kV26 dc26 pm26 an26 cd26 ct26),sl26⟩) (c26:PySem.W.codeIn K cd26 "misses_by" = true) (k26:PySem.W.keepIn K (.ref f26)=true)
    {f27:Addr} {od27 an27:Option Addr} {sl27:Array (Option Value)} {oc27 kV27 dc27 pm27 cd27 ct27:Value}
    (a27:PySem.W.nsIn K mainGlobals "least_misses" = some (some (.ref f27))) (l27:K.lookup f27=some ⟨oc27,od27,.func (PySem.W.fnOf "least_misses" "least_misses" (defArgs s_least_misses) (defBody s_least_misses) (defScope s_least_misses) .none kV27 dc27 pm27 an27 cd27 ct27),sl27⟩) (c27:PySem.W.codeIn K cd27 "least_misses" = true) (k27:PySem.W.keepIn K (.ref f27)=true)
    {f28:Addr} {od28 an28:Option Addr} {sl28:Array (Option Value)} {oc28 kV28 dc28 pm28 cd28 ct28:Value}
    (a28:PySem.W.nsIn K mainGlobals "_law_drawn_order" = some (some (.ref f28))) (l28:K.lookup f28=some ⟨oc28,od28,.func (PySem.W.fnOf "_law_drawn_order" "_law_drawn_order" (defArgs s_drawn_order) (defBody s_drawn_order) (defScope s_drawn_order) .none kV28 dc28 pm28 an28 cd28 ct28),sl28⟩) (c28:PySem.W.codeIn K cd28 "_law_drawn_order" = true) (k28:PySem.W.keepIn K (.ref f28)=true)
    {f29:Addr} {od29 an29:Option Addr} {sl29:Array (Option Value)} {oc29 kV29 dc29 pm29 cd29 ct29:Value}
    (a29:PySem.W.nsIn K mainGlobals "_law_least" = some (some (.ref f29))) (l29:K.lookup f29=some ⟨oc29,od29,.func (PySem.W.fnOf "_law_least" "_law_least" (defArgs s_least) (defBody s_least) (defScope s_least) .none kV29 dc29 pm29 an29 cd29 ct29),sl29⟩) (c29:PySem.W.codeIn K cd29 "_law_least" = true) (k29:PySem.W.keepIn K (.ref f29)=true)
    {f30:Addr} {od30 an30:Option Addr} {sl30:Array (Option Value)} {oc30 kV30 dc30 pm30 cd30 ct30:Value}
    (a30:PySem.W.nsIn K mainGlobals "_law_alone" = some (some (.ref f30))) (l30:K.lookup f30=some ⟨oc30,od30,.func (PySem.W.fnOf "_law_alone" "_law_alone" (defArgs s_alone) (defBody s_alone) (defScope s_alone) .none kV30 dc30 pm30 an30 cd30 ct30),sl30⟩) (c30:PySem.W.codeIn K cd30 "_law_alone" = true) (k30:PySem.W.keepIn K (.ref f30)=true)
    {f31:Addr} {od31 an31:Option Addr} {sl31:Array (Option Value)} {oc31 kV31 dc31 pm31 cd31 ct31:Value}
    (a31:PySem.W.nsIn K mainGlobals "_law_few_asked" = some (some (.ref f31))) (l31:K.lookup f31=some ⟨oc31,od31,.func (PySem.W.fnOf "_law_few_asked" "_law_few_asked" (defArgs s_few_asked) (defBody s_few_asked) (defScope s_few_asked) .none kV31 dc31 pm31 an31 cd31 ct31),sl31⟩) (c31:PySem.W.codeIn K cd31 "_law_few_asked" = true) (k31:PySem.W.keepIn K (.ref f31)=true)
    {f32:Addr} {od32 an32:Option Addr} {sl32:Array (Option Value)} {oc32 kV32 dc32 pm32 cd32 ct32:Value}
    (a32:PySem.W.nsIn K mainGlobals "_law_small" = some (some (.ref f32))) (l32:K.lookup f32=some ⟨oc32,od32,.func (PySem.W.fnOf "_law_small" "_law_small" (defArgs s_small) (defBody s_small) (defScope s_small) .none kV32 dc32 pm32 an32 cd32 ct32),sl32⟩) (c32:PySem.W.codeIn K cd32 "_law_small" = true) (k32:PySem.W.keepIn K (.ref f32)=true)
    {f33:Addr} {od33 an33:Option Addr} {sl33:Array (Option Value)} {oc33 kV33 dc33 pm33 cd33 ct33:Value}
    (a33:PySem.W.nsIn K mainGlobals "_law_right" = some (some (.ref f33))) (l33:K.lookup f33=some ⟨oc33,od33,.func (PySem.W.fnOf "_law_right" "_law_right" (defArgs s_right) (defBody s_right) (defScope s_right) .none kV33 dc33 pm33 an33 cd33 ct33),sl33⟩) (c33:PySem.W.codeIn K cd33 "_law_right" = true) (k33:PySem.W.keepIn K (.ref f33)=true)
    {f34:Addr} {od34 an34:Option Addr} {sl34:Array (Option Value)} {oc34 kV34 dc34 pm34 cd34 ct34:Value}
    (a34:PySem.W.nsIn K mainGlobals "law" = some (some (.ref f34))) (l34:K.lookup f34=some ⟨oc34,od34,.func (PySem.W.fnOf "law" "law" (defArgs s_law) (defBody s_law) (defScope s_law) .none kV34 dc34 pm34 an34 cd34 ct34),sl34⟩) (c34:PySem.W.codeIn K cd34 "law" = true) (k34:PySem.W.keepIn K (.ref f34)=true)
    (z_abs:PySem.W.nsIn K mainGlobals "abs" = some none)
    (z_all:PySem.W.nsIn K mainGlobals "all" = some none)
    (z_any:PySem.W.nsIn K mainGlobals "any" = some none)
    (z_bool:PySem.W.nsIn K mainGlobals "bool" = some none)
    (z_divmod:PySem.W.nsIn K mainGlobals "divmod" = some none)
    (z_enumerate:PySem.W.nsIn K mainGlobals "enumerate" = some none)
    (z_int:PySem.W.nsIn K mainGlobals "int" = some none)
    (z_isinstance:PySem.W.nsIn K mainGlobals "isinstance" = some none)
    (z_len:PySem.W.nsIn K mainGlobals "len" = some none)
    (z_list:PySem.W.nsIn K mainGlobals "list" = some none)
    (z_max:PySem.W.nsIn K mainGlobals "max" = some none)
    (z_min:PySem.W.nsIn K mainGlobals "min" = some none)
    (z_range:PySem.W.nsIn K mainGlobals "range" = some none)
    (z_sorted:PySem.W.nsIn K mainGlobals "sorted" = some none)
    (z_str:PySem.W.nsIn K mainGlobals "str" = some none)
    (z_tuple:PySem.W.nsIn K mainGlobals "tuple" = some none)
    (z_zip:PySem.W.nsIn K mainGlobals "zip" = some none)
    (pgRoom:PySem.W.plainGet K CaRoom Str.empty=true) (hdRoom:PySem.W.hasDictIn K CaRoom=true) (poRoom:PySem.W.plainOver K CaRoom=true) (saRoom:PySem.W.findIn K (.ref CaRoom) "__setattr__" = some (some (.builtin "object.__setattr__"))) (mkRoom:PySem.W.makesIn K CaRoom=true) (kcRoom:PySem.W.keepIn K (.ref CaRoom)=true)
    (nRoom_places:PySem.W.findIn K (.ref CaRoom) "places" = some none)
    (nRoom_rule:PySem.W.findIn K (.ref CaRoom) "rule" = some none)
    (nRoom_shelves:PySem.W.findIn K (.ref CaRoom) "shelves" = some none)
    (nRoom_standing:PySem.W.findIn K (.ref CaRoom) "standing" = some none)
    (nRoom_uses:PySem.W.findIn K (.ref CaRoom) "uses" = some none)
    (ch:PySem.W.codeHdIn K cg tp=true) (kt:K.lookup tp=none)
    : tabOf K "Room" "going" = tp∧(∃ c0,PySem.W.codeHdIn K c0 tp=true)∧K.lookup tp=none∧∃ fd:FuncData,(∀ (s:Shared) (v:Value),BindsTo s fd ⟨[v],[]⟩ [("_law_script",v)])∧∀ base:Heap,K.In base→base.Ns mainGlobals mg→BMod base mg→FnOk l.prog w K mg base CX0 11 fa fd P_law (spLaw K):=by
  have e:=hfa.symm.trans (PySem.W.mg_of X G a34)
  cases e
  have hCRoom:=clsOf_eq aCRoom
  subst hCRoom
  have T:Txt K mg:=⟨PySem.W.mg_none_of X G z_abs,PySem.W.mg_none_of X G z_all,PySem.W.mg_none_of X G z_any,PySem.W.mg_none_of X G z_bool,PySem.W.mg_none_of X G z_divmod,PySem.W.mg_none_of X G z_enumerate,PySem.W.mg_none_of X G z_int,PySem.W.mg_none_of X G z_isinstance,PySem.W.mg_none_of X G z_len,PySem.W.mg_none_of X G z_list,PySem.W.mg_none_of X G z_max,PySem.W.mg_none_of X G z_min,PySem.W.mg_none_of X G z_range,PySem.W.mg_none_of X G z_sorted,PySem.W.mg_none_of X G z_str,PySem.W.mg_none_of X G z_tuple,PySem.W.mg_none_of X G z_zip,⟨pgRoom,hdRoom,poRoom,saRoom⟩,nRoom_places,nRoom_rule,nRoom_shelves,nRoom_standing,nRoom_uses⟩
  have F0:=fun_mk (st:=s_take) l0 c0 k0
  have b1000:=F0.binds (ps:=P_take) fun _ _ _ _ _ _ us hl=>ln2 hl fun _ _=>rfl
  have F1:=fun_mk (st:=s_box) l1 c1 k1
  have b1001:=F1.binds (ps:=P_box) fun _ _ _ _ _ _ us hl=>ln2 hl fun _ _=>rfl
  have F2:=fun_mk (st:=s_folded) l2 c2 k2
  have b1002:=F2.binds (ps:=P_folded) fun _ _ _ _ _ _ us hl=>ln2 hl fun _ _=>rfl
  have F3:=fun_mk (st:=s_some_boards) l3 c3 k3
  have b1003:=F3.binds (ps:=P_some_boards) fun _ _ _ _ _ _ us hl=>ln2 hl fun _ _=>rfl
  have F4:=fun_mk (st:=s_shape) l4 c4 k4
  have b1004:=F4.binds (ps:=P_shape) fun _ _ _ _ _ _ us hl=>ln1 hl fun _=>rfl
  have F5:=fun_mk (st:=s_asked) l5 c5 k5
  have b1005:=F5.binds (ps:=P_asked) fun _ _ _ _ _ _ us hl=>ln3 hl fun _ _ _=>rfl
  have F6:=fun_mk (st:=s_same) l6 c6 k6
  have b1006:=F6.binds (ps:=P_same) fun _ _ _ _ _ _ us hl=>ln2 hl fun _ _=>rfl
  have F7:=fun_mk (st:=s_shelf_of) l7 c7 k7
  have b1007:=F7.binds (ps:=P_shelf_of) fun _ _ _ _ _ _ us hl=>ln2 hl fun _ _=>rfl
  have F8:=fun_mk (st:=s_Room_has) l8 c8 k8
  have b1008:=F8.binds (ps:=P_Room_has) fun _ _ _ _ _ _ us hl=>ln2 hl fun _ _=>rfl
  have F9:=fun_mk (st:=s_Room_mates) l9 c9 k9
  have b1009:=F9.binds (ps:=P_Room_mates) fun _ _ _ _ _ _ us hl=>ln2 hl fun _ _=>rfl
  have F10:=fun_mk (st:=s_Room_need) l10 c10 k10
  have b1010:=F10.binds (ps:=P_Room_need) fun _ _ _ _ _ _ us hl=>ln2 hl fun _ _=>rfl
  have F11:=fun_mk (st:=s_Room_going) l11 c11 k11
  have b1011:=F11.binds (ps:=P_Room_going) fun _ _ _ _ _ _ us hl=>ln2 hl fun _ _=>rfl
  have F12:=fun_mk (st:=s_Room_drop) l12 c12 k12
  have b1012:=F12.binds (ps:=P_Room_drop) fun _ _ _ _ _ _ us hl=>ln2 hl fun _ _=>rfl
  have F13:=fun_mk (st:=s_Room_use) l13 c13 k13
  have b1013:=F13.binds (ps:=P_Room_use) fun _ _ _ _ _ _ us hl=>ln2 hl fun _ _=>rfl
  have F14:=fun_mk (st:=s_Room_init) l14 c14 k14
  have b1014:=F14.binds (ps:=P_Room_init) fun _ _ _ _ _ _ us hl=>ln4 hl fun _ _ _ _=>rfl
  have F15:=fun_mk (st:=s_Room_leaver_for) l15 c15 k15
  have b1015:=F15.binds (ps:=P_Room_leaver_for) fun _ _ _ _ _ _ us hl=>ln2 hl fun _ _=>rfl
  have F16:=fun_mk (st:=s_Room_bring) l16 c16 k16
  have b1016:=F16.binds (ps:=P_Room_bring) fun _ _ _ _ _ _ us hl=>ln2 hl fun _ _=>rfl
  have F17:=fun_mk (st:=s_ask) l17 c17 k17
  have b1017:=F17.binds (ps:=P_ask) fun _ _ _ _ _ _ us hl=>ln2 hl fun _ _=>rfl
  have F18:=fun_mk (st:=s_run_row) l18 c18 k18
  have b1018:=F18.binds (ps:=P_run_row) fun _ _ _ _ _ _ us hl=>ln4 hl fun _ _ _ _=>rfl
  have F19:=fun_mk (st:=s_misses) l19 c19 k19
  have b1019:=F19.binds (ps:=P_misses) fun _ _ _ _ _ _ us hl=>ln4 hl fun _ _ _ _=>rfl
  have F20:=fun_mk (st:=s_is_number) l20 c20 k20
  have b1020:=F20.binds (ps:=P_is_number) fun _ _ _ _ _ _ us hl=>ln1 hl fun _=>rfl
  have F21:=fun_mk (st:=s_may_go) l21 c21 k21
  have b1021:=F21.binds (ps:=P_may_go) fun _ _ _ _ _ _ us hl=>ln4 hl fun _ _ _ _=>rfl
  have F22:=fun_mk (st:=s_come) l22 c22 k22
  have b1022:=F22.binds (ps:=P_come) fun _ _ _ _ _ _ us hl=>ln3 hl fun _ _ _=>rfl
  have F23:=fun_mk (st:=s_count_misses) l23 c23 k23
  have b1023:=F23.binds (ps:=P_count_misses) fun _ _ _ _ _ _ us hl=>ln4 hl fun _ _ _ _=>rfl
  have F24:=fun_mk (st:=s_asked_again) l24 c24 k24
  have b1024:=F24.binds (ps:=P_asked_again) fun _ _ _ _ _ _ us hl=>ln1 hl fun _=>rfl
  have F25:=fun_mk (st:=s_farthest) l25 c25 k25
  have b1025:=F25.binds (ps:=P_farthest) fun _ _ _ _ _ _ us hl=>ln3 hl fun _ _ _=>rfl
  have F26:=fun_mk (st:=s_misses_by) l26 c26 k26
  have b1026:=F26.binds (ps:=P_misses_by) fun _ _ _ _ _ _ us hl=>ln4 hl fun _ _ _ _=>rfl
  have F27:=fun_mk (st:=s_least_misses) l27 c27 k27
  have b1027:=F27.binds (ps:=P_least_misses) fun _ _ _ _ _ _ us hl=>ln3 hl fun _ _ _=>rfl
  have F28:=fun_mk (st:=s_drawn_order) l28 c28 k28
  have b1028:=F28.binds (ps:=P_drawn_order) fun _ _ _ _ _ _ us hl=>ln4 hl fun _ _ _ _=>rfl
  have F29:=fun_mk (st:=s_least) l29 c29 k29
  have b1029:=F29.binds (ps:=P_least) fun _ _ _ _ _ _ us hl=>ln3 hl fun _ _ _=>rfl
  have F30:=fun_mk (st:=s_alone) l30 c30 k30
  have b1030:=F30.binds (ps:=P_alone) fun _ _ _ _ _ _ us hl=>ln2 hl fun _ _=>rfl
  have F31:=fun_mk (st:=s_few_asked) l31 c31 k31
  have b1031:=F31.binds (ps:=P_few_asked) fun _ _ _ _ _ _ us hl=>ln1 hl fun _=>rfl
  have F32:=fun_mk (st:=s_small) l32 c32 k32
  have b1032:=F32.binds (ps:=P_small) fun _ _ _ _ _ _ us hl=>ln1 hl fun _=>rfl
  have F33:=fun_mk (st:=s_right) l33 c33 k33
  have b1033:=F33.binds (ps:=P_right) fun _ _ _ _ _ _ us hl=>ln1 hl fun _=>rfl
  have F34:=fun_mk (st:=s_law) l34 c34 k34
  have b1034:=F34.binds (ps:=P_law) fun _ _ _ _ _ _ us hl=>ln1 hl fun _=>rfl
  have tq:=tabOf_eq a11 l11 rfl ch
  refine ⟨tq,⟨_,ch⟩,kt,?_⟩
  refine ⟨PySem.W.fnOf "law" "law" (defArgs s_law) (defBody s_law) (defScope s_law) .none kV34 dc34 pm34 an34 cd34 ct34,fun s v=>.of_eq rfl,fun base _ _ bm=>?_⟩
  have D_take:Def l.prog w K mg base "_law_take" 1 P_take spTake:=⟨_,_,ok_take F0 T ,PySem.W.mg_of X G a0,F0.kp,b1000⟩
  have D_box:Def l.prog w K mg base "_law_box" 1 P_box (spBox K):=⟨_,_,ok_box F1 T ,PySem.W.mg_of X G a1,F1.kp,b1001⟩
  have D_folded:Def l.prog w K mg base "_law_folded" 1 P_folded (spFolded K):=⟨_,_,ok_folded F2 T ,PySem.W.mg_of X G a2,F2.kp,b1002⟩
  have D_some_boards:Def l.prog w K mg base "_law_some_boards" 2 P_some_boards spBoards:=⟨_,_,ok_some_boards F3 T D_take,PySem.W.mg_of X G a3,F3.kp,b1003⟩
  have D_shape:Def l.prog w K mg base "_law_shape" 2 P_shape spShape:=⟨_,_,ok_shape F4 T D_take,PySem.W.mg_of X G a4,F4.kp,b1004⟩
  have D_asked:Def l.prog w K mg base "_law_asked" 3 P_asked spAsked:=⟨_,_,ok_asked F5 T D_take D_some_boards,PySem.W.mg_of X G a5,F5.kp,b1005⟩
  have D_same:=own_same (P:=l.prog) (w:=w) (base:=base) F6 b1006 (PySem.W.mg_of X G a6) T 
  have D_shelf_of:Def l.prog w K mg base "shelf_of" 1 P_shelf_of spShelf:=⟨_,_,ok_shelf_of F7 T ,PySem.W.mg_of X G a7,F7.kp,b1007⟩
  have M_Room_has:MDef l.prog w K mg base (clsOf K "Room") "has" 1 P_Room_has (spHas K):=⟨_,_,ok_Room_has F8 T ,⟨a8,i8,k8⟩,b1008⟩
  have M_Room_mates:MDef l.prog w K mg base (clsOf K "Room") "mates" 2 P_Room_mates (spMates K):=⟨_,_,ok_Room_mates F9 T D_shelf_of,⟨a9,i9,k9⟩,b1009⟩
  have M_Room_need:MDef l.prog w K mg base (clsOf K "Room") "need" 2 P_Room_need (spNeed K):=⟨_,_,ok_Room_need F10 T M_Room_has,⟨a10,i10,k10⟩,b1010⟩
  have M_Room_going:MDef l.prog w K mg base (clsOf K "Room") "going" 2 P_Room_going (spGoing K):=⟨_,_,ok_Room_going F11 rfl tq ch bm T ,⟨a11,i11,k11⟩,b1011⟩
  have M_Room_drop:MDef l.prog w K mg base (clsOf K "Room") "drop" 3 P_Room_drop (spDrop K):=⟨_,_,ok_Room_drop F12 T M_Room_need M_Room_mates,⟨a12,i12,k12⟩,b1012⟩
  have M_Room_use:MDef l.prog w K mg base (clsOf K "Room") "use" 3 P_Room_use (spUse K):=⟨_,_,ok_Room_use F13 T M_Room_need M_Room_mates,⟨a13,i13,k13⟩,b1013⟩
  have K_Room:KDef l.prog w K mg base (clsOf K "Room") "Room" 1 P_Room_init (spRoom K):=⟨_,_,ok_Room_init F14 T ,⟨mkRoom,a14,i14,kcRoom⟩,PySem.W.mg_of X G aCRoom,b1014⟩
  have M_Room_leaver_for:MDef l.prog w K mg base (clsOf K "Room") "leaver_for" 3 P_Room_leaver_for (spLeaver K):=⟨_,_,ok_Room_leaver_for F15 T M_Room_mates M_Room_going,⟨a15,i15,k15⟩,b1015⟩
  have M_Room_bring:MDef l.prog w K mg base (clsOf K "Room") "bring" 4 P_Room_bring (spBring K):=⟨_,_,ok_Room_bring F16 T M_Room_has M_Room_leaver_for M_Room_mates M_Room_drop,⟨a16,i16,k16⟩,b1016⟩
  have D_ask:Def l.prog w K mg base "ask" 5 P_ask (spAsk K):=⟨_,_,ok_ask F17 T M_Room_has M_Room_use M_Room_bring,PySem.W.mg_of X G a17,F17.kp,b1017⟩
  have D_run_row:Def l.prog w K mg base "run_row" 7 P_run_row (spRun K):=⟨_,_,ok_run_row F18 T K_Room D_ask,PySem.W.mg_of X G a18,F18.kp,b1018⟩
  have D_misses:Def l.prog w K mg base "misses" 8 P_misses (spMiss K):=⟨_,_,ok_misses F19 T D_run_row,PySem.W.mg_of X G a19,F19.kp,b1019⟩
  have D_is_number:Def l.prog w K mg base "is_number" 1 P_is_number spNumO:=⟨_,_,ok_is_number F20 T ,PySem.W.mg_of X G a20,F20.kp,b1020⟩
  have D_may_go:Def l.prog w K mg base "may_go" 2 P_may_go (spMay K):=⟨_,_,ok_may_go F21 T D_is_number,PySem.W.mg_of X G a21,F21.kp,b1021⟩
  have D_come:Def l.prog w K mg base "come" 1 P_come spCome:=⟨_,_,ok_come F22 T ,PySem.W.mg_of X G a22,F22.kp,b1022⟩
  have D_count_misses:Def l.prog w K mg base "count_misses" 3 P_count_misses (spCnt K):=⟨_,_,ok_count_misses F23 T D_shelf_of D_may_go D_come,PySem.W.mg_of X G a23,F23.kp,b1023⟩
  have D_asked_again:Def l.prog w K mg base "asked_again" 1 P_asked_again (spAgain K):=⟨_,_,ok_asked_again F24 T ,PySem.W.mg_of X G a24,F24.kp,b1024⟩
  have D_farthest:Def l.prog w K mg base "farthest" 8 P_farthest (spDue K):=⟨_,_,ok_farthest F25 T D_shelf_of D_come D_asked_again,PySem.W.mg_of X G a25,F25.kp,b1025⟩
  have D_misses_by:Def l.prog w K mg base "misses_by" 4 P_misses_by (spBy K):=⟨_,_,ok_misses_by F26 T D_count_misses,PySem.W.mg_of X G a26,F26.kp,b1026⟩
  have D_least_misses:Def l.prog w K mg base "least_misses" 9 P_least_misses (spLeast K):=⟨_,_,ok_least_misses F27 T D_farthest D_misses_by,PySem.W.mg_of X G a27,F27.kp,b1027⟩
  have D_drawn_order:Def l.prog w K mg base "_law_drawn_order" 2 P_drawn_order (spDrw K):=⟨_,_,ok_drawn_order F28 T D_take,PySem.W.mg_of X G a28,F28.kp,b1028⟩
  have D_least:Def l.prog w K mg base "_law_least" 1 P_least (spLs K):=⟨_,_,ok_least F29 T ,PySem.W.mg_of X G a29,F29.kp,b1029⟩
  have D_alone:Def l.prog w K mg base "_law_alone" 1 P_alone (spAl K):=⟨_,_,ok_alone F30 T ,PySem.W.mg_of X G a30,F30.kp,b1030⟩
  have D_few_asked:Def l.prog w K mg base "_law_few_asked" 2 P_few_asked (spFew K):=⟨_,_,ok_few_asked F31 T D_take,PySem.W.mg_of X G a31,F31.kp,b1031⟩
  have D_small:Def l.prog w K mg base "_law_small" 3 P_small (spSmall K):=⟨_,_,ok_small F32 T D_take D_few_asked,PySem.W.mg_of X G a32,F32.kp,b1032⟩
  have D_right:Def l.prog w K mg base "_law_right" 10 P_right (spRight K):=⟨_,_,ok_right F33 T D_small D_same D_least_misses D_least D_shape D_asked D_misses_by D_farthest D_alone D_misses D_drawn_order,PySem.W.mg_of X G a33,F33.kp,b1033⟩
  exact ok_law F34 T D_box D_folded D_right
theorem walk {l:PySem.W.OpenLaw} {q:Program} {loose:List Str} {XP:(Str→Option Value)→Heap→Prop} {YP:World→Heap→Prop} {d:DefRec} {K:Params→PySem.W.Frag} {tp:Addr} (hn:l.most=some 63) (hdf:d.params.defaults=[])
    (hY:∀ (w:World) (h:Heap),YP w h→(K w.params).In h∧h.get? tp=some { cls:=.none,data:=.fields #[] })
    (F:∀ (w:World) (mg:Str→Option Value) (fa:Addr) (h:Heap),(K w.params).In h→h.Ns mainGlobals mg→mg d.name=some (.ref fa) →
      tabOf (K w.params) "Room" "going" = tp∧(∃ c0,PySem.W.codeHdIn (K w.params) c0 tp=true)∧(K w.params).lookup tp=none∧∃ fd:FuncData,(∀ (s:Shared) (u:Value),BindsTo s fd ⟨[u],[]⟩ [("_law_script",u)])∧∀ base:Heap,(K w.params).In base→base.Ns mainGlobals mg→BMod base mg→FnOk l.prog w (K w.params) mg base CX0 11 fa fd P_law (spLaw (K w.params))) :
    PySem.W.WalkO q loose XP YP l.row.toRowW d [] (fun f vs=>PySem.call f vs) :=
  L2.walk_ofT (tp:=tp) (pos:=tpos) (qual:=tqual) (G:=fun w=>tabOf (K w.params) "Room" "going" = tp) (n:=63) (k:=11) (x := "_law_script") (CX:=fun _=>CX0) (sp:=fun w=>spLaw (K w.params)) hn (by decide) hdf ⟨rfl,by decide,by decide,rfl⟩ hY F (fun _ _ a ns g hl hT hS=>⟨a,ns,rfl,hS,hl,(by unfold Tb; rw [g]; exact hT),fun _=>rfl⟩) fun _ _ _ _ _ z=>z
end Mine
namespace PySem.W.Fast
abbrev Q:=Nat
def tw10086096350978429866:=Q
def tw10153110174870163075:=Q
def tw10276007889924771499:=Q
def tw10322319605336340177:=Q
def tw10325376884434265225:=Q
def tw10497516875111982906:=Q
def tw10518449417639493306:=Q
def tw10548758271393966744:=Q
def tw10574630514752998112:=Q
def tw10576386384671445439:=Q
def tw10604380412298397516:=Q
def tw10612926104463504220:=Q
def tw10623661045934522969:=Q
def tw10664269095537297236:=Q
def tw10673720097296476987:=Q
def tw10753452559032057808:=Q
def tw10782190125178019487:=Q
def tw1079758083207519860:=Q
def tw10838762212453356352:=Q
def tw10999641674756573346:=Q
def tw11079755626802701726:=Q
def tw11162388559626380788:=Q
def tw1120437013562910378:=Q
def tw11208922839656796573:=Q
def tw11215483285302723276:=Q
def tw11218173619127832559:=Q
def tw11254631256318431108:=Q
def tw11259603095924026130:=Q
def tw11410349829306826164:=Q
def tw11458472586502864161:=Q
def tw11514508310120317532:=Q
def tw11535210337983266248:=Q
def tw11632347491039106846:=Q
def tw11697027851250330248:=Q
def tw11841586413933200313:=Q
def tw11867347901183039515:=Q
def tw11895984614831140892:=Q
def tw12001648679869376400:=Q
def tw1201340012739631220:=Q
def tw12071142958035718729:=Q
def tw1207897972546621853:=Q
def tw12116538203739419866:=Q
def tw12138143583409581755:=Q
def tw12174825497300990593:=Q
def tw12182639382444813750:=Q
def tw12221790922740709487:=Q
def tw12237321056134418646:=Q
def tw12275028896491303326:=Q
def tw12284416023980376813:=Q
def tw1233580635350063123:=Q
def tw12345501195419764523:=Q
def tw12435123909082945309:=Q
def tw12497425470026637733:=Q
def tw12504054675562526480:=Q
def tw12562788823253444962:=Q
def tw12579268794426176150:=Q
def tw12589503088330213763:=Q
def tw12627149109233465643:=Q
def tw12635187919427534311:=Q
def tw12661753871582173259:=Q
def tw12719296132285771879:=Q
def tw12731469472266883182:=Q
def tw12764387239185880341:=Q
def tw12788025736277803450:=Q
def tw12795096129074245858:=Q
def tw12871321794325526209:=Q
def tw12886123419376198097:=Q
def tw12913028766041176246:=Q
def tw12928423772880202390:=Q
def tw12977458502011672255:=Q
def tw13031502385403432888:=Q
def tw13038112114419490906:=Q
def tw1311384612905785158:=Q
def tw13149584283547575106:=Q
def tw13255758925546080829:=Q
def tw13376913500099930083:=Q
def tw13413254692278191171:=Q
def tw13484346446868813812:=Q
def tw13633181080838704046:=Q
def tw13656274456870097293:=Q
def tw13659155296845261601:=Q
def tw13662108304668378608:=Q
def tw14059164510520366549:=Q
def tw14060551004733616211:=Q
def tw14075104845100867803:=Q
def tw14080681789849655228:=Q
def tw14105385262222003367:=Q
def tw14173693101515522049:=Q
def tw14223051026723097419:=Q
def tw14330082240092985739:=Q
def tw14337937616527602970:=Q
def tw14346296804676987747:=Q
def tw14433054968498969179:=Q
def tw14439256463624980293:=Q
def tw14540587924657068655:=Q
def tw14542119318993288908:=Q
def tw14568650364525905265:=Q
def tw14683269147905371926:=Q
def tw14735958352701919202:=Q
def tw14802494183706372003:=Q
def tw14829259727233078378:=Q
def tw14830446390095116613:=Q
def tw14832400979250190687:=Q
def tw14872795573385132680:=Q
def tw14891316134901996163:=Q
def tw14917474972733919714:=Q
def tw1493932661969383168:=Q
def tw14991416533540801111:=Q
def tw15015241698492889725:=Q
def tw15114283291906425326:=Q
def tw15182015809305222927:=Q
def tw1524408846275844247:=Q
def tw1524660114853327430:=Q
def tw15327934005648506191:=Q
def tw15367625636207538496:=Q
def tw15514555465974757206:=Q
def tw15638487726603387045:=Q
def tw15647489195556759697:=Q
def tw15686208437881290259:=Q
def tw15752998320156715117:=Q
def tw15767694485783565280:=Q
def tw1577230949452691371:=Q
def tw1582731544496263264:=Q
def tw1583685813155267891:=Q
def tw15894958517746502151:=Q
def tw15900855346301316960:=Q
def tw15933878379158787825:=Q
def tw15950949732449444205:=Q
def tw15971400984274020634:=Q
def tw15973203303674086595:=Q
def tw16034700162620255709:=Q
def tw16197659669833848667:=Q
def tw16236186752913336482:=Q
def tw16303018116764315315:=Q
def tw16305518629353937055:=Q
def tw16312133006741700761:=Q
def tw16313151295931447107:=Q
def tw16363781675160748129:=Q
def tw16435472570589395989:=Q
def tw16453950451831689306:=Q
def tw16466107078928430479:=Q
def tw16530151221356682329:=Q
def tw16579767704142052457:=Q
def tw16637507109814864253:=Q
def tw16746704101158165936:=Q
def tw16776549853615015414:=Q
def tw16801693323799720028:=Q
def tw16808325918281977825:=Q
def tw16823036970561913320:=Q
def tw16845256691001844471:=Q
def tw16888719396672329536:=Q
def tw16937917864153559462:=Q
def tw17098980546009835860:=Q
def tw17112629801380528219:=Q
def tw17144626038698211780:=Q
def tw17183635529355691614:=Q
def tw17220874650325760021:=Q
def tw1724297584419132116:=Q
def tw17283825316901653290:=Q
def tw1730325668990516633:=Q
def tw17374258636205805271:=Q
def tw17496068168649579990:=Q
def tw17540427073578840568:=Q
def tw17551967686847670774:=Q
def tw17617147954133912411:=Q
def tw17620654733918680827:=Q
def tw17639153435225232215:=Q
def tw17651454575009898515:=Q
def tw17699189901706695923:=Q
def tw17759151310687712726:=Q
def tw17806417171236273019:=Q
def tw1785824621010389603:=Q
def tw17872100814207444213:=Q
def tw17878723643502586624:=Q
def tw17895365864920020021:=Q
def tw17956258271983576597:=Q
def tw1798399535307343720:=Q
def tw17987656374902948828:=Q
def tw18131446333657944054:=Q
def tw1819963359003850457:=Q
def tw18253497891234426106:=Q
def tw1827983126177038293:=Q
def tw18428251699597876842:=Q
def tw18433981898205670358:=Q
def tw1918006727846649952:=Q
def tw2077471747801153217:=Q
def tw2123979173719235687:=Q
def tw2148426881359879943:=Q
def tw2220280415121593743:=Q
def tw2230792270155905683:=Q
def tw2338046892287704851:=Q
def tw2706458168831848482:=Q
def tw2743064977577838649:=Q
def tw2744850114876978791:=Q
def tw281982803121695818:=Q
def tw2833454700708657805:=Q
def tw2870896287246926507:=Q
def tw2872472775613048357:=Q
def tw2937615903827743972:=Q
def tw2952601801865911842:=Q
def tw3031767745568313948:=Q
def tw3037979868588069758:=Q
def tw3072839881001661003:=Q
def tw312956176599212063:=Q
def tw3144807316726370227:=Q
def tw315912371679429020:=Q
def tw3206766672577583260:=Q
def tw3344887351038241000:=Q
def tw3347663462034312797:=Q
def tw343085570533233045:=Q
def tw3532979364549949041:=Q
def tw3662893618624839233:=Q
def tw3681564208090061781:=Q
def tw3716093550515543323:=Q
def tw3739355433896578247:=Q
def tw3772430481207782578:=Q
def tw3776752919829646846:=Q
def tw395071654003574733:=Q
def tw3966011995072200698:=Q
def tw4288269363105323020:=Q
def tw4302668264545865075:=Q
def tw4378760995080106066:=Q
def tw4386662994702491242:=Q
def tw4645377105420811250:=Q
def tw4828592107434304578:=Q
def tw4829406732366976482:=Q
def tw4855268183320873539:=Q
def tw4879311602160255299:=Q
def tw4915495184062127010:=Q
def tw4923009511404771859:=Q
def tw4998161383870643308:=Q
def tw5017032653939674304:=Q
def tw5027699475660640962:=Q
def tw5029511388277173569:=Q
def tw5029655363816804868:=Q
def tw5039068873426034743:=Q
def tw5039300498732303430:=Q
def tw5154440170759828993:=Q
def tw5173711428687280706:=Q
def tw5204983995966041158:=Q
def tw5213357940451994891:=Q
def tw522434224598839741:=Q
def tw5355767130199219479:=Q
def tw5381762281471032540:=Q
def tw538423451291791930:=Q
def tw5409987405589543485:=Q
def tw5422098913960679795:=Q
def tw5505758344902942804:=Q
def tw5525615563444576390:=Q
def tw5653655812688846753:=Q
def tw5661355424279525793:=Q
def tw5712315850563675595:=Q
def tw5751664270801737815:=Q
def tw5830310078217345796:=Q
def tw5932862011931429514:=Q
def tw5934880817527236039:=Q
def tw6064799916318354002:=Q
def tw6104714507347084382:=Q
def tw6124876439528267597:=Q
def tw6130212547726133323:=Q
def tw6134749799423151574:=Q
def tw6182932557193422796:=Q
def tw6247386574863622432:=Q
def tw6335164828808996121:=Q
def tw6399703853866251273:=Q
def tw6416339183727522195:=Q
def tw6451373860894852776:=Q
def tw6454619067529910711:=Q
def tw6462849566461390299:=Q
def tw6485835505828451521:=Q
def tw6516988380231803734:=Q
def tw6537142684636675321:=Q
def tw6627513043613758355:=Q
def tw6673165936033500273:=Q
def tw6689777423955323998:=Q
def tw6690157173177169626:=Q
def tw6696851130264558505:=Q
def tw6710030995161197386:=Q
def tw6728623058083278431:=Q
def tw6747544093433000707:=Q
def tw6755382975146062364:=Q
def tw6780825204668248586:=Q
def tw6785698691849097276:=Q
def tw6793280306233835200:=Q
def tw6871600957122260635:=Q
def tw7003441360518224824:=Q
def tw7050170776693756146:=Q
def tw709293347307829545:=Q
def tw7095521827258979137:=Q
def tw7098663046961617986:=Q
def tw7137598910823796412:=Q
def tw7183400792149343600:=Q
def tw7213967424587074260:=Q
def tw7219648837652746361:=Q
def tw7242507094648770164:=Q
def tw7267245137461518827:=Q
def tw7298336022774552688:=Q
def tw7322120918178737056:=Q
def tw7371770663232920376:=Q
def tw7408508208304479589:=Q
def tw7420370111381160872:=Q
def tw7450509008712722839:=Q
def tw7453887761028978498:=Q
def tw7507251844676945207:=Q
def tw7546584614296571612:=Q
def tw7573910535987845436:=Q
def tw7584223570330234804:=Q
def tw7640490162130212027:=Q
def tw7673795899509044166:=Q
def tw7702127673939896812:=Q
def tw7745661529775807271:=Q
def tw7852013753125151978:=Q
def tw792539352308056075:=Q
def tw802904050962003692:=Q
def tw8056529885554455212:=Q
def tw8060138844062315577:=Q
def tw8102143547012273675:=Q
def tw8117475082829930866:=Q
def tw8145568726823650572:=Q
def tw8216058542491451185:=Q
def tw8225135372351622553:=Q
def tw822634316375768176:=Q
def tw8295804700673100912:=Q
def tw8392109914861932114:=Q
def tw8406943993555004303:=Q
def tw8416399387761986696:=Q
def tw8451515819068226434:=Q
def tw850000223653514138:=Q
def tw8523891264358166691:=Q
def tw8544727684472402192:=Q
def tw8593922247350163926:=Q
def tw8608274974094043618:=Q
def tw8632024635326415262:=Q
def tw868582454282497227:=Q
def tw8718677044637241116:=Q
def tw877856372236389342:=Q
def tw884523228781122730:=Q
def tw8895331976270090703:=Q
def tw8895599503278997719:=Q
def tw8909209951200847554:=Q
def tw8916778805479914384:=Q
def tw8948979048145512451:=Q
def tw8959571644559346332:=Q
def tw8973118741938627940:=Q
def tw898799173781408280:=Q
def tw90966557168691746:=Q
def tw9131287659230434998:=Q
def tw9169928165106020425:=Q
def tw9175591534299821831:=Q
def tw922713372188541933:=Q
def tw9274814960672879329:=Q
def tw9469675493889924189:=Q
def tw959507959524839047:=Q
def tw9617511603304475751:=Q
def tw9662497176852858290:=Q
def tw9688639220568367525:=Q
def tw9715993091717983250:=Q
def tw9732860516655907631:=Q
def tw9927354659055269671:=Q
def tw9929444413609691912:=Q
def tw9996431565066484968:=Q
end PySem.W.Fast
open PySem PySem.W PyProof.Rows
set_option maxRecDepth 100000 in
set_option maxHeartbeats 0 in
theorem PySem.Challenge.cw_nearstairs_k18_no_order_misses_less_holds : PySem.Challenge.rw_nearstairs_k18_no_order_misses_less.Holds := by
  w_on; o_law; k_head; (case hw=>w_witness2)
  k_fill
  refine Mine.walk (l:=PySem.Challenge.rw_nearstairs_k18_no_order_misses_less) rfl rfl (fun w h Y=>⟨PySem.W.km_in_of Y,PySem.W.km_tabs_of Y _ List.mem_cons_self⟩) ?F
  case F =>
    intro w mg fa h KX G hmg
    refine' Mine.all_mk KX G hmg ?_ ?_ ?_ ?_ ?_ ?_ ?_ ?_ ?_ ?_ ?_ ?_ ?_ ?_ ?_ ?_ ?_ ?_ ?_ ?_ ?_ ?_ ?_ ?_ ?_ ?_ ?_ ?_ ?_ ?_ ?_ ?_ ?_ ?_ ?_ ?_ ?_ ?_ ?_ ?_ ?_ ?_ ?_ ?_ ?_ ?_ ?_ ?_ ?_ ?_ ?_ ?_ ?_ ?_ ?_ ?_ ?_ ?_ ?_ ?_ ?_ ?_ ?_ ?_ ?_ ?_ ?_ ?_ ?_ ?_ ?_ ?_ ?_ ?_ ?_ ?_ ?_ ?_ ?_ ?_ ?_ ?_ ?_ ?_ ?_ ?_ ?_ ?_ ?_ ?_ ?_ ?_ ?_ ?_ ?_ ?_ ?_ ?_ ?_ ?_ ?_ ?_ ?_ ?_ ?_ ?_ ?_ ?_ ?_ ?_ ?_ ?_ ?_ ?_ ?_ ?_ ?_ ?_ ?_ ?_ ?_ ?_ ?_ ?_ ?_ ?_ ?_ ?_ ?_ ?_ ?_ ?_ ?_ ?_ ?_ ?_ ?_ ?_ ?_ ?_ ?_ ?_ ?_ ?_ ?_ ?_ ?_ ?_ ?_ ?_ ?_ ?_ ?_ ?_ ?_ ?_ ?_ ?_ ?_ ?_ ?_ ?_ ?_ ?_ ?_ ?_ ?_ ?_ ?_ ?_ ?_ ?_ ?_ ?_ ?_ ?_ ?_ ?_ ?_ ?_
    all_goals try k_is
    all_goals kernel_rfl
