import PyProof.Rows.All
import Wide.All
import OpenK.AllK
import Wide.FinOn
import Lean
import PyProof.EqAt
import PyProof.EqKinds
import PyProof.TupleCall
import KE.KDictSum
import KE.KTryDeep
import KE.KTryMore
import PyProof.NsDelKeeps
import PyProof.FString
import PyProof.Rows.SetFrom
import PyProof.DictValues
import KE.KDictList
import PySem.Challenge.RW_nearstairs_k21_marks_of_the_least_bound
set_option Elab.async false
set_option linter.all false
set_option maxRecDepth 100000
namespace L2
open PySem PySem.Spec PyProof.Rows
abbrev Key:=Sum Int Str
def keyIs:Key→Value→Bool
  | .inl k,v=>Value.isInt k v
  | .inr x,v=>Value.isStrOf x v
def keyH (w:World):Key→Int
  | .inl k=>hashInt k
  | .inr x=>hashStr w x
theorem keyIs_shape:∀ {k:Key} {v:Value},keyIs k v=true→(∃ i t,k=Sum.inl i∧v=Value.int i t)∨(∃ x t,k=Sum.inr x∧v=Value.str x t)
  | .inl i,v,h=>by
    obtain ⟨t,e⟩:=Value.isInt_shape (k:=i) (v:=v) h
    exact .inl ⟨i,t,rfl,e⟩
  | .inr x,v,h=>by
    obtain ⟨t,e⟩:=Value.isStrOf_shape (x:=x) (v:=v) h
    exact .inr ⟨x,t,rfl,e⟩
theorem keyIs_int (i:Int) (t:Tok):keyIs (.inl i) (.int i t)=true:=by simp [keyIs,Value.isInt]
theorem keyIs_str (x:Str) (t:Tok):keyIs (.inr x) (.str x t)=true:=by simp [keyIs,Value.isStrOf]
theorem key_ll (a b:Int):decide ((Sum.inl a:Key)=Sum.inl b)=(a == b):=by
  by_cases e:a=b
  · subst e; simp
  · have h:¬ (Sum.inl a:Key)=Sum.inl b:=fun q=>e (Sum.inl.inj q)
    rw [decide_eq_false h]
    exact (beq_eq_false_iff_ne.mpr e).symm
theorem key_rr (a b:Str):decide ((Sum.inr a:Key)=Sum.inr b)=decide (a=b):=by
  by_cases e:a=b
  · subst e; simp
  · have h:¬ (Sum.inr a:Key)=Sum.inr b:=fun q=>e (Sum.inr.inj q)
    rw [decide_eq_false h,decide_eq_false e]
theorem key_lr (a:Int) (b:Str):decide ((Sum.inl a:Key)=Sum.inr b)=false:=decide_eq_false (fun q=>nomatch q)
theorem key_rl (a:Str) (b:Int):decide ((Sum.inr a:Key)=Sum.inl b)=false:=decide_eq_false (fun q=>nomatch q)
def mixKind (prog:Program) (w:World):PySem.KeyKind prog w Key where
  is:=keyIs
  hash:=keyH w
  inj:=fun v a b ha hb=>by
    rcases keyIs_shape ha with ⟨i,t,rfl,rfl⟩ | ⟨x,t,rfl,rfl⟩
    · rcases keyIs_shape hb with ⟨j,u,rfl,e⟩ | ⟨y,u,rfl,e⟩
      · injection e with e1 _; rw [e1]
      · exact nomatch e
    · rcases keyIs_shape hb with ⟨j,u,rfl,e⟩ | ⟨y,u,rfl,e⟩
      · exact nomatch e
      · injection e with e1 _; rw [e1]
  byValue:=fun k v h=>by
    rcases keyIs_shape h with ⟨i,t,rfl,rfl⟩ | ⟨x,t,rfl,rfl⟩ <;> rfl
  pyHash:=fun hv h=>by
    rcases keyIs_shape hv with ⟨i,t,rfl,rfl⟩ | ⟨x,t,rfl,rfl⟩
    · exact wpAny_pyHash_int h
    · exact wpAny_pyHash_str h
  eqBool:=fun hu hv h=>by
    rcases keyIs_shape hu with ⟨i,t,rfl,rfl⟩ | ⟨x,t,rfl,rfl⟩
    · rcases keyIs_shape hv with ⟨j,u,rfl,rfl⟩ | ⟨y,u,rfl,rfl⟩
      · rw [key_ll] at h; exact wpAny_eqBool_int h
      · rw [key_lr] at h; exact SeqAt.EqAt.int_str i t y u _ _ _ _ h
    · rcases keyIs_shape hv with ⟨j,u,rfl,rfl⟩ | ⟨y,u,rfl,rfl⟩
      · rw [key_rl] at h; exact SeqAt.EqAt.str_int x t j u _ _ _ _ h
      · rw [key_rr] at h; exact wpAny_eqBool_str h
  «strs»:=fun k x t v h=>by
    rcases keyIs_shape h with ⟨i,u,rfl,e⟩ | ⟨y,u,rfl,e⟩
    · exact nomatch e
    · injection e with e1 _
      subst e1
      cases v <;> rfl
theorem mixKind_int (prog:Program) (w:World) (i:Int) (t:Tok):(mixKind prog w).is (.inl i) (.int i t)=true:=keyIs_int i t
theorem mixKind_str (prog:Program) (w:World) (x:Str) (t:Tok):(mixKind prog w).is (.inr x) (.str x t)=true:=keyIs_str x t
end L2
namespace L2
open PySem PySem.Spec PyProof.Rows
inductive V where
  | non | bl (b:Bool) | int (i:Int) | str (x:Str) | byt (b:Array UInt8) | flt (b:UInt64) | ref (a:Addr) | ty (n:String)
  deriving DecidableEq
def RelV:V→Value→Prop
  | .non,u=>u=Value.none
  | .bl b,u=>u=Value.bool b
  | .int i,u=>∃ t,u=Value.int i t
  | .str x,u=>∃ t,u=Value.str x t
  | .byt b,u=>∃ t,u=Value.bytes b t
  | .flt b,u=>∃ t,u=Value.float b t
  | .ref a,u=>u=Value.ref a
  | .ty n,u=>u=Value.type n
abbrev Vals:List V→List Value→Prop:=Paired RelV
theorem Vals.length {xs:List V} {us:List Value} (r:Vals xs us):xs.length=us.length:=Paired.length r
theorem Vals.get:∀ {xs:List V} {us:List Value} {i:Nat} {x:V},Vals xs us→xs[i]?=some x→∃ u,us[i]?=some u∧RelV x u
  | _,_,_,_,.nil,e=>by simp at e
  | _,_,0,_,.cons r _,e=>by simp at e; subst e; exact ⟨_,rfl,r⟩
  | _,_,i+1,x,.cons _ t,e=>by
    obtain ⟨u,h1,h2⟩:=Vals.get (i:=i) (x:=x) t (by simpa using e)
    exact ⟨u,by simpa using h1,h2⟩
theorem Vals.set {x:V} {u:Value} (r:RelV x u):∀ {xs:List V} {us:List Value} (i:Nat),Vals xs us→Vals (xs.set i x) (us.set i u)
  | _,_,_,.nil=>.nil
  | _,_,0,.cons _ t=>.cons r t
  | _,_,i+1,.cons q t=>.cons q (Vals.set r i t)
theorem Vals.append:∀ {xs ys:List V} {us ws:List Value},Vals xs us→Vals ys ws→Vals (xs++ys) (us++ws)
  | _,_,_,_,.nil,s=>s
  | _,_,_,_,.cons r t,s=>.cons r (Vals.append t s)
theorem Vals.take:∀ {xs:List V} {us:List Value} (n:Nat),Vals xs us→Vals (xs.take n) (us.take n)
  | _,_,0,_=>.nil
  | _,_,_+1,.nil=>.nil
  | _,_,n+1,.cons r t=>.cons r (Vals.take n t)
theorem Vals.drop:∀ {xs:List V} {us:List Value} (n:Nat),Vals xs us→Vals (xs.drop n) (us.drop n)
  | _,_,0,r=>r
  | _,_,_+1,.nil=>.nil
  | _,_,n+1,.cons _ t=>Vals.drop n t
theorem Vals.none_of:∀ {xs:List V} {us:List Value} {i:Nat},Vals xs us→xs[i]?=none→us[i]?=none:=fun {xs us i} r e=>by
  have h1:=r.length
  have h2:xs.length≤i:=List.getElem?_eq_none_iff.mp e
  exact List.getElem?_eq_none_iff.mpr (by omega)
def RelO:Option V→Option Value→Prop
  | some v,some u=>RelV v u
  | none,none=>True
  | _,_=>False
def KV {κ:Type}:List (κ×V)→List (κ×Value)→Prop:=Paired fun (p:κ×V) (q:κ×Value)=>p.1=q.1∧RelV p.2 q.2
def kV:Key→V
  | .inl i=>.int i
  | .inr x=>.str x
inductive HO where
    | lst (xs:List V)
    | tup (xs:List V)
    | dK (kvs:List (Key×V)) | dT (kvs:List (List Key×V))
    | set (S:Int→Bool) (n:Nat)
    | ins (C dx:Addr) (fs:List (Str×V))
    | own (x:Addr)
    | xd (fs:List (Str×V))
    | met (f x:Addr)
    | rng (lo hi:Int)
    | frz (o:Obj) (u:HO)
    | tbl (pos:Pos) (qual:Str)
    | ext (φ:Heap→Prop)
abbrev Hp:=Addr→Option HO
def upd (H:Hp) (a:Addr) (o:HO):Hp:=fun b=>if b=a then some o else H b
theorem upd_same {H:Hp} {a:Addr} {o:HO}:upd H a o a=some o:=by unfold upd; rw [if_pos rfl]
theorem upd_ne {H:Hp} {a b:Addr} {o:HO} (h:b≠a):upd H a o b=H b:=by unfold upd; rw [if_neg h]
theorem upd_upd {H:Hp} {a:Addr} {o u:HO}:upd (upd H a o) a u=upd H a u:=by
  funext b; unfold upd; split <;> rfl
theorem ne_of {H:Hp} {a b:Addr} {o u:HO} (h:H a=some o) (h':H b=some u) (d:o≠u):a≠b:=by
  intro e; subst e; rw [h] at h'; exact d (Option.some.inj h')
theorem ne_of_none {H:Hp} {a b:Addr} {o:HO} (h:H a=some o) (h':H b=none):a≠b:=by
  intro e; subst e; rw [h] at h'; cases h'
section
variable (P:Program) (w:World)
def ObjOk (H:Hp) (h:Heap) (a:Addr):HO→Prop
  | .lst xs=>xs.length≤sizeLine∧∃ (its:List Value) (n:Nat),Vals xs its∧h.get? a=some { cls:=.type "list",data:=.seq its.toArray n }
  | .tup xs=>xs.length≤sizeLine∧∃ its:List Value,Vals xs its∧IsTup h a its.toArray
  | .dK kvs=>kvs.length≤sizeLine∧(a == sysModules)=false∧∃ vs,KV kvs vs∧h.DictOf (mixKind P w) a vs
  | .dT kvs=>kvs.length≤sizeLine∧(a == sysModules)=false∧∃ xs:List (List Key×Addr×Value),
      Paired (fun (p:List Key×V) (q:List Key×Addr×Value)=>p.1=q.1∧H q.2.1=some (.tup (p.1.map kV))∧RelV p.2 q.2.2) kvs xs ∧
      ∃ o es ep,h.get? a=some o∧o.ExactDict∧o.data=.dict es ep∧es.toList=xs.map (entryOfKey (tupleKind (mixKind P w)))∧(xs.map (·.1)).Nodup
  | .set S n=>h.SetOf (intKind P w) a S n
  | .ins C dx fs=>H dx=some (.own a)∧fs.length≤1000∧dx≠a∧h.get? a=some (PySem.W.instObj C dx) ∧
      ∃ mA,h.Ns1 dx mA∧(∀ f,RelO (fs.lookup f) (mA f))∧PySem.Within mA (fs.map (·.1))
  | .own _=>∃ o,h.get? a=some o
  | .xd fs=>∃ mA,h.Ns1 a mA∧∀ f,RelO (fs.lookup f) (mA f)
  | .rng lo hi=>∃ t u v,h.get? a=some { cls:=.type "range",data:=.fields #[.int lo t,.int hi u,.int 1 v] }
  | .frz o u=>h.get? a=some o∧ObjOk H h a u
  | .tbl pos qual=>∃ ps,h.get? a=some { cls:=.none,data:=.fields ps }∧TriplesOk ps.toList∧∀ cv,codeAmong pos ps.toList=some cv→∃ c oc vs t,cv=.ref c∧H c=some (.frz oc (.own a))∧oc.data=.fields vs∧vs[1]?=some (.str qual t)
  | .met f x=>h.get? a=some (PySem.W.methodObj (.ref f) (.ref x))
  | .ext φ=>φ h∧(∃ o,h.get? a=some o)∧∀ h1 h2:Heap,φ h1→(∀ o,h1.get? a=some o→h2.get? a=some o)→φ h2
def HOk (H:Hp) (h:Heap):Prop:=∀ a o,H a=some o→ObjOk P w H h a o
end
section
variable {P:Program} {w:World} {H H':Hp} {h h':Heap} {a:Addr} {o:HO}
theorem ObjOk.lt (x:ObjOk P w H h a o):a<h.objs.size:=by
  cases o with
  | lst xs=>obtain ⟨_,_,_,_,e⟩:=x; exact Heap.lt_size e
  | tup xs=>obtain ⟨_,_,_,p⟩:=x; exact p.lt
  | dK kvs=>obtain ⟨_,_,_,_,o,_,_,e,_⟩:=x; exact Heap.lt_size e
  | dT kvs=>obtain ⟨_,_,_,_,o,_,_,e,_⟩:=x; exact Heap.lt_size e
  | set S n=>obtain ⟨o,_,_,_,e,_⟩:=x; exact Heap.lt_size e
  | ins C dx fs=>obtain ⟨_,_,_,e,_⟩:=x; exact Heap.lt_size e
  | own y=>obtain ⟨_,e⟩:=x; exact Heap.lt_size e
  | xd fs=>obtain ⟨_,⟨_,_,_,e,_⟩,_⟩:=x; exact Heap.lt_size e
  | rng lo hi=>obtain ⟨_,_,_,e⟩:=x; exact Heap.lt_size e
  | frz ob u=>obtain ⟨e,_⟩:=x; exact Heap.lt_size e
  | tbl p q=>obtain ⟨_,e,_⟩:=x; exact Heap.lt_size e
  | met f y=>exact Heap.lt_size (show h.get? a=some _ from x)
  | ext φ=>obtain ⟨_,⟨_,e⟩,_⟩:=x; exact Heap.lt_size e
theorem Paired.mapP {α β:Type} {F G:α→β→Prop}:∀ {l₁:List α} {l₂:List β},Paired F l₁ l₂→(∀ a b,F a b→G a b)→Paired G l₁ l₂
  | _,_,.nil,_=>.nil
  | _,_,.cons r t,f=>.cons (f _ _ r) (Paired.mapP t f)
theorem ObjOk.stay (x:ObjOk P w H h a o) (k:∀ b u,(b=a∨H b=some (.own a))→h.get? b=some u→h'.get? b=some u)
    (ho:∀ b,H b=some (.own a)→H' b=some (.own a)) (ht:∀ b xs,H b=some (.tup xs)→H' b=some (.tup xs))
    (hz:∀ b oz,H b=some (.frz oz (.own a))→H' b=some (.frz oz (.own a)):=by exact fun _ _ q=>q):ObjOk P w H' h' a o:=by
  induction o with
  | lst xs=>obtain ⟨z,its,n,r,e⟩:=x; exact ⟨z,its,n,r,k _ _ (.inl rfl) e⟩
  | tup xs=>obtain ⟨z,its,r,ob,e,c⟩:=x; exact ⟨z,its,r,ob,k _ _ (.inl rfl) e,c⟩
  | dK kvs=>obtain ⟨z,y,vs,r,ob,es,ep,e,c⟩:=x; exact ⟨z,y,vs,r,ob,es,ep,k _ _ (.inl rfl) e,c⟩
  | dT kvs =>
    obtain ⟨z,y,xs,r,ob,es,ep,e,c⟩:=x
    exact ⟨z,y,xs,Paired.mapP r fun p q z=>⟨z.1,ht _ _ z.2.1,z.2.2⟩,ob,es,ep,k _ _ (.inl rfl) e,c⟩
  | set S n=>obtain ⟨ob,es,ep,t,e,c⟩:=x; exact ⟨ob,es,ep,t,k _ _ (.inl rfl) e,c⟩
  | ins C dx fs =>
    obtain ⟨d,z,ne,e,mA,⟨od,es,ep,e2,c⟩,r⟩:=x
    exact ⟨ho _ d,z,ne,k _ _ (.inl rfl) e,mA,⟨od,es,ep,k _ _ (.inr d) e2,c⟩,r⟩
  | own y=>obtain ⟨ob,e⟩:=x; exact ⟨ob,k _ _ (.inl rfl) e⟩
  | xd fs=>obtain ⟨mA,⟨od,es,ep,e,c⟩,r⟩:=x; exact ⟨mA,⟨od,es,ep,k _ _ (.inl rfl) e,c⟩,r⟩
  | rng lo hi=>obtain ⟨t,u,v,e⟩:=x; exact ⟨t,u,v,k _ _ (.inl rfl) e⟩
  | frz ob u ih=>obtain ⟨e,q⟩:=x; exact ⟨k _ _ (.inl rfl) e,ih q⟩
  | tbl p q =>
    obtain ⟨ps,e,tr,hc⟩:=x
    refine ⟨ps,k a _ (.inl rfl) e,tr,fun cv e1=>?_⟩
    obtain ⟨c,oc,vs,tt,z,e2,r⟩:=hc cv e1
    exact ⟨c,oc,vs,tt,z,hz _ _ e2,r⟩
  | met f y =>
    have e:h.get? a=some (PySem.W.methodObj (.ref f) (.ref y)):=x
    show h'.get? a=some (PySem.W.methodObj (.ref f) (.ref y))
    exact k a _ (.inl rfl) e
  | ext φ=>obtain ⟨p,⟨o,e⟩,st⟩:=x; exact ⟨st _ _ p fun o q=>k _ _ (.inl rfl) q,⟨o,k _ _ (.inl rfl) e⟩,st⟩
theorem HOk.lt (x:HOk P w H h) (e:H a=some o):a<h.objs.size:=(x a o e).lt
theorem HOk.fresh (x:HOk P w H h) (e:h.objs.size≤a):H a=none:=by
  cases q:H a with
  | none=>rfl
  | some u=>exact absurd (Nat.lt_of_lt_of_le (x.lt q) e) (Nat.lt_irrefl _)
theorem HOk.kept (x:HOk P w H h) (k:∀ b u,h.get? b=some u→h'.get? b=some u):HOk P w H h':=fun a o e =>
  (x a o e).stay (fun b u _ q=>k b u q) (fun _ q=>q) fun _ _ q=>q
theorem HOk.laid (x:HOk P w H h) (k:∀ b u,h.get? b=some u→h'.get? b=some u) (hp:h.objs.size≤a) (new:ObjOk P w (upd H a o) h' a o):HOk P w (upd H a o) h':=fun b u e=>by
  have hn:=x.fresh hp
  by_cases hb:b=a
  · subst hb; rw [upd_same] at e; cases e; exact new
  · rw [upd_ne hb] at e
    exact (x b u e).stay (fun c v _ q=>k c v q) (fun c q=>by rw [upd_ne (ne_of_none q hn)]; exact q) (fun c xs q=>by rw [upd_ne (ne_of_none q hn)]; exact q) fun c oz q=>by rw [upd_ne (ne_of_none q hn)]; exact q
end
def Rd (H:Hp) (a:Addr) (u:HO):Prop:=H a=some u∨∃ o,H a=some (.frz o u)
theorem Rd.ok {P:Program} {w:World} {H:Hp} {h:Heap} {a:Addr} {u:HO} (r:Rd H a u) (x:HOk P w H h):ObjOk P w H h a u:=by
  rcases r with r | ⟨o,r⟩
  · exact x a u r
  · obtain ⟨_,q⟩:=x a _ r
    exact q
def Mut:Option HO→Prop
  | some (.lst _)=>True
  | some (.dK _)=>True
  | some (.dT _)=>True
  | some (.set _ _)=>True
  | some (.ins _ _ _)=>True
  | some (.ext _)=>True
  | _=>False
section
variable {P:Program} {w:World} {H:Hp} {h h':Heap} {x e:Addr} {o':HO}
theorem HOk.write (ok:HOk P w H h) (mu:Mut (H x)) (he:e=x∨H e=some (.own x)) (k:∀ b u,b≠e→h.get? b=some u→h'.get? b=some u) (heo:∃ u,h'.get? e=some u)
    (new:ObjOk P w (upd H x o') h' x o'):HOk P w (upd H x o') h':=fun b u q=>by
  have nown:∀ c y,H c=some (.own y)→c≠x:=fun c y r z=>by subst z; rw [r] at mu; exact mu
  have ntup:∀ c xs,H c=some (.tup xs)→c≠x:=fun c xs r z=>by subst z; rw [r] at mu; exact mu
  by_cases hb:b=x
  · subst hb; rw [upd_same] at q; cases q; exact new
  · rw [upd_ne hb] at q
    by_cases hbe:b=e
    · have q':H b=some (.own x):=by
        rcases he with z | z
        · exact absurd (hbe.trans z) hb
        · rw [hbe]; exact z
      rw [q] at q'; cases q'
      obtain ⟨v,hv⟩:=heo
      exact ⟨v,by rw [hbe]; exact hv⟩
    · refine (ok b u q).stay (fun c v hc r=>k c v ?_ r) (fun c r=>by rw [upd_ne (nown c b r)]; exact r) (fun c xs r=>by rw [upd_ne (ntup c xs r)]; exact r) fun c oz r=>by rw [upd_ne (fun z=>by subst z; rw [r] at mu; exact mu)]; exact r
      rcases hc with rfl | hc
      · exact hbe
      · rintro rfl
        rcases he with z | z
        · exact nown c b hc z
        · rw [hc] at z; cases z; exact hb rfl
end
structure Un (fs ex:List Addr) (H H':Hp) (h h':Heap):Prop where
  keep:∀ b o,h.get? b=some o→H b=none→b∉fs→b∉ex→h'.get? b=some o
  slot:∀ b o,h.get? b=some o→H b=none→b∈fs→b∉ex→∃ sl,h'.get? b=some { o with slots:=sl }
  free:∀ b o,h.get? b=some o→H b=none→b∉ex→H' b=none
  there:∀ b o,h.get? b=some o→b∉ex→∃ o',h'.get? b=some o'
  tups:∀ b xs,H b=some (.tup xs)→H' b=some (.tup xs)
  frzs:∀ b o u,H b=some (.frz o u)→H' b=some (.frz o u)
  tbls:∀ b p q,H b=some (.tbl p q)→H' b=some (.tbl p q)
section
variable {fs fs' ex ex':List Addr} {H H1 H2:Hp} {h h1 h2 h':Heap} {a x e:Addr} {o:HO}
theorem Un.any (u:Un fs ex H H1 h h1) {b:Addr} {ob:Obj} (q:h.get? b=some ob) (n:H b=none) (hx:b∉ex):∃ sl,h1.get? b=some { ob with slots:=sl }:=by
  by_cases hb:b∈fs
  · exact u.slot b ob q n hb hx
  · exact ⟨ob.slots,u.keep b ob q n hb hx⟩
theorem Un.kept (k:∀ b u,h.get? b=some u→h'.get? b=some u):Un fs ex H H h h' :=
  ⟨fun b ob q _ _ _=>k b ob q,fun b ob q _ _ _=>⟨ob.slots,k b ob q⟩,fun _ _ _ n _=>n,fun b ob q _=>⟨ob,k b ob q⟩,fun _ _ q=>q,fun _ _ _ q=>q,fun _ _ _ q=>q⟩
theorem Un.refl:Un fs ex H H h h:=Un.kept fun _ _ q=>q
theorem Un.laid (k:∀ b u,h.get? b=some u→h'.get? b=some u) (hp:h.objs.size≤a) (hn:H a=none):Un fs ex H (upd H a o) h h' where
  keep:=fun b u q _ _ _=>k b u q
  slot:=fun b u q _ _ _=>⟨u.slots,k b u q⟩
  free:=fun b u q n _=>by rw [upd_ne (Nat.ne_of_lt (Nat.lt_of_lt_of_le (Heap.lt_size q) hp))]; exact n
  there:=fun b u q _=>⟨u,k b u q⟩
  tups:=fun b xs q=>by rw [upd_ne (ne_of_none q hn)]; exact q
  frzs:=fun b u xs q=>by rw [upd_ne (ne_of_none q hn)]; exact q
  tbls:=fun b _ _ q=>by rw [upd_ne (ne_of_none q hn)]; exact q
theorem Un.write (mu:Mut (H x)) (he:e=x∨H e=some (.own x)) (k:∀ b u,b≠e→h.get? b=some u→h'.get? b=some u) (heo:∃ u,h'.get? e=some u):Un fs ex H (upd H x o) h h':=by
  have hx:∀ b,H b=none→b≠x:=fun b n z=>by subst z; rw [n] at mu; exact mu
  have hb:∀ b,H b=none→b≠e:=fun b n z=>by
    subst z
    rcases he with r | r
    · exact hx b n r
    · rw [n] at r; cases r
  have hm:∀ b u,H b=some u→¬ Mut (some u)→b≠x:=fun b u q nm z=>by subst z; rw [q] at mu; exact nm mu
  refine ⟨fun b u q n _ _=>k b u (hb b n) q,fun b u q n _ _=>⟨u.slots,k b u (hb b n) q⟩,fun b u q n _=>by rw [upd_ne (hx b n)]; exact n,fun b u q _=>?_,
    fun b xs q=>by rw [upd_ne (hm b _ q fun z=>z)]; exact q,fun b u xs q=>by rw [upd_ne (hm b _ q fun z=>z)]; exact q,fun b _ _ q=>by rw [upd_ne (hm b _ q fun z=>z)]; exact q⟩
  by_cases hbe:b=e
  · subst hbe; exact heo
  · exact ⟨u,k b u hbe q⟩
end
def trk (h:Heap) (H:Hp):List Addr:=(List.range h.objs.size).filter fun a=>(H a).isSome
def hidT (h:Heap) (H:Hp):Heap:=PySem.W.hideAll h (trk h H)
theorem hidT_size (h:Heap) (H:Hp):(hidT h H).objs.size=h.objs.size:=PySem.W.hideAll_size _ _
theorem hidT_get {h:Heap} {H:Hp} {b:Addr} {o:Obj} (e:h.get? b=some o) (n:H b=none):(hidT h H).get? b=some o :=
  PySem.W.hideAll_get _ e fun hm=>by
    have q:(H b).isSome=true:=(List.mem_filter.mp hm).2
    rw [n] at q; simp at q
theorem of_hidT {h:Heap} {H:Hp} {b:Addr} {o:Obj} (e:(hidT h H).get? b=some o):h.get? b=some o∧H b=none:=by
  have e':h.get? b=some o:=PySem.W.of_hideAll (trk h H) e
  refine ⟨e',?_⟩
  cases q:H b with
  | none=>rfl
  | some x =>
    have hm:b∈trk h H:=List.mem_filter.mpr ⟨List.mem_range.mpr (Heap.lt_size e'),by simp [q]⟩
    have z:(hidT h H).get? b=none:=PySem.W.hideAll_none (trk h H) hm
    rw [z] at e; cases e
end L2
namespace L2
open PySem PySem.Spec PyProof.Rows
structure Mod (K:PySem.W.Frag) (mg:Str→Option Value) (base:Heap):Prop where
  kin:K.In base
  glob:base.Ns mainGlobals mg
  blt:∃ mb,base.Ns builtinsNs mb∧∀ x:Str,x ≠ "__name__" → mb x=bootBuiltins x
  nolimit:base.NoLimit
structure Cx where
  prog:Program
  w:World
  K:PySem.W.Frag
  mg:Str→Option Value
  base:Heap
  A:Around
  N:List Str
  s₀:Shared
  H₀:Hp
  env:Env
  outer:List Env
  stack:List Env
  ex:List Addr
  fn:Str→Bool
  calm:Bool
  pn:List (Addr×Obj)
  xe:Value→Shared→Prop
def frs (l:List Env):List Addr:=l.filterMap (·.frame)
abbrev Cx.fs (X:Cx):List Addr:=frs X.outer
def Vis (sc:Scope) (x:Str):Prop:=sc.names.lookup x=some .local∨sc.names.lookup x=some .cell∨sc.names.lookup x=some .free
def Loc (sc:Scope) (x:Str):Prop:=sc.names.lookup x=some .local∨sc.names.lookup x=some .cell
def Look (env:Env) (h:Heap) (m:Str→Option Value) (x:Str) (u:Value):Prop :=
  (env.kindOf x=some .local∧m x=some u)∨((env.kindOf x=some .cell∨env.kindOf x=some .free)∧∃ c,env.cells.lookup x=some c∧h.IsCell c (some u))
structure Cx.Ok (X:Cx):Prop where
  mod:Mod X.K X.mg X.base
  kind:X.env.scope.kind=.function
  glob:X.env.globals=mainGlobals
  blt:X.env.builtins=builtinsNs
  above:X.s₀.heap.objs.size≤X.env.locals
  inj:∀ x y c,X.env.cells.lookup x=some c→X.env.cells.lookup y=some c→x=y
  has:∀ x,(X.env.kindOf x=some .cell∨X.env.kindOf x=some .free)→∃ c,X.env.cells.lookup x=some c
  cab:∀ x c,X.fn x=true→X.env.cells.lookup x=some c→X.s₀.heap.objs.size≤c
  hd:X.calm=true→X.A.handled=none
  frames:X.A.frames=some X.stack
  stk:X.stack=X.outer∨(X.stack=X.env :: X.outer∧X.env.frame=some X.env.locals)
  exf:∀ b∈X.ex,b≠X.env.locals∧∀ x c,X.env.cells.lookup x=some c→c≠b
  bs:∀ b o,X.base.get? b=some o→X.s₀.heap.get? b=some o∧X.H₀ b=none
  bsz:X.base.objs.size≤X.s₀.heap.objs.size
  noex:∀ b o,X.base.get? b=some o→b∉X.ex
  exfs:∀ b∈X.ex,b∉X.fs
  funs:X.s₀.heap.FunFrames X.base X.outer
  frf:∀ b∈X.fs,X.H₀ b=none
structure Inv (X:Cx) (pins:List (Addr×Obj)) (σ:List (Option V)) (H:Hp) (s:Shared):Prop where
  ok:X.Ok
  os:s.os=X.s₀.os
  bare:AllBare s.gens
  base:Un X.fs X.ex X.H₀ H X.s₀.heap s.heap
  loc:∃ m,s.heap.Ns X.env.locals m∧∀ (i:Nat) (x:Str) (v:V),X.N[i]?=some x→σ[i]?=some (some v)→Vis X.env.scope x→∃ u,RelV v u∧Look X.env s.heap m x u
  cell:∀ x c,X.env.cells.lookup x=some c→∃ v,s.heap.IsCell c v
  free:H X.env.locals=none
  freeC:∀ x c,X.env.cells.lookup x=some c→H c=none
  pin:∀ p∈X.pn++pins,s.heap.get? p.1=some p.2∧H p.1=none∧p.1≠X.env.locals∧p.1∉X.fs∧∀ v,p.2.data≠.cell v
  hok:HOk X.prog X.w H s.heap
  len:σ.length=X.N.length
section
variable {X:Cx} {pins:List (Addr×Obj)} {σ:List (Option V)} {H H':Hp} {s:Shared} {h':Heap}
theorem Cx.Ok.nofr (ok:X.Ok) {b:Addr} {o:Obj} (e:X.base.get? b=some o):b∉X.fs:=fun hb=>by
  have:=(ok.funs.mem hb).1
  rw [e] at this; cases this
theorem Inv.bs (I:Inv X pins σ H s):∀ b o,X.base.get? b=some o→s.heap.get? b=some o∧H b=none:=fun b o e =>
  ⟨I.base.keep b o (I.ok.bs b o e).1 (I.ok.bs b o e).2 (I.ok.nofr e) (I.ok.noex b o e),I.base.free b o (I.ok.bs b o e).1 (I.ok.bs b o e).2 (I.ok.noex b o e)⟩
theorem Inv.bk (I:Inv X pins σ H s):∀ b o,X.base.get? b=some o→s.heap.get? b=some o:=fun b o e=>(I.bs b o e).1
theorem Inv.mod (I:Inv X pins σ H s):Mod X.K X.mg X.base:=I.ok.mod
theorem Inv.kIn (I:Inv X pins σ H s):X.K.In s.heap:=I.ok.mod.kin.keeps I.bk
theorem Inv.lt (I:Inv X pins σ H s):X.env.locals<s.heap.objs.size:=let ⟨_,hn,_⟩:=I.loc; hn.lt
theorem Inv.sz (I:Inv X pins σ H s):X.s₀.heap.objs.size≤s.heap.objs.size:=Nat.le_trans I.ok.above (Nat.le_of_lt I.lt)
theorem Inv.nofs (I:Inv X pins σ H s) {a:Addr} (h:s.heap.objs.size≤a):a∉X.fs:=fun hb=>by
  obtain ⟨_,o,ho,_⟩:=I.ok.funs.mem hb
  exact absurd (Nat.lt_of_lt_of_le (Heap.lt_size ho) (Nat.le_trans I.sz h)) (Nat.lt_irrefl _)
theorem Inv.cne (I:Inv X pins σ H s):∀ x c,X.env.cells.lookup x=some c→c≠X.env.locals:=fun x c e z=>by
  obtain ⟨v,o,ho,hd⟩:=I.cell x c e
  obtain ⟨m,⟨o',es,ep,ho',hd',_⟩,_⟩:=I.loc
  rw [z,ho'] at ho; cases ho; rw [hd'] at hd; cases hd
theorem Inv.funs (I:Inv X pins σ H s):s.heap.FunFrames X.base X.outer:=by
  have all:∀ (l:List Env),(∀ b∈frs l,b∈X.fs)→X.s₀.heap.FunFrames X.base l→s.heap.FunFrames X.base l:=by
    intro l
    induction l with
    | nil=>intro _ _; trivial
    | cons env r ih =>
      intro hs hl
      obtain ⟨hk,⟨L,o,hf,hn,ho,hd⟩,hr⟩:=hl
      have hL:L∈X.fs:=hs L (by unfold frs; rw [List.filterMap_cons,hf]; exact List.mem_cons_self)
      obtain ⟨sl,e⟩:=I.base.slot L o ho (I.ok.frf L hL) hL fun z=>I.ok.exfs L z hL
      exact ⟨hk,⟨L,_,hf,hn,e,hd⟩,ih (fun b hb=>hs b (by unfold frs; rw [List.filterMap_cons,hf]; exact List.mem_cons_of_mem _ hb)) hr⟩
  exact all X.outer (fun _ hb=>hb) I.ok.funs
theorem Inv.stack (I:Inv X pins σ H s):s.heap.FunFrames X.base X.stack:=by
  rcases I.ok.stk with e | ⟨e,hf⟩
  · rw [e]; exact I.funs
  · rw [e]
    obtain ⟨m,hn,_⟩:=I.loc
    refine .cons (by rw [I.ok.kind]; decide) hf hn ?_ I.funs
    exact Heap.get?_none_of_le (Nat.le_trans I.ok.bsz I.ok.above)
theorem Inv.stkSub (I:Inv X pins σ H s):∀ b∈frs X.stack,b∈X.env.locals :: X.fs:=fun b hb=>by
  rcases I.ok.stk with e | ⟨e,hf⟩
  · rw [e] at hb; exact List.mem_cons_of_mem _ hb
  · rw [e] at hb
    unfold frs at hb
    rw [List.filterMap_cons,hf] at hb
    exact hb
theorem Inv.stkFree (I:Inv X pins σ H s):∀ b∈frs X.stack,H b=none:=fun b hb=>by
  rcases List.mem_cons.mp (I.stkSub b hb) with e | hb
  · rw [e]; exact I.free
  · obtain ⟨_,o,ho,_⟩:=I.ok.funs.mem hb
    exact I.base.free b o ho (I.ok.frf b hb) fun z=>I.ok.exfs b z hb
theorem Inv.step {g':Array GenState} {t':Nat} {d':Drawn} {ch:List Addr} (I:Inv X pins σ H s)
    (hch:∀ b∈ch,(b∈X.ex∨X.s₀.heap.objs.size≤b)∧b≠X.env.locals∧(∀ x c,X.env.cells.lookup x=some c→c≠b)∧∀ p∈X.pn++pins,p.1≠b)
    (keep:∀ b o,b≠X.env.locals→b∉X.fs→b∉ch→s.heap.get? b=some o→H b=none→h'.get? b=some o)
    (slot:∀ b o,b≠X.env.locals→b∈X.fs→b∉ch→s.heap.get? b=some o→H b=none→∃ sl,h'.get? b=some { o with slots:=sl }) (free:∀ b o,b∉ch→s.heap.get? b=some o→H b=none→H' b=none)
    (there:∀ b o,b∉ch→s.heap.get? b=some o→∃ o',h'.get? b=some o')
    (tups:∀ b xs,H b=some (.tup xs)→H' b=some (.tup xs)) (frzs:∀ b o u,H b=some (.frz o u)→H' b=some (.frz o u)) (tbls:∀ b p q,H b=some (.tbl p q)→H' b=some (.tbl p q))
    (ns:∀ m,s.heap.Ns X.env.locals m→h'.Ns X.env.locals m) (hok:HOk X.prog X.w H' h') (hg:AllBare g') :
    Inv X pins σ H' { s with heap:=h',gens:=g',drawn:=d',toks:=t' }:=by
  have neL:∀ b o,X.s₀.heap.get? b=some o→b≠X.env.locals:=fun b o e=>Nat.ne_of_lt (Nat.lt_of_lt_of_le (Heap.lt_size e) I.ok.above)
  have neC:∀ b o,X.s₀.heap.get? b=some o→b∉X.ex→b∉ch:=fun b o e hx hb=>by
    rcases (hch b hb).1 with z | z
    · exact hx z
    · exact absurd (Nat.lt_of_lt_of_le (Heap.lt_size e) z) (Nat.lt_irrefl _)
  have cellK:∀ x c,X.env.cells.lookup x=some c→∀ v,s.heap.IsCell c v→h'.IsCell c v:=fun x c e v ⟨o,ho,hd⟩=>by
    have nch:c∉ch:=fun z=>(hch c z).2.2.1 x c e rfl
    by_cases hc:c∈X.fs
    · obtain ⟨sl,q⟩:=slot c o (I.cne x c e) hc nch ho (I.freeC x c e)
      exact ⟨_,q,hd⟩
    · exact ⟨o,keep c o (I.cne x c e) hc nch ho (I.freeC x c e),hd⟩
  refine ⟨I.ok,I.os,hg,⟨fun b o e n hb hx=>?_,fun b o e n hb hx=>?_,fun b o e n hx=>?_,fun b o e hx=>?_,fun b xs e=>tups b xs (I.base.tups b xs e),fun b o xs e=>frzs b o xs (I.base.frzs b o xs e),fun b p r e=>tbls b p r (I.base.tbls b p r e)⟩,?_,fun x c e=>?_,?_,fun x c e=>?_,fun p hp=>?_,hok,I.len⟩
  · exact keep b o (neL b o e) hb (neC b o e hx) (I.base.keep b o e n hb hx) (I.base.free b o e n hx)
  · obtain ⟨sl,e1⟩:=I.base.slot b o e n hb hx
    obtain ⟨sl',e2⟩:=slot b _ (neL b o e) hb (neC b o e hx) e1 (I.base.free b o e n hx)
    exact ⟨sl',e2⟩
  · obtain ⟨o',e1⟩:=I.base.there b o e hx
    exact free b o' (neC b o e hx) e1 (I.base.free b o e n hx)
  · obtain ⟨o',e1⟩:=I.base.there b o e hx
    exact there b o' (neC b o e hx) e1
  · obtain ⟨m,hn,hl⟩:=I.loc
    refine ⟨m,ns m hn,fun i x v e1 e2 e3=>?_⟩
    obtain ⟨u,r,l⟩:=hl i x v e1 e2 e3
    refine ⟨u,r,?_⟩
    rcases l with l | ⟨k,c,e,z⟩
    · exact .inl l
    · exact .inr ⟨k,c,e,cellK x c e _ z⟩
  · obtain ⟨v,z⟩:=I.cell x c e
    exact ⟨v,cellK x c e v z⟩
  · obtain ⟨m,⟨o,_,_,ho,_⟩,_⟩:=I.loc
    exact free _ o (fun z=>(hch _ z).2.1 rfl) ho I.free
  · obtain ⟨v,o,ho,hd⟩:=I.cell x c e
    exact free c o (fun z=>(hch c z).2.2.1 x c e rfl) ho (I.freeC x c e)
  · obtain ⟨e,n,ne,nf,d⟩:=I.pin p hp
    have nch:p.1∉ch:=fun z=>(hch p.1 z).2.2.2 p hp rfl
    exact ⟨keep p.1 p.2 ne nf nch e n,free p.1 p.2 nch e n,ne,nf,d⟩
theorem Inv.un {t':Nat} (I:Inv X pins σ H s) (u:Un X.fs [] H H' s.heap h') (hok:HOk X.prog X.w H' h'):Inv X pins σ H' { s with heap:=h',toks:=t' }:=by
  obtain ⟨m,⟨o,es,ep,ho,r⟩,_⟩:=id I.loc
  obtain ⟨sl,hL⟩:=u.any ho I.free (by simp)
  exact I.step (g':=s.gens) (d':=s.drawn) (ch:=[]) (fun _ z=>nomatch z) (fun b o _ hb _ e n=>u.keep b o e n hb (by simp)) (fun b o _ hb _ e n=>u.slot b o e n hb (by simp)) (fun b o _ e n=>u.free b o e n (by simp)) (fun b o _ e=>u.there b o e (by simp)) u.tups u.frzs u.tbls (fun m' hm=>by
    obtain ⟨o',es',ep',ho',r'⟩:=hm
    rw [ho] at ho'; cases ho'
    exact ⟨_,es',ep',hL,r'⟩) hok I.bare
theorem Inv.call {g':Array GenState} {t':Nat} {d':Drawn} {ch:List Addr} (I:Inv X pins σ H s) (u:Un (frs X.stack) ch H H' s.heap h') (hok:HOk X.prog X.w H' h') (hg:AllBare g')
    (hch:∀ b∈ch,(b∈X.ex∨X.s₀.heap.objs.size≤b)∧b≠X.env.locals∧(∀ x c,X.env.cells.lookup x=some c→c≠b)∧∀ p∈X.pn++pins,p.1≠b) :
    Inv X pins σ H' { s with heap:=h',gens:=g',drawn:=d',toks:=t' }:=by
  obtain ⟨m,⟨o,es,ep,ho,r⟩,_⟩:=id I.loc
  obtain ⟨sl,hL⟩:=u.any ho I.free fun z=>(hch _ z).2.1 rfl
  exact I.step (ch:=ch) hch (fun b o hL hb hc e n=>u.keep b o e n (fun z=>(List.mem_cons.mp (I.stkSub b z)).elim hL hb) hc) (fun b o _ _ hc e n=>u.any e n hc) (fun b o hc e n=>u.free b o e n hc) (fun b o hc e=>u.there b o e hc) u.tups u.frzs u.tbls (fun m' hm=>by
    obtain ⟨o',es',ep',ho',r'⟩:=hm
    rw [ho] at ho'; cases ho'
    exact ⟨_,es',ep',hL,r'⟩) hok hg
theorem Inv.turned {t':Nat} {it:Addr} (I:Inv X pins σ H s) (k:∀ b o,b≠it→s.heap.get? b=some o→h'.get? b=some o) (hn:H it=none) (hL:it≠X.env.locals)
    (h1:it∈X.ex∨X.s₀.heap.objs.size≤it) (h2:∀ x c,X.env.cells.lookup x=some c→c≠it) (h3:∀ p∈X.pn++pins,p.1≠it):Inv X pins σ H { s with heap:=h',toks:=t' }:=by
  have nit:∀ b u,H b=some u→b≠it:=fun b u e z=>by rw [z,hn] at e; cases e
  refine I.step (g':=s.gens) (d':=s.drawn) (ch:=[it]) (fun b hb=>?_) (fun b o _ _ hc e _=>k b o (fun z=>hc (by simp [z])) e) (fun b o _ _ hc e _=>⟨o.slots,k b o (fun z=>hc (by simp [z])) e⟩) (fun _ _ _ _ n=>n)
    (fun b o hc e=>⟨o,k b o (fun z=>hc (by simp [z])) e⟩) (fun _ _ e=>e) (fun _ _ _ e=>e) (fun _ _ _ e=>e) (fun m hm=>?_) (fun b u e=>?_) I.bare
  · have e:b=it:=by simpa using hb
    subst e
    exact ⟨h1,hL,h2,h3⟩
  · obtain ⟨o,es,ep,ho,r⟩:=hm
    exact ⟨o,es,ep,k _ o (Ne.symm hL) ho,r⟩
  · refine (I.hok b u e).stay (fun c v hc q=>k c v ?_ q) (fun _ q=>q) fun _ _ q=>q
    rcases hc with z | z
    · rw [z]; exact nit b u e
    · exact nit c _ z
theorem Inv.tok (I:Inv X pins σ H s) (t:Nat):Inv X pins σ H { s with toks:=t }:=I.un (h':=s.heap) (t':=t) Un.refl I.hok
theorem Inv.kept {t':Nat} (I:Inv X pins σ H s) (k:∀ b u,s.heap.get? b=some u→h'.get? b=some u):Inv X pins σ H { s with heap:=h',toks:=t' }:=I.un (Un.kept k) (I.hok.kept k)
theorem Inv.laid {a:Addr} {o:HO} {t':Nat} (I:Inv X pins σ H s) (k:∀ b u,s.heap.get? b=some u→h'.get? b=some u) (hp:s.heap.objs.size≤a) (new:ObjOk X.prog X.w (upd H a o) h' a o) :
    Inv X pins σ (upd H a o) { s with heap:=h',toks:=t' }:=I.un (Un.laid k hp (I.hok.fresh hp)) (I.hok.laid k hp new)
theorem Inv.write {x e:Addr} {o:HO} {t':Nat} (I:Inv X pins σ H s) (mu:Mut (H x)) (he:e=x∨H e=some (.own x)) (k:∀ b u,b≠e→s.heap.get? b=some u→h'.get? b=some u) (heo:∃ u,h'.get? e=some u)
    (new:ObjOk X.prog X.w (upd H x o) h' x o):Inv X pins σ (upd H x o) { s with heap:=h',toks:=t' }:=I.un (Un.write mu he k heo) (I.hok.write mu he k heo new)
theorem Inv.pins_of {pins':List (Addr×Obj)} (I:Inv X pins σ H s) (h:∀ p∈pins',s.heap.get? p.1=some p.2∧H p.1=none∧p.1≠X.env.locals∧p.1∉X.fs∧∀ v,p.2.data≠.cell v):Inv X pins' σ H s :=
  ⟨I.ok,I.os,I.bare,I.base,I.loc,I.cell,I.free,I.freeC,fun p hp=>(List.mem_append.mp hp).elim (fun z=>I.pin p (List.mem_append_left _ z)) (h p),I.hok,I.len⟩
theorem nodup_ix {N:List Str} (hN:N.Nodup) {i j:Nat} {x:Str} (a:N[i]?=some x) (b:N[j]?=some x):i=j:=by
  obtain ⟨h1,e1⟩:=List.getElem?_eq_some_iff.mp a
  obtain ⟨h2,e2⟩:=List.getElem?_eq_some_iff.mp b
  exact (List.getElem_inj hN).mp (e1.trans e2.symm)
theorem store_ok2 {M:Model} {A:Around} {E:Value→Shared→Prop} {i:Nat} {x:Str} {v:V} {u:Value} {Q:Unit→Shared→Prop} (I:Inv X pins σ H s) (hN:X.N.Nodup) (hi:X.N[i]?=some x) (hx:Loc X.env.scope x) (r:RelV v u)
    (h:∀ s',Inv X pins (σ.set i (some v)) H s'→(∃ a,Heap.SameBut a s.heap s'.heap∧(a=X.env.locals∨X.env.cells.lookup x=some a))→Q () s') (hf:X.fn x=true∨X.env.scope.names.lookup x=some .local:=by first | exact .inl rfl | exact .inr rfl | assumption):wpAny M A (storeName X.env x u) Q E s:=by
  obtain ⟨m,hn,hl⟩:=id I.loc
  have hcls:(X.env.scope.kind == .class || (X.env.scope.kind == .module && X.env.locals != X.env.globals))=false:=by rw [I.ok.kind]; rfl
  have hiσ:i<σ.length:=by rw [I.len]; exact (List.getElem?_eq_some_iff.mp hi).1
  have cne:=I.cne
  have tracked:∀ {a:Addr} {h':Heap},(∃ o,s.heap.get? a=some o∧H a=none)→Heap.SameBut a s.heap h'→HOk X.prog X.w H h':=fun {a h'} ha hs b ob e=>by
    obtain ⟨_,_,hfree⟩:=ha
    refine (I.hok b ob e).stay (fun c w' hc q=>(hs.2 c ?_).trans q) (fun _ q=>q) fun _ _ q=>q
    rintro rfl
    rcases hc with rfl | hc
    · rw [hfree] at e; cases e
    · rw [hfree] at hc; cases hc
  rcases hx with hk | hk
  · refine wpAny_storeName_local hk hn (fun h' hn' hs=>?_) hcls
    obtain ⟨oL,_,_,hoL,_⟩:=id hn
    refine h _ ⟨I.ok,I.os,I.bare,⟨fun b o e n hb hx=>?_,fun b o e n hb hx=>?_,I.base.free,fun b o e hx=>?_,I.base.tups,I.base.frzs,I.base.tbls⟩,⟨_,hn',fun j y v' e1 e2 e3=>?_⟩,fun y c e=>?_,I.free,I.freeC,fun p hp=>?_,tracked ⟨oL,hoL,I.free⟩ hs,by simpa using I.len⟩ ⟨_,hs,.inl rfl⟩
    · exact (hs.2 b (Nat.ne_of_lt (Nat.lt_of_lt_of_le (Heap.lt_size e) I.ok.above))).trans (I.base.keep b o e n hb hx)
    · obtain ⟨sl,e1⟩:=I.base.slot b o e n hb hx
      exact ⟨sl,(hs.2 b (Nat.ne_of_lt (Nat.lt_of_lt_of_le (Heap.lt_size e) I.ok.above))).trans e1⟩
    · obtain ⟨o',e1⟩:=I.base.there b o e hx
      exact ⟨o',(hs.2 b (Nat.ne_of_lt (Nat.lt_of_lt_of_le (Heap.lt_size e) I.ok.above))).trans e1⟩
    · by_cases hj:j=i
      · subst hj
        rw [hi] at e1; cases e1
        rw [List.getElem?_set_self hiσ] at e2
        cases e2
        exact ⟨u,r,.inl ⟨hk,by simp⟩⟩
      · rw [List.getElem?_set_ne (Ne.symm hj)] at e2
        obtain ⟨u',r',q⟩:=hl j y v' e1 e2 e3
        refine ⟨u',r',?_⟩
        rcases q with ⟨k,e⟩ | ⟨k,c,e,z⟩
        · refine .inl ⟨k,?_⟩
          have:y≠x:=fun e=>hj (nodup_ix hN e1 (e ▸ hi))
          simp [this,e]
        · exact .inr ⟨k,c,e,z.sameBut hs (cne y c e)⟩
    · obtain ⟨w',z⟩:=I.cell y c e
      exact ⟨w',z.sameBut hs (cne y c e)⟩
    · obtain ⟨e,n,ne,nf,d⟩:=I.pin p hp
      exact ⟨(hs.2 p.1 ne).trans e,n,ne,nf,d⟩
  · have hfn:X.fn x=true:=by
      rcases hf with z | z
      · exact z
      · rw [z] at hk; cases hk
    obtain ⟨c,hc⟩:=I.ok.has x (.inl hk)
    obtain ⟨w',z⟩:=I.cell x c hc
    refine wpAny_storeName_cell I.ok.kind hk hc z (fun h' hc' hs=>?_)
    obtain ⟨oc,hoc,hocd⟩:=id z
    refine h { s with heap:=h' } ⟨I.ok,I.os,I.bare,⟨fun b o e n hb hx=>?_,fun b o e n hb hx=>?_,I.base.free,fun b o e hx=>?_,I.base.tups,I.base.frzs,I.base.tbls⟩,⟨m,hn.sameBut hs (Ne.symm (cne x c hc)),fun j y v' e1 e2 e3=>?_⟩,fun y c' e=>?_,I.free,I.freeC,fun p hp=>?_,tracked ⟨oc,hoc,I.freeC x c hc⟩ hs,by simpa using I.len⟩ ⟨c,hs,.inr hc⟩
    · exact (hs.2 b (Nat.ne_of_lt (Nat.lt_of_lt_of_le (Heap.lt_size e) (I.ok.cab x c hfn hc)))).trans (I.base.keep b o e n hb hx)
    · obtain ⟨sl,e1⟩:=I.base.slot b o e n hb hx
      exact ⟨sl,(hs.2 b (Nat.ne_of_lt (Nat.lt_of_lt_of_le (Heap.lt_size e) (I.ok.cab x c hfn hc)))).trans e1⟩
    · obtain ⟨o',e1⟩:=I.base.there b o e hx
      exact ⟨o',(hs.2 b (Nat.ne_of_lt (Nat.lt_of_lt_of_le (Heap.lt_size e) (I.ok.cab x c hfn hc)))).trans e1⟩
    · by_cases hj:j=i
      · subst hj
        rw [hi] at e1; cases e1
        rw [List.getElem?_set_self hiσ] at e2
        cases e2
        exact ⟨u,r,.inr ⟨.inl hk,c,hc,hc'⟩⟩
      · rw [List.getElem?_set_ne (Ne.symm hj)] at e2
        obtain ⟨u',r',q⟩:=hl j y v' e1 e2 e3
        refine ⟨u',r',?_⟩
        rcases q with q | ⟨k,c',e,z'⟩
        · exact .inl q
        · refine .inr ⟨k,c',e,z'.sameBut hs ?_⟩
          rintro rfl
          exact hj (nodup_ix hN e1 (I.ok.inj _ _ _ e hc ▸ hi))
    · by_cases hcc:c'=c
      · subst hcc; exact ⟨_,hc'⟩
      · obtain ⟨w2,z2⟩:=I.cell y c' e
        exact ⟨w2,z2.sameBut hs hcc⟩
    · obtain ⟨e,n,ne,nf,d⟩:=I.pin p hp
      refine ⟨(hs.2 p.1 ?_).trans e,n,ne,nf,d⟩
      intro q
      rw [q,hoc] at e
      have q':oc=p.2:=Option.some.inj e
      exact d w' (by rw [← q']; exact hocd)
theorem store_ok {M:Model} {A:Around} {E:Value→Shared→Prop} {i:Nat} {x:Str} {v:V} {u:Value} {Q:Unit→Shared→Prop} (I:Inv X pins σ H s) (hN:X.N.Nodup) (hi:X.N[i]?=some x) (hx:Loc X.env.scope x) (r:RelV v u)
    (h:∀ s',Inv X pins (σ.set i (some v)) H s'→Q () s') (hf:X.fn x=true∨X.env.scope.names.lookup x=some .local:=by first | exact .inl rfl | exact .inr rfl | assumption):wpAny M A (storeName X.env x u) Q E s :=
  store_ok2 I hN hi hx r (fun s' I' _=>h s' I') hf
theorem Inv.call' {s':Shared} {ch:List Addr} (I:Inv X pins σ H s) (ho:s'.os=s.os) (u:Un (frs X.stack) ch H H' s.heap s'.heap) (hok:HOk X.prog X.w H' s'.heap) (hg:AllBare s'.gens)
    (hch:∀ b∈ch,(b∈X.ex∨X.s₀.heap.objs.size≤b)∧b≠X.env.locals∧(∀ x c,X.env.cells.lookup x=some c→c≠b)∧∀ p∈X.pn++pins,p.1≠b):Inv X pins σ H' s':=by
  obtain ⟨h',g',d',t',o'⟩:=s'
  have e:o'=s.os:=ho
  subst e
  exact I.call (g':=g') (t':=t') (d':=d') u hok hg hch
end
abbrev XK:=Value→Option Addr→Hp→Prop
abbrev St:=List (Option V)
abbrev VK:=V→Hp→Prop
abbrev TE:=St→Hp→VK→Prop
abbrev TT:=St→Hp→(Bool→Hp→Prop)→Prop
abbrev TA:=St→Hp→(List V→Hp→Prop)→Prop
structure Ends where
  nx:St→Hp→Prop
  rt:VK
  bk:St→Hp→Prop:=fun _ _=>False
  ct:St→Hp→Prop:=fun _ _=>False
abbrev TS:=Ends→St→Hp→Prop
def EP (X:Cx) (pins:List (Addr×Obj)) (σ:St) (Q:VK) (u:Value) (s':Shared):Prop:=∃ v H',Inv X pins σ H' s'∧RelV v u∧Q v H'
def TP (X:Cx) (pins:List (Addr×Obj)) (σ:St) (Q:Bool→Hp→Prop) (b:Bool) (s':Shared):Prop:=∃ H',Inv X pins σ H' s'∧Q b H'
def AP (X:Cx) (pins:List (Addr×Obj)) (σ:St) (Q:List V→Hp→Prop) (us:List Value) (s':Shared):Prop:=∃ vs H',Inv X pins σ H' s'∧Vals vs us∧Q vs H'
def SP (X:Cx) (pins:List (Addr×Obj)) (D:Ends) (f:Flow) (s':Shared):Prop :=
  match f with
  | .next=>∃ σ' H',Inv X pins σ' H' s'∧D.nx σ' H'
  | .brk=>∃ σ' H',Inv X pins σ' H' s'∧D.bk σ' H'
  | .cont=>∃ σ' H',Inv X pins σ' H' s'∧D.ct σ' H'
  | .ret u=>∃ v σ' H',Inv X pins σ' H' s'∧RelV v u∧D.rt v H'
def PE (X:Cx) (e:Expr) (t:TE):Prop :=
  ∀ (pins:List (Addr×Obj)) (s:Shared) (σ:St) (H:Hp) (Q:VK),Inv X pins σ H s→t σ H Q→wpAny (model X.prog X.w) X.A (eval e X.env) (EP X pins σ Q) X.xe s
def PT (X:Cx) (e:Expr) (t:TT):Prop :=
  ∀ (pins:List (Addr×Obj)) (s:Shared) (σ:St) (H:Hp) (Q:Bool→Hp→Prop),Inv X pins σ H s→t σ H Q→wpAny (model X.prog X.w) X.A (isTrue e X.env (eval e X.env)) (TP X pins σ Q) X.xe s
def PW (X:Cx) (e:Expr) (t:TT):Prop :=
  ∀ (whole:Sem Value) (pins:List (Addr×Obj)) (s:Shared) (σ:St) (H:Hp) (Q:Bool→Hp→Prop),Inv X pins σ H s→t σ H Q→wpAny (model X.prog X.w) X.A (isTrue e X.env whole) (TP X pins σ Q) X.xe s
theorem PW.pt {X:Cx} {e:Expr} {t:TT} (h:PW X e t):PT X e t:=h _
def PA (X:Cx) (es:List Expr) (t:TA):Prop :=
  ∀ (pos:Pos) (pins:List (Addr×Obj)) (s:Shared) (σ:St) (H:Hp) (Q:List V→Hp→Prop),Inv X pins σ H s→t σ H Q→wpAny (model X.prog X.w) X.A (spliced (backTo pos (starEach es X.env))) (AP X pins σ Q) X.xe s
def PS (X:Cx) (st:Stmt) (t:TS):Prop :=
  ∀ (pins:List (Addr×Obj)) (s:Shared) (σ:St) (H:Hp) (D:Ends),Inv X pins σ H s→t D σ H→wpAny (model X.prog X.w) X.A (exec st X.env) (SP X pins D) X.xe s
def PSs (X:Cx) (st:List Stmt) (t:TS):Prop :=
  ∀ (pins:List (Addr×Obj)) (s:Shared) (σ:St) (H:Hp) (D:Ends),Inv X pins σ H s→t D σ H→wpAny (model X.prog X.w) X.A (execs st X.env) (SP X pins D) X.xe s
theorem thn {α:Type} {t:Sem α} {Q Q':α→Shared→Prop} {M:Model} {A:Around} {E:Value→Shared→Prop} {s:Shared} (h:wpAny M A t Q E s) (hQ:∀ a s,Q a s→Q' a s):wpAny M A t Q' E s:=wpAny_mono h hQ fun _ _ x=>x
end L2
namespace L2
open PySem PySem.Spec PyProof.Rows
section
variable {X:Cx}
def tVar (i:Nat):TE:=fun σ H Q=>∃ v,σ[i]?=some (some v)∧Q v H
def tC (v:V):TE:=fun _ H Q=>Q v H
theorem pe_var {i:Nat} {x:Str} {pos:Pos} (hN:X.N[i]?=some x) (hv:Vis X.env.scope x) (hd:(x == ("__debug__" : Str))=false:=by decide) (hcd:(x == ("__classdict__" : Str))=false:=by decide):PE X (.Name x pos) (tVar i):=by
  intro pins s σ H Q I h
  obtain ⟨v,e,h⟩:=h
  obtain ⟨m,hn,hl⟩:=I.loc
  obtain ⟨u,r,l⟩:=hl i x v hN e hv
  have fin:EP X pins σ Q u s:=⟨v,H,I,r,h⟩
  rcases l with ⟨hk,hm⟩ | ⟨hk,c,hc,hcell⟩
  · exact wpAny_Name (wpAny_loadName_local I.ok.kind hk hn hm fin) hd
  · rcases hk with hk | hk
    · exact wpAny_Name (wpAny_loadName_cell I.ok.kind hk hc hcell fin) hd
    · exact wpAny_Name (wpAny_loadName_free I.ok.kind hk hc hcell fin hcd) hd
theorem pe_int {i j pos}:PE X (.Constant (.int i) j pos) (tC (.int i)):=fun _ _ _ H _ I h=>wpAny_Constant_int ⟨.int i,H,I.tok _,⟨_,rfl⟩,h⟩
theorem pe_bl {b j pos}:PE X (.Constant (.bool b) j pos) (tC (.bl b)):=fun _ _ _ H _ I h=>Constant_bool ⟨.bl b,H,I,rfl,h⟩
theorem pe_str {x j pos}:PE X (.Constant (.str x) j pos) (tC (.str x)):=fun _ _ _ H _ I h=>Calls.Constant_str ⟨.str x,H,I.tok _,⟨_,rfl⟩,h⟩
def Gl (X:Cx) (x:Str):Prop:=X.env.kindOf x=some .globalImplicit
theorem ld_glob {E:Value→Shared→Prop} {pins:List (Addr×Obj)} {s:Shared} {σ:St} {H:Hp} {x:Str} {u:Value} {pos:Pos} {Q:Value→Shared→Prop} (I:Inv X pins σ H s) (hg:Gl X x) (hm:X.mg x=some u) (h:Q u s)
    (hd:(x == ("__debug__" : Str))=false:=by decide):wpAny (model X.prog X.w) X.A (eval (.Name x pos) X.env) Q E s :=
  Calls.Name_function_global I.ok.kind hg (Calls.loadGlobal_global (by rw [I.ok.glob]; exact I.mod.glob.keeps I.bk) hm h) hd
theorem ld_blt {E:Value→Shared→Prop} {pins:List (Addr×Obj)} {s:Shared} {σ:St} {H:Hp} {x:Str} {u:Value} {pos:Pos} {Q:Value→Shared→Prop} (I:Inv X pins σ H s) (hg:Gl X x) (hm:X.mg x=none) (hv:bootBuiltins x=some u) (h:Q u s)
    (hn:x ≠ "__name__" := by decide) (hd:(x == ("__debug__" : Str))=false:=by decide):wpAny (model X.prog X.w) X.A (eval (.Name x pos) X.env) Q E s:=by
  obtain ⟨mb,h1,h2⟩:=I.mod.blt
  exact Calls.Name_function_global I.ok.kind hg (Calls.loadGlobal_builtin (by rw [I.ok.glob]; exact I.mod.glob.keeps I.bk) hm (by rw [I.ok.blt]; exact h1.keeps I.bk) ((h2 x hn).trans hv) h) hd
theorem pe_bltn {x:Str} {v:V} {u:Value} {pos:Pos} (hg:Gl X x) (hm:X.mg x=none) (hv:bootBuiltins x=some u) (r:RelV v u) (hn:x ≠ "__name__" := by decide) (hd:(x == ("__debug__" : Str))=false:=by decide):PE X (.Name x pos) (tC v) :=
  fun _ _ _ H _ I h=>ld_blt I hg hm hv ⟨v,H,I,r,h⟩ hn hd
variable {a b:Expr} {ta tb:TE} {pos:Pos}
def tB (t:TE):TT:=fun σ H Q=>t σ H fun x H1=>∃ c,x=.bl c∧Q c H1
theorem pt_val {e:Expr} {t:TE} (h:PE X e t) (he:∀ whole,isTrue e X.env whole=(do let v ← whole; standAt e.pos; holding [v] (truthy v)):=by intro _; rfl):PT X e (tB t):=by
  intro pins s σ H Q I hw
  refine isTrue_plain (thn (h pins s σ H _ I hw) fun v s1 ⟨x,H1,I1,r1,q1⟩=>?_) (he _)
  obtain ⟨d,rfl,q⟩:=q1
  cases r1
  exact wpAny_truthy_bool ⟨H1,I1,q⟩
variable {tA tB':TT} {rest:List Expr}
def tAnd (t u:TT):TT:=fun σ H Q=>t σ H fun c H1=>if c=true then u σ H1 Q else Q false H1
def tOr (t u:TT):TT:=fun σ H Q=>t σ H fun c H1=>if c=true then Q true H1 else u σ H1 Q
def tNot (t:TT):TT:=fun σ H Q=>t σ H fun c H1=>Q (!c) H1
theorem pw_and1 (ha:PT X a tA):PW X (.BoolOp .And [a] pos) tA:=by
  intro wh pins s σ H Q I h
  refine isTrue_and (thn (ha pins s σ H Q I h) fun c s1 e=>?_)
  cases c with
  | true=>exact isTrue_and_nil e
  | false=>exact e
theorem pw_or1 (ha:PT X a tA):PW X (.BoolOp .Or [a] pos) tA:=by
  intro wh pins s σ H Q I h
  refine isTrue_or (thn (ha pins s σ H Q I h) fun c s1 e=>?_)
  cases c with
  | false=>exact isTrue_or_nil e
  | true=>exact e
theorem pw_and (ha:PT X a tA) (hb:PW X (.BoolOp .And (b :: rest) pos) tB'):PW X (.BoolOp .And (a :: b :: rest) pos) (tAnd tA tB'):=by
  intro wh pins s σ H Q I h
  refine isTrue_and (thn (ha pins s σ H _ I h) fun c s1 ⟨H1,I1,q1⟩=>?_)
  cases c with
  | true=>exact hb wh pins s1 σ H1 Q I1 q1
  | false=>exact ⟨H1,I1,q1⟩
theorem pw_or (ha:PT X a tA) (hb:PW X (.BoolOp .Or (b :: rest) pos) tB'):PW X (.BoolOp .Or (a :: b :: rest) pos) (tOr tA tB'):=by
  intro wh pins s σ H Q I h
  refine isTrue_or (thn (ha pins s σ H _ I h) fun c s1 ⟨H1,I1,q1⟩=>?_)
  cases c with
  | true=>exact ⟨H1,I1,q1⟩
  | false=>exact hb wh pins s1 σ H1 Q I1 q1
theorem pt_not (ha:PT X a tA):PT X (.UnaryOp .Not a pos) (tNot tA):=by
  intro pins s σ H Q I h
  exact isTrue_not (ha pins s σ H (fun c H1=>Q (!c) H1) I h)
def tAndV (ta tb:TE):TE:=fun σ H Q=>ta σ H fun x H1=>∃ c,x=.bl c∧if c=true then tb σ H1 Q else Q (.bl false) H1
def tNotV (ta:TE):TE:=fun σ H Q=>ta σ H fun x H1=>∃ c,x=.bl c∧Q (.bl (!c)) H1
theorem pe_one {op} {t:TE} (h:PE X a t):PE X (.BoolOp op [a] pos) t:=fun pins s σ H Q I hw=>BoolOp_one (h pins s σ H Q I hw)
theorem pe_and (ha:PE X a ta) (hb:PE X (.BoolOp .And (b :: rest) pos) tb):PE X (.BoolOp .And (a :: b :: rest) pos) (tAndV ta tb):=by
  intro pins s σ H Q I h
  refine BoolOp_and (thn (ha pins s σ H _ I h) fun v s1 ⟨x,H1,I1,r1,q1⟩=>?_)
  obtain ⟨c,rfl,q1⟩:=q1
  cases r1
  refine wpAny_truthy_bool ?_
  cases c with
  | true=>exact hb pins s1 σ H1 Q I1 q1
  | false=>exact ⟨.bl false,H1,I1,rfl,q1⟩
theorem pe_not (ha:PE X a ta):PE X (.UnaryOp .Not a pos) (tNotV ta):=by
  intro pins s σ H Q I h
  refine UnaryOp_ (thn (ha pins s σ H _ I h) fun v s1 ⟨x,H1,I1,r1,q1⟩=>?_)
  obtain ⟨c,rfl,q1⟩:=q1
  cases r1
  exact not_of (wpAny_truthy_bool ⟨.bl (!c),H1,I1,rfl,q1⟩)
def tIf (t:TT) (ta tb:TE):TE:=fun σ H Q=>t σ H fun c H1=>if c=true then ta σ H1 Q else tb σ H1 Q
theorem pe_ifExp {c:Expr} (hc:PT X c tA) (ha:PE X a ta) (hb:PE X b tb):PE X (.IfExp c a b pos) (tIf tA ta tb):=by
  intro pins s σ H Q I h
  refine wpAny_IfExp (thn (hc pins s σ H _ I h) fun d s1 ⟨H1,I1,q1⟩=>?_)
  cases d with
  | true=>exact ha pins s1 σ H1 Q I1 q1
  | false=>exact hb pins s1 σ H1 Q I1 q1
end
end L2
namespace L2
open PySem PySem.Spec PyProof.Rows
def SqL (K:PySem.W.Frag) (H:Hp) (a:Addr) (xs:List V):Prop :=
  Rd H a (.lst xs) ∨
    ∃ (o:Obj) (its:Array Value) (n:Nat),K.lookup a=some o∧o.cls=.type "list" ∧ o.dict=none∧o.data=.seq its n∧its.size≤sizeLine∧Vals xs its.toList
def SqT (K:PySem.W.Frag) (H:Hp) (a:Addr) (xs:List V):Prop :=
  Rd H a (.tup xs) ∨
    ∃ (o:Obj) (its:Array Value) (n:Nat),K.lookup a=some o∧o.cls=.type "tuple" ∧ o.data=.seq its n∧its.size≤sizeLine∧Vals xs its.toList
def absV:Value→Option V
  | .none=>some .non
  | .bool b=>some (.bl b)
  | .int i _=>some (.int i)
  | .str x _=>some (.str x)
  | .bytes b _=>some (.byt b)
  | .float b _=>some (.flt b)
  | .ref a=>some (.ref a)
  | .type n=>some (.ty n)
  | _=>none
theorem RelV.abs {x:V} {u:Value} (r:RelV x u):absV u=some x:=by
  cases x with
  | non=>cases r; rfl
  | bl _=>cases r; rfl
  | int _=>obtain ⟨t,rfl⟩:=r; rfl
  | str _=>obtain ⟨t,rfl⟩:=r; rfl
  | byt _=>obtain ⟨t,rfl⟩:=r; rfl
  | flt _=>obtain ⟨t,rfl⟩:=r; rfl
  | ref _=>cases r; rfl
  | ty _=>cases r; rfl
theorem RelV.inj {x y:V} {u:Value} (r:RelV x u) (q:RelV y u):x=y:=Option.some.inj (r.abs.symm.trans q.abs)
theorem Vals.inj:∀ {xs ys:List V} {us:List Value},Vals xs us→Vals ys us→xs=ys
  | _,_,_,.nil,.nil=>rfl
  | _,_,_,.cons r t,.cons r' t'=>by rw [r.inj r',Vals.inj t t']
section
variable {X:Cx} {pins:List (Addr×Obj)} {σ:St} {H:Hp} {s:Shared} {a:Addr} {xs ys:List V}
theorem SqL.of {K:PySem.W.Frag} (h:H a=some (.lst xs)):SqL K H a xs:=.inl (.inl h)
theorem SqT.of {K:PySem.W.Frag} (h:H a=some (.tup xs)):SqT K H a xs:=.inl (.inl h)
theorem Inv.list (I:Inv X pins σ H s) (h:SqL X.K H a xs):∃ its:List Value,Vals xs its∧PlainL s.heap a its.toArray∧xs.length≤sizeLine:=by
  rcases h with h | ⟨o,its,n,hk,hc,hd,hs,hz,r⟩
  · obtain ⟨z,its,n,r,e⟩:=h.ok I.hok
    exact ⟨its,r,⟨_,n,e,rfl,rfl,rfl⟩,z⟩
  · refine ⟨its.toList,r,⟨o,n,I.kIn a o hk,hc,hd,by simpa using hs⟩,?_⟩
    have e:=r.length
    simp only [Array.length_toList] at e
    omega
theorem Inv.tuple (I:Inv X pins σ H s) (h:SqT X.K H a xs):∃ its:List Value,Vals xs its∧IsTup s.heap a its.toArray∧xs.length≤sizeLine:=by
  rcases h with h | ⟨o,its,n,hk,hc,hs,hz,r⟩
  · obtain ⟨z,its,r,p⟩:=h.ok I.hok
    exact ⟨its,r,p,z⟩
  · refine ⟨its.toList,r,⟨o,I.kIn a o hk,hc,n,by simpa using hs⟩,?_⟩
    have e:=r.length
    simp only [Array.length_toList] at e
    omega
theorem Inv.list_inj (I:Inv X pins σ H s) (h:SqL X.K H a xs) (h':SqL X.K H a ys):xs=ys:=by
  obtain ⟨its,r,⟨o,n,e,_,_,d⟩,_⟩:=I.list h
  obtain ⟨its',r',⟨o',n',e',_,_,d'⟩,_⟩:=I.list h'
  rw [e] at e'; cases e'
  rw [d] at d'
  injection d' with d1 _
  have:its=its':=by simpa using congrArg Array.toList d1
  subst this
  exact r.inj r'
end
abbrev Cx.wish (X:Cx) (E:Value→Shared→Prop):Cx:={ X with xe:=E }
abbrev Cx.nox (X:Cx):Cx:=X.wish fun _ _=>False
theorem Cx.Ok.wish {X:Cx} (ok:X.Ok) (E:Value→Shared→Prop):(X.wish E).Ok :=
  ⟨ok.mod,ok.kind,ok.glob,ok.blt,ok.above,ok.inj,ok.has,ok.cab,ok.hd,ok.frames,ok.stk,ok.exf,ok.bs,ok.bsz,ok.noex,ok.exfs,ok.funs,ok.frf⟩
theorem Cx.Ok.unwish {X:Cx} {E:Value→Shared→Prop} (ok:(X.wish E).Ok):X.Ok :=
  ⟨ok.mod,ok.kind,ok.glob,ok.blt,ok.above,ok.inj,ok.has,ok.cab,ok.hd,ok.frames,ok.stk,ok.exf,ok.bs,ok.bsz,ok.noex,ok.exfs,ok.funs,ok.frf⟩
section
variable {X:Cx} {pins:List (Addr×Obj)} {σ:St} {H:Hp} {s:Shared} {E:Value→Shared→Prop}
theorem Inv.wish (I:Inv X pins σ H s) (E:Value→Shared→Prop):Inv (X.wish E) pins σ H s:=⟨I.ok.wish E,I.os,I.bare,I.base,I.loc,I.cell,I.free,I.freeC,I.pin,I.hok,I.len⟩
theorem Inv.unwish (I:Inv (X.wish E) pins σ H s):Inv X pins σ H s:=⟨I.ok.unwish,I.os,I.bare,I.base,I.loc,I.cell,I.free,I.freeC,I.pin,I.hok,I.len⟩
theorem SP.unwish {D:Ends} {f:Flow} {s':Shared} (h:SP (X.wish E) pins D f s'):SP X pins D f s':=by
  cases f with
  | next=>obtain ⟨σ',H',I,q⟩:=h; exact ⟨σ',H',I.unwish,q⟩
  | brk=>obtain ⟨σ',H',I,q⟩:=h; exact ⟨σ',H',I.unwish,q⟩
  | cont=>obtain ⟨σ',H',I,q⟩:=h; exact ⟨σ',H',I.unwish,q⟩
  | ret u=>obtain ⟨v,σ',H',I,r,q⟩:=h; exact ⟨v,σ',H',I.unwish,r,q⟩
theorem PSs.nox {st:List Stmt} {t:TS} (h:PSs X.nox st t):PSs X st t:=fun pins s σ H D I hw =>
  wpAny_mono (h pins s σ H D (I.wish _) hw) (fun _ _ q=>q.unwish) fun _ _ z=>False.elim z
end
section
variable {X:Cx} {st:Stmt} {rest:List Stmt} {t u:TS} {e:Expr} {te:TE} {pos:Pos}
def tNext:TS:=fun D σ H=>D.nx σ H
def tSeq (t u:TS):TS:=fun D σ H=>t { D with nx:=u D } σ H
theorem pss_nil:PSs X [] tNext:=fun _ _ σ H _ I h=>wpAny_execs_nil ⟨σ,H,I,h⟩
theorem pss_cons (h1:PS X st t) (h2:PSs X rest u):PSs X (st :: rest) (tSeq t u):=by
  intro pins s σ H D I h
  refine wpAny_execs_cons (thn (h1 pins s σ H { D with nx:=u D } I h) fun f s1 q=>?_)
  cases f with
  | next =>
    obtain ⟨σ',H',I',q⟩:=q
    exact h2 pins s1 σ' H' D I' q
  | ret v=>exact q
  | brk=>exact q
  | cont=>exact q
theorem pss_one (h1:PS X st t):PSs X [st] t:=by
  intro pins s σ H D I h
  refine wpAny_execs_cons (thn (h1 pins s σ H D I h) fun f s1 q=>?_)
  cases f with
  | next=>exact wpAny_execs_nil q
  | ret v=>exact q
  | brk=>exact q
  | cont=>exact q
theorem Inv.quiet {pins:List (Addr×Obj)} {σ:St} {H:Hp} {s:Shared} (I:Inv X pins σ H s):interactive X.env=false:=by simp [interactive,I.ok.kind]
def tDrop (te:TE):TS:=fun D σ H=>te σ H fun _ H1=>D.nx σ H1
theorem ps_expr (he:PE X e te) (hs:swapsWith e none pos.line X.env=pure false:=by rfl):PS X (.Expr e pos) (tDrop te):=by
  intro pins s σ H D I h
  exact wpAny_Expr_any (thn (he pins s σ H _ I h) fun v s1 ⟨x,H1,I1,r1,q1⟩=>⟨σ,H1,I1,q1⟩) I.quiet hs
def tRet (te:TE):TS:=fun D σ H=>te σ H D.rt
theorem ps_ret (he:PE X e te):PS X (.Return (some e) pos) (tRet te):=by
  intro pins s σ H D I h
  exact wpAny_Return_some (thn (he pins s σ H _ I h) fun v s1 ⟨x,H1,I1,r1,q1⟩=>⟨x,σ,H1,I1,r1,q1⟩)
def tIfS (c:TT) (t u:TS):TS:=fun D σ H=>c σ H fun b H1=>if b=true then t D σ H1 else u D σ H1
theorem ps_if {c:Expr} {a b:List Stmt} {tc:TT} (hc:PT X c tc) (ha:PSs X a t) (hb:PSs X b u):PS X (.If c a b pos) (tIfS tc t u):=by
  intro pins s σ H D I h
  refine wpAny_If (thn (hc pins s σ H _ I h) fun d s1 ⟨H1,I1,q1⟩=>?_)
  cases d with
  | true=>exact ha pins s1 σ H1 D I1 q1
  | false=>exact hb pins s1 σ H1 D I1 q1
end
abbrev TG:=V→St→Hp→(St→Hp→Prop)→Prop
abbrev TGs:=List V→St→Hp→(St→Hp→Prop)→Prop
def PG (X:Cx) (target:Expr) (t:TG):Prop :=
  ∀ (pins:List (Addr×Obj)) (s:Shared) (σ:St) (H:Hp) (v:V) (u:Value) (Q:St→Hp→Prop),Inv X pins σ H s→RelV v u→t v σ H Q →
    wpAny (model X.prog X.w) X.A (assign target X.env u) (fun _ s'=>∃ σ' H',Inv X pins σ' H' s'∧Q σ' H') X.xe s
def PGs (X:Cx) (ts:List Expr) (t:TGs):Prop :=
  ∀ (pins:List (Addr×Obj)) (s:Shared) (σ:St) (H:Hp) (vs:List V) (us:List Value) (Q:St→Hp→Prop),Inv X pins σ H s→Vals vs us→t vs σ H Q →
    wpAny (model X.prog X.w) X.A (assignInOrder ((assignEach ts X.env).map (·.2)) us) (fun _ s'=>∃ σ' H',Inv X pins σ' H' s'∧Q σ' H') X.xe s
abbrev TSet:=V→V→V→Hp→(Hp→Prop)→Prop
def PSet (X:Cx) (t:TSet):Prop :=
  ∀ (pins:List (Addr×Obj)) (s:Shared) (σ:St) (H:Hp) (o i v:V) (ov iv u:Value) (Q:Hp→Prop),Inv X pins σ H s→RelV o ov→RelV i iv→RelV v u→t o i v H Q →
    wpAny (model X.prog X.w) X.A (setItem ov iv u) (fun _ s'=>∃ H',Inv X pins σ H' s'∧Q H') X.xe s
abbrev TIp:=V→V→Hp→VK→Prop
def PIp (X:Cx) (op:Operator) (t:TIp):Prop :=
  ∀ (pins:List (Addr×Obj)) (s:Shared) (σ:St) (H:Hp) (x y:V) (v u:Value) (Q:VK),Inv X pins σ H s→RelV x v→RelV y u→t x y H Q →
    wpAny (model X.prog X.w) X.A (inplaceOp op v u) (EP X pins σ Q) X.xe s
section
variable {X:Cx} {pos:Pos}
def gName (i:Nat):TG:=fun v σ H Q=>Q (σ.set i (some v)) H
theorem pg_name {i:Nat} {x:Str} (hN:X.N.Nodup) (hi:X.N[i]?=some x) (hx:Loc X.env.scope x) (hf:X.fn x=true∨X.env.scope.names.lookup x=some .local:=by first | exact .inl rfl | exact .inr rfl | assumption):PG X (.Name x pos) (gName i):=by
  intro pins s σ H v u Q I r h
  exact wpAny_assign_Name (store_ok I hN hi hx r (fun s' I'=>⟨_,H,I',h⟩) hf)
def gNil:TGs:=fun vs σ H Q=>vs=[]∧Q σ H
def gCons (t:TG) (u:TGs):TGs:=fun vs σ H Q=>∃ v r,vs=v :: r∧t v σ H fun σ' H'=>u r σ' H' Q
theorem pgs_nil:PGs X [] gNil:=by
  intro pins s σ H vs us Q I r h
  obtain ⟨e,h⟩:=h
  subst e
  cases r
  exact assignInOrder_nil ⟨σ,H,I,h⟩
theorem pgs_cons {e:Expr} {es:List Expr} {t:TG} {u:TGs} (h1:PG X e t) (h2:PGs X es u)
    (hs:(assignEach (e :: es) X.env).map (·.2)=assign e X.env :: (assignEach es X.env).map (·.2):=by rfl):PGs X (e :: es) (gCons t u):=by
  intro pins s σ H vs us Q I r h
  obtain ⟨v,vr,e1,h⟩:=h
  subst e1
  cases r with
  | cons r rr =>
    rw [hs]
    refine assignInOrder_cons (thn (h1 pins s σ H _ _ _ I r h) fun _ s1 ⟨σ1,H1,I1,q1⟩=>?_)
    exact h2 pins s1 σ1 H1 _ _ Q I1 rr q1
def gTup (K:PySem.W.Frag) (n:Nat) (t:TGs):TG:=fun v σ H Q=>∃ a xs,v=.ref a∧SqT K H a xs∧xs.length=n∧t xs σ H Q
theorem pg_tup {es:List Expr} {k:Nat} {t:TGs} {n:Nat} (hc:X.calm=true) (h:PGs X es t)
    (hn:(assignEach es X.env).length=n:=by rfl) (hst:(assignEach es X.env).findIdx? (·.1)=none:=by rfl):PG X (.Tuple es k pos) (gTup X.K n t):=by
  intro pins s σ H v u Q I r hw
  obtain ⟨a,xs,e1,hq,hl,hw⟩:=hw
  subst e1
  cases r
  obtain ⟨its,rv,ht,hz⟩:=I.tuple hq
  refine assign_Tuple_tuple (I.ok.hd hc) ht (by simp [hn,← hl,rv.length]) hst fun h' hx=>?_
  have I1:Inv X pins σ H { s with heap:=h' }:=I.kept (t':=s.toks) fun b o e=>hx b o (Nat.ne_of_lt (Heap.lt_size e)) e
  exact h pins _ σ H xs _ Q I1 (by simpa using rv) hw
def gSub (to ti:TE) (t:TSet):TG:=fun v σ H Q=>to σ H fun o H1=>ti σ H1 fun i H2=>t o i v H2 fun H3=>Q σ H3
theorem pg_sub {o i:Expr} {to ti:TE} {t:TSet} (ho:PE X o to) (hi:PE X i ti) (hs:PSet X t)
    (ha:∀ v,assign (.Subscript o i pos) X.env v=(do
      let ov ← holding [v] (eval o X.env)
      let iv ← holding [v,ov] (eval i X.env)
      standAt pos
      holding [v,ov,iv] (setItem ov iv v)
      release [v,ov,iv] []):=by intro _; rfl):PG X (.Subscript o i pos) (gSub to ti t):=by
  intro pins s σ H v u Q I r h
  rw [ha]
  refine wpAny_bind (wpAny_holding (thn (ho pins s σ H _ I h) fun ov s1 ⟨x,H1,I1,r1,q1⟩=>?_))
  refine wpAny_bind (wpAny_holding (thn (hi pins s1 σ H1 _ I1 q1) fun iv s2 ⟨y,H2,I2,r2,q2⟩=>?_))
  refine wpAny_bind (wpAny_standAt (wpAny_bind (wpAny_holding (thn (hs pins s2 σ H2 x y v ov iv u _ I2 r1 r2 r q2) fun _ s3 ⟨H3,I3,q3⟩=>?_))))
  exact wpAny_release ⟨σ,H3,I3,q3⟩
def tAsg (te:TE) (g:TG):TS:=fun D σ H=>te σ H fun x H1=>g x σ H1 D.nx
theorem ps_asg {tg e:Expr} {te:TE} {g:TG} (he:PE X e te) (hg:PG X tg g) (hs:swapsWithSole [tg] e pos.line X.env=pure false:=by rfl) (hw:swappedStores [tg] e X.env=pure none:=by rfl)
    (h1:(assignEach [tg] X.env).map (·.2)=[assign tg X.env]:=by rfl):PS X (.Assign [tg] e pos) (tAsg te g):=by
  intro pins s σ H D I h
  refine wpAny_Assign_stores (thn (he pins s σ H _ I h) fun v s1 ⟨x,H1,I1,r1,q1⟩=>?_) hs hw
  rw [h1]
  exact thn (hg pins s1 σ H1 x v _ I1 r1 q1) fun _ s2 q=>q
theorem ps_set {i:Nat} {x:Str} {e:Expr} {te:TE} {pos':Pos} (hN:X.N.Nodup) (hi:X.N[i]?=some x) (hx:Loc X.env.scope x) (he:PE X e te) (hs:swapsWith e (some (.Name x pos')) pos.line X.env=pure false:=by rfl) (hf:X.fn x=true∨X.env.scope.names.lookup x=some .local:=by first | exact .inl rfl | exact .inr rfl | assumption) :
    PS X (.Assign [.Name x pos'] e pos) (tAsg te (gName i)):=by
  intro pins s σ H D I h
  refine wpAny_Assign_Name (thn (he pins s σ H _ I h) fun v s1 ⟨y,H1,I1,r1,q1⟩=>?_) hs
  exact store_ok I1 hN hi hx r1 (fun s2 I2=>⟨_,H1,I2,q1⟩) hf
def tPar (i j:Nat) (ta:TA):TS:=fun D σ H=>ta σ H fun vs H1=>∃ v w,vs=[v,w]∧D.nx ((σ.set i (some v)).set j (some w)) H1
theorem ps_par {i j:Nat} {x y:Str} {a b:Expr} {ta:TA} {px py pt:Pos} {kt k2 pt2} (hc:X.calm=true) (hN:X.N.Nodup) (hi:X.N[i]?=some x) (hj:X.N[j]?=some y) (hij:i≠j)
    (hx:X.env.scope.names.lookup x=some .local) (hy:X.env.scope.names.lookup y=some .local) (ha:PA X [a,b] ta)
    (hw:swappedStores [.Tuple [.Name x px,.Name y py] kt pt] (.Tuple [a,b] k2 pt2) X.env=pure (some [x,y]))
    (hs:swapsWithSole [.Tuple [.Name x px,.Name y py] kt pt] (.Tuple [a,b] k2 pt2) pos.line X.env=pure false:=by rfl) :
    PS X (.Assign [.Tuple [.Name x px,.Name y py] kt pt] (.Tuple [a,b] k2 pt2) pos) (tPar i j ta):=by
  intro pins s σ H D I h
  rw [exec_Assign_arm]
  refine wpAny_bind (wpAny_standAt ?_)
  rw [hs]
  refine wpAny_bind (wpAny_pure ?_)
  rw [if_neg (by decide)]
  refine wpAny_bind (Tuple_ (thn (ha _ pins s σ H _ I h) fun us s1 ⟨vs,H1,I1,r1,q1⟩=>?_))
  obtain ⟨v,w,e1,q1⟩:=q1
  subst e1
  obtain ⟨u1,u2,rfl,rv,rw'⟩:∃ u1 u2,us=[u1,u2]∧RelV v u1∧RelV w u2:=by
    cases r1 with
    | cons p q =>
      cases q with
      | cons p' q' =>
        cases q'
        exact ⟨_,_,rfl,p,p'⟩
  refine wpAny_newObj_type ?_ (by show 2≤sizeLine; decide)
  have I2:Inv X pins σ H1 { s1 with heap:=s1.heap.push { cls:=.type "tuple",data:=.seq [u1,u2].toArray } }:=I1.kept (t':=s1.toks) fun b o e=>Heap.get?_push_of_some _ e
  rw [hw]
  refine wpAny_bind (wpAny_pure ?_)
  show wpAny (model X.prog X.w) X.A (do rule "assign.swapped-stores"; let items ← unpackItems (.ref s1.heap.objs.size) 2 none; assignInOrder [fun v=>bindName X.env y v,fun v=>bindName X.env x v] items.reverse; pure Flow.next) _ _ _
  refine wpAny_bind (wpAny_rule (wpAny_bind (unpackItems_tuple (items:=#[u1,u2]) (I.ok.hd hc) (IsTup.new s1.heap _) fun h' hx'=>?_)))
  have I3:=I2.kept (h':=h') (t':=s1.toks) fun b o e=>hx' b o (Nat.ne_of_lt (Heap.lt_size e)) e
  show wpAny _ _ (assignInOrder [fun v=>bindName X.env y v,fun v=>bindName X.env x v] [u2,u1] >>= fun _=>pure Flow.next) _ _ _
  refine wpAny_bind (assignInOrder_cons (wpAny_bindName (store_ok I3 hN hj (.inl hy) rw' (fun s2 I4=>?_) (.inr hy))))
  refine assignInOrder_cons (wpAny_bindName (store_ok I4 hN hi (.inl hx) rv (fun s3 I5=>assignInOrder_nil (wpAny_pure ?_)) (.inr hx)))
  rw [List.set_comm _ _ (Ne.symm hij)] at I5
  exact ⟨_,H1,I5,q1⟩
def tAug (i:Nat) (te:TE) (ti:TIp):TS:=fun D σ H=>∃ x,σ[i]?=some (some x)∧te σ H fun y H1=>ti x y H1 fun z H2=>D.nx (σ.set i (some z)) H2
theorem ps_aug {i:Nat} {x:Str} {e:Expr} {te:TE} {op:Operator} {ti:TIp} {pos':Pos} (hN:X.N.Nodup) (hi:X.N[i]?=some x) (hx:Loc X.env.scope x) (he:PE X e te) (ho:PIp X op ti) (hf:X.fn x=true∨X.env.scope.names.lookup x=some .local:=by first | exact .inl rfl | exact .inr rfl | assumption) :
    PS X (.AugAssign (.Name x pos') op e pos) (tAug i te ti):=by
  intro pins s σ H D I h
  obtain ⟨v,e1,h⟩:=h
  obtain ⟨m,hn,hl⟩:=I.loc
  have vis:Vis X.env.scope x:=by rcases hx with k | k; exact .inl k; exact .inr (.inl k)
  obtain ⟨u,r,l⟩:=hl i x v hi e1 vis
  refine wpAny_AugAssign_Name ?_
  have go:wpAny (model X.prog X.w) X.A (eval e X.env) (fun w s₂=>wpAny (model X.prog X.w) X.A (inplaceOp op u w) (fun r s₃=>wpAny (model X.prog X.w) X.A (storeName X.env x r) (fun _=>SP X pins D .next) X.xe s₃) X.xe s₂) X.xe s:=by
    refine thn (he pins s σ H _ I h) fun w s1 ⟨y,H1,I1,r1,q1⟩=>?_
    refine thn (ho pins s1 σ H1 v y u w _ I1 r r1 q1) fun z s2 ⟨zv,H2,I2,r2,q2⟩=>?_
    exact store_ok I2 hN hi hx r2 (fun s3 I3=>⟨_,H2,I3,q2⟩) hf
  rcases l with ⟨hk,hm⟩ | ⟨hk,c,hc,hcell⟩
  · exact wpAny_loadName_local I.ok.kind hk hn hm go
  · rcases hk with hk | hk
    · exact wpAny_loadName_cell I.ok.kind hk hc hcell go
    · rcases hx with k | k
      · have:X.env.scope.names.lookup x=some .free:=hk
        rw [k] at this; cases this
      · have:X.env.scope.names.lookup x=some .free:=hk
        rw [k] at this; cases this
def ipI (f:Int→Int→Int):TIp:=fun x y H Q=>∃ i j,x=.int i∧y=.int j∧Q (.int (f i j)) H
theorem ip_add:PIp X .Add (ipI fun i j=>i+j):=by
  intro pins s σ H x y v u Q I r1 r2 h
  obtain ⟨i,j,e1,e2,q⟩:=h
  subst e1; subst e2
  obtain ⟨t,rfl⟩:=r1
  obtain ⟨t',rfl⟩:=r2
  exact iadd_int ⟨.int _,H,I.tok _,⟨_,rfl⟩,q⟩
end
section
variable {X:Cx} {pos:Pos}
def tWhile (c:TT) (tb:TS):TS:=fun D σ H=>∃ W:Nat→St→Hp→Prop,(∃ m,W m σ H)∧∀ m σ H,W m σ H →
  c σ H fun b H1=>if b=true then ∃ N:St→Hp→Prop,(∀ σ' H',N σ' H'→∃ m',m'<m∧W m' σ' H')∧tb { D with nx:=N,ct:=N,bk:=D.nx } σ H1 else D.nx σ H1
theorem ps_while {c:Expr} {body:List Stmt} {tc:TT} {tb:TS} (hp:PassesOwn (model X.prog X.w) X.A X.env X.xe) (hc:PT X c tc) (hb:PSs X body tb):PS X (.While c body [] pos) (tWhile tc tb):=by
  intro pins s σ H D I h
  obtain ⟨W,⟨m0,w0⟩,turn⟩:=h
  refine wpAny_While (codeAny_whileLoop (fun n s'=>∃ σ' H',Inv X pins σ' H' s'∧W n σ' H') ?_ m0 ⟨σ,H,I,w0⟩)
  rintro n s1 ⟨σ1,H1,I1,w1⟩
  refine wpAny_passesOwn hp (thn (hc pins s1 σ1 H1 _ I1 (turn n σ1 H1 w1)) fun b s2 ⟨H2,I2,q2⟩=>?_)
  cases b with
  | true =>
    obtain ⟨N,hN,q2⟩:=q2
    rw [if_pos rfl]
    refine wpAny_passesOwn hp (thn (hb pins s2 σ1 H2 _ I2 q2) fun f s3 q3=>?_)
    cases f with
    | next =>
      obtain ⟨σ3,H3,I3,n3⟩:=q3
      obtain ⟨m',hm,w3⟩:=hN σ3 H3 n3
      exact ⟨m',hm,σ3,H3,I3,w3⟩
    | cont =>
      obtain ⟨σ3,H3,I3,n3⟩:=q3
      obtain ⟨m',hm,w3⟩:=hN σ3 H3 n3
      exact ⟨m',hm,σ3,H3,I3,w3⟩
    | brk=>exact q3
    | ret v=>exact q3
  | false =>
    rw [if_neg Bool.false_ne_true]
    exact wpAny_execs_nil ⟨σ1,H2,I2,q2⟩
end
structure It where
  go:Nat→Hp→Prop
  yld:Nat→Hp→V→Hp→Prop
  stop:Nat→Hp→Prop
def FpOk (X:Cx) (pins:List (Addr×Obj)) (H:Hp) (b:Addr):Prop :=
  H b=none∧b≠X.env.locals∧b∉X.fs∧(b∈X.ex∨X.s₀.heap.objs.size≤b)∧(∀ x c,X.env.cells.lookup x=some c→c≠b)∧∀ p∈X.pn++pins,p.1≠b
theorem Inv.fpOk {X:Cx} {pins:List (Addr×Obj)} {σ:St} {H H':Hp} {s:Shared} {b:Addr} (I:Inv X pins σ H s) (hb:s.heap.objs.size≤b) (hn:H' b=none):FpOk X pins H' b:=by
  refine ⟨hn,Nat.ne_of_gt (Nat.lt_of_lt_of_le I.lt hb),I.nofs hb,.inr (Nat.le_trans I.sz hb),fun x c e z=>?_,fun p hp z=>?_⟩
  · obtain ⟨v,q⟩:=I.cell x c e
    exact absurd (Nat.lt_of_lt_of_le q.lt (by rw [z]; exact hb)) (Nat.lt_irrefl _)
  · exact absurd (Nat.lt_of_lt_of_le (Heap.lt_size (I.pin p hp).1) (by rw [z]; exact hb)) (Nat.lt_irrefl _)
structure Turn (P:Program) (w:World) (K:PySem.W.Frag) (tg:Expr) (J:It) (fp:List Addr) (it:Addr) (tn:Nat→Heap→Prop):Prop where
  mem:it∈fp
  obj:∀ i h,tn i h→∀ b∈fp,∃ o,h.get? b=some o∧∀ v,o.data≠.cell v
  keep:∀ i h h',tn i h→(∀ b∈fp,∀ o,h.get? b=some o→h'.get? b=some o)→tn i h'
  item:∀ (X:Cx),X.prog=P→X.w=w→X.K=K→X.calm=true→∀ (i:Nat) (pins:List (Addr×Obj)) (s:Shared) (σ:St) (H:Hp) (E:Value→Shared→Prop),Inv X pins σ H s→(∀ b∈fp,FpOk X pins H b)→tn i s.heap→J.go i H →
    wpAny (model P w) X.A (pyNext (.ref it)) (fun r s1=>∃ u,r=some u ∧
      wpAny (model P w) X.A (letOwnedTupleGo tg (.ref it) u) (fun _ s2=>∃ x H',Inv X pins σ H' s2∧RelV x u∧J.yld i H x H'∧tn (i+1) s2.heap∧∀ b∈fp,H' b=none) E s1) E s
  done:∀ (X:Cx),X.prog=P→X.w=w→X.K=K→X.calm=true→∀ (i:Nat) (pins:List (Addr×Obj)) (s:Shared) (σ:St) (H:Hp) (E:Value→Shared→Prop),Inv X pins σ H s→(∀ b∈fp,FpOk X pins H b)→tn i s.heap→J.stop i H →
    wpAny (model P w) X.A (pyNext (.ref it)) (fun r s1=>r=none∧Inv X pins σ H s1) E s
  self:∀ (A:Around) (i:Nat) (s:Shared) (Q:Value→Shared→Prop) (E:Value→Shared→Prop),tn i s.heap→Q (.ref it) s→wpAny (model P w) A (pyIter (.ref it)) Q E s
abbrev TI:=St→Hp→(It→Hp→Prop)→Prop
def PIE (X:Cx) (pins:List (Addr×Obj)) (σ:St) (tg:Expr) (R:It→Hp→Prop) (itv:Value) (s2:Shared):Prop :=
  ∃ (it:Addr) (fp:List Addr) (tn:Nat→Heap→Prop) (J:It) (H':Hp),itv=.ref it∧Inv X pins σ H' s2∧Turn X.prog X.w X.K tg J fp it tn∧tn 0 s2.heap∧(∀ b∈fp,FpOk X pins H' b)∧R J H'
def PI (X:Cx) (tg iter:Expr) (wi:TI):Prop :=
  ∀ (pins:List (Addr×Obj)) (s:Shared) (σ:St) (H:Hp) (R:It→Hp→Prop),Inv X pins σ H s→wi σ H R →
    wpAny (model X.prog X.w) X.A (eval iter X.env) (fun v s1=>wpAny (model X.prog X.w) X.A (pyIter v) (PIE X pins σ tg R) X.xe s1) X.xe s
theorem go_of {M:Model} {A:Around} {E:Value→Shared→Prop} {s:Shared} {tg:Expr} {it:Addr} {u:Value} {o:Obj} {n:String} {vs:Array Value} {Q:Unit→Shared→Prop} (ho:s.heap.get? it=some o) (hc:o.cls=.type n) (hd:o.data=.fields vs)
    (hn:["enumerate", "zip", "dict_itemiterator", "dict_reverseitemiterator", "odict_iterator", "itertools.zip_longest", "itertools.pairwise"].contains n=false) (hQ:Q () s):wpAny M A (letOwnedTupleGo tg (.ref it) u) Q E s:=by
  unfold letOwnedTupleGo
  cases tg <;> first
    | exact wpAny_pure hQ
    | (cases u <;> first
        | exact wpAny_pure hQ
        | (refine wpAny_bind (wpAny_load ho ?_)
           rw [hc,hd]
           show wpAny M A (if (["enumerate", "zip", "dict_itemiterator", "dict_reverseitemiterator", "odict_iterator", "itertools.zip_longest", "itertools.pairwise"].contains n && vs[0]? == some (rawInt _))=true then _ else _) Q E s
           rw [if_neg (by intro h; rw [hn,Bool.false_and] at h; cases h)]
           exact wpAny_pure hQ))
def Itl (K:PySem.W.Frag) (a:Addr):It :=
  ⟨fun i H=>∃ xs x,SqL K H a xs∧xs[i]?=some x,fun i H x H'=>H'=H∧∀ xs,SqL K H a xs→xs[i]?=some x,fun i H=>∃ xs,SqL K H a xs∧xs.length≤i⟩
def Itr (lo:Int) (n:Nat):It:=⟨fun i _=>i<n,fun i H x H'=>H'=H∧x=.int (lo+i),fun i _=>n≤i⟩
theorem turn_list {P:Program} {w:World} {K:PySem.W.Frag} {tg:Expr} (a it:Addr):Turn P w K tg (Itl K a) [it] it (fun i h=>h.IsListIter it a i) where
  mem:=by simp
  obj:=fun i h st b hb=>by
    have e:b=it:=by simpa using hb
    subst e
    obtain ⟨o,e,c,d⟩:=st
    exact ⟨o,e,fun v z=>by rw [d] at z; cases z⟩
  keep:=fun i h h' st k=>st.at fun o e=>k it (by simp) o e
  item:=by
    intro X hP hw hK hc i pins s σ H E I hf st hg
    subst hP hw hK
    obtain ⟨xs,x,hq,hx⟩:=hg
    obtain ⟨its,rv,p,hz⟩:=I.list hq
    obtain ⟨u,hu,ru⟩:=rv.get hx
    obtain ⟨f0,f1,f2,f3,f4,f5⟩:=hf it (by simp)
    refine wpAny_pyNext_list_item st p.isList (x:=u) (by simpa using hu) fun h' st' sb=>?_
    have I1:Inv X pins σ H { s with heap:=h' }:=I.turned (t':=s.toks) (fun b o hb e=>(sb.2 b hb).trans e) f0 f1 f3 f4 f5
    obtain ⟨o,e,c,d⟩:=id st'
    exact ⟨u,rfl,go_of (s:={ s with heap:=h' }) e c d (by decide) ⟨x,H,I1,ru,⟨rfl,fun ys hy=>by rw [I.list_inj hy hq]; exact hx⟩,st',fun b hb=>(hf b hb).1⟩⟩
  done:=by
    intro X hP hw hK hc i pins s σ H E I hf st hg
    subst hP hw hK
    obtain ⟨xs,hq,hx⟩:=hg
    obtain ⟨its,rv,p,hz⟩:=I.list hq
    obtain ⟨f0,f1,f2,f3,f4,f5⟩:=hf it (by simp)
    have hl:=rv.length
    exact wpAny_pyNext_list_end (I.ok.hd hc) st p.isList (by simp; omega) fun h' eb=>⟨rfl,I.turned (t':=s.toks) (fun b o hb e=>eb b o hb e) f0 f1 f3 f4 f5⟩
  self:=fun _ _ _ _ _ st h=>wpAny_pyIter_listiter st h
theorem turn_range {P:Program} {w:World} {K:PySem.W.Frag} {tg:Expr} (it:Addr) (lo:Int) (n:Nat):Turn P w K tg (Itr lo n) [it] it (fun i h=>IsRangeIter h it (lo+(i:Nat) * 1) ((n:Int) - (i:Nat)) 1) where
  mem:=by simp
  obj:=fun i h st b hb=>by
    have e:b=it:=by simpa using hb
    subst e
    exact ⟨_,st,fun v z=>by
      have z':Data.fields _=Data.cell v:=z
      cases z'⟩
  keep:=fun i h h' st k=>k it (by simp) _ st
  item:=by
    intro X hP hw hK hc i pins s σ H E I hf st hg
    subst hP hw hK
    obtain ⟨f0,f1,f2,f3,f4,f5⟩:=hf it (by simp)
    have W:=Walks.range (prog:=X.prog) (w:=X.w) (I.ok.hd hc) it lo 1 n
    refine W.item i s _ _ hg st fun v h' tk hv st' kk=>?_
    obtain ⟨t,rfl⟩:=hv
    have I1:Inv X pins σ H { s with heap:=h',toks:=tk }:=I.turned (fun b o hb e=>kk b o (by simpa using hb) e) f0 f1 f3 f4 f5
    refine ⟨_,rfl,go_of (s:={ s with heap:=h',toks:=tk }) (n := "range_iterator") st' rfl rfl (by decide) ⟨.int (lo+i),H,I1,⟨t,?_⟩,⟨rfl,rfl⟩,st',fun b hb=>(hf b hb).1⟩⟩
    rw [Int.mul_one]
  done:=by
    intro X hP hw hK hc i pins s σ H E I hf st hg
    subst hP hw hK
    obtain ⟨f0,f1,f2,f3,f4,f5⟩:=hf it (by simp)
    exact wpAny_pyNext_range_end (I.ok.hd hc) st (by have:n≤i:=hg; omega) fun h' eb=>⟨rfl,I.turned (t':=s.toks) (fun b o hb e=>eb b o hb e) f0 f1 f3 f4 f5⟩
  self:=fun _ _ _ _ _ st h=>wpAny_pyIter_rangeiter st h
end L2
namespace L2
open PySem PySem.Spec PyProof.Rows
section
variable {X:Cx} {tg:Expr}
def iList (K:PySem.W.Frag) (tl:TE):TI:=fun σ H R=>tl σ H fun x H1=>∃ a,x=.ref a∧(∃ xs,SqL K H1 a xs)∧R (Itl K a) H1
theorem pi_list {l:Expr} {tl:TE} (hl:PE X l tl):PI X tg l (iList X.K tl):=by
  intro pins s σ H R I h
  refine thn (hl pins s σ H _ I h) fun v s1 ⟨x,H1,I1,r1,q1⟩=>?_
  obtain ⟨a,e,⟨xs,hq⟩,q⟩:=q1
  subst e
  cases r1
  obtain ⟨its,rv,p,hz⟩:=I1.list hq
  refine wpAny_pyIter_list p.isList ?_
  refine ⟨s1.heap.objs.size,[s1.heap.objs.size],_,_,H1,rfl,I1.kept (t':=s1.toks) fun b o e=>Heap.get?_push_of_some _ e,turn_list a _,⟨_,Heap.get?_push_size _ rfl,rfl,rfl⟩,fun b hb=>?_,q⟩
  have e:b=s1.heap.objs.size:=by simpa using hb
  subst e
  exact I1.fpOk (Nat.le_refl _) (I1.hok.fresh (Nat.le_refl _))
theorem range_it {pins:List (Addr×Obj)} {σ:St} {H:Hp} {s:Shared} {R:It→Hp→Prop} {E:Value→Shared→Prop} {lo hi:Int} {t u v:Tok} {tk:Nat} (I:Inv X pins σ H s) (h1 : -(2 ^ 62)≤lo) (h2:lo<2 ^ 62) (h3 : -(2 ^ 62)≤hi) (h4:hi<2 ^ 62)
    (q:R (Itr lo (hi - lo).toNat) H):wpAny (model X.prog X.w) X.A (pyIter (.ref s.heap.objs.size)) (PIE X pins σ tg R) E { s with heap:=s.heap.push { cls:=.type "range",data:=.fields #[.int lo t,.int hi u,.int 1 v] },toks:=tk }:=by
  refine wpAny_pyIter_range (IsRange.new ..) (small_one h1 h2 h3 h4) ?_
  have I1:Inv X pins σ H { s with heap:=s.heap.push { cls:=.type "range",data:=.fields #[.int lo t,.int hi u,.int 1 v] },toks:=tk }:=I.kept fun b o e=>Heap.get?_push_of_some _ e
  refine ⟨(s.heap.push { cls:=.type "range",data:=.fields #[.int lo t,.int hi u,.int 1 v] }).objs.size,[(s.heap.push { cls:=.type "range",data:=.fields #[.int lo t,.int hi u,.int 1 v] }).objs.size],_,_,H,rfl,
    I1.kept (t':=tk) fun b o e=>Heap.get?_push_of_some _ e,turn_range _ lo (hi - lo).toNat,?_,fun b hb=>?_,q⟩
  · have e1:lo+((0:Nat):Int) * 1=lo:=by simp
    have e2:(((hi - lo).toNat:Nat):Int) - ((0:Nat):Int)=Builtin.Range.rangeSize lo hi 1:=by rw [rangeSize_one]; split <;> omega
    show IsRangeIter _ _ (lo+((0:Nat):Int) * 1) ((((hi - lo).toNat:Nat):Int) - ((0:Nat):Int)) 1
    rw [e1,e2]
    exact Heap.get?_push_size _ rfl
  · have e:b=(s.heap.push { cls:=.type "range",data:=.fields #[.int lo t,.int hi u,.int 1 v] }).objs.size:=by simpa using hb
    subst e
    exact I1.fpOk (Nat.le_refl _) (I1.hok.fresh (Nat.le_refl _))
def iRng1 (ta:TA):TI:=fun σ H R=>ta σ H fun vs H1=>∃ j:Int,vs=[.int j] ∧ -(2 ^ 62)≤j∧j<2 ^ 62∧R (Itr 0 j.toNat) H1
theorem pi_range1 {a:Expr} {ta:TA} {p pos:Pos} (hg:Gl X "range") (hm:X.mg "range" = none) (ha:PA X [a] ta) (hs:starEach [a] X.env=[(false,eval a X.env)]:=by rfl):PI X tg (.Call (.Name "range" p) [a] [] pos) (iRng1 ta):=by
  intro pins s σ H R I h
  refine Call_ (ld_blt I hg hm boot_range (PyProof.Rows.callWith_type1 (thn (ha pos pins s σ H _ I h) fun us s1 ⟨vs,H1,I1,r1,q1⟩=>?_) hs rfl))
  obtain ⟨j,e,q1,q2,q⟩:=q1
  subst e
  cases r1 with
  | cons r rr =>
    cases rr
    obtain ⟨t,rfl⟩:=r
    exact call_range_1 (range_it I1 (by omega) (by omega) q1 q2 (by simpa using q))
def tFor (wi:TI) (g:TG) (tb:TS):TS:=fun D σ H=>wi σ H fun J H1=>∃ W:Nat→Nat→St→Hp→Prop,(∃ m,W 0 m σ H1)∧∀ i m σ H,W i m σ H →
  (J.stop i H∧D.nx σ H)∨(J.go i H∧∃ N:St→Hp→Prop,(∀ σ' H',N σ' H'→∃ m',m'<m∧W (i+1) m' σ' H')∧∀ x H',J.yld i H x H'→g x σ H' fun σ2 H2=>tb { D with nx:=N,ct:=N,bk:=D.nx } σ2 H2)
def pinsAt (fp:List Addr) (h:Heap):List (Addr×Obj):=fp.filterMap fun b=>(h.get? b).map fun o=>(b,o)
theorem mem_pinsAt {fp:List Addr} {h:Heap} {b:Addr} {o:Obj} (hb:b∈fp) (e:h.get? b=some o):(b,o)∈pinsAt fp h:=List.mem_filterMap.mpr ⟨b,hb,by rw [e]; rfl⟩
theorem of_pinsAt {fp:List Addr} {h:Heap} {p:Addr×Obj} (hp:p∈pinsAt fp h):p.1∈fp∧h.get? p.1=some p.2:=by
  obtain ⟨b,hb,e⟩:=List.mem_filterMap.mp hp
  cases q:h.get? b with
  | none=>rw [q] at e; cases e
  | some o =>
    rw [q] at e
    have e':(b,o)=p:=Option.some.inj e
    subst e'
    exact ⟨hb,q⟩
theorem Inv.pinned {pins:List (Addr×Obj)} {σ:St} {H:Hp} {s:Shared} {fp:List Addr} (I:Inv X pins σ H s) (hf:∀ b∈fp,FpOk X pins H b) (ho:∀ b∈fp,∃ o,s.heap.get? b=some o∧∀ v,o.data≠.cell v):Inv X (pins++pinsAt fp s.heap) σ H s :=
  I.pins_of fun p hp=>(List.mem_append.mp hp).elim (fun z=>I.pin p (List.mem_append_right _ z)) fun z=>by
    obtain ⟨hb,e⟩:=of_pinsAt z
    obtain ⟨f0,f1,f2,_⟩:=hf p.1 hb
    obtain ⟨o,e',d⟩:=ho p.1 hb
    rw [e] at e'; cases e'
    exact ⟨e,f0,f1,f2,d⟩
theorem Inv.unpinned {pins pl:List (Addr×Obj)} {σ:St} {H:Hp} {s:Shared} (I:Inv X (pins++pl) σ H s):Inv X pins σ H s:=I.pins_of fun p hp=>I.pin p (List.mem_append_right _ (List.mem_append_left _ hp))
theorem ps_for {iter:Expr} {body:List Stmt} {wi:TI} {g:TG} {tb:TS} {pos:Pos} (hp:PassesOwn (model X.prog X.w) X.A X.env X.xe) (hc:X.calm=true) (hi:PI X tg iter wi) (hg:PG X tg g) (hb:PSs X body tb)
    (hs:∀ x,foldedSetIterable iter X.env x=pure x:=by intro _; rfl):PS X (.For tg iter body [] pos) (tFor wi g tb):=by
  intro pins s σ H D I h
  refine wpAny_For (thn (hi pins s σ H _ I h) fun v s1 h1=>thn h1 fun itv s2 h2=>?_) hs
  obtain ⟨it,fp,tn,J,H2,e,I2,T,st2,f2,W,⟨m0,w0⟩,turn⟩:=h2
  subst e
  have stat:∀ {H':Hp},(∀ b∈fp,H' b=none)→∀ b∈fp,FpOk X pins H' b:=fun hn b hb=>⟨hn b hb,(f2 b hb).2⟩
  refine codeAny_forLoop_any (fun n s'=>∃ i σ' H',Inv X pins σ' H' s'∧tn i s'.heap∧(∀ b∈fp,H' b=none)∧W i n σ' H') ?_ m0 ⟨0,σ,H2,I2,st2,fun b hb=>(f2 b hb).1,w0⟩
  rintro n s3 ⟨i,σ3,H3,I3,st3,fr3,w3⟩
  rcases turn i n σ3 H3 w3 with ⟨stop,qn⟩ | ⟨go,N,hN,step⟩
  · refine wpAny_passesOwn hp (thn (T.done X rfl rfl rfl hc i pins s3 σ3 H3 X.xe I3 (stat fr3) st3 stop) fun r s4 ⟨hr,I4⟩=>?_)
    subst hr
    exact wpAny_execs_nil ⟨σ3,H3,I4,qn⟩
  · refine wpAny_passesOwn hp (thn (T.item X rfl rfl rfl hc i pins s3 σ3 H3 X.xe I3 (stat fr3) st3 go) fun r s4 ⟨u,hr,h4⟩=>?_)
    subst hr
    refine wpAny_passesOwn hp (thn h4 fun _ s5 ⟨x,H5,I5,r5,y5,st5,fr5⟩=>?_)
    have I5':=I5.pinned (stat fr5) (T.obj _ _ st5)
    refine wpAny_passesOwn hp (thn (hg _ s5 σ3 H5 x u _ I5' r5 (step x H5 y5)) fun _ s6 ⟨σ6,H6,I6,q6⟩=>?_)
    refine wpAny_passesOwn hp (thn (hb _ s6 σ6 H6 _ I6 q6) fun f s7 q7=>?_)
    have again:∀ {σ7:St} {H7:Hp},Inv X (pins++pinsAt fp s5.heap) σ7 H7 s7→N σ7 H7→∃ m,m<n∧∃ i σ' H',Inv X pins σ' H' s7∧tn i s7.heap∧(∀ b∈fp,H' b=none)∧W i m σ' H':=fun {σ7 H7} I7 n7=>by
      obtain ⟨m',hm,w7⟩:=hN σ7 H7 n7
      refine ⟨m',hm,i+1,σ7,H7,I7.unpinned,T.keep _ _ _ st5 fun b hb o e=>(I7.pin (b,o) (List.mem_append_right _ (List.mem_append_right _ (mem_pinsAt hb e)))).1,fun b hb=>?_,w7⟩
      obtain ⟨o,e,d⟩:=T.obj _ _ st5 b hb
      exact (I7.pin (b,o) (List.mem_append_right _ (List.mem_append_right _ (mem_pinsAt hb e)))).2.1
    cases f with
    | next=>obtain ⟨σ7,H7,I7,n7⟩:=q7; exact again I7 n7
    | cont=>obtain ⟨σ7,H7,I7,n7⟩:=q7; exact again I7 n7
    | brk=>obtain ⟨σ7,H7,I7,q7⟩:=q7; exact ⟨σ7,H7,I7.unpinned,q7⟩
    | ret v=>obtain ⟨x7,σ7,H7,I7,r7,q7⟩:=q7; exact ⟨x7,σ7,H7,I7.unpinned,r7,q7⟩
end
theorem for_range {lo:Int} {n:Nat} {g:TG} {tb:TS} {D:Ends} {σ:St} {H:Hp} (Pv:Nat→St→Hp→Prop) (h0:Pv 0 σ H)
    (hs:∀ i σ H,i<n→Pv i σ H→g (.int (lo+i)) σ H fun σ2 H2=>tb { D with nx:=Pv (i+1),ct:=Pv (i+1),bk:=D.nx } σ2 H2) (hd:∀ σ H,Pv n σ H→D.nx σ H) :
    ∃ W:Nat→Nat→St→Hp→Prop,(∃ m,W 0 m σ H)∧∀ i m σ H,W i m σ H →
      ((Itr lo n).stop i H∧D.nx σ H)∨((Itr lo n).go i H∧∃ N:St→Hp→Prop,(∀ σ' H',N σ' H'→∃ m',m'<m∧W (i+1) m' σ' H')∧∀ x H',(Itr lo n).yld i H x H'→g x σ H' fun σ2 H2=>tb { D with nx:=N,ct:=N,bk:=D.nx } σ2 H2):=by
  refine ⟨fun i m σ H=>m=n - i∧i≤n∧Pv i σ H,⟨n,by simp,Nat.zero_le _,h0⟩,?_⟩
  rintro i m σ H ⟨rfl,hi,p⟩
  by_cases hlt:i<n
  · refine .inr ⟨hlt,Pv (i+1),fun σ' H' p'=>⟨n - (i+1),by omega,rfl,hlt,p'⟩,fun x H' y=>?_⟩
    obtain ⟨e,y⟩:=y
    subst e y
    exact hs i σ _ hlt p
  · have e:i=n:=by omega
    subst e
    exact .inl ⟨Nat.le_refl _,hd σ H p⟩
end L2
namespace L2
open PySem PySem.Spec PyProof.Rows
abbrev R2:=V→V→Hp→VK→Prop
def OpR (X:Cx) (f:Value→Value→Sem Value) (r:R2):Prop :=
  ∀ (pins:List (Addr×Obj)) (s:Shared) (σ:St) (H:Hp) (x y:V) (v u:Value) (Q:VK),Inv X pins σ H s→RelV x v→RelV y u→r x y H Q →
    wpAny (model X.prog X.w) X.A (f v u) (EP X pins σ Q) X.xe s
def UnR (X:Cx) (f:Value→Sem Value) (r:V→Hp→VK→Prop):Prop :=
  ∀ (pins:List (Addr×Obj)) (s:Shared) (σ:St) (H:Hp) (x:V) (v:Value) (Q:VK),Inv X pins σ H s→RelV x v→r x H Q →
    wpAny (model X.prog X.w) X.A (f v) (EP X pins σ Q) X.xe s
def CallR (X:Cx) (f:Value) (r:List V→Hp→VK→Prop):Prop :=
  ∀ (pins:List (Addr×Obj)) (s:Shared) (σ:St) (H:Hp) (xs:List V) (us:List Value) (Q:VK),Inv X pins σ H s→Vals xs us→r xs H Q →
    wpAny (model X.prog X.w) X.A (call f us) (EP X pins σ Q) X.xe s
def TruR (X:Cx) (r:V→Hp→(Bool→Hp→Prop)→Prop):Prop :=
  ∀ (pins:List (Addr×Obj)) (s:Shared) (σ:St) (H:Hp) (x:V) (v:Value) (Q:Bool→Hp→Prop),Inv X pins σ H s→RelV x v→r x H Q →
    wpAny (model X.prog X.w) X.A (truthy v) (TP X pins σ Q) X.xe s
def tOp (r:R2) (ta tb:TE):TE:=fun σ H Q=>ta σ H fun x H1=>tb σ H1 fun y H2=>r x y H2 Q
def tUn (r:V→Hp→VK→Prop) (ta:TE):TE:=fun σ H Q=>ta σ H fun x H1=>r x H1 Q
def rI (C:Int→Int→Prop) (g:Int→Int→V):R2:=fun x y H Q=>∃ i j,x=.int i∧y=.int j∧C i j∧Q (g i j) H
def rI0 (g:Int→Int→V):R2:=fun x y H Q=>∃ i j,x=.int i∧y=.int j∧Q (g i j) H
def rU (g:Int→V):V→Hp→VK→Prop:=fun x H Q=>∃ i,x=.int i∧Q (g i) H
section
variable {X:Cx} {a b c:Expr} {ta tb tc:TE} {pos:Pos}
theorem binT (ha:PE X a ta) (hb:PE X b tb) {pins:List (Addr×Obj)} {s:Shared} {σ:St} {H:Hp} {R:V→V→Hp→Prop} (I:Inv X pins σ H s)
    (h:ta σ H fun x H1=>tb σ H1 fun y H2=>R x y H2) {Q:Value→Shared→Prop} {f:Value→Value→Sem Value}
    (hf:∀ v u s2 x y H2,Inv X pins σ H2 s2→RelV x v→RelV y u→R x y H2→wpAny (model X.prog X.w) X.A (f v u) Q X.xe s2) :
    wpAny (model X.prog X.w) X.A (eval a X.env) (fun v s₁=>wpAny (model X.prog X.w) X.A (eval b X.env) (fun u s₂=>wpAny (model X.prog X.w) X.A (f v u) Q X.xe s₂) X.xe s₁) X.xe s:=by
  refine thn (ha pins s σ H _ I h) fun v s1 ⟨x,H1,I1,r1,q1⟩=>?_
  refine thn (hb pins s1 σ H1 _ I1 q1) fun u s2 ⟨y,H2,I2,r2,q2⟩=>?_
  exact hf v u s2 x y H2 I2 r1 r2 q2
theorem pe_op {op:Operator} {r:R2} (ho:OpR X (binaryOp op) r) (ha:PE X a ta) (hb:PE X b tb):PE X (.BinOp a op b pos) (tOp r ta tb):=by
  intro pins s σ H Q I h
  exact wpAny_BinOp (binT ha hb I h fun v u s2 x y H2 I2 rx ry q=>ho pins s2 σ H2 x y v u Q I2 rx ry q)
theorem pe_un {op:UnaryOp} {r:V→Hp→VK→Prop} (ho:UnR X (unaryOp op) r) (ha:PE X a ta):PE X (.UnaryOp op a pos) (tUn r ta):=by
  intro pins s σ H Q I h
  exact UnaryOp_ (thn (ha pins s σ H _ I h) fun v s1 ⟨x,H1,I1,r1,q1⟩=>ho pins s1 σ H1 x v Q I1 r1 q1)
theorem opI {f:Value→Value→Sem Value} {C:Int→Int→Prop} {g:Int→Int→Int}
    (rule:∀ (i j:Int) (t u:Tok) (s:Shared) (Q:Value→Shared→Prop) (E:Value→Shared→Prop),C i j→Q (.int (g i j) s.toks) { s with toks:=s.toks+1 }→wpAny (model X.prog X.w) X.A (f (.int i t) (.int j u)) Q E s) :
    OpR X f (rI C fun i j=>.int (g i j)):=by
  intro pins s σ H x y v u Q I rx ry h
  obtain ⟨i,j,rfl,rfl,hc,q⟩:=h
  obtain ⟨t,rfl⟩:=rx
  obtain ⟨t',rfl⟩:=ry
  exact rule i j t t' s _ _ hc ⟨.int (g i j),H,I.tok _,⟨_,rfl⟩,q⟩
theorem opI0 {f:Value→Value→Sem Value} {g:Int→Int→Int}
    (rule:∀ (i j:Int) (t u:Tok) (s:Shared) (Q:Value→Shared→Prop) (E:Value→Shared→Prop),Q (.int (g i j) s.toks) { s with toks:=s.toks+1 }→wpAny (model X.prog X.w) X.A (f (.int i t) (.int j u)) Q E s) :
    OpR X f (rI0 fun i j=>.int (g i j)):=by
  intro pins s σ H x y v u Q I rx ry h
  obtain ⟨i,j,rfl,rfl,q⟩:=h
  obtain ⟨t,rfl⟩:=rx
  obtain ⟨t',rfl⟩:=ry
  exact rule i j t t' s _ _ ⟨.int (g i j),H,I.tok _,⟨_,rfl⟩,q⟩
theorem opB0 {f:Value→Value→Sem Value} {g:Int→Int→Bool}
    (rule:∀ (i j:Int) (t u:Tok) (s:Shared) (Q:Value→Shared→Prop) (E:Value→Shared→Prop),Q (.bool (g i j)) s→wpAny (model X.prog X.w) X.A (f (.int i t) (.int j u)) Q E s) :
    OpR X f (rI0 fun i j=>.bl (g i j)):=by
  intro pins s σ H x y v u Q I rx ry h
  obtain ⟨i,j,rfl,rfl,q⟩:=h
  obtain ⟨t,rfl⟩:=rx
  obtain ⟨t',rfl⟩:=ry
  exact rule i j t t' s _ _ ⟨.bl (g i j),H,I,rfl,q⟩
def CDiv (i j:Int):Prop:=0<j∧j<1073741824
def CPow (i j:Int):Prop:=0≤j∧j≤1000000∧i.natAbs<2 ^ 64
def CMul (i j:Int):Prop:=(-(2 ^ 64)<i∧i<2 ^ 64)∨(-(2 ^ 64)<j∧j<2 ^ 64)
theorem CMul.ok {i j:Int} (h:CMul i j):IntMulOk i j:=by
  rcases h with ⟨h1,h2⟩ | ⟨h1,h2⟩
  · exact .of_left (intBits_le_64 h1 h2)
  · exact .of_right (intBits_le_64 h1 h2)
theorem op_add:OpR X (binaryOp .Add) (rI0 fun i j=>.int (i+j)):=opI0 fun _ _ _ _ _ _ _ q=>add_int q
theorem op_sub:OpR X (binaryOp .Sub) (rI0 fun i j=>.int (i - j)):=opI0 fun _ _ _ _ _ _ _ q=>sub_int q
theorem op_mul:OpR X (binaryOp .Mult) (rI CMul fun i j=>.int (i * j)):=opI fun _ _ _ _ _ _ _ hc q=>mul_int q hc.ok
theorem op_fdiv:OpR X (binaryOp .FloorDiv) (rI CDiv fun i j=>.int (i / j)):=opI fun i j _ _ _ _ _ hc q=>by
  have h1:(0:Int)<j:=hc.1
  have h2:j<1073741824:=hc.2
  exact floordiv_int (by omega) (by rw [Int.fdiv_eq_ediv_of_nonneg i (by omega)]; exact q) (.inl (PyProof.noPylong_small (by omega)))
theorem op_mod:OpR X (binaryOp .Mod) (rI (fun _ j=>0<j) fun i j=>.int (i % j)):=opI fun i j _ _ _ _ _ hc q=>by
  have h1:(0:Int)<j:=hc
  exact mod_int' (by omega) (by rw [Int.fmod_eq_emod_of_nonneg i (by omega)]; exact q)
theorem op_pow:OpR X (binaryOp .Pow) (rI CPow fun i j=>.int (i ^ j.toNat)):=opI fun _ _ _ _ _ _ _ hc q=>pow_int_small hc.1 hc.2.1 hc.2.2 q
theorem unI {f:Value→Sem Value} {g:Int→Int}
    (rule:∀ (i:Int) (t:Tok) (s:Shared) (Q:Value→Shared→Prop) (E:Value→Shared→Prop),Q (.int (g i) s.toks) { s with toks:=s.toks+1 }→wpAny (model X.prog X.w) X.A (f (.int i t)) Q E s) :
    UnR X f (rU fun i=>.int (g i)):=by
  intro pins s σ H x v Q I rx h
  obtain ⟨i,rfl,q⟩:=h
  obtain ⟨t,rfl⟩:=rx
  exact rule i t s _ _ ⟨.int (g i),H,I.tok _,⟨_,rfl⟩,q⟩
theorem un_neg:UnR X (unaryOp .USub) (rU fun i=>.int (-i)):=unI fun _ _ _ _ _ q=>neg_int q
end
def scal:V→V→Bool
  | .non,.non=>true | .non,.int _=>true | .int _,.non=>true | .non,.bl _=>true | .bl _,.non=>true | .non,.str _=>true | .str _,.non=>true
  | .int _,.int _=>true | .bl _,.bl _=>true | .str _,.str _=>true | .byt _,.byt _=>true
  | .int _,.str _=>true | .str _,.int _=>true | .bl _,.str _=>true | .str _,.bl _=>true
  | _,_=>false
def rEq:R2:=fun x y H Q=>scal x y=true∧Q (.bl (decide (x=y))) H
def rNe:R2:=fun x y H Q=>scal x y=true∧Q (.bl (!decide (x=y))) H
theorem dec_int {i j:Int}:decide (V.int i=V.int j)=(i == j):=by
  rw [Bool.eq_iff_iff]
  simp
theorem dec_bl {i j:Bool}:decide (V.bl i=V.bl j)=(i == j):=by
  rw [Bool.eq_iff_iff]
  simp
theorem dec_str {i j:Str}:decide (V.str i=V.str j)=(i == j):=by
  rw [Bool.eq_iff_iff]
  simp
theorem dec_byt {i j:Array UInt8}:decide (V.byt i=V.byt j)=(i.toList == j.toList):=by
  rw [Bool.eq_iff_iff]
  cases i
  cases j
  simp
section
variable {X:Cx} {a b c:Expr} {ta tb tc:TE} {pos:Pos}
theorem fin_bl {pins:List (Addr×Obj)} {σ:St} {H:Hp} {s:Shared} {Q:VK} {k k':Bool} (I:Inv X pins σ H s) (q:Q (.bl k) H) (e:k=k'):EP X pins σ Q (.bool k') s:=by
  subst e
  exact ⟨.bl k,H,I,rfl,q⟩
theorem op_eq:OpR X (compareOp .Eq) rEq:=by
  intro pins s σ H x y v u Q I rx ry h
  obtain ⟨hs,q⟩:=h
  cases x with
  | non =>
    cases rx
    cases y with
    | non=>cases ry; exact PySem.EqNone.eq_none_none (fin_bl I q (by simp))
    | bl j=>cases ry; exact PySem.EqNone.eq_none_bool (fin_bl I q (by simp))
    | int j=>obtain ⟨t',rfl⟩:=ry; exact PySem.EqNone.eq_none_int (fin_bl I q (by simp))
    | str j=>obtain ⟨t',rfl⟩:=ry; exact PySem.EqNone.eq_none_str (fin_bl I q (by simp))
    | _=>exact absurd (show false=true from hs) Bool.false_ne_true
  | bl i =>
    cases rx
    cases y with
    | non=>cases ry; exact PySem.EqNone.eq_bool_none (fin_bl I q (by simp))
    | bl j=>cases ry; exact eq_bool (fin_bl I q dec_bl)
    | str j=>obtain ⟨t',rfl⟩:=ry; exact PySem.EqMixed.eq_bool_str (fin_bl I q (by simp))
    | _=>exact absurd (show false=true from hs) Bool.false_ne_true
  | int i =>
    obtain ⟨t,rfl⟩:=rx
    cases y with
    | non=>cases ry; exact PySem.EqNone.eq_int_none (fin_bl I q (by simp))
    | int j=>obtain ⟨t',rfl⟩:=ry; exact eq_int (fin_bl I q dec_int)
    | str j=>obtain ⟨t',rfl⟩:=ry; exact PySem.EqMixed.eq_int_str (fin_bl I q (by simp))
    | _=>exact absurd (show false=true from hs) Bool.false_ne_true
  | str i =>
    obtain ⟨t,rfl⟩:=rx
    cases y with
    | non=>cases ry; exact PySem.EqNone.eq_str_none (fin_bl I q (by simp))
    | bl j=>cases ry; exact PySem.EqMixed.eq_str_bool (fin_bl I q (by simp))
    | int j=>obtain ⟨t',rfl⟩:=ry; exact PySem.EqMixed.eq_str_int (fin_bl I q (by simp))
    | str j=>obtain ⟨t',rfl⟩:=ry; exact eq_str (fin_bl I q dec_str)
    | _=>exact absurd (show false=true from hs) Bool.false_ne_true
  | byt i =>
    obtain ⟨t,rfl⟩:=rx
    cases y with
    | byt j=>obtain ⟨t',rfl⟩:=ry; exact PySem.W.eq_bytes (fin_bl I q dec_byt)
    | _=>exact absurd (show false=true from hs) Bool.false_ne_true
  | _=>cases y <;> exact absurd (show false=true from hs) Bool.false_ne_true
theorem op_ne:OpR X (compareOp .NotEq) rNe:=by
  intro pins s σ H x y v u Q I rx ry h
  obtain ⟨hs,q⟩:=h
  cases x with
  | non =>
    cases rx
    cases y with
    | non=>cases ry; exact PySem.EqNone.ne_none_none (fin_bl I q (by simp))
    | bl j=>cases ry; exact PySem.EqNone.ne_none_bool (fin_bl I q (by simp))
    | int j=>obtain ⟨t',rfl⟩:=ry; exact PySem.EqNone.ne_none_int (fin_bl I q (by simp))
    | str j=>obtain ⟨t',rfl⟩:=ry; exact PySem.EqNone.ne_none_str (fin_bl I q (by simp))
    | _=>exact absurd (show false=true from hs) Bool.false_ne_true
  | bl i =>
    cases rx
    cases y with
    | non=>cases ry; exact PySem.EqNone.ne_bool_none (fin_bl I q (by simp))
    | bl j=>cases ry; exact ne_bool (fin_bl I q (congrArg not dec_bl))
    | str j=>obtain ⟨t',rfl⟩:=ry; exact PySem.EqMixed.ne_bool_str (fin_bl I q (by simp))
    | _=>exact absurd (show false=true from hs) Bool.false_ne_true
  | int i =>
    obtain ⟨t,rfl⟩:=rx
    cases y with
    | non=>cases ry; exact PySem.EqNone.ne_int_none (fin_bl I q (by simp))
    | int j=>obtain ⟨t',rfl⟩:=ry; exact ne_int (fin_bl I q (congrArg not dec_int))
    | str j=>obtain ⟨t',rfl⟩:=ry; exact PySem.EqMixed.ne_int_str (fin_bl I q (by simp))
    | _=>exact absurd (show false=true from hs) Bool.false_ne_true
  | str i =>
    obtain ⟨t,rfl⟩:=rx
    cases y with
    | non=>cases ry; exact PySem.EqNone.ne_str_none (fin_bl I q (by simp))
    | bl j=>cases ry; exact PySem.EqMixed.ne_str_bool (fin_bl I q (by simp))
    | int j=>obtain ⟨t',rfl⟩:=ry; exact PySem.EqMixed.ne_str_int (fin_bl I q (by simp))
    | str j=>obtain ⟨t',rfl⟩:=ry; exact ne_str (fin_bl I q (congrArg not dec_str))
    | _=>exact absurd (show false=true from hs) Bool.false_ne_true
  | byt i =>
    obtain ⟨t,rfl⟩:=rx
    cases y with
    | byt j=>obtain ⟨t',rfl⟩:=ry; exact PySem.W.ne_bytes (fin_bl I q (congrArg not dec_byt))
    | _=>exact absurd (show false=true from hs) Bool.false_ne_true
  | _=>cases y <;> exact absurd (show false=true from hs) Bool.false_ne_true
theorem op_lt:OpR X (compareOp .Lt) (rI0 fun i j=>.bl (decide (i<j))):=opB0 fun _ _ _ _ _ _ _ q=>lt_int q
theorem op_le:OpR X (compareOp .LtE) (rI0 fun i j=>.bl (decide (i≤j))):=opB0 fun _ _ _ _ _ _ _ q=>le_int q
theorem op_gt:OpR X (compareOp .Gt) (rI0 fun i j=>.bl (decide (j<i))):=opB0 fun _ _ _ _ _ _ _ q=>gt_int q
theorem op_ge:OpR X (compareOp .GtE) (rI0 fun i j=>.bl (decide (j≤i))):=opB0 fun _ _ _ _ _ _ _ q=>ge_int q
theorem nomark (b:Expr) {op:CmpOp} (h:op≠.In:=by decide) (h2:op≠.NotIn:=by decide):behindInMarks op b=false:=by
  have e1:(op == CmpOp.In)=false:=by cases op <;> first | rfl | exact absurd rfl h
  have e2:(op == CmpOp.NotIn)=false:=by cases op <;> first | rfl | exact absurd rfl h2
  cases b <;> simp [behindInMarks,e1,e2]
theorem pe_cmpR {op:CmpOp} {r:R2} (ho:OpR X (compareOp op) r) (ha:PE X a ta) (hb:PE X b tb) (hm:behindInMarks op b=false):PE X (.Compare a [op] [b] pos) (tOp r ta tb):=by
  intro pins s σ H Q I h
  exact wpAny_Compare1 (binT ha hb I h fun v u s2 x y H2 I2 rx ry q=>ho pins s2 σ H2 x y v u Q I2 rx ry q) hm
def tTest (t:TE):TT:=fun σ H Q=>t σ H fun x H'=>∃ k,x=.bl k∧Q k H'
theorem pt_cmpR {op:CmpOp} {r:R2} (ho:OpR X (compareOp op) r) (ha:PE X a ta) (hb:PE X b tb) (hm:behindInMarks op b=false):PT X (.Compare a [op] [b] pos) (tTest (tOp r ta tb)):=by
  intro pins s σ H Q I h
  refine wpAny_isTrue_Compare1 (thn (ha pins s σ H _ I h) fun v s1 ⟨x,H1,I1,r1,q1⟩=>thn (hb pins s1 σ H1 _ I1 q1) fun u s2 ⟨y,H2,I2,r2,q2⟩ =>
    thn (ho pins s2 σ H2 x y v u _ I2 r1 r2 q2) fun c s3 ⟨z,H3,I3,r3,k,e,q3⟩=>?_) hm
  subst e
  cases r3
  exact wpAny_truthy_bool ⟨H3,I3,q3⟩
def tChain (r r':R2) (ta tb tc:TE):TE:=fun σ H Q=>ta σ H fun x H1=>tb σ H1 fun y H2=>r x y H2 fun z H3=>∃ k,z=.bl k ∧
  (if k=true then tc σ H3 fun w' H4=>r' y w' H4 Q else Q (.bl false) H3)
theorem pe_chain {op op':CmpOp} {r r':R2} (ho:OpR X (compareOp op) r) (ho':OpR X (compareOp op') r') (ha:PE X a ta) (hb:PE X b tb) (hc:PE X c tc)
    (hm:lastMarks [op,op'] [b,c]=false:=by with_unfolding_all rfl):PE X (.Compare a [op,op'] [b,c] pos) (tChain r r' ta tb tc):=by
  intro pins s σ H Q I h
  refine Compare_chain (thn (ha pins s σ H _ I h) fun v s1 ⟨x,H1,I1,r1,q1⟩=>chain_link (thn (hb pins s1 σ H1 _ I1 q1) fun u s2 ⟨y,H2,I2,r2,q2⟩ =>
    thn (ho pins s2 σ H2 x y v u _ I2 r1 r2 q2) fun d s3 ⟨z,H3,I3,r3,k,e,q3⟩=>?_)) hm
  subst e
  cases r3
  refine wpAny_truthy_bool ?_
  cases k with
  | false=>exact ite_ff ⟨.bl false,H3,I3,rfl,q3⟩
  | true=>exact ite_tt (chain_last (thn (hc pins s3 σ H3 _ I3 q3) fun w' s4 ⟨z',H4,I4,r4,q4⟩=>ho' pins s4 σ H4 y z' u w' Q I4 r2 r4 q4))
theorem pt_chain {op op':CmpOp} {r r':R2} (ho:OpR X (compareOp op) r) (ho':OpR X (compareOp op') r') (ha:PE X a ta) (hb:PE X b tb) (hc:PE X c tc)
    (hm:lastMarks [op,op'] [b,c]=false:=by with_unfolding_all rfl):PT X (.Compare a [op,op'] [b,c] pos) (tTest (tChain r r' ta tb tc)):=by
  intro pins s σ H Q I h
  refine isTrue_chain (thn (ha pins s σ H _ I h) fun v s1 ⟨x,H1,I1,r1,q1⟩=>test_link (thn (hb pins s1 σ H1 _ I1 q1) fun u s2 ⟨y,H2,I2,r2,q2⟩ =>
    thn (ho pins s2 σ H2 x y v u _ I2 r1 r2 q2) fun d s3 ⟨z,H3,I3,r3,k,e,q3⟩=>?_)) hm
  subst e
  cases r3
  refine wpAny_truthy_bool ?_
  cases k with
  | false =>
    obtain ⟨k',e',q'⟩:=q3
    cases e'
    exact ite_ff ⟨H3,I3,q'⟩
  | true =>
    refine ite_tt (test_last (thn (hc pins s3 σ H3 _ I3 q3) fun w' s4 ⟨z',H4,I4,r4,q4⟩=>thn (ho' pins s4 σ H4 y z' u w' _ I4 r2 r4 q4) fun d' s5 ⟨z2,H5,I5,r5,k2,e2,q5⟩=>?_))
    subst e2
    cases r5
    exact wpAny_truthy_bool ⟨H5,I5,q5⟩
def TruV (K:PySem.W.Frag) (x:V) (H:Hp) (k:Bool):Prop :=
  match x with
  | .non=>k=false
  | .bl b=>k=b
  | .int i=>k=(i != 0)
  | .str y=>y.length≤sizeLine∧k=((y.length:Int) != 0)
  | .byt y=>y.size≤sizeLine∧k=((y.size:Int) != 0)
  | .ref p=>(∃ xs,SqL K H p xs∧k=!xs.isEmpty)∨(∃ xs,SqT K H p xs∧k=!xs.isEmpty)∨∃ kvs,H p=some (.dK kvs)∧k=!kvs.isEmpty
  | _=>False
theorem isEmpty_kv {κ:Type} {kvs:List (κ×V)} {vs:List (κ×Value)} (r:KV kvs vs):(!vs.isEmpty)=!kvs.isEmpty:=by
  cases r <;> rfl
theorem isEmpty_of {xs:List V} {its:List Value} (r:Vals xs its):(!its.toArray.isEmpty)=!xs.isEmpty:=by
  cases r <;> simp
theorem line63:(sizeLine:Nat)<2 ^ 63:=by rw [sizeLine_eq]; decide
theorem tru_ok:TruR X (fun x H Q=>∃ k,TruV X.K x H k∧Q k H):=by
  intro pins s σ H x v Q I rx h
  obtain ⟨k,e,q⟩:=h
  have hl:=line63
  have hs:sizeLine=16777216:=sizeLine_eq
  cases x with
  | non =>
    cases rx
    have e':k=false:=e
    subst e'
    exact truthy_none ⟨H,I,q⟩
  | bl b =>
    cases rx
    have e':k=b:=e
    subst e'
    exact wpAny_truthy_bool ⟨H,I,q⟩
  | int i =>
    obtain ⟨t,rfl⟩:=rx
    have e':k=(i != 0):=e
    subst e'
    exact PySem.P.truthy_int ⟨H,I,q⟩
  | str y =>
    obtain ⟨t,rfl⟩:=rx
    obtain ⟨hy,e'⟩:y.length≤sizeLine∧k=((y.length:Int) != 0):=e
    subst e'
    exact PySem.P.truthy_str (by omega) ⟨H,I.tok _,q⟩
  | byt y =>
    obtain ⟨t,rfl⟩:=rx
    obtain ⟨hy,e'⟩:y.size≤sizeLine∧k=((y.size:Int) != 0):=e
    subst e'
    exact PySem.W.truthy_bytes (by omega) ⟨H,I.tok _,q⟩
  | ref p =>
    cases rx
    have e':(∃ xs,SqL X.K H p xs∧k=!xs.isEmpty)∨(∃ xs,SqT X.K H p xs∧k=!xs.isEmpty)∨∃ kvs,H p=some (.dK kvs)∧k=!kvs.isEmpty:=e
    rcases e' with ⟨xs,hx,e'⟩ | ⟨xs,hx,e'⟩ | ⟨kvs,hx,e'⟩
    · subst e'
      obtain ⟨its,r,pl,hz⟩:=I.list hx
      have hlen:=r.length
      exact wpAny_truthy_list pl.isList (by simp only [List.size_toArray]; omega) ⟨H,I.tok _,by rw [isEmpty_of r]; exact q⟩
    · subst e'
      obtain ⟨its,r,pl,hz⟩:=I.tuple hx
      have hlen:=r.length
      exact truthy_tuple pl (by simp only [List.size_toArray]; omega) ⟨H,I.tok _,by rw [isEmpty_of r]; exact q⟩
    · subst e'
      obtain ⟨hz,hS,vs,r,m⟩:kvs.length≤sizeLine∧(p == sysModules)=false∧∃ vs,KV kvs vs∧s.heap.DictOf (mixKind X.prog X.w) p vs:=I.hok p _ hx
      have hlen:kvs.length=vs.length:=Paired.length r
      exact wpAny_truthy_dict hS m (by omega) ⟨H,I.tok _,by rw [isEmpty_kv r]; exact q⟩
  | _=>exact (show False from e).elim
theorem pt_truth (ha:PE X a ta) (he:∀ whole,isTrue a X.env whole=(do let v ← whole; standAt a.pos; holding [v] (truthy v))) :
    PT X a (fun σ H Q=>ta σ H fun x H'=>∃ k,TruV X.K x H' k∧Q k H'):=by
  intro pins s σ H Q I h
  exact isTrue_plain (thn (ha pins s σ H _ I h) fun v s1 ⟨x,H1,I1,r1,q1⟩=>tru_ok pins s1 σ H1 x v Q I1 r1 q1) (he _)
theorem vals1 {x:V} {us:List Value} (r:Vals [x] us):∃ u,us=[u]∧RelV x u:=by
  cases r with
  | cons r1 r2=>cases r2; exact ⟨_,rfl,r1⟩
theorem vals2 {x y:V} {us:List Value} (r:Vals [x,y] us):∃ u w',us=[u,w']∧RelV x u∧RelV y w':=by
  cases r with
  | cons r1 r2 =>
    cases r2 with
    | cons r3 r4=>cases r4; exact ⟨_,_,rfl,r1,r3⟩
theorem call_abs:CallR X (.builtin "abs") (fun xs H Q=>∃ i,xs=[.int i]∧Q (.int (if i<0 then -i else i)) H):=by
  intro pins s σ H xs us Q I r h
  obtain ⟨i,rfl,q⟩:=h
  obtain ⟨u,rfl,t,rfl⟩:=vals1 r
  exact call_abs_int fun u tk=>⟨.int (if i<0 then -i else i),H,I.tok _,⟨_,rfl⟩,q⟩
theorem call_max2 (hc:X.calm=true):CallR X (.builtin "max") (fun xs H Q=>∃ i j,xs=[.int i,.int j]∧Q (.int (if j > i then j else i)) H):=by
  intro pins s σ H xs us Q I r h
  obtain ⟨i,j,rfl,q⟩:=h
  obtain ⟨u,w',rfl,⟨t,rfl⟩,⟨t',rfl⟩⟩:=vals2 r
  refine max_two_ints (I.ok.hd hc) fun h' tk k=>⟨_,H,I.kept k,?_,q⟩
  by_cases hj:j > i
  · rw [if_pos hj,if_pos hj]; exact ⟨_,rfl⟩
  · rw [if_neg hj,if_neg hj]; exact ⟨_,rfl⟩
theorem call_min2 (hc:X.calm=true):CallR X (.builtin "min") (fun xs H Q=>∃ i j,xs=[.int i,.int j]∧Q (.int (if j<i then j else i)) H):=by
  intro pins s σ H xs us Q I r h
  obtain ⟨i,j,rfl,q⟩:=h
  obtain ⟨u,w',rfl,⟨t,rfl⟩,⟨t',rfl⟩⟩:=vals2 r
  refine min_two_ints (I.ok.hd hc) fun h' tk k=>⟨_,H,I.kept k,?_,q⟩
  by_cases hj:j<i
  · rw [if_pos hj,if_pos hj]; exact ⟨_,rfl⟩
  · rw [if_neg hj,if_neg hj]; exact ⟨_,rfl⟩
theorem call_int1:CallR X (.type "int") (fun xs H Q=>(∃ i,xs=[.int i]∧Q (.int i) H)∨∃ k,xs=[.bl k]∧Q (.int (if k then 1 else 0)) H):=by
  intro pins s σ H xs us Q I r h
  rcases h with ⟨i,rfl,q⟩ | ⟨k,rfl,q⟩
  · obtain ⟨u,rfl,t,rfl⟩:=vals1 r
    exact call_int_int ⟨.int i,H,I,⟨_,rfl⟩,q⟩
  · obtain ⟨u,rfl,r1⟩:=vals1 r
    cases r1
    exact call_int_bool ⟨.int (if k then 1 else 0),H,I.tok _,⟨_,rfl⟩,q⟩
theorem call_divmod:CallR X (.builtin "divmod") (fun xs H Q=>∃ i j,xs=[.int i,.int j]∧CDiv i j∧∀ p,H p=none→Q (.ref p) (upd H p (.tup [.int (i / j),.int (i % j)]))):=by
  intro pins s σ H xs us Q I r h
  obtain ⟨i,j,rfl,⟨h1,h2⟩,q⟩:=h
  obtain ⟨u,w',rfl,⟨t,rfl⟩,⟨t',rfl⟩⟩:=vals2 r
  refine divmod_int (by omega) ?_ (.inl (PyProof.noPylong_small (by omega)))
  rw [Int.fdiv_eq_ediv_of_nonneg i (by omega),Int.fmod_eq_emod_of_nonneg i (by omega)]
  have hn:H s.heap.objs.size=none:=I.hok.fresh (Nat.le_refl _)
  refine ⟨.ref s.heap.objs.size,_,?_,rfl,q _ hn⟩
  refine I.laid (fun b o e=>Heap.get?_push_of_some _ e) (Nat.le_refl _) ⟨by simp only [List.length_cons,List.length_nil]; rw [sizeLine_eq]; decide,[.int (i / j) s.toks,.int (i % j) (s.toks+1)],.cons ⟨_,rfl⟩ (.cons ⟨_,rfl⟩ .nil),?_⟩
  exact ⟨_,Heap.get?_push_size s.heap rfl,rfl,0,rfl⟩
end
end L2
namespace L2
open PySem PySem.Spec PyProof.Rows
structure ObjM (h:Heap) (x dx C:Addr) (mA:Str→Option Value):Prop where
  obj:h.get? x=some (PySem.W.instObj C dx)
  ns:h.Ns1 dx mA
  ne:dx≠x
theorem lookIn_ns {h:Heap} {dx:Addr} {mA:Str→Option Value} (n:h.Ns1 dx mA):∃ od,h.get? dx=some od∧∀ name,PySem.W.lookIn name od=some (mA name):=by
  obtain ⟨o,es,ep,ho,hd,hk,_,hm⟩:=n
  refine ⟨o,ho,fun name=>?_⟩
  have e:=hm name
  unfold nsFind findBy at e
  rw [← Array.find?_toList] at e
  unfold PySem.W.lookIn
  rw [hd]
  dsimp only
  split
  · rename_i y q
    rw [q] at e
    exact congrArg some e
  · rename_i q
    rw [q] at e
    have a:es.toList.any (·.refKey)=false:=by
      rw [List.any_eq_false]
      intro y hy
      obtain ⟨z,t,hkey⟩:=hk y (Array.mem_toList_iff.mp hy)
      simp [DictEntry.refKey,hkey]
    have a':¬ es.toList.any (·.refKey)=true:=by rw [a]; exact Bool.false_ne_true
    rw [if_neg a']
    exact congrArg some e
theorem ObjM.look {h:Heap} {x dx C:Addr} {mA:Str→Option Value} (I:ObjM h x dx C mA):∃ od,PySem.W.InstAt h x (PySem.W.instObj C dx) C (some od)∧∀ name,PySem.W.lookIn name od=some (mA name) :=
  let ⟨od,ho,hl⟩:=lookIn_ns I.ns
  ⟨od,⟨I.obj,rfl,rfl,ho⟩,hl⟩
theorem RelO.some_of {v:V} {o:Option Value} (r:RelO (some v) o):∃ u,o=some u∧RelV v u:=by
  cases o with
  | none=>exact (show False from r).elim
  | some u=>exact ⟨u,rfl,r⟩
theorem RelO.none_of {o:Option Value} (r:RelO none o):o=none:=by
  cases o with
  | none=>rfl
  | some u=>exact (show False from r).elim
section
variable {P:Program} {w:World} {H H':Hp} {h h':Heap} {a C dx:Addr} {fs fs':List (Str×V)}
theorem ins_get (hok:HOk P w H h) (e:H a=some (.ins C dx fs)):∃ mA,ObjM h a dx C mA∧(∀ f,RelO (fs.lookup f) (mA f))∧PySem.Within mA (fs.map (·.1))∧fs.length≤1000∧H dx=some (.own a):=by
  obtain ⟨d,z,ne,ob,mA,n,r,q⟩:=(show ObjOk P w H h a (.ins C dx fs) from hok a _ e)
  exact ⟨mA,⟨ob,n,ne⟩,r,q,z,d⟩
end
structure Cls (K:PySem.W.Frag) (C:Addr):Prop where
  pg:PySem.W.plainGet K C Str.empty=true
  hd:PySem.W.hasDictIn K C=true
  po:PySem.W.plainOver K C=true
  sa:PySem.W.findIn K (.ref C) "__setattr__" = some (some (.builtin "object.__setattr__"))
theorem Cls.get {K:PySem.W.Frag} {C:Addr} (c:Cls K C) (f:Str):PySem.W.plainGet K C f=true:=c.pg
section
variable {X:Cx} {pins:List (Addr×Obj)} {σ:St} {H:Hp} {s:Shared} {A:Around} {E:Value→Shared→Prop} {Q:Value→Shared→Prop} {c:Value} {b:Bool}
inductive TyOf (K:PySem.W.Frag) (H:Hp):V→Value→Prop where
  | non:TyOf K H .non (.type "NoneType")
  | bl (x:Bool):TyOf K H (.bl x) (.type "bool")
  | int (i:Int):TyOf K H (.int i) (.type "int")
  | str (x:Str):TyOf K H (.str x) (.type "str")
  | flt (x:UInt64):TyOf K H (.flt x) (.type "float")
  | lst {a:Addr} {xs:List V} (e:H a=some (.lst xs)):TyOf K H (.ref a) (.type "list")
  | frz {a:Addr} {o:Obj} {xs:List V} (e:H a=some (.frz o (.lst xs))):TyOf K H (.ref a) (.type "list")
  | tup {a:Addr} {xs:List V} (e:H a=some (.tup xs)):TyOf K H (.ref a) (.type "tuple")
  | dK {a:Addr} {kvs:List (Key×V)} (e:H a=some (.dK kvs)):TyOf K H (.ref a) (.type "dict")
  | dT {a:Addr} {kvs:List (List Key×V)} (e:H a=some (.dT kvs)):TyOf K H (.ref a) (.type "dict")
  | ins {a C dx:Addr} {fs:List (Str×V)} (e:H a=some (.ins C dx fs)) (cl:Cls K C) (ha:PySem.W.findIn K (.ref C) "__class__" = some (some (.builtin "object.__class__")))
      (hn:PySem.W.specialIn K (.builtin "object.__class__") "__get__" = some (some (.builtin "getset_descriptor.__get__"))) (htk:PySem.W.takesIn K (.builtin "object.__class__")=some true)
      (hm:PySem.W.mroIn K C (.type "object")=some true):TyOf K H (.ref a) (.ref C)
theorem isinst_ok {x:V} {u t:Value} (I:Inv X pins σ H s) (rx:RelV x u) (ty:TyOf X.K H x t) (e:PySem.W.kitOne X.K t c=some b) (h:∀ tk,Q (.bool b) { s with toks:=tk }) :
    wpAny (model X.prog X.w) A (call (.builtin "isinstance") [u,c]) Q E s:=by
  cases ty with
  | non=>cases (show u=Value.none from rx); exact PySem.W.kia_one PySem.W.kitx_none I.kIn True.intro e (fun z=>nomatch z) h
  | bl y=>cases (show u=Value.bool y from rx); exact PySem.W.kia_one PySem.W.kitx_bool I.kIn True.intro e (fun z=>nomatch z) h
  | int i=>obtain ⟨t,q⟩:=(show ∃ t,u=Value.int i t from rx); cases q; exact PySem.W.kia_one PySem.W.kitx_int I.kIn True.intro e (fun z=>nomatch z) h
  | str y=>obtain ⟨t,q⟩:=(show ∃ t,u=Value.str y t from rx); cases q; exact PySem.W.kia_one PySem.W.kitx_str I.kIn True.intro e (fun z=>nomatch z) h
  | flt y=>obtain ⟨t,q⟩:=(show ∃ t,u=Value.float y t from rx); cases q; exact PySem.W.kia_one PySem.W.kitx_float I.kIn True.intro e (fun z=>nomatch z) h
  | @lst a xs ea =>
    cases (show u=Value.ref a from rx)
    obtain ⟨_,_,n,_,h1⟩:=(show ObjOk X.prog X.w H s.heap a (.lst xs) from I.hok a _ ea)
    exact PySem.W.kia_one PySem.W.kitx_list I.kIn ⟨_,h1,rfl⟩ e (fun z=>nomatch z) h
  | @frz a ob xs ea =>
    cases (show u=Value.ref a from rx)
    obtain ⟨_,_,_,n,_,h1⟩:=(show ObjOk X.prog X.w H s.heap a (.frz ob (.lst xs)) from I.hok a _ ea)
    exact PySem.W.kia_one PySem.W.kitx_list I.kIn ⟨_,h1,rfl⟩ e (fun z=>nomatch z) h
  | @tup a xs ea =>
    cases (show u=Value.ref a from rx)
    obtain ⟨_,_,_,p⟩:=(show ObjOk X.prog X.w H s.heap a (.tup xs) from I.hok a _ ea)
    obtain ⟨o,h1,h2,_⟩:=p
    exact PySem.W.kia_one PySem.W.kitx_tuple I.kIn ⟨o,h1,h2⟩ e (fun z=>nomatch z) h
  | @dK a kvs ea =>
    cases (show u=Value.ref a from rx)
    obtain ⟨_,_,vs,_,p⟩:=(show ObjOk X.prog X.w H s.heap a (.dK kvs) from I.hok a _ ea)
    obtain ⟨o,es,ep,h1,h2,_⟩:=p
    exact PySem.W.kia_one PySem.W.kitx_dict I.kIn ⟨o,h1,h2.1⟩ e (fun z=>nomatch z) h
  | @dT a kvs ea =>
    cases (show u=Value.ref a from rx)
    obtain ⟨_,_,xs,_,o,es,ep,h1,h2,_⟩:=(show ObjOk X.prog X.w H s.heap a (.dT kvs) from I.hok a _ ea)
    exact PySem.W.kia_one PySem.W.kitx_dict I.kIn ⟨o,h1,h2.1⟩ e (fun z=>nomatch z) h
  | @ins a C dx fs ea cl ha hn htk hm =>
    cases (show u=Value.ref a from rx)
    obtain ⟨mA,O,_⟩:=ins_get I.hok ea
    obtain ⟨od,J,_⟩:=O.look
    exact PySem.W.kia_one (PySem.W.kitx_own (cl.get _) cl.hd ha hn htk hm) I.kIn J e (fun z=>nomatch z) h
end
end L2
namespace L2
open PySem PySem.Spec PyProof.Rows
structure Room (k:Nat) (A:Around):Prop where
  hd:A.handled=none
  dp:A.depth+3 * k+5<recursionLimit
  un:A.units+16 * k+200<cLine
  gd:A.guards=some []
theorem Room.mono {j k:Nat} {A:Around} (r:Room k A) (h:j≤k):Room j A:=⟨r.hd,by have:=r.dp; omega,by have:=r.un; omega,r.gd⟩
theorem Room.deeper {k:Nat} {A:Around} (r:Room (k+1) A) (env:Env):Room k (A.deeper env) :=
  ⟨r.hd,by have:=r.dp; show A.depth+1+3 * k+5<_; omega,by have:=r.un; show A.units+3+16 * k+200<_; omega,r.gd⟩
theorem Room.depth {k:Nat} {A:Around} (r:Room k A):A.depth<recursionLimit:=by have:=r.dp; omega
theorem Room.units {k:Nat} {A:Around} (r:Room k A):A.units+64<cLine:=by have:=r.un; omega
def tNil:TA:=fun _ H Q=>Q [] H
def tCons (ta:TE) (tr:TA):TA:=fun σ H Q=>ta σ H fun x H1=>tr σ H1 fun xs H2=>Q (x :: xs) H2
section
variable {X:Cx} {e:Expr} {es:List Expr} {te:TE} {t:TA} {pos:Pos}
theorem pa_nil:PA X [] tNil:=fun _ _ _ _ H Q I h=>Calls.spliced_nil ⟨[],H,I,.nil,h⟩
theorem pa_cons (ha:PE X e te) (hr:PA X es t) (hs:starEach (e :: es) X.env=(false,eval e X.env) :: starEach es X.env:=by rfl):PA X (e :: es) (tCons te t):=by
  intro pos pins s σ H Q I h
  rw [hs]
  show wpAny _ _ (spliced ((false,eval e X.env) :: backTo pos (starEach es X.env))) _ _ s
  refine Calls.spliced_cons (thn (ha pins s σ H _ I h) fun u s1 ⟨x,H1,I1,r1,q1⟩=>?_)
  exact thn (hr pos pins s1 σ H1 _ I1 q1) fun us s2 ⟨xs,H2,I2,r2,q2⟩=>⟨x :: xs,H2,I2,.cons r1 r2,q2⟩
def tTup (t:TA):TE:=fun σ H Q=>t σ H fun xs H1=>xs.length≤sizeLine∧∀ p,H1 p=none→Q (.ref p) (upd H1 p (.tup xs))
def tLst (t:TA):TE:=fun σ H Q=>t σ H fun xs H1=>xs.length≤sizeLine∧∀ p,H1 p=none→Q (.ref p) (upd H1 p (.lst xs))
theorem pe_tup {x1} (h:PA X es t):PE X (.Tuple es x1 pos) (tTup t):=by
  intro pins s σ H Q I hq
  refine wpAny_Tuple_spliced (thn (h pos pins s σ H _ I hq) fun us s1 ⟨xs,H1,I1,r,z,q⟩=>⟨by rw [← r.length]; exact z,?_⟩)
  have hf:H1 s1.heap.objs.size=none:=I1.hok.fresh (Nat.le_refl _)
  refine ⟨.ref s1.heap.objs.size,upd H1 s1.heap.objs.size (.tup xs),I1.laid (t':=s1.toks) (fun b u e=>Heap.get?_push_of_some _ e) (Nat.le_refl _) ?_,rfl,q _ hf⟩
  exact ⟨z,us,r,⟨_,Heap.get?_push_size _ rfl,rfl,_,rfl⟩⟩
theorem pe_lst (h:PA X es t):PE X (.List es pos) (tLst t):=by
  intro pins s σ H Q I hq
  refine wpAny_List_spliced (thn (h pos pins s σ H _ I hq) fun us s1 ⟨xs,H1,I1,r,z,q⟩=>⟨by rw [← r.length]; exact z,?_⟩)
  have hf:H1 s1.heap.objs.size=none:=I1.hok.fresh (Nat.le_refl _)
  refine ⟨.ref s1.heap.objs.size,upd H1 s1.heap.objs.size (.lst xs),I1.laid (t':=s1.toks) (fun b u e=>Heap.get?_push_of_some _ e) (Nat.le_refl _) ?_,rfl,q _ hf⟩
  exact ⟨z,us,0,r,Heap.get?_push_size _ rfl⟩
end
abbrev Sp:=List V→Hp→VK→XK→Prop
abbrev CXT:=List Env→Hp→Shared→XK→Value→Shared→Prop
structure Env0 (P:Program) (w:World) (K:PySem.W.Frag) (mg:Str→Option Value) (base:Heap) (A:Around) (outer:List Env) (s:Shared) (H:Hp):Prop where
  frames:A.frames=some outer
  mod:Mod K mg base
  bs:∀ b o,base.get? b=some o→s.heap.get? b=some o∧H b=none
  bsz:base.objs.size≤s.heap.objs.size
  funs:s.heap.FunFrames base outer
  frf:∀ b∈frs outer,H b=none
  hok:HOk P w H s.heap
  bare:AllBare s.gens
def CE (outer:List Env) (P:Program) (w:World) (H:Hp) (s:Shared) (Q:VK) (u:Value) (s':Shared):Prop :=
  ∃ v H',s'.os=s.os∧AllBare s'.gens∧Un (frs outer) [] H H' s.heap s'.heap∧HOk P w H' s'.heap∧RelV v u∧Q v H'
def CR (CX:CXT) (outer:List Env) (P:Program) (w:World) (H:Hp) (s:Shared) (Q:VK) (E:XK) (r:Result) (s':Shared):Prop :=
  match r with
  | .ok (.ret u)=>CE outer P w H s Q u s'
  | .ok _=>False
  | .error e=>CX outer H s E e s'
structure FnOk (P:Program) (w:World) (K:PySem.W.Frag) (mg:Str→Option Value) (base:Heap) (CX:CXT) (k:Nat) (f:Addr) (fd:FuncData) (ps:List Str) (sp:Sp):Prop where
  len:∀ vs H Q E,sp vs H Q E→vs.length=ps.length
  run:∀ (A:Around) (outer:List Env) (s:Shared) (H:Hp) (args:Args) (us:List Value) (vs:List V) (Q:VK) (E:XK),Room k A→Env0 P w K mg base A outer s H→BindsTo s fd args (ps.zip us)→Vals vs us→sp vs H Q E →
    codeAny (model P w) A (.call (.ref f) args) (CR CX outer P w H s Q E) s
section
variable {X:Cx} {pins:List (Addr×Obj)} {σ:St} {H:Hp} {s s':Shared}
theorem Inv.env0 (I:Inv X pins σ H s):Env0 X.prog X.w X.K X.mg X.base X.A X.stack s H :=
  ⟨I.ok.frames,I.ok.mod,I.bs,Nat.le_trans I.ok.bsz I.sz,I.stack,I.stkFree,I.hok,I.bare⟩
theorem Inv.after {Q:VK} {u:Value} (I:Inv X pins σ H s) (h:CE X.stack X.prog X.w H s Q u s'):EP X pins σ Q u s':=by
  obtain ⟨v,H',os,bare,un,hok,r,q⟩:=h
  obtain ⟨hh,g,d,t,os'⟩:=s'
  obtain rfl:os'=s.os:=os
  exact ⟨v,H',I.call (h':=hh) (g':=g) (d':=d) (t':=t) (ch:=[]) un hok bare (fun b z=>absurd z (by simp)),r,q⟩
end
def tCall (sp:Sp) (dvs:List V) (E:XK) (t:TA):TE:=fun σ H Q=>t σ H fun vs H1=>sp (vs++dvs) H1 Q E
def Binds (K:PySem.W.Frag) (fd:FuncData) (ps:List Str) (ds:List Value):Prop :=
  ∀ (s:Shared) (us:List Value),K.In s.heap→(us++ds).length=ps.length→BindsTo s fd ⟨us,[]⟩ (ps.zip (us++ds))
theorem Binds.all {K:PySem.W.Frag} {fd:FuncData} {ps:List Str} (h:∀ us:List Value,us.length=ps.length→bindArgs fd ⟨us,[]⟩=pure (ps.zip us)):Binds K fd ps []:=fun s us _ hl=>by
  rw [List.append_nil] at hl ⊢
  exact .of_eq (h us hl)
def Passes (CX:CXT) (X:Cx) (E:XK):Prop:=∀ (pins:List (Addr×Obj)) (σ:St) (H:Hp) (s:Shared) (e:Value) (s':Shared),Inv X pins σ H s→CX X.stack H s E e s'→X.xe e s'
section
variable {X:Cx} {CX:CXT} {k:Nat} {f C:Addr} {fd:FuncData} {ps:List Str} {sp:Sp} {dvs:List V} {ds:List Value} {E:XK} {x m:Str} {p pos apos:Pos} {e o:Expr} {es:List Expr} {ta:TE} {t:TA}
theorem run_fn {pins:List (Addr×Obj)} {σ:St} {H:Hp} {s:Shared} {Q:VK} {us:List Value} {vs:List V} (F:FnOk X.prog X.w X.K X.mg X.base CX k f fd ps sp) (hr:Room k X.A) (hb:Binds X.K fd ps ds) (hd:Vals dvs ds) (hx:Passes CX X E)
    (I:Inv X pins σ H s) (r:Vals vs us) (h:sp (vs++dvs) H Q E):wpAny (model X.prog X.w) X.A (call (.ref f) us) (EP X pins σ Q) X.xe s:=by
  have r2:Vals (vs++dvs) (us++ds):=r.append hd
  have hl:(us++ds).length=ps.length:=by rw [← r2.length]; exact F.len _ _ _ _ h
  refine wpAny_call (codeAny_mono (F.run X.A X.stack s H ⟨us,[]⟩ (us++ds) (vs++dvs) Q E hr I.env0 (hb s us I.kIn hl) r2 h) fun r s' hq=>?_)
  cases r with
  | error e=>exact hx pins σ H s e s' I hq
  | ok fl =>
    cases fl with
    | ret u=>exact I.after hq
    | next=>exact False.elim hq
    | brk=>exact False.elim hq
    | cont=>exact False.elim hq
theorem pe_call (F:FnOk X.prog X.w X.K X.mg X.base CX k f fd ps sp) (hr:Room k X.A) (hg:Gl X x) (hm:X.mg x=some (.ref f)) (hk:PySem.W.keepIn X.K (.ref f)=true) (hb:Binds X.K fd ps ds) (hd:Vals dvs ds) (hx:Passes CX X E)
    (ha:PA X (e :: es) t) (hdb:(x == ("__debug__" : Str))=false:=by decide) (he:starEach (e :: es) X.env=(false,eval e X.env) :: starEach es X.env:=by rfl) (hpl:(backTo pos (starEach es X.env)).any (·.1)=false:=by rfl) :
    PE X (.Call (.Name x p) (e :: es) [] pos) (tCall sp dvs E t):=by
  intro pins s σ H Q I h
  refine wpAny_Call_Name_kw (ld_glob I hg hm ?_ hdb)
  refine PySem.W.callWith_K (h₀:=X.base) I.ok.mod.kin hk (thn (ha pos pins s σ H _ I h) fun us s1 ⟨vs,H1,I1,r,q⟩=>⟨I1.kIn,?_⟩) he hpl
  exact run_fn F hr hb hd hx I1 r q
end
structure FnScope (N P:List Str) (sc:Scope):Prop where
  kind:sc.kind=.function
  co:sc.isCoroutine=false
  gen:sc.isGenerator=false
  nd:N.Nodup
  pre:N.take P.length=P
  par:∀ x∈P,sc.names.lookup x=some .local∨sc.names.lookup x=some .cell
  nofree:∀ y∈sc.names,y.2≠.free
theorem bindL_out {kindOf:Str→Option NameKind} {x:Str}:∀ {binds:List (Str×Value)} {m:Str→Option Value},(∀ v,(x,v)∉binds)→bindL kindOf binds m x=m x
  | [],_,_=>rfl
  | (n,v) :: r,m,h=>by
    unfold bindL
    rw [bindL_out fun w hw=>h w (List.mem_cons_of_mem _ hw)]
    split
    · have:x≠n:=by rintro rfl; exact h v List.mem_cons_self
      simp [this]
    · rfl
theorem bindC_out {kindOf:Str→Option NameKind} {x:Str}:∀ {binds:List (Str×Value)} {m:Str→Option Value},(∀ v,(x,v)∉binds)→bindC kindOf binds m x=m x
  | [],_,_=>rfl
  | (n,v) :: r,m,h=>by
    unfold bindC
    rw [bindC_out fun w hw=>h w (List.mem_cons_of_mem _ hw)]
    split
    · rfl
    · have:x≠n:=by rintro rfl; exact h v List.mem_cons_self
      simp [this]
theorem bindL_get {kindOf:Str→Option NameKind} {x:Str} {v:Value}:∀ {P:List Str} {vs:List Value} {i:Nat} {m:Str→Option Value},P.Nodup→P[i]?=some x→vs[i]?=some v→kindOf x=some .local →
    bindL kindOf (P.zip vs) m x=some v
  | [],_,_,_,_,h,_,_=>by simp at h
  | _ :: _,[],_,_,_,_,h,_=>by simp at h
  | p :: P,w :: vs,0,m,nd,h1,h2,hk=>by
    simp at h1 h2; subst h1; subst h2
    show bindL kindOf ((p,w) :: P.zip vs) m p=_
    unfold bindL
    rw [bindL_out fun v hv=>(List.nodup_cons.mp nd).1 (List.of_mem_zip hv).1,if_pos hk]
    simp
  | p :: P,w :: vs,i+1,m,nd,h1,h2,hk=>by
    show bindL kindOf ((p,w) :: P.zip vs) m x=_
    unfold bindL
    exact bindL_get (i:=i) (List.nodup_cons.mp nd).2 (by simpa using h1) (by simpa using h2) hk
theorem bindC_get {kindOf:Str→Option NameKind} {x:Str} {v:Value}:∀ {P:List Str} {vs:List Value} {i:Nat} {m:Str→Option Value},P.Nodup→P[i]?=some x→vs[i]?=some v→kindOf x≠some .local →
    bindC kindOf (P.zip vs) m x=some v
  | [],_,_,_,_,h,_,_=>by simp at h
  | _ :: _,[],_,_,_,_,h,_=>by simp at h
  | p :: P,w :: vs,0,m,nd,h1,h2,hk=>by
    simp at h1 h2; subst h1; subst h2
    show bindC kindOf ((p,w) :: P.zip vs) m p=_
    unfold bindC
    rw [bindC_out fun v hv=>(List.nodup_cons.mp nd).1 (List.of_mem_zip hv).1,if_neg hk]
    simp
  | p :: P,w :: vs,i+1,m,nd,h1,h2,hk=>by
    show bindC kindOf ((p,w) :: P.zip vs) m x=_
    unfold bindC
    exact bindC_get (i:=i) (List.nodup_cons.mp nd).2 (by simpa using h1) (by simpa using h2) hk
def start (N:List Str) (vs:List V):St:=vs.map some++List.replicate (N.length - vs.length) none
def cxOf (CX:CXT) (P:Program) (w:World) (K:PySem.W.Frag) (mg:Str→Option Value) (base:Heap) (N:List Str) (qual:Str) (scope:Scope) (f:Addr) (cd:Value) (A:Around) (outer:List Env) (s:Shared) (H:Hp) (E:XK):Cx where
  prog:=P
  w:=w
  K:=K
  mg:=mg
  base:=base
  A:=A.deeper (envOfC qual scope s.heap.objs.size f cd)
  N:=N
  s₀:=s
  H₀:=H
  env:=envOfC qual scope s.heap.objs.size f cd
  outer:=outer
  stack:=envOfC qual scope s.heap.objs.size f cd :: outer
  ex:=[]
  calm:=true
  fn:=fun _=>true
  pn:=[]
  xe:=fun e s'=>wpAny (model P w) (A.deeper (envOfC qual scope s.heap.objs.size f cd)) (leaving (envOfC qual scope s.heap.objs.size f cd) e) (fun _ s''=>CX outer H s E e s'') (fun e' s''=>CX outer H s E e' s'') s'
theorem cell_has {sc:Scope} {n:Nat} {x:Str} (h:sc.names.lookup x=some .cell):∃ c,(cellsFrom n sc.names []).lookup x=some c:=by
  have q:=PySem.W.cellsFrom_some sc.names n [] (.inl h)
  exact Option.isSome_iff_exists.mp q
theorem inv_start {CX:CXT} {P:Program} {w:World} {K:PySem.W.Frag} {mg:Str→Option Value} {base:Heap} {N ps:List Str} {qual:Str} {scope:Scope} {f:Addr} {cd:Value} {A:Around} {outer:List Env} {s s1:Shared} {H:Hp} {E:XK} {us:List Value} {vs:List V}
    (S:FnScope N ps scope) (hd:A.handled=none) (e0:Env0 P w K mg base A outer s H) (hl:vs.length=ps.length) (r:Vals vs us)
    (x:InCallC s s.heap.objs.size (bindL (envOfC qual scope s.heap.objs.size f cd).kindOf (ps.zip us) fun _=>none) (cellsFrom (s.heap.objs.size+1) scope.names []) (bindC (envOfC qual scope s.heap.objs.size f cd).kindOf (ps.zip us) fun _=>none) s1) :
    Inv (cxOf CX P w K mg base N qual scope f cd A outer s H E) [] (start N vs) H s1:=by
  have hpl:ps.length≤N.length:=by have:=congrArg List.length S.pre; rw [List.length_take] at this; omega
  obtain ⟨h1,tk,rfl,hk⟩:=x.done
  have noA:∀ b:Addr,b∉(cxOf CX P w K mg base N qual scope f cd A outer s H E).ex:=fun b z=>absurd (show b∈([]:List Addr) from z) (by simp)
  refine ⟨⟨e0.mod,S.kind,rfl,rfl,Nat.le_refl _,fun y z c h1 h2=>?_,fun y hy=>?_,fun y c _ h=>?_,fun _=>hd,Around.frames_deeper e0.frames,.inr ⟨rfl,rfl⟩,fun b z=>absurd z (noA b),e0.bs,e0.bsz,fun b _ _=>noA b,fun b z=>absurd z (noA b),e0.funs,e0.frf⟩,
    rfl,e0.bare,Un.kept hk,⟨_,x.toInCall.ns,fun i y v h1 h2 h3=>?_⟩,fun y c h=>⟨_,x.cell y c h⟩,e0.hok.fresh (Nat.le_refl _),fun y c h=>?_,fun p hp=>absurd (show p∈([]:List (Addr×Obj)) from hp) (by simp),e0.hok.kept hk,?_⟩
  · exact name_of_addr x.apart (PySem.mem_of_lookup h1) (PySem.mem_of_lookup h2)
  · have hy:scope.names.lookup y=some .cell∨scope.names.lookup y=some .free:=hy
    rcases hy with hy | hy
    · exact cell_has hy
    · exact absurd rfl (S.nofree _ (PySem.mem_of_lookup hy))
  · exact Nat.le_of_lt (x.above y c (PySem.mem_of_lookup h))
  · have hi:i<vs.length:=by
      unfold start at h2
      by_cases hi:i<vs.length
      · exact hi
      · rw [List.getElem?_append_right (by simpa using hi)] at h2
        rw [List.getElem?_replicate] at h2
        split at h2 <;> cases h2
    have ha:vs[i]?=some v:=by
      unfold start at h2
      rw [List.getElem?_append_left (by simpa using hi),List.getElem?_map] at h2
      cases e:vs[i]? with
      | none=>rw [e] at h2; cases h2
      | some a=>rw [e] at h2; cases h2; rfl
    obtain ⟨u,hu,rv⟩:=r.get ha
    have hp:ps[i]?=some y:=by
      rw [← S.pre,List.getElem?_take_of_lt (by omega)]; exact h1
    have ndP:ps.Nodup:=by rw [← S.pre]; exact S.nd.sublist (List.take_sublist _ _)
    refine ⟨u,rv,?_⟩
    rcases S.par y (List.mem_of_getElem? hp) with k | k
    · exact .inl ⟨k,bindL_get ndP hp hu k⟩
    · obtain ⟨c,e⟩:=cell_has (n:=s.heap.objs.size+1) k
      refine .inr ⟨.inl k,c,e,?_⟩
      have q:=x.cell y c e
      rw [bindC_get ndP hp hu (by show scope.names.lookup y≠_; rw [k]; decide)] at q
      exact q
  · exact e0.hok.fresh (Nat.le_of_lt (x.above y c (PySem.mem_of_lookup h)))
  · unfold start
    show _=N.length
    rw [List.length_append,List.length_map,List.length_replicate]
    omega
theorem fn_of {CX:CXT} {P:Program} {w:World} {K:PySem.W.Frag} {mg:Str→Option Value} {base:Heap} {k:Nat} {f:Addr} {name qual:Str} {params:Arguments} {body:List Stmt} {scope:Scope} {dV kV doc pm cdv ct oc:Value} {an od:Option Addr}
    {osl:Array (Option Value)} {N ps:List Str} {sp:Sp} (lk:K.lookup f=some ⟨oc,od,.func (PySem.W.fnOf name qual params body scope dV kV doc pm an cdv ct),osl⟩) (hcd:PySem.W.codeIn K cdv qual=true) (S:FnScope N ps scope)
    (len:∀ vs H Q E,sp vs H Q E→vs.length=ps.length)
    (hbody:∀ (A:Around) (outer:List Env) (s:Shared) (H:Hp) (vs:List V) (Q:VK) (E:XK),Room k (A.deeper (envOfC qual scope s.heap.objs.size f cdv))→sp vs H Q E →
      ∃ t,PSs (cxOf CX P w K mg base N qual scope f cdv A outer s H E) body t∧t { nx:=fun _ H'=>Q .non H',rt:=Q } (start N vs) H) :
    FnOk P w K mg base CX (k+1) f (PySem.W.fnOf name qual params body scope dV kV doc pm an cdv ct) ps sp:=by
  refine ⟨len,fun A outer s H args us vs Q E hr e0 hb r hsp=>?_⟩
  have hl:=len _ _ _ _ hsp
  have KX:K.In s.heap:=e0.mod.kin.keeps fun b o e=>(e0.bs b o e).1
  have lim:s.heap.NoLimit:=e0.mod.nolimit.keeps fun b o e=>(e0.bs b o e).1
  have hkind:∀ y∈ps.zip us,scope.names.lookup y.1=some .local∨(scope.names.lookup y.1=some .cell∧((cellsFrom (s.heap.objs.size+1) scope.names []).lookup y.1).isSome=true):=fun ⟨n,v⟩ hy=>by
    rcases S.par n (List.of_mem_zip hy).1 with q | q
    · exact .inl q
    · exact .inr ⟨q,PySem.W.cellsFrom_some _ _ _ (.inl q)⟩
  refine codeAny_call_function hr.depth (KX _ _ lk) rfl S.co S.gen rfl (PySem.W.codeRec_of KX hcd) (hb _ _ _ _ ?_)
  refine wpAny_newFunctionEnv_cells S.kind hkind fun env he s1 x=>?_
  subst he
  refine ⟨lim.keeps x.toInCall.keep,codeAny_func ?_⟩
  obtain ⟨t,ht,hq⟩:=hbody A outer s H vs Q E (hr.deeper _) hsp
  have I:Inv (cxOf CX P w K mg base N qual scope f cdv A outer s H E) [] (start N vs) H s1:=inv_start S hr.hd e0 hl r x
  refine wpAny_mono (ht [] s1 (start N vs) H _ I hq) (fun fl s' hs=>?_) fun e s' hs=>hs
  have fin:∀ {σ':St} {H':Hp} {v:V} {u:Value},Inv (cxOf CX P w K mg base N qual scope f cdv A outer s H E) [] σ' H' s'→RelV v u→Q v H'→CE outer P w H s Q u s' :=
    fun {σ' H' v u} J rv q=>⟨v,H',J.os,J.bare,J.base,J.hok,rv,q⟩
  cases fl with
  | ret u =>
    obtain ⟨v,σ',H',J,rv,q⟩:=hs
    exact fin J rv q
  | next =>
    obtain ⟨σ',H',J,q⟩:=hs
    exact fin (v:=V.non) (u:=Value.none) J rfl q
  | brk =>
    obtain ⟨_,_,_,q⟩:=hs
    exact False.elim q
  | cont =>
    obtain ⟨_,_,_,q⟩:=hs
    exact False.elim q
end L2
namespace L2
open PySem PySem.Spec PyProof.Rows
section
variable {X:Cx} {x:Str} {p pos:Pos} {e:Expr} {es:List Expr} {t:TA} {id T:String} {r:List V→Hp→VK→Prop}
def tCB (r:List V→Hp→VK→Prop) (t:TA):TE:=fun σ H Q=>t σ H fun vs H1=>r vs H1 Q
theorem pe_callB (hc:CallR X (.builtin id) r) (hg:Gl X x) (hm:X.mg x=none) (hv:bootBuiltins x=some (.builtin id)) (ha:PA X (e :: es) t) (hn:x ≠ "__name__" := by decide) (hdb:(x == ("__debug__" : Str))=false:=by decide)
    (he:starEach (e :: es) X.env=(false,eval e X.env) :: starEach es X.env:=by rfl) (hpl:(backTo pos (starEach es X.env)).any (·.1)=false:=by rfl):PE X (.Call (.Name x p) (e :: es) [] pos) (tCB r t):=by
  intro pins s σ H Q I h
  refine wpAny_Call_Name_kw (ld_blt I hg hm hv ?_ hn hdb)
  exact PyProof.Rows.callWith_builtin1 (thn (ha pos pins s σ H _ I h) fun us s1 ⟨vs,H1,I1,r1,q1⟩=>hc pins s1 σ H1 vs us Q I1 r1 q1) he hpl
theorem pe_callTy (hc:CallR X (.type T) r) (hg:Gl X x) (hm:X.mg x=none) (hv:bootBuiltins x=some (.type T)) (ha:PA X (e :: es) t) (hn:x ≠ "__name__" := by decide) (hdb:(x == ("__debug__" : Str))=false:=by decide)
    (he:starEach (e :: es) X.env=(false,eval e X.env) :: starEach es X.env:=by rfl) (hpl:(backTo pos (starEach es X.env)).any (·.1)=false:=by rfl):PE X (.Call (.Name x p) (e :: es) [] pos) (tCB r t):=by
  intro pins s σ H Q I h
  refine wpAny_Call_Name_kw (ld_blt I hg hm hv ?_ hn hdb)
  exact PyProof.Rows.callWith_type1 (thn (ha pos pins s σ H _ I h) fun us s1 ⟨vs,H1,I1,r1,q1⟩=>hc pins s1 σ H1 vs us Q I1 r1 q1) he hpl
end
end L2
namespace HT
open PySem PyProof.Rows
def lexLt:List Int→List Int→Bool
  | [],[]=>false
  | [],_ :: _=>true
  | _ :: _,[]=>false
  | x :: xs,y :: ys=>if x=y then lexLt xs ys else decide (x<y)
theorem lexLt_cons (x y:Int) (xs ys:List Int):lexLt (x :: xs) (y :: ys)=if x=y then lexLt xs ys else decide (x<y):=rfl
theorem lexLt_nil_nil:lexLt [] []=false:=rfl
theorem lexLt_nil_cons (y:Int) (ys:List Int):lexLt [] (y :: ys)=true:=rfl
theorem lexLt_cons_nil (x:Int) (xs:List Int):lexLt (x :: xs) []=false:=rfl
theorem eqAt_int (A:Around) (s:Shared) (a:Int) (t:Tok) (c:Int) (u:Tok):∃ e,SeqAt.EqAt A s (.int a t) (.int c u) e∧(e=true↔a=c) :=
  ⟨(a == c),SeqAt.EqAt.int_int a t c u,by simp⟩
theorem rcLt_int (A:Around) (s:Shared) (a:Int) (t:Tok) (c:Int) (u:Tok) (prog:Program) (w:World) (E:Value→Shared→Prop) (Q:Value→Shared→Prop) (h:Q (.bool (decide (a<c))) s) :
    wpAny (model prog w) A (richCompare .Lt (.int a t) (.int c u)) Q E s :=
  (PyProof.Rows.lt_int h:wpAny (model prog w) A (compareOp .Lt (.int a t) (.int c u)) Q E s)
section
open PySem.SeqAt
open PySem.AutoSeq1 (wpAny_loadPart')
open PySem.MeetsSeq PySem.MeetsSeq2 PySem.MeetsSeq3
theorem tuple_lt_ints (l b:Addr) (items items2:Array Value) (n n2:Nat) (dd dd2:Option Addr) (sl sl2:Array (Option Value)) (ns ms:List Int) (hi:IntsAre items.toList ns) (hj:IntsAre items2.toList ms) :
    Meets (Builtin.«tuple.__lt__» ⟨[.ref l,.ref b],[]⟩)
      (fun _ R s=>s.heap.get? l=some { cls:=.type "tuple",dict:=dd,data:=.seq items n,slots:=sl }∧s.heap.get? b=some { cls:=.type "tuple",dict:=dd2,data:=.seq items2 n2,slots:=sl2 } ∧
        R (.ok (.ret (.bool (lexLt ns ms)))) s) :=
  .of_wp fun prog w A R s h=>by
    obtain ⟨hp,g,d,tk,os⟩:=s; obtain ⟨hl,hb,h⟩:=h
    have f2:=AutoSeq1.sub_tuple_tuple
    have z1:items.size=ns.length:=by rw [← hi.length]; simp
    have z2:items2.size=ms.length:=by rw [← hj.length]; simp
    wp_walk using wpAny_loadPart' hl,wpAny_loadPart' hb,wpAny_forIn_list _ (fun rest b s'=>b.1=none∧s'=⟨hp,g,d,tk,os⟩∧∃ (vs ws:List Value) (ns' ms':List Int),rest=vs.zip ws ∧
      IntsAre vs ns'∧IntsAre ws ms'∧ns'.length+items2.size=ms'.length+items.size∧R (.ok (.ret (.bool (lexLt ns' ms')))) ⟨hp,g,d,tk,os⟩) _
    case turn =>
      rintro ⟨y,x⟩ rest b s' ⟨hb',rfl,vs,ws,ns',ms',hz,hvi,hwi,hlen,hR⟩
      cases hvi with
      | nil=>rw [List.zip_nil_left] at hz; cases hz
      | cons a t hvi' =>
        cases hwi with
        | nil=>rw [List.zip_nil_right] at hz; cases hz
        | cons c u hwi' =>
          rw [List.zip_cons_cons] at hz
          injection hz with hyx hrest
          injection hyx with hy hx
          subst hy hx
          rw [lexLt_cons] at hR
          simp only [List.length_cons] at hlen
          obtain ⟨e,he,hiff⟩:=eqAt_int A.in1 ⟨hp,g,d,tk,os⟩ a t c u
          refine wpAny_bind (he prog w _ _ ?_)
          cases e with
          | true =>
            rw [if_pos (hiff.mp rfl)] at hR
            wp_walk
            exact ⟨rfl,rfl,_,_,_,_,hrest,hvi',hwi',by omega,hR⟩
          | false =>
            rw [if_neg (fun q=>absurd (hiff.mpr q) Bool.false_ne_true)] at hR
            have hri:=rcLt_int A.in1 ⟨hp,g,d,tk,os⟩ a t c u prog w
            wp_walk using hri
            exact ⟨_,rfl,by simpa using hR⟩
    case fin =>
      rintro ⟨b1,b2⟩ s' ⟨hb',rfl,vs,ws,ns',ms',hz,hvi,hwi,hlen,hR⟩
      simp only at hb'
      subst hb'
      have hv:lexLt ns' ms'=decide (items.size<items2.size):=by
        cases hvi with
        | nil =>
          cases hwi with
          | nil =>
            simp only [List.length_nil] at hlen
            rw [lexLt_nil_nil]
            exact (decide_eq_false (by omega)).symm
          | cons c u hw =>
            simp only [List.length_nil,List.length_cons] at hlen
            rw [lexLt_nil_cons]
            exact (decide_eq_true (by omega)).symm
        | cons a t hv =>
          cases hwi with
          | nil =>
            simp only [List.length_nil,List.length_cons] at hlen
            rw [lexLt_cons_nil]
            exact (decide_eq_false (by omega)).symm
          | cons c u hw =>
            rw [List.zip_cons_cons] at hz
            cases hz
      rw [hv] at hR
      wp_walk
      exact ⟨_,rfl,by simpa [Builtin.Tuple.tupleCompareSizes] using hR⟩
    case h =>
      exact ⟨rfl,rfl,items.toList,items2.toList,ns,ms,rfl,hi,hj,by omega,h⟩
end
section
variable {prog:Program} {w:World} {A:Around} {E:Value→Shared→Prop} {s:Shared}
theorem lt_tupInts {l b:Addr} {items items2:Array Value} {ns ms:List Int} {Q:Value→Shared→Prop} (hl:IsTup s.heap l items) (hb:IsTup s.heap b items2) (hi:IntsAre items.toList ns) (hj:IntsAre items2.toList ms)
    (hu:A.units<cLine) (h:Q (.bool (lexLt ns ms)) s):wpAny (model prog w) A (compareOp .Lt (.ref l) (.ref b)) Q E s:=by
  obtain ⟨⟨cls,dd,data,sl⟩,ho,hc,n,hd⟩:=id hl
  obtain ⟨⟨cls2,dd2,data2,sl2⟩,ho2,hc2,n2,hd2⟩:=id hb
  simp only at hc hd hc2 hd2
  subst hc hd hc2 hd2
  exact richCompare_meets_room (op:=.Lt) ⟨_,ho,rfl⟩ ⟨_,ho2,rfl⟩ PySem.F.slot_tuple_lt PySem.F.entry_tuple_lt (PySem.F.args_tuple_lt_2 _ _) (tuple_lt_ints l b items items2 n n2 dd dd2 sl sl2 ns ms hi hj)
    ⟨ho,ho2,show Value.bool (lexLt ns ms)≠Value.notImplemented∧Q (.bool (lexLt ns ms)) s from ⟨(fun x=>nomatch x),h⟩⟩ hu
def sIx (n d:Nat):Option Int→Nat
  | none=>d
  | some v=>if v<0 then (v+(n:Int)).toNat else min v.toNat n
theorem sIx_none (n d:Nat):sIx n d none=d:=rfl
theorem sIx_nat (n d k:Nat):sIx n d (some (k:Int))=min k n:=by
  show (if (k:Int)<0 then ((k:Int)+(n:Int)).toNat else min (k:Int).toNat n)=min k n
  rw [if_neg (by omega),Int.toNat_natCast]
end
end HT
namespace L2
open PySem PySem.Spec PyProof.Rows
abbrev TO:=St→Hp→(Option Int→Hp→Prop)→Prop
def PO (X:Cx) (e:Option Expr) (t:TO):Prop :=
  ∀ (pins:List (Addr×Obj)) (s:Shared) (σ:St) (H:Hp) (Q:Option Int→Hp→Prop),Inv X pins σ H s→t σ H Q →
    wpAny (model X.prog X.w) X.A (evalPart e X.env) (fun u s'=>∃ o H',Inv X pins σ H' s'∧IsPart u o∧Q o H') X.xe s
def tNoPart:TO:=fun _ H Q=>Q none H
def tPart (t:TE):TO:=fun σ H Q=>t σ H fun x H1=>∃ i,x=.int i∧Q (some i) H1
theorem intsAre_of {ns:List Int}:∀ {us:List Value},Vals (ns.map V.int) us→IntsAre us ns:=by
  induction ns with
  | nil=>intro us r; rw [List.map_nil] at r; cases r; exact .nil
  | cons n ns ih =>
    intro us r
    rw [List.map_cons] at r
    cases r with
    | cons r1 r2 =>
      obtain ⟨t,e⟩:=r1
      subst e
      exact .cons n t (ih r2)
section
variable {X:Cx} {e:Expr} {te:TE} {lo hi:Option Expr} {tl th:TO} {pos p2:Pos}
theorem po_none:PO X none tNoPart:=by
  intro pins s σ H Q I h
  rw [evalPart_none]
  exact wpAny_pure ⟨none,H,I,.none,h⟩
theorem po_some (h:PE X e te):PO X (some e) (tPart te):=by
  intro pins s σ H Q I hw
  rw [evalPart_some]
  refine thn (h pins s σ H _ I hw) fun u s1 ⟨x,H1,I1,r1,q1⟩=>?_
  obtain ⟨i,rfl,q⟩:=q1
  obtain ⟨t,rfl⟩:=r1
  exact ⟨some i,H1,I1,.int i t,q⟩
def SlR (X:Cx) (r:V→Option Int→Option Int→Hp→VK→Prop):Prop :=
  ∀ (pins:List (Addr×Obj)) (s:Shared) (σ:St) (H:Hp) (x:V) (v vl vu:Value) (lo hi:Option Int) (sl:Addr) (Q:VK),Inv X pins σ H s→RelV x v→s.heap.IsSliceOf sl vl vu .none→IsPart vl lo→IsPart vu hi→r x lo hi H Q →
    ∃ T id,typeLookup (.type T) "__getitem__" = pure (some (.builtin id))∧s.TypeIs v T∧wpAny (model X.prog X.w) X.A (getItem v (.ref sl)) (EP X pins σ Q) X.xe s
def tSl (r:V→Option Int→Option Int→Hp→VK→Prop) (te:TE) (tl th:TO):TE:=fun σ H Q=>te σ H fun x H1=>tl σ H1 fun l H2=>th σ H2 fun u H3=>r x l u H3 Q
theorem pe_slice {r:V→Option Int→Option Int→Hp→VK→Prop} (hr:SlR X r) (he:PE X e te) (hl:PO X lo tl) (hu:PO X hi th):PE X (.Subscript e (.Slice lo hi none p2) pos) (tSl r te tl th):=by
  intro pins s σ H Q I h
  refine Subscript_ (thn (he pins s σ H _ I h) fun v s1 ⟨x,H1,I1,r1,q1⟩=>?_)
  refine wpAny_Slice (thn (hl pins s1 σ H1 _ I1 q1) fun vl s2 ⟨l,H2,I2,pl,q2⟩=>thn (hu pins s2 σ H2 _ I2 q2) fun vu s3 ⟨u,H3,I3,pu,q3⟩=>?_)
  rw [evalPart_none]
  refine wpAny_pure ?_
  have I4:Inv X pins σ H3 { s3 with heap:=s3.heap.push { cls:=.type "slice",data:=.fields #[vl,vu,.none] } }:=I3.kept (t':=s3.toks) fun b ob q=>Heap.get?_push_of_some _ q
  obtain ⟨T,id,hT,ht,hg⟩:=hr pins { s3 with heap:=s3.heap.push { cls:=.type "slice",data:=.fields #[vl,vu,.none] } } σ H3 x v vl vu l u s3.heap.objs.size Q I4 r1 (Heap.IsSliceOf.new ..) pl pu q3
  show wpAny (model X.prog X.w) X.A (subscriptTail e (.Slice lo hi none p2) v (.ref s3.heap.objs.size)) (EP X pins σ Q) X.xe { s3 with heap:=s3.heap.push { cls:=.type "slice",data:=.fields #[vl,vu,.none] } }
  exact tail_any (ops:=[.ref s3.heap.objs.size,v]) ht hT hg (by with_unfolding_all rfl)
def cutV (xs:List V) (lo hi:Option Int):List V:=(xs.drop (HT.sIx xs.length 0 lo)).take (HT.sIx xs.length xs.length hi - HT.sIx xs.length 0 lo)
theorem cutV_length (xs:List V) (lo hi:Option Int):(cutV xs lo hi).length≤xs.length:=by
  unfold cutV
  rw [List.length_take,List.length_drop]
  omega
end
end L2
namespace L2
open PySem PySem.Spec PyProof.Rows
def ixN (n:Nat) (i:Int):Option Nat:=if 0≤i then (if i<n then some i.toNat else none) else if -(n:Int)≤i then some (i+n).toNat else none
def atI {α:Type} (xs:List α) (i:Int):Option α:=(ixN xs.length i).bind fun j=>xs[j]?
theorem ixN_seq {n:Nat} {i:Int} {j:Nat} (h:ixN n i=some j):seqIndex? i n=some j∧j<n ∧ -(n:Int)≤i∧i<n:=by
  unfold ixN at h
  by_cases h0:0≤i
  · rw [if_pos h0] at h
    by_cases h1:i<n
    · rw [if_pos h1] at h
      have e:i.toNat=j:=Option.some.inj h
      exact ⟨by rw [seqIndex_of h0 h1,e],by omega,by omega,h1⟩
    · rw [if_neg h1] at h; cases h
  · rw [if_neg h0] at h
    by_cases h1 : -(n:Int)≤i
    · rw [if_pos h1] at h
      have e:(i+n).toNat=j:=Option.some.inj h
      exact ⟨by rw [seqIndex_neg (by omega) h1,e],by omega,h1,by omega⟩
    · rw [if_neg h1] at h; cases h
theorem atI_get {α:Type} {xs:List α} {i:Int} {v:α} (h:atI xs i=some v):∃ j,seqIndex? i xs.length=some j∧xs[j]?=some v∧j<xs.length ∧ -(xs.length:Int)≤i∧i<xs.length:=by
  unfold atI at h
  cases e:ixN xs.length i with
  | none=>rw [e] at h; cases h
  | some j =>
    rw [e] at h
    obtain ⟨h1,h2,h3,h4⟩:=ixN_seq e
    exact ⟨j,h1,h,h2,h3,h4⟩
theorem atI_nat {α:Type} {xs:List α} {j:Nat} {v:α} (h:xs[j]?=some v):atI xs (j:Int)=some v:=by
  have hj:j<xs.length:=(List.getElem?_eq_some_iff.mp h).1
  have e:ixN xs.length (j:Int)=some j:=by
    unfold ixN
    rw [if_pos (by omega),if_pos (by omega)]; simp
  unfold atI; rw [e]; exact h
theorem atI_last {α:Type} (xs:List α) (v:α):atI (xs++[v]) (-1)=some v:=by
  have hl:(xs++[v]).length=xs.length+1:=by simp
  have e:ixN (xs++[v]).length (-1)=some xs.length:=by
    unfold ixN
    rw [hl,if_neg (by decide),if_pos (by omega)]
    congr 1
    omega
  unfold atI
  rw [e]
  show (xs++[v])[xs.length]?=some v
  simp
def PlainIx (b:Expr):Prop:=∀ o i,subscripted b false o i=operate [o,i] (getItem o i)
def IxR (X:Cx) (r:R2):Prop :=
  ∀ (value slice:Expr) (pins:List (Addr×Obj)) (s:Shared) (σ:St) (H:Hp) (x y:V) (v u:Value) (Q:VK),Inv X pins σ H s→RelV x v→RelV y u→r x y H Q →
    subscripted slice false v u=operate [v,u] (getItem v u)→wpAny (model X.prog X.w) X.A (subscriptTail value slice v u) (EP X pins σ Q) X.xe s
def MtR (X:Cx) (id:String) (r:V→List V→Hp→VK→Prop):Prop :=
  ∀ (pins:List (Addr×Obj)) (s:Shared) (σ:St) (H:Hp) (x:V) (xs:List V) (v:Value) (us:List Value) (Q:VK),Inv X pins σ H s→RelV x v→Vals xs us→r x xs H Q →
    wpAny (model X.prog X.w) X.A (call (.builtin id) (v :: us)) (EP X pins σ Q) X.xe s
section
variable {X:Cx} {a b:Expr} {ta tb:TE} {pos:Pos}
theorem pe_ix {r:R2} (hr:IxR X r) (ha:PE X a ta) (hb:PE X b tb) (hs:PlainIx b):PE X (.Subscript a b pos) (tOp r ta tb):=by
  intro pins s σ H Q I h
  exact Subscript_ (binT ha hb I h fun v u s2 x y H2 I2 rx ry q=>hr a b pins s2 σ H2 x y v u Q I2 rx ry q (hs _ _))
def rIxL (K:PySem.W.Frag):R2:=fun x y H Q=>∃ p xs i v,x=.ref p∧y=.int i∧SqL K H p xs∧atI xs i=some v∧Q v H
theorem ix_list:IxR X (rIxL X.K):=by
  intro value slice pins s σ H x y v u Q I rx ry h hs
  obtain ⟨p,xs,i,z,rfl,rfl,hq,he,q⟩:=h
  cases rx
  obtain ⟨t,rfl⟩:=ry
  obtain ⟨its,r,pl,hz⟩:=I.list hq
  obtain ⟨j,h1,h2,h3,h4,h5⟩:=atI_get he
  obtain ⟨w,ew,rw'⟩:=r.get h2
  have hl:=r.length
  have hn:=line63
  have fin:EP X pins σ Q w s:=⟨z,H,I,rw',q⟩
  by_cases h0:0≤i
  · have hj:i.toNat=j:=by
      rw [seqIndex_of h0 h5] at h1
      exact Option.some.inj h1
    exact item_listR pl.isList h0 (by omega) (by rw [hj]; simpa using ew) fin hs
  · have hj:(i+(its.toArray.size:Int)).toNat=j:=by
      rw [seqIndex_neg (by omega) h4] at h1
      rw [List.size_toArray,← hl]
      exact Option.some.inj h1
    exact subscriptTail_builtinR (x:=w) pl.isList.typeIs slot_list_getitem.lookup
      (wpAny_getItem_list_neg (Q:=fun r s'=>r=w∧EP X pins σ Q r s') pl.isList (by omega) (by rw [List.size_toArray] <;> omega) (by omega) (by rw [hj]; simpa using ew) ⟨rfl,fin⟩) hs
theorem mapSeq_set (its:List Value) (n j:Nat) (u:Value):Obj.mapSeq (·.setIfInBounds j u) { cls:=.type "list",data:=.seq its.toArray n }={ cls:=.type "list",data:=.seq (its.set j u).toArray n }:=by
  simp [Obj.mapSeq]
theorem Inv.lst {pins:List (Addr×Obj)} {σ:St} {H:Hp} {s:Shared} {p:Addr} {xs:List V} (I:Inv X pins σ H s) (h:H p=some (.lst xs)) :
    ∃ (its:List Value) (n:Nat),Vals xs its∧s.heap.get? p=some { cls:=.type "list",data:=.seq its.toArray n }∧xs.length≤sizeLine:=by
  obtain ⟨z,its,n,r,e⟩:=I.hok p _ h
  exact ⟨its,n,r,e,z⟩
theorem Inv.lstUpd {pins:List (Addr×Obj)} {σ:St} {H:Hp} {s:Shared} {p:Addr} {xs ys:List V} {its its':List Value} {n n':Nat} {f:Obj→Obj} (I:Inv X pins σ H s) (h:H p=some (.lst xs))
    (ho:s.heap.get? p=some { cls:=.type "list",data:=.seq its.toArray n }) (hf:f { cls:=.type "list",data:=.seq its.toArray n }={ cls:=.type "list",data:=.seq its'.toArray n' }) (r:Vals ys its') (hz:ys.length≤sizeLine) (t:Nat) :
    Inv X pins σ (upd H p (.lst ys)) { s with heap:=s.heap.update p f,toks:=t }:=by
  have e:(s.heap.update p f).get? p=some { cls:=.type "list",data:=.seq its'.toArray n' }:=by
    rw [Heap.get?_update_self f ho (by rw [hf] <;> rfl),hf]
  refine I.write (x:=p) (e:=p) (by rw [h]; trivial) (.inl rfl) (fun b u hb q=>(Heap.get?_update_other _ _ (Ne.symm hb)).trans q) ⟨_,e⟩ ?_
  exact ⟨hz,its',n',r,e⟩
def rSetL:V→V→V→Hp→(Hp→Prop)→Prop:=fun o i v H Q=>∃ p xs k j,o=.ref p∧i=.int k∧H p=some (.lst xs)∧ixN xs.length k=some j∧Q (upd H p (.lst (xs.set j v)))
theorem set_list:PSet X rSetL:=by
  intro pins s σ H o i v ov iv u Q I ro ri rv h
  obtain ⟨p,xs,k,j,rfl,rfl,hp,hj,q⟩:=h
  cases ro
  obtain ⟨t,rfl⟩:=ri
  obtain ⟨its,n,r,ho,hz⟩:=I.lst hp
  obtain ⟨h1,h2,h3,h4⟩:=ixN_seq hj
  have hl:=r.length
  have hn:=line63
  have I':Inv X pins σ (upd H p (.lst (xs.set j v))) { s with heap:=s.heap.update p (Obj.mapSeq (·.setIfInBounds j u)) } :=
    I.lstUpd hp ho (mapSeq_set its n j u) (r.set rv j) (by rw [List.length_set]; exact hz) s.toks
  by_cases h0:0≤k
  · have hk:k.toNat=j:=by
      rw [seqIndex_of h0 h4] at h1
      exact Option.some.inj h1
    exact PySem.W.ki_setAt ho h0 (by omega) (by rw [List.size_toArray,← hl]; exact h4) (by rw [hk]; exact ⟨_,I',q⟩)
  · have hk:(k+(its.toArray.size:Int)).toNat=j:=by
      rw [seqIndex_neg (by omega) h3] at h1
      rw [List.size_toArray,← hl]
      exact Option.some.inj h1
    exact PySem.W.ki_setBack ho (by omega) (by rw [List.size_toArray,← hl]; exact h3) (by omega) (by rw [hk]; exact ⟨_,I',q⟩)
theorem slice_bounds (lo hi:Option Int) (n:Nat):(sliceBounds lo hi none n).1=((HT.sIx n 0 lo:Nat):Int)∧(sliceBounds lo hi none n).2.1=((HT.sIx n n hi:Nat):Int)∧(sliceBounds lo hi none n).2.2=1:=by
  refine ⟨?_,?_,rfl⟩
  · cases lo with
    | none=>simp [sliceBounds,HT.sIx]
    | some i =>
      simp only [sliceBounds,HT.sIx,Option.getD_none,show (1:Int) > 0 by decide,if_true]
      by_cases h:i<0
      · simp only [h,if_true] <;> omega
      · simp only [h,if_false] <;> omega
  · cases hi with
    | none=>simp [sliceBounds,HT.sIx]
    | some i =>
      simp only [sliceBounds,HT.sIx,Option.getD_none,show (1:Int) > 0 by decide,if_true]
      by_cases h:i<0
      · simp only [h,if_true] <;> omega
      · simp only [h,if_false] <;> omega
theorem slicePick_cut (its:List Value) (lo hi:Option Int):slicePick its.toArray lo hi none=((its.drop (HT.sIx its.length 0 lo)).take (HT.sIx its.length its.length hi - HT.sIx its.length 0 lo)).toArray:=by
  obtain ⟨h1,h2,h3⟩:=slice_bounds lo hi its.toArray.size
  unfold slicePick
  rw [h1,h2,h3]
  simp only [sliceRange_one,pick_run,List.size_toArray] <;> rfl
def rSlL (K:PySem.W.Frag):V→Option Int→Option Int→Hp→VK→Prop:=fun x lo hi H Q=>∃ a xs,x=.ref a∧SqL K H a xs∧∀ p,H p=none→Q (.ref p) (upd H p (.lst (cutV xs lo hi)))
theorem sl_list:SlR X (rSlL X.K):=by
  intro pins s σ H x v vl vu lo hi sl Q I rx hs pl pu h
  obtain ⟨a,xs,rfl,hx,q⟩:=h
  cases rx
  obtain ⟨its,r,ht,hz⟩:=I.list hx
  have hlen:=r.length
  refine ⟨"list",_,slot_list_getitem.lookup,ht.isList.typeIs,?_⟩
  refine wpAny_getItem_list_slice ht.isList hs pl pu .none (by simp) ?_ (by rw [List.size_toArray] <;> omega)
  rw [slicePick_cut,← hlen]
  refine ⟨.ref s.heap.objs.size,_,I.laid (t':=s.toks) (o:=.lst (cutV xs lo hi)) (fun b ob q=>Heap.get?_push_of_some _ q) (Nat.le_refl _) ?_,rfl,q _ (I.hok.fresh (Nat.le_refl _))⟩
  exact ⟨Nat.le_trans (cutV_length xs lo hi) hz,_,0,(r.drop (HT.sIx xs.length 0 lo)).take (HT.sIx xs.length xs.length hi - HT.sIx xs.length 0 lo),Heap.get?_push_size _ rfl⟩
def flatV:V→Bool
  | .non=>true
  | .bl _=>true
  | .int _=>true
  | .str _=>true
  | _=>false
def eqV:V→V→Bool
  | .non,.non=>true
  | .bl a,.bl b=>a == b
  | .bl a,.int b=>(if a then 1 else 0) == b
  | .int a,.bl b=>a == (if b then 1 else 0)
  | .int a,.int b=>a == b
  | .str a,.str b=>a == b
  | _,_=>false
theorem eqAt_V {A:Around} {s:Shared} {y x:V} {u v:Value} (ry:RelV y u) (rx:RelV x v) (fy:flatV y=true) (fx:flatV x=true):SeqAt.EqAt A s u v (eqV y x):=by
  cases y with
  | non =>
    cases ry
    cases x with
    | non=>cases rx; exact SeqAt.EqAt.same _
    | bl b=>cases rx; exact SeqAt.EqAt.none_bool b
    | int b=>obtain ⟨t,rfl⟩:=rx; exact SeqAt.EqAt.none_int b t
    | str b=>obtain ⟨t,rfl⟩:=rx; exact SeqAt.EqAt.none_str b t
    | _=>exact absurd (show false=true from fx) Bool.false_ne_true
  | bl a =>
    cases ry
    cases x with
    | non=>cases rx; exact SeqAt.EqAt.bool_none a
    | bl b=>cases rx; exact SeqAt.EqAt.bool_bool a b
    | int b=>obtain ⟨t,rfl⟩:=rx; exact SeqAt.EqAt.bool_int a b t
    | str b=>obtain ⟨t,rfl⟩:=rx; exact SeqAt.EqAt.bool_str a b t
    | _=>exact absurd (show false=true from fx) Bool.false_ne_true
  | int a =>
    obtain ⟨t',rfl⟩:=ry
    cases x with
    | non=>cases rx; exact SeqAt.EqAt.int_none a t'
    | bl b=>cases rx; exact SeqAt.EqAt.int_bool a t' b
    | int b=>obtain ⟨t,rfl⟩:=rx; exact SeqAt.EqAt.int_int a t' b t
    | str b=>obtain ⟨t,rfl⟩:=rx; exact SeqAt.EqAt.int_str a t' b t
    | _=>exact absurd (show false=true from fx) Bool.false_ne_true
  | str a =>
    obtain ⟨t',rfl⟩:=ry
    cases x with
    | non=>cases rx; exact SeqAt.EqAt.str_none a t'
    | bl b=>cases rx; exact SeqAt.EqAt.str_bool a t' b
    | int b=>obtain ⟨t,rfl⟩:=rx; exact SeqAt.EqAt.str_int a t' b t
    | str b=>obtain ⟨t,rfl⟩:=rx; exact SeqAt.EqAt.str_str a t' b t
    | _=>exact absurd (show false=true from fx) Bool.false_ne_true
  | _=>exact absurd (show false=true from fy) Bool.false_ne_true
def eqU (x:V) (u:Value):Bool:=match u with
  | .none=>eqV .non x
  | .bool b=>eqV (.bl b) x
  | .int i _=>eqV (.int i) x
  | .str z _=>eqV (.str z) x
  | _=>false
theorem eqU_of {x y:V} {u:Value} (r:RelV y u) (f:flatV y=true):eqU x u=eqV y x:=by
  cases y with
  | non=>cases r; rfl
  | bl b=>cases r; rfl
  | int i=>obtain ⟨t,rfl⟩:=r; rfl
  | str z=>obtain ⟨t,rfl⟩:=r; rfl
  | _=>exact absurd (show false=true from f) Bool.false_ne_true
theorem any_eqU {x:V}:∀ {xs:List V} {us:List Value},Vals xs us→xs.all flatV=true→us.any (eqU x)=xs.any fun y=>eqV y x
  | _,_,.nil,_=>rfl
  | y :: xs,u :: us,.cons r t,f=>by
    rw [List.all_cons,Bool.and_eq_true] at f
    rw [List.any_cons,List.any_cons,eqU_of r f.1,any_eqU t f.2]
theorem mem_eqAt {A:Around} {s:Shared} {x:V} {v:Value} (rx:RelV x v) (fx:flatV x=true):∀ {xs:List V} {us:List Value},Vals xs us→xs.all flatV=true→∀ u∈us,SeqAt.EqAt A s u v (eqU x u)
  | _,_,.nil,_=>fun u hu=>by cases hu
  | y :: xs,u :: us,.cons r t,f=>fun u' hu=>by
    rw [List.all_cons,Bool.and_eq_true] at f
    rcases List.mem_cons.mp hu with rfl | hu
    · rw [eqU_of r f.1]; exact eqAt_V r rx f.1 fx
    · exact mem_eqAt rx fx t f.2 u' hu
def inV (x:V) (xs:List V):Bool:=xs.any fun y=>eqV y x
def rIn (K:PySem.W.Frag) (neg:Bool):R2:=fun x y H Q=>∃ p xs,y=.ref p∧(SqL K H p xs∨SqT K H p xs)∧flatV x=true∧xs.all flatV=true∧Q (.bl (if neg then !inV x xs else inV x xs)) H
theorem op_in_seq:OpR X (compareOp .In) (rIn X.K false):=by
  intro pins s σ H x y v u Q I rx ry h
  obtain ⟨p,xs,rfl,hq,fx,fs,q⟩:=h
  cases ry
  rcases hq with hq | hq
  · obtain ⟨its,r,pl,hz⟩:=I.list hq
    refine SeqAt.in_listAt (eqU x) pl.isList (fun w hw=>mem_eqAt rx fx r fs w (by simpa using hw)) ⟨.bl _,H,I,rfl,?_⟩
    rw [show its.toArray.any (eqU x)=its.any (eqU x) by simp,any_eqU r fs]
    exact q
  · obtain ⟨its,r,pl,hz⟩:=I.tuple hq
    refine SeqAt.in_tupleAt (eqU x) pl (fun w hw=>mem_eqAt rx fx r fs w (by simpa using hw)) ⟨.bl _,H,I,rfl,?_⟩
    rw [show its.toArray.any (eqU x)=its.any (eqU x) by simp,any_eqU r fs]
    exact q
theorem op_notIn_seq:OpR X (compareOp .NotIn) (rIn X.K true):=by
  intro pins s σ H x y v u Q I rx ry h
  obtain ⟨p,xs,rfl,hq,fx,fs,q⟩:=h
  cases ry
  rcases hq with hq | hq
  · obtain ⟨its,r,pl,hz⟩:=I.list hq
    refine SeqAt.notIn_listAt (eqU x) pl.isList (fun w hw=>mem_eqAt rx fx r fs w (by simpa using hw)) ⟨.bl _,H,I,rfl,?_⟩
    rw [show its.toArray.any (eqU x)=its.any (eqU x) by simp,any_eqU r fs]
    exact q
  · obtain ⟨its,r,pl,hz⟩:=I.tuple hq
    refine SeqAt.notIn_tupleAt (eqU x) pl (fun w hw=>mem_eqAt rx fx r fs w (by simpa using hw)) ⟨.bl _,H,I,rfl,?_⟩
    rw [show its.toArray.any (eqU x)=its.any (eqU x) by simp,any_eqU r fs]
    exact q
theorem call_len_seq:CallR X (.builtin "len") (fun xs H Q=>∃ p ys,xs=[.ref p]∧(SqL X.K H p ys∨SqT X.K H p ys)∧Q (.int ys.length) H):=by
  intro pins s σ H xs us Q I r h
  obtain ⟨p,ys,rfl,hq,q⟩:=h
  obtain ⟨u,rfl,rx⟩:=vals1 r
  cases rx
  have hn:=line63
  rcases hq with hq | hq
  · obtain ⟨its,r',pl,hz⟩:=I.list hq
    have hlen:=r'.length
    exact Calls.call_len_list pl.isList (by simp only [List.size_toArray] <;> omega) ⟨.int ys.length,H,I.tok _,⟨s.toks+1,by rw [List.size_toArray,hlen]⟩,q⟩
  · obtain ⟨its,r',pl,hz⟩:=I.tuple hq
    have hlen:=r'.length
    exact len_tuple pl (by simp only [List.size_toArray] <;> omega) ⟨.int ys.length,H,I.tok _,⟨s.toks+1,by rw [List.size_toArray,hlen]⟩,q⟩
theorem call_list_of:CallR X (.type "list") (fun xs H Q=>∃ p ys,xs=[.ref p]∧(SqL X.K H p ys∨SqT X.K H p ys)∧∀ l,H l=none→Q (.ref l) (upd H l (.lst ys))):=by
  intro pins s σ H xs us Q I r h
  obtain ⟨p,ys,rfl,hq,q⟩:=h
  obtain ⟨u,rfl,rx⟩:=vals1 r
  cases rx
  have fin:∀ (its:List Value),Vals ys its→ys.length≤sizeLine→∀ (h':Heap) (c':Nat),(∀ b o',s.heap.get? b=some o'→h'.get? b=some o') →
      h'.get? s.heap.objs.size=some { cls:=.type "list",dict:=none,data:=.seq its.toArray c',slots:=#[] }→EP X pins σ Q (.ref s.heap.objs.size) { s with heap:=h' }:=fun its r' hz h' c' kp e =>
    ⟨.ref s.heap.objs.size,_,I.laid (t':=s.toks) kp (Nat.le_refl _) (show ObjOk X.prog X.w _ h' _ (.lst ys) from ⟨hz,its,c',r',e⟩),rfl,q _ (I.hok.fresh (Nat.le_refl _))⟩
  rcases hq with hq | hq
  · obtain ⟨its,r',pl,hz⟩:=I.list hq
    have hlen:=r'.length
    obtain ⟨o,ho,hc,n,hd⟩:=pl.isList
    exact call_list_seq p (.inl rfl) ho hc hd (fun h' c' kp e=>fin its r' hz h' c' kp e) (by simp only [List.size_toArray] <;> omega)
  · obtain ⟨its,r',pl,hz⟩:=I.tuple hq
    have hlen:=r'.length
    obtain ⟨o,ho,hc,n,hd⟩:=pl
    exact call_list_seq p (.inr rfl) ho hc hd (fun h' c' kp e=>fin its r' hz h' c' kp e) (by simp only [List.size_toArray] <;> omega)
def tyV (K:PySem.W.Frag) (T:String) (x:V) (H:Hp):Prop:=match x with
  | .str _=>T = "str"
  | .int _=>T = "int"
  | .ref p=>(T = "list" ∧ ∃ xs,SqL K H p xs)∨(T = "tuple" ∧ ∃ o,K.lookup p=some o∧o.cls=.type "tuple" ∧ o.dict=none) ∨
      (T = "dict" ∧ ((∃ kvs,H p=some (.dK kvs))∨∃ kvs,H p=some (.dT kvs)))∨(T = "set" ∧ ∃ S n,H p=some (.set S n))
  | _=>False
theorem tyV_is {pins:List (Addr×Obj)} {σ:St} {H:Hp} {s:Shared} {T:String} {x:V} {v:Value} (I:Inv X pins σ H s) (r:RelV x v) (ty:tyV X.K T x H) :
    s.TypeIs v T∧∀ a,v=.ref a→∃ ob,s.heap.get? a=some ob∧ob.dict=none:=by
  cases x with
  | str z =>
    obtain ⟨t,rfl⟩:=r
    cases (show T = "str" from ty)
    exact ⟨typeIs_str s z t,fun _ e=>nomatch e⟩
  | int i =>
    obtain ⟨t,rfl⟩:=r
    cases (show T = "int" from ty)
    exact ⟨typeIs_int s i t,fun _ e=>nomatch e⟩
  | ref p =>
    cases r
    rcases ty with ⟨rfl,xs,hq⟩ | ⟨rfl,o,hk,hc,hd⟩ | ⟨rfl,hk⟩ | ⟨rfl,S,n,hk⟩
    · obtain ⟨its,_,pl,_⟩:=I.list hq
      refine ⟨pl.isList.typeIs,fun a e=>?_⟩
      cases e
      obtain ⟨o,n,e,c,hd,_⟩:=pl
      exact ⟨o,e,hd⟩
    · refine ⟨⟨o,I.kIn p o hk,hc⟩,fun a e=>?_⟩
      cases e
      exact ⟨o,I.kIn _ o hk,hd⟩
    · have z:∃ o,s.heap.get? p=some o∧o.ExactDict:=by
        rcases hk with ⟨kvs,hk⟩ | ⟨kvs,hk⟩
        · obtain ⟨_,_,_,_,o,_,_,e,ex,_⟩:=I.hok p _ hk
          exact ⟨o,e,ex⟩
        · obtain ⟨_,_,_,_,o,_,_,e,ex,_⟩:=I.hok p _ hk
          exact ⟨o,e,ex⟩
      obtain ⟨o,e,ex⟩:=z
      refine ⟨⟨o,e,ex.1⟩,fun a e2=>?_⟩
      cases e2
      exact ⟨o,e,ex.2.1⟩
    · obtain ⟨o,_,_,_,e,ex,_⟩:=I.hok p _ hk
      refine ⟨⟨o,e,ex.1⟩,fun a e2=>?_⟩
      cases e2
      exact ⟨o,e,ex.2.1⟩
  | _=>exact False.elim ty
def tBM (K:PySem.W.Frag) (T:String) (r:V→List V→Hp→VK→Prop) (to:TE) (t:TA):TE:=fun σ H Q=>to σ H fun x H1=>tyV K T x H1∧t σ H1 fun xs H2=>r x xs H2 Q
variable {o e:Expr} {es:List Expr} {to:TE} {t:TA} {name:Str} {apos cpos:Pos} {T id:String} {r:V→List V→Hp→VK→Prop}
theorem pe_bm (pa:PlainAttrs T) (slot:Slot T name id) (hty:typeOf (.builtin id)=pure (.type "method_descriptor")) (hm:MtR X id r) (ho:PE X o to) (ha:PA X (e :: es) t)
    (hbase:attributeBase o name X.env (eval o X.env)=eval o X.env:=by rfl)
    (hfew:((backTo cpos (starEach (e :: es) X.env)).all (fun x=>!x.1) && (backToKw cpos (keywordEach [] X.env)).all (fun x=>x.1.isSome)
      && decide ((e :: es).length+([]:List Keyword).length+(if ([]:List Keyword).isEmpty then 0 else 1)<30))=true:=by rfl)
    (hline:(apos.endLine == cpos.line)=true:=by rfl) (hs:starEach (e :: es) X.env=(false,eval e X.env) :: starEach es X.env:=by rfl) (hplain:(backTo cpos (starEach es X.env)).any (·.1)=false:=by rfl) :
    PE X (.Call (.Attribute o name apos) (e :: es) [] cpos) (tBM X.K T r to t):=by
  intro pins s σ H Q I h
  refine wpAny_Call_method_late hbase hfew hline rfl (thn (ho pins s σ H _ I h) fun v s1 ⟨x,H1,I1,r1,ty,q1⟩=>?_)
  obtain ⟨h1,h2⟩:=tyV_is I1 r1 ty
  refine ⟨T,id,pa,slot,hty,h1,h2,?_⟩
  have hA:=ha cpos pins s1 σ H1 _ I1 q1
  rw [hs] at hA ⊢
  refine Calls.callWith_builtin (by show (false || (backTo cpos (starEach es X.env)).any (·.1))=false; rw [hplain] <;> rfl) (Calls.evalArgs_plain ?_)
  exact thn hA fun us s2 ⟨vs,H2,I2,r2,q2⟩=>hm pins s2 σ H2 x vs v us Q I2 r1 r2 q2
/- xs.append(e),list.index on a module's tuple .. are MtR facts of 06m -/
end
end L2
namespace L2
open PySem PySem.Spec PyProof.Rows
def MtM (X:Cx) (id:String) (r:V→List V→Hp→VK→Prop):Prop :=
  ∀ (pins:List (Addr×Obj)) (s:Shared) (σ:St) (H:Hp) (x:V) (xs:List V) (v:Value) (us:List Value) (Q:VK),Inv X pins σ H s→RelV x v→Vals xs us→r x xs H Q →
    wpAny (model X.prog X.w) X.A (call (.builtin id) (v :: us)) (EP X pins σ Q) X.xe s
theorem Vals.one:∀ {x:V} {us:List Value},Vals [x] us→∃ u,us=[u]∧RelV x u
  | _,_,.cons r .nil=>⟨_,rfl,r⟩
section
variable {X:Cx} {pins:List (Addr×Obj)} {σ:St} {H:Hp} {s:Shared} {l b:Addr} {xs ys zs:List V}
theorem Inv.lset {its its':List Value} {n:Nat} {f:Array Value→Array Value} {t':Nat} (I:Inv X pins σ H s) (hH:H l=some (.lst xs))
    (e:s.heap.get? l=some { cls:=.type "list",data:=.seq its.toArray n }) (hf:f its.toArray=its'.toArray) (hv:Vals ys its') (hz:ys.length≤sizeLine) :
    Inv X pins σ (upd H l (.lst ys)) { s with heap:=s.heap.update l (Obj.mapSeq f),toks:=t' }:=by
  have q:=PySem.IsL.update e f
  rw [hf] at q
  refine I.write (x:=l) (e:=l) (by rw [hH]; exact trivial) (.inl rfl) (fun b' u hb hu=>(Heap.get?_update_other s.heap (Obj.mapSeq f) (Ne.symm hb)).trans hu) ⟨_,q⟩ ?_
  exact ⟨hz,its',_,hv,q⟩
theorem Inv.lnew {its:List Value} {t':Nat} (I:Inv X pins σ H s) (hv:Vals ys its) (hz:ys.length≤sizeLine) :
    Inv X pins σ (upd H s.heap.objs.size (.lst ys)) { s with heap:=s.heap.push { cls:=.type "list",data:=.seq its.toArray },toks:=t' } :=
  I.laid (fun _ _ q=>Heap.get?_push_of_some _ q) (Nat.le_refl _) ⟨hz,its,0,hv,Heap.get?_push_size _ rfl⟩
theorem Inv.fresh (I:Inv X pins σ H s):H s.heap.objs.size=none:=I.hok.fresh (Nat.le_refl _)
theorem Inv.lstM (I:Inv X pins σ H s) (hH:H l=some (.lst xs)):xs.length≤sizeLine∧∃ (its:List Value) (n:Nat),Vals xs its∧xs.length=its.length∧s.heap.get? l=some { cls:=.type "list",data:=.seq its.toArray n }:=by
  obtain ⟨z,its,n,r,e⟩:=I.hok l _ hH
  exact ⟨z,its,n,r,r.length,e⟩
theorem notLongL {n:Nat} (h:n≤sizeLine):Builtin.List.listTooLong n=false:=by
  unfold Builtin.List.listTooLong
  exact decide_eq_false (by omega)
end
section
variable {X:Cx}
def rAppend:V→List V→Hp→VK→Prop:=fun x vs H Q=>∃ l xs y,x=.ref l∧vs=[y]∧H l=some (.lst xs)∧xs.length<sizeLine∧Q .non (upd H l (.lst (xs++[y])))
theorem mt_append:MtM X "list.append" rAppend:=by
  intro pins s σ H x vs v us Q I rx rv h
  obtain ⟨l,xs,y,rfl,rfl,hH,hz,q⟩:=h
  cases rx
  obtain ⟨u,rfl,ru⟩:=rv.one
  obtain ⟨z,its,n,r,hl,e⟩:=I.lstM hH
  refine call_meets F.slot_list_append ⟨_,e,rfl⟩ F.entry_list_append (F.args_list_append_2 _ _) (PySem.list_append l its.toArray n u (by rw [List.size_toArray]; omega)) ⟨e,?_⟩
  refine ⟨.non,_,I.lset (its':=its++[u]) hH e (by simp) (r.append (.cons ru .nil)) ?_,rfl,q⟩
  rw [List.length_append,List.length_singleton]
  omega
def rCat:R2:=fun x y H Q=>∃ l b xs zs,x=.ref l∧y=.ref b∧H l=some (.lst xs)∧H b=some (.lst zs)∧xs.length+zs.length≤sizeLine∧∀ p,H p=none→Q (.ref p) (upd H p (.lst (xs++zs)))
theorem op_cat:OpR X (binaryOp .Add) rCat:=by
  intro pins s σ H x y v u Q I rx ry h
  obtain ⟨l,b,xs,zs,rfl,rfl,hH,hB,hz,q⟩:=h
  cases rx
  cases ry
  obtain ⟨z,its,n,r,hl,e⟩:=I.lstM hH
  obtain ⟨z2,its2,n2,r2,hl2,e2⟩:=I.lstM hB
  refine PySem.P.add_list e e2 ?_ (by rw [List.size_toArray,List.size_toArray]; omega)
  have ea:its.toArray++its2.toArray=(its++its2).toArray:=by simp
  rw [ea]
  exact ⟨.ref _,_,I.lnew (t':=s.toks) (r.append r2) (by rw [List.length_append]; omega),rfl,q _ I.fresh⟩
end
end L2
namespace Att
open PySem PySem.W PySem.Calls PyProof.Rows
theorem ints_of_wellAll {P:Params} {h:Heap}:∀ (ns:List Int) (vs:List Value),WellAll P h vs (ns.map WData.int)→IntsAre vs ns:=by
  intro ns
  induction ns with
  | nil =>
    intro vs w
    rw [List.map_nil] at w
    cases w
    exact .nil
  | cons n ns ih =>
    intro vs w
    rw [List.map_cons] at w
    cases w with
    | cons a b =>
      cases a
      exact .cons _ _ (ih _ b)
theorem script_of {l:OpenLaw} {n:Nat} (hn:l.most=some n) {P:Params} {h:Heap} {args:List WData} {vals:List Value}
    (hpre:l.row.toRowW.claim.pre args=true) (hwl:WellAll P h vals args) :
    ∃ a vs ns,vals=[Value.ref a]∧args=[WData.list (ns.map WData.int)]∧h.get? a=some { cls:=.type "list",data:=.seq vs.toArray }∧IntsAre vs ns∧ns.length≤n:=by
  have hsh:WShape.hasAll [] args [.list .int]=true:=(pre_splitW hpre).1
  have hc:l.pre.holds [] { args:=args }=true:=(pre_splitW hpre).2
  obtain ⟨d,r,rfl,h1,h2⟩:=hasAllW_cons hsh
  obtain rfl:=hasAllW_nil h2
  obtain ⟨xs,rfl,h3⟩:=hasW_list h1
  obtain ⟨ns,rfl⟩:=items_int h3
  have hlen:ns.length≤n:=by
    unfold OpenLaw.pre at hc
    have h4:(WTm.not (.lt (.lit (.int (n:Int))) (.len (.arg 0)))).holds [] { args:=[.list (ns.map .int)] }=true:=by
      have h4:=(holds_andW hc).1
      rw [hn] at h4
      exact h4
    have h5:=condW_of h4 (w_not (w_lt w_lit (w_len_list (w_arg rfl))))
    rw [List.length_map] at h5
    refine Nat.le_of_not_lt fun q=>?_
    have q':(n:Int)<((ns.length:Nat):Int):=by omega
    first
      | (rw [decide_eq_true q'] at h5; exact absurd h5 (by decide))
      | (simp at h5; omega)
  cases hwl with
  | cons w1 w2 =>
    cases w2
    cases w1 with
    | list ho hall=>exact ⟨_,_,ns,rfl,rfl,ho,ints_of_wellAll ns _ hall,hlen⟩
theorem post_true (l:OpenLaw) (args:List WData):l.row.toRowW.claim.post args (.bool true) args=true :=
  postW_of (r:=l.row.toRowW) (X:=(true == true))
    (show WShape.has [] (.bool true) .bool=true by first | rfl | decide | simp [WShape.has,WShape.arms,WShape.armsAll])
    (show (WTm.eq .res (.lit (.bool true))).value [] { args:=args,res:=some (.bool true),after:=args }=some (.bool (true == true)) from w_eq_bool (w_res rfl) w_lit) rfl
theorem attach_call {l:OpenLaw} {n:Nat} {q:Program} {loose:List Str} {XP:(Str→Option Value)→Heap→Prop} {YP:World→Heap→Prop} {d:DefRec}
    (hn:l.most=some n) (hdf:d.params.defaults=[])
    (call:∀ (w:World) (s₀ s₁:Shared) (mg mb:Str→Option Value) (fa:Addr) (o:Obj) (pm cd doc:Value) (a:Addr) (vs:List Value) (ns:List Int),
      Ground q loose [] XP w s₀ mg mb s₁.heap→YP w s₁.heap →
      s₁.heap.get? fa=some o→o.data=.func (docDef d.name d.params d.body d.scope pm cd doc)→s₁.heap.CodeRec cd d.name→mg d.name=some (.ref fa) →
      s₁.heap.get? a=some { cls:=.type "list",data:=.seq vs.toArray }→IntsAre vs ns→ns.length≤n→s₁.gens=#[] →
      codeAny (model l.prog w) callerA (.call (.ref fa) ⟨[.ref a],[]⟩) (fun r s'=>r=.ok (.ret (.bool true))∧OldK s₁.heap s'.heap∧s'.os=s₁.os∧AllBare s'.gens) s₁) :
    WalkO q loose XP YP l.row.toRowW d [] (fun f vs=>PySem.call f vs):=by
  intro w s₀ s₁ mg mb G Y fa o pm cd doc dV kV ho hd hcd hD hmg hg args vals as hpre hlay hrd hwl hlo
  obtain rfl:dV=.none:=Dflts.none hD hdf
  obtain rfl:kV=.none:=Dflts.noKw hD
  obtain ⟨a,vs,ns,rfl,rfl,hobj,hints,hlen⟩:=script_of hn hpre hwl
  refine enter_call (codeAny_mono (call w s₀ s₁ mg mb fa o pm cd doc a vs ns G Y ho (fd_plain hd) hcd hmg hobj hints hlen hg) fun r s' hq=>?_)
  obtain ⟨rfl,h2,h3,h4⟩:=hq
  exact ⟨.inl ⟨.bool true,.bool true,[],rfl,fun _=>rfl,.bool true,post_true l _,fun _=>⟨List.Pairwise.nil,fun _ hm=>(nomatch hm)⟩⟩,h2,h3,h4⟩
end Att
namespace L2
open PySem PySem.Spec PyProof.Rows
theorem vals_ints:∀ {vs:List Value} {ns:List Int},IntsAre vs ns→Vals (ns.map V.int) vs
  | _,_,.nil=>.nil
  | _,_,.cons n t h=>.cons ⟨t,rfl⟩ (vals_ints h)
def Only (H:Hp):Prop:=∀ b,H b=none∨∃ o xs,H b=some (.frz o (.lst xs))
theorem law_call {P:Program} {w:World} {K:PySem.W.Frag} {mg mb:Str→Option Value} {CX:CXT} {k:Nat} {fa a:Addr} {fd:FuncData} {x:Str} {sp:Sp} {s₁:Shared} {vs:List Value} {ns:List Int}
    (KX:K.In s₁.heap) (hns:s₁.heap.Ns mainGlobals mg) (hb:s₁.heap.Ns builtinsNs mb) (hbb:∀ x:Str,x ≠ "__name__" → mb x=bootBuiltins x) (hlim:s₁.heap.NoLimit) (hg:s₁.gens=#[])
    (ha:s₁.heap.get? a=some { cls:=.type "list",data:=.seq vs.toArray }) (hi:IntsAre vs ns) (hl:ns.length≤sizeLine) (hr:Room k callerA)
    (F:∀ base:Heap,K.In base→base.Ns mainGlobals mg→FnOk P w K mg base CX k fa fd [x] sp) (hbind:∀ (s:Shared) (u:Value),BindsTo s fd ⟨[u],[]⟩ [(x,u)])
    (hsp:∀ H:Hp,Only H→SqL K H a (ns.map V.int)→sp [.ref a] H (fun v _=>v=.bl true) fun _ _ _=>False)
    (hCX:∀ H e s',CX [] H s₁ (fun _ _ _=>False) e s'→False) :
    codeAny (model P w) callerA (.call (.ref fa) ⟨[.ref a],[]⟩) (fun r s'=>r=.ok (.ret (.bool true))∧OldK s₁.heap s'.heap∧s'.os=s₁.os∧AllBare s'.gens) s₁:=by
  have rv:=vals_ints hi
  have lenV:=hi.length
  have core:∀ H:Hp,Only H→SqL K H a (ns.map V.int)→HOk P w H s₁.heap→(∀ b,H b≠none→b=a)→(H a≠none→K.lookup a=none) →
      codeAny (model P w) callerA (.call (.ref fa) ⟨[.ref a],[]⟩) (fun r s'=>r=.ok (.ret (.bool true))∧OldK s₁.heap s'.heap∧s'.os=s₁.os∧AllBare s'.gens) s₁:=by
    intro H hO hS hok hA hK
    have base_of:∀ {b:Addr} {o:Obj},s₁.heap.get? b=some o→H b=none→(hidT s₁.heap H).get? b=some o:=fun e n=>hidT_get e n
    have noA:∀ {b:Addr} {o:Obj} {es:Array DictEntry} {ep:Nat},s₁.heap.get? b=some o→o.data=.dict es ep→H b=none:=fun {b o es ep} e d=>by
      cases q:H b with
      | none=>rfl
      | some u =>
        have e':b=a:=hA b (by rw [q]; simp)
        subst e'
        rw [ha] at e; cases e
        have d':Data.seq vs.toArray _=Data.dict es ep:=d
        cases d'
    have nsK:∀ {b:Addr} {m:Str→Option Value},s₁.heap.Ns b m→(hidT s₁.heap H).Ns b m:=fun {b m} ⟨o,es,ep,e,d,r⟩=>⟨o,es,ep,base_of e (noA e d),d,r⟩
    have hKb:K.In (hidT s₁.heap H):=fun b o e=>base_of (KX b o e) (by
      cases q:H b with
      | none=>rfl
      | some u =>
        have e':b=a:=hA b (by rw [q]; simp)
        subst e'
        rw [hK (by rw [q]; simp)] at e; cases e)
    have hM:Mod K mg (hidT s₁.heap H):=⟨hKb,nsK hns,⟨mb,nsK hb,hbb⟩,let ⟨mc,h1,h2⟩:=hlim; ⟨mc,nsK h1,h2⟩⟩
    have e0:Env0 P w K mg (hidT s₁.heap H) callerA [] s₁ H:=⟨rfl,hM,fun b o e=>of_hidT e,Nat.le_of_eq (hidT_size _ _),trivial,fun b hb=>absurd (show b∈([]:List Addr) from hb) (by simp),hok,.of_eq hg⟩
    refine codeAny_mono ((F _ hKb (nsK hns)).run callerA [] s₁ H ⟨[.ref a],[]⟩ [.ref a] [.ref a] _ _ hr e0 (hbind s₁ (.ref a)) (.cons rfl .nil) (hsp H hO hS)) fun r s' h=>?_
    cases r with
    | error e=>exact (hCX H e s' h).elim
    | ok fl =>
      cases fl with
      | next=>exact False.elim h
      | brk=>exact False.elim h
      | cont=>exact False.elim h
      | ret u =>
        obtain ⟨v,H',os,bare,un,hok',r',q⟩:=h
        have q':v=.bl true:=q
        subst q'
        obtain rfl:u=Value.bool true:=r'
        refine ⟨rfl,OldK.of_keep fun b o e=>?_,os,bare⟩
        cases q:H b with
        | none=>exact un.keep b o e q (by intro z; exact absurd (show b∈([]:List Addr) from z) (by simp)) (by simp)
        | some u =>
          rcases hO b with z | ⟨ob,xs,z⟩
          · rw [q] at z; cases z
          · have z2:=un.frzs b ob _ z
            obtain ⟨e1,_⟩:=hok b _ z
            obtain ⟨e2,_⟩:=hok' b _ z2
            rw [e] at e1; cases e1
            exact e2
  cases hk:K.lookup a with
  | some o =>
    have e:=KX a o hk
    rw [ha] at e
    cases e
    refine core (fun _=>none) (fun _=>.inl rfl) (.inr ⟨_,vs.toArray,_,hk,rfl,rfl,rfl,by rw [List.size_toArray,lenV]; exact hl,by simpa using rv⟩) (fun b u z=>by have z':(none:Option HO)=some u:=z; cases z') (fun b z=>absurd rfl z) fun z=>absurd rfl z
  | none =>
    refine core (fun b=>if b=a then some (.frz { cls:=.type "list",data:=.seq vs.toArray } (.lst (ns.map V.int))) else none) (fun b=>?_) (.inl (.inr ⟨{ cls:=.type "list",data:=.seq vs.toArray },if_pos rfl⟩)) (fun b u z=>?_) (fun b z=>?_) fun _=>hk
    · by_cases hb:b=a
      · exact .inr ⟨_,_,if_pos hb⟩
      · exact .inl (if_neg hb)
    · by_cases hb:b=a
      · have z':=(if_pos hb).symm.trans z
        cases z'
        subst hb
        exact ⟨ha,by rw [List.length_map]; exact hl,vs,_,rv,ha⟩
      · have z':=(if_neg hb).symm.trans z
        cases z'
    · by_cases hb:b=a
      · exact hb
      · exact absurd (if_neg hb) z
end L2
namespace L2
open PySem PySem.Spec PyProof.Rows
theorem walk_of {l:PySem.W.OpenLaw} {n k:Nat} {q:Program} {loose:List Str} {XP:(Str→Option Value)→Heap→Prop} {YP:World→Heap→Prop} {d:DefRec} {K:Params→PySem.W.Frag} {CX:World→CXT} {sp:World→Sp} {x:Str}
    (hn:l.most=some n) (hn2:n≤sizeLine) (hdf:d.params.defaults=[]) (hr:Room k callerA)
    (hY:∀ (w:World) (h:Heap),YP w h→(K w.params).In h)
    (F:∀ (w:World) (mg:Str→Option Value) (fa:Addr) (h:Heap),(K w.params).In h→h.Ns mainGlobals mg→mg d.name=some (.ref fa) →
      ∃ fd:FuncData,(∀ (s:Shared) (u:Value),BindsTo s fd ⟨[u],[]⟩ [(x,u)]) ∧
        ∀ base:Heap,(K w.params).In base→base.Ns mainGlobals mg→FnOk l.prog w (K w.params) mg base (CX w) k fa fd [x] (sp w))
    (hsp:∀ (w:World) (H:Hp) (a:Addr) (ns:List Int),ns.length≤n→Only H→SqL (K w.params) H a (ns.map V.int)→sp w [.ref a] H (fun v _=>v=.bl true) fun _ _ _=>False)
    (hCX:∀ (w:World) (H:Hp) (s:Shared) (e:Value) (s':Shared),CX w [] H s (fun _ _ _=>False) e s'→False) :
    PySem.W.WalkO q loose XP YP l.row.toRowW d [] (fun f vs=>PySem.call f vs):=by
  refine Att.attach_call hn hdf fun w s₀ s₁ mg mb fa o pm cd doc a vs ns G Y ho hd hcd hmg hobj hints hlen hg=>?_
  have KX:=hY w _ Y
  obtain ⟨fd,hb,hF⟩:=F w mg fa _ KX G.T.g hmg
  exact law_call KX G.T.g G.T.b G.T.builtins G.T.nolimit hg hobj hints (Nat.le_trans hlen hn2) hr hF hb (fun H hO hS=>hsp w H a ns hlen hO hS) fun H e s'=>hCX w H s₁ e s'
end L2
namespace L2
open PySem PySem.Spec PyProof.Rows
def defArgs (s:Stmt):Arguments:=match s with
  | .FunctionDef _ a _ _ _ _ _ _ _ _=>a
  | _=>{ posonlyargs:=[],args:=[],vararg:=none,kwonlyargs:=[],kw_defaults:=[],kwarg:=none,defaults:=[] }
def defBody (s:Stmt):List Stmt:=match s with
  | .FunctionDef _ _ b _ _ _ _ _ _ _=>b
  | _=>[]
def defScope (s:Stmt):Scope:=match s with
  | .FunctionDef _ _ _ _ _ _ sc _ _ _=>sc
  | _=>{ kind:=.function,names:=[],isGenerator:=false,isCoroutine:=false }
abbrev CX0:CXT:=fun _ _ _ _ _ _=>False
abbrev E0:XK:=fun _ _ _=>False
theorem pass0 {X:Cx}:Passes CX0 X E0:=fun _ _ _ _ _ _ _ h=>h.elim
structure Fun (K:PySem.W.Frag) (x qual:Str) (st:Stmt) (f:Addr) (fd:FuncData):Prop where
  ex:∃ (oc:Value) (od:Option Addr) (kV doc pm:Value) (an:Option Addr) (cdv ct:Value) (osl:Array (Option Value)),
    fd=PySem.W.fnOf x qual (defArgs st) (defBody st) (defScope st) .none kV doc pm an cdv ct∧K.lookup f=some ⟨oc,od,.func fd,osl⟩∧PySem.W.codeIn K cdv qual=true
  kp:PySem.W.keepIn K (.ref f)=true
section
variable {P:Program} {w:World} {K:PySem.W.Frag} {mg:Str→Option Value} {base:Heap}
theorem Fun.ok {x qual:Str} {st:Stmt} {f:Addr} {fd:FuncData} {N ps:List Str} {k:Nat} {sp:Sp} (F:Fun K x qual st f fd) (S:FnScope N ps (defScope st)) (len:∀ vs H Q E,sp vs H Q E→vs.length=ps.length)
    (hbody:∀ (cdv:Value) (A:Around) (outer:List Env) (s:Shared) (H:Hp) (vs:List V) (Q:VK) (E:XK),Room k (A.deeper (envOfC qual (defScope st) s.heap.objs.size f cdv))→sp vs H Q E →
      ∃ t,PSs (cxOf CX0 P w K mg base N qual (defScope st) f cdv A outer s H E).nox (defBody st) t∧t { nx:=fun _ H'=>Q .non H',rt:=Q } (start N vs) H):FnOk P w K mg base CX0 (k+1) f fd ps sp:=by
  obtain ⟨oc,od,kV,doc,pm,an,cdv,ct,osl,rfl,lk,hcd⟩:=F.ex
  refine fn_of lk hcd S len fun A outer s H vs Q E hr hsp=>?_
  obtain ⟨t,h,q⟩:=hbody cdv A outer s H vs Q E hr hsp
  exact ⟨t,h.nox,q⟩
theorem Fun.binds {x qual:Str} {st:Stmt} {f:Addr} {fd:FuncData} {ps:List Str} (F:Fun K x qual st f fd)
    (h:∀ (kV doc pm:Value) (an:Option Addr) (cdv ct:Value) (us:List Value),us.length=ps.length→bindArgs (PySem.W.fnOf x qual (defArgs st) (defBody st) (defScope st) .none kV doc pm an cdv ct) ⟨us,[]⟩=pure (ps.zip us)):Binds K fd ps []:=by
  obtain ⟨oc,od,kV,doc,pm,an,cdv,ct,osl,rfl,lk,hcd⟩:=F.ex
  exact .all (h kV doc pm an cdv ct)
theorem fun_mk {x qual:Str} {st:Stmt} {f:Addr} {oc:Value} {od an:Option Addr} {osl:Array (Option Value)} {kV doc pm cdv ct:Value} (l:K.lookup f=some ⟨oc,od,.func (PySem.W.fnOf x qual (defArgs st) (defBody st) (defScope st) .none kV doc pm an cdv ct),osl⟩)
    (c:PySem.W.codeIn K cdv qual=true) (k:PySem.W.keepIn K (.ref f)=true):Fun K x qual st f (PySem.W.fnOf x qual (defArgs st) (defBody st) (defScope st) .none kV doc pm an cdv ct):=⟨⟨oc,od,kV,doc,pm,an,cdv,ct,osl,rfl,l,c⟩,k⟩
end
theorem hu_of {A:Around} {k:Nat} (hr:Room k A):A.units+1<cLine:=Nat.lt_of_le_of_lt (Nat.add_le_add_left (by decide:1≤64) _) hr.units
theorem small1000 {n:Nat} (h:n≤1000):n<sizeLine:=Nat.lt_of_le_of_lt h (by decide)
section
variable {X:Cx}
theorem pv (i:Nat) {x:Str} {pos:Pos} (hN:X.N[i]?=some x:=by rfl) (hv:Vis X.env.scope x:=by first | exact Or.inl rfl | exact Or.inr (Or.inl rfl) | exact Or.inr (Or.inr rfl)) (hd:(x == ("__debug__" : Str))=false:=by decide)
    (hcd:(x == ("__classdict__" : Str))=false:=by decide):PE X (.Name x pos) (tVar i):=pe_var hN hv hd hcd
end
def Same (H H':Hp):Prop:=∀ b o,H b=some o→H' b=some o
theorem Same.refl (H:Hp):Same H H:=fun _ _ h=>h
theorem Same.trans {H H1 H2:Hp} (a:Same H H1) (b:Same H1 H2):Same H H2:=fun c o h=>b c o (a c o h)
theorem Same.free {H H':Hp} (e:Same H H') {l:Addr} (h:H' l=Option.none):H l=Option.none:=by
  cases q:H l with
  | none=>rfl
  | some o =>
    rw [e l o q] at h
    cases h
theorem Same.seq {K:PySem.W.Frag} {H H':Hp} {a:Addr} {xs:List V} (e:Same H H') (h:SqL K H a xs):SqL K H' a xs:=by
  rcases h with (h | ⟨o,h⟩) | h
  · exact .inl (.inl (e _ _ h))
  · exact .inl (.inr ⟨o,e _ _ h⟩)
  · exact .inr h
end L2
set_option Elab.async false
set_option linter.all false
set_option maxRecDepth 100000
set_option maxHeartbeats 4000000
namespace L2
open PySem PySem.Spec PyProof.Rows
def cxIn (X:Cx) (N:List Str) (scope:Scope) (cl:List (Str×Addr)) (C:Addr) (s0:Shared) (H0:Hp) (fp:List Addr) (pins:List (Addr×Obj)):Cx :=
  { X with N:=N,s₀:=s0,H₀:=H0,env:=compEnvC scope cl C X.env,outer:=X.stack,stack:=X.stack,ex:=fp,fn:=fun x=>scope.names.lookup x == some .cell,pn:=X.pn++pins,xe:=fun _ _=>False }
theorem closure_for {env:Env}:∀ (names:List (Str×NameKind)) (acc:List (Str×Addr)),(∀ p∈names,p.2=.free→∃ c,env.cells.lookup p.1=some c)→(∀ x c,acc.lookup x=some c→env.cells.lookup x=some c) →
    ∃ cl,(forIn names acc fun (x:Str×NameKind) cs=>(match x with | (name,kind)=>if (kind == NameKind.free)=true then do let a ← cellOf env name; pure (ForInStep.yield ((name,a) :: cs)) else pure (ForInStep.yield cs):Sem (ForInStep (List (Str×Addr)))))=(pure cl:Sem (List (Str×Addr))) ∧
      (∀ x c,cl.lookup x=some c→env.cells.lookup x=some c)∧(∀ x c,acc.lookup x=some c→cl.lookup x=some c)∧∀ p∈names,p.2=.free→∃ c,cl.lookup p.1=some c
  | [],acc,_,h=>⟨acc,rfl,h,fun _ _ e=>e,fun _ z=>nomatch z⟩
  | (n,k) :: r,acc,h,ha=>by
    by_cases hk:k=.free
    · subst hk
      obtain ⟨c,hc⟩:=h (n,.free) List.mem_cons_self rfl
      have ha':∀ x d,((n,c) :: acc).lookup x=some d→env.cells.lookup x=some d:=fun x d e=>by
        rw [List.lookup_cons] at e
        cases q:x == n with
        | true =>
          rw [q] at e
          have hxn:x=n:=by simpa using q
          subst hxn
          cases e
          exact hc
        | false =>
          rw [q] at e
          exact ha x d e
      obtain ⟨cl,e1,e2,e3,e4⟩:=closure_for r ((n,c) :: acc) (fun p hp=>h p (List.mem_cons_of_mem _ hp)) ha'
      have top:∃ d,cl.lookup n=some d:=⟨c,e3 n c (by rw [List.lookup_cons]; simp)⟩
      refine ⟨cl,?_,e2,fun x d e=>?_,fun p hp hf=>?_⟩
      · rw [List.forIn_cons]
        simp only [cellOf,hc,beq_self_eq_true,if_true]
        exact e1
      · cases q:x == n with
        | true =>
          have hxn:x=n:=by simpa using q
          subst hxn
          have z:=ha x d e
          rw [hc] at z; cases z
          exact e3 x c (by rw [List.lookup_cons]; simp)
        | false=>exact e3 x d (by rw [List.lookup_cons,q]; exact e)
      · rcases List.mem_cons.mp hp with rfl | hp
        · exact top
        · exact e4 p hp hf
    · obtain ⟨cl,e1,e2,e3,e4⟩:=closure_for r acc (fun p hp=>h p (List.mem_cons_of_mem _ hp)) ha
      have hb:(k == NameKind.free)=false:=by simpa using hk
      refine ⟨cl,?_,e2,e3,fun p hp hf=>?_⟩
      · rw [List.forIn_cons]
        simp only [hb,Bool.false_eq_true,if_false]
        exact e1
      · rcases List.mem_cons.mp hp with rfl | hp
        · exact absurd hf hk
        · exact e4 p hp hf
theorem lookup_keep {α:Type} (f:Str→α→α) (x:Str):∀ l:List (Str×α),(l.map fun p=>(p.1,f p.1 p.2)).lookup x=(l.lookup x).map (f x)
  | []=>rfl
  | (n,k) :: r=>by
    have ih:=lookup_keep f x r
    rw [List.map_cons,List.lookup_cons,List.lookup_cons]
    cases q:x == n with
    | true =>
      have e:x=n:=by simpa using q
      subst e
      rfl
    | false=>exact ih
def kindIn (env:Env) (n:Str) (k:NameKind):NameKind:=if (k == NameKind.free && env.scope.kind == .function && env.kindOf n == some .cell)=true then .cell else k
theorem relabel_look (scope:Scope) (env:Env) (x:Str):(relabel scope env).names.lookup x=(scope.names.lookup x).map (kindIn env x):=by
  rw [← lookup_keep (kindIn env) x scope.names]
  show (scope.names.map _).lookup x=_
  congr 1
  refine List.map_congr_left fun p _=>?_
  show (if _ then _ else _)=_
  unfold kindIn
  split <;> rfl
theorem kindIn_cases (env:Env) (n:Str) (k:NameKind):kindIn env n k=k∨(k=.free∧kindIn env n k=.cell):=by
  unfold kindIn
  by_cases h:(k == NameKind.free && env.scope.kind == .function && env.kindOf n == some .cell)=true
  · refine .inr ⟨?_,if_pos h⟩
    rw [Bool.and_eq_true,Bool.and_eq_true] at h
    exact beq_iff_eq.mp h.1.1
  · exact .inl (if_neg h)
theorem lookup_relabel_kind {scope:Scope} {env:Env} {x:Str} {k:NameKind} (h:scope.names.lookup x=some k) :
    (relabel scope env).names.lookup x=some k∨(k=.free∧(relabel scope env).names.lookup x=some .cell):=by
  rw [relabel_look,h]
  rcases kindIn_cases env x k with q | ⟨q,q'⟩
  · exact .inl (congrArg some q)
  · exact .inr ⟨q,congrArg some q'⟩
theorem relabel_back {scope:Scope} {env:Env} {x:Str} {k:NameKind} (h:(relabel scope env).names.lookup x=some k):∃ k',scope.names.lookup x=some k'∧(k'=k∨k'=.free):=by
  rw [relabel_look] at h
  cases q:scope.names.lookup x with
  | none=>rw [q] at h; cases h
  | some k' =>
    rw [q] at h
    have h':kindIn env x k'=k:=Option.some.inj h
    rcases kindIn_cases env x k' with z | ⟨z,_⟩
    · exact ⟨k',rfl,.inl (z.symm.trans h')⟩
    · exact ⟨k',rfl,.inr z⟩
theorem lookup_mem {α:Type} {x:Str}:∀ {l:List (Str×α)} {k:α},l.lookup x=some k→(x,k)∈l
  | [],_,h=>by simp at h
  | (n,k) :: r,k',h=>by
    rw [List.lookup_cons] at h
    cases hx:x == n with
    | true =>
      rw [hx] at h; cases h
      have:x=n:=by simpa using hx
      subst this
      exact List.mem_cons_self
    | false =>
      rw [hx] at h
      exact List.mem_cons_of_mem _ (lookup_mem h)
theorem comp_loop {prog:Program} {w:World} {A:Around} {s:Shared} {elt target iter:PySem.Expr} {ifs:List PySem.Expr} {scope:Scope} {pos:Pos} {it acc:Value} {env:Env} {R:Result→Shared→Prop} (I:Nat→Shared→Prop)
    (turn:∀ n s,I n s→wpAny (model prog w) A (pyNext it) (fun r s1=>match r with
      | none=>R (.ok .next) s1
      | some v=>wpAny (model prog w) A (letOwnedTupleGo target it v) (fun _ s0=>wpAny (model prog w) A (assign target env v) (fun _ s2 =>
          wpAny (model prog w) A (forIn ifs true fun c r=>if r=true then do let ok ← isTrue c env (eval c env); pure (ForInStep.yield ok) else pure (ForInStep.yield r)) (fun ok s3 =>
            if ok=true then wpAny (model prog w) A (eval elt env) (fun x s4 =>
              wpAny (model prog w) A (call (.builtin "list.append") [acc,x]) (fun _ s5=>∃ m,m<n∧I m s5) (fun _ _=>False) s4) (fun _ _=>False) s3
            else ∃ m,m<n∧I m s3) (fun _ _=>False) s2) (fun _ _=>False) s0) (fun _ _=>False) s1) (fun _ _=>False) s)
    (n:Nat) (h:I n s):codeAny (model prog w) A (.compLoop (.ListComp elt [⟨target,iter,ifs,0⟩] scope pos) 0 it acc env) R s:=by
  have body:∀ n s,I n s→wpAny (model prog w) A (compTurn (.ListComp elt [⟨target,iter,ifs,0⟩] scope pos) 0 it acc env)
      (fun fin s'=>match fin with | .done f=>R (.ok f) s' | .again c=>c=.compLoop (.ListComp elt [⟨target,iter,ifs,0⟩] scope pos) 0 it acc env∧∃ m,m<n∧I m s') (fun _ _=>False) s:=fun n s hI=>by
    rw [compTurn_list]
    refine wpAny_bind (wpAny_standAt (wpAny_bind (thn (turn n s hI) fun r s1 h1=>?_)))
    cases r with
    | none=>exact wpAny_pure h1
    | some v =>
      refine wpAny_bind (thn h1 fun _ s0 h0=>wpAny_bind (thn h0 fun _ s2 h2=>wpAny_bind (thn h2 fun ok s3 h3=>?_)))
      cases ok with
      | true=>exact wpAny_bind (wpAny_bind (thn h3 fun x s4 h4=>wpAny_bind (thn h4 fun _ s5 h5=>wpAny_pure (wpAny_pure ⟨rfl,h5⟩))))
      | false=>exact wpAny_pure ⟨rfl,h3⟩
  exact codeAny_loop rfl I (fun n s hI=>wpAny_noted (wpAny_mono (body n s hI) (fun _ _ q=>q) fun _ _ q=>q.elim)) n h
def tComp (own:Nat) (js:List Nat) (wi:TI) (g:TG) (tc:TT) (te:TE):TE:=fun σ H Q=>wi σ H fun J H1=>∀ l,H1 l=none →
  ∃ W:Nat→Nat→List V→St→Hp→Prop,(∃ m,W 0 m [] (List.replicate own none++js.map fun j=>(σ[j]?).join) (upd H1 l (.lst [])))∧∀ i m ys σ' H',W i m ys σ' H' →
    (J.stop i H'∧Q (.ref l) H')∨(J.go i H'∧∀ x H2,J.yld i H' x H2→g x σ' H2 fun σ2 H3=>tc σ2 H3 fun b H4 =>
      if b=true then te σ2 H4 fun y H5=>H5 l=some (.lst ys)∧ys.length<sizeLine∧∃ m',m'<m∧W (i+1) m' (ys++[y]) σ2 (upd H5 l (.lst (ys++[y])))
      else ∃ m',m'<m∧W (i+1) m' ys σ2 H4)
def tTrue:TT:=fun _ H Q=>Q true H
structure CompOk (X:Cx) (scope:Scope) (N:List Str) (own:Nat) (js:List Nat):Prop where
  kind:scope.kind=.function
  cell:∀ y∈scope.names,y.2=.cell→scope.names.lookup y.1=some .cell
  names:∀ y∈scope.names,y.2=.local→scope.names.lookup y.1=some .local
  free:∀ y∈scope.names,y.2=.free→X.env.kindOf y.1=some .cell∨X.env.kindOf y.1=some .free
  len:N.length=own+js.length
  js:∀ k j,js[k]?=some j→N[own+k]?=X.N[j]?
  jf:∀ k x,N[own+k]?=some x→scope.names.lookup x=some .free
theorem Un.but {fs ex:List Addr} {H H':Hp} {h h1 h2:Heap} {C:Addr} (u:Un fs ex H H' h h1) (hc:h.objs.size≤C) (sb:∀ b o,b≠C→h1.get? b=some o→h2.get? b=some o):Un fs ex H H' h h2:=by
  have ne:∀ b o,h.get? b=some o→b≠C:=fun b o e=>Nat.ne_of_lt (Nat.lt_of_lt_of_le (Heap.lt_size e) hc)
  refine ⟨fun b o q n hb hx=>sb b o (ne b o q) (u.keep b o q n hb hx),fun b o q n hb hx=>?_,u.free,fun b o q hx=>?_,u.tups,u.frzs,u.tbls⟩
  · obtain ⟨sl,e⟩:=u.slot b o q n hb hx
    exact ⟨sl,sb b _ (ne b o q) e⟩
  · obtain ⟨o',e⟩:=u.there b o q hx
    exact ⟨o',sb b o' (ne b o q) e⟩
theorem cf_app:∀ (names:List (Str×NameKind)) (n:Nat) (acc:List (Str×Addr)),cellsFrom n names acc=cellsFrom n names []++acc
  | [],_,_=>rfl
  | (x,k) :: r,n,acc=>by
    unfold cellsFrom
    by_cases hk:(k == NameKind.cell)=true
    · rw [if_pos hk,if_pos hk,cf_app r (n+1) ((x,n) :: acc),cf_app r (n+1) [(x,n)],List.append_assoc]
      rfl
    · rw [if_neg hk,if_neg hk]
      exact cf_app r n acc
theorem cf_from:∀ (names:List (Str×NameKind)) (n:Nat) (x:Str) (c:Addr),(x,c)∈cellsFrom n names []→(x,NameKind.cell)∈names
  | [],_,_,_,h=>nomatch h
  | (y,k) :: r,n,x,c,h=>by
    unfold cellsFrom at h
    by_cases hk:(k == NameKind.cell)=true
    · rw [if_pos hk,cf_app] at h
      rcases List.mem_append.mp h with q | q
      · exact List.mem_cons_of_mem _ (cf_from r _ x c q)
      · have e:(x,c)=(y,n):=by simpa using q
        cases e
        have hk':k=.cell:=by simpa using hk
        subst hk'
        exact List.mem_cons_self
    · rw [if_neg hk] at h
      exact List.mem_cons_of_mem _ (cf_from r _ x c h)
theorem lookup_of_mem {α:Type}:∀ {l:List (Str×α)} {x:Str} {c:α},(x,c)∈l→∃ d,l.lookup x=some d
  | (y,v) :: r,x,c,h=>by
    rw [List.lookup_cons]
    cases q:x == y with
    | true=>exact ⟨v,rfl⟩
    | false =>
      rcases List.mem_cons.mp h with e | e
      · cases e; simp at q
      · exact lookup_of_mem e
theorem cf_has:∀ (names:List (Str×NameKind)) (n:Nat) (x:Str),(x,NameKind.cell)∈names→∃ c,(x,c)∈cellsFrom n names []
  | [],_,_,h=>nomatch h
  | (y,k) :: r,n,x,h=>by
    unfold cellsFrom
    rcases List.mem_cons.mp h with e | e
    · cases e
      rw [if_pos (show (NameKind.cell == NameKind.cell)=true from rfl),cf_app]
      exact ⟨n,List.mem_append_right _ (by simp)⟩
    · by_cases hk:(k == NameKind.cell)=true
      · rw [if_pos hk,cf_app]
        obtain ⟨c,q⟩:=cf_has r (n+1) x e
        exact ⟨c,List.mem_append_left _ q⟩
      · rw [if_neg hk]
        exact cf_has r n x e
theorem lookup_two {α:Type}:∀ (l m:List (Str×α)) (x:Str),(l++m).lookup x=match l.lookup x with | some c=>some c | none=>m.lookup x
  | [],m,x=>rfl
  | (y,v) :: r,m,x=>by
    rw [List.cons_append,List.lookup_cons,List.lookup_cons]
    cases x == y with
    | true=>rfl
    | false=>exact lookup_two r m x
theorem newEnv_cells {M:Model} {A:Around} {E:Value→Shared→Prop} {s:Shared} {scope:Scope} {globals:Addr} {cl:List (Str×Addr)} {qual:Str} {env:Env} {Q:Env→Shared→Prop}
    (h:Q (newEnv scope s.heap.objs.size globals (cellsFrom (s.heap.objs.size+1) scope.names cl) qual none .none (some env) builtinsNs) { s with heap:=pushCells (s.heap.push { cls:=.type "dict",data:=.dict #[] }) scope.names }) :
    wpAny M A (newFunctionEnv scope globals cl [] qual none .none (some env)) Q E s:=by
  simp only [newFunctionEnv,Option.isSome_some,if_true]
  refine wpAny_bind (wpAny_alloc (wpAny_bind (wpAny_layCells _ (fun name kind cells=>by cases hkc:kind == NameKind.cell <;> simp [hkc]) _ _ _ _ ?_)))
  rw [show ({ s with heap:=s.heap.push { cls:=.type "dict",data:=.dict #[] } }:Shared).heap.objs.size=s.heap.objs.size+1 from Heap.size_push ..]
  rw [List.forIn_nil]
  exact wpAny_bind (wpAny_pure (wpAny_pure h))
structure CellsIn (X:Cx) (scope:Scope) (cl':List (Str×Addr)) (n:Nat) (h':Heap):Prop where
  k1:∀ x c,cl'.lookup x=some c→X.env.cells.lookup x=some c∨(n<c∧h'.IsCell c none∧(x,NameKind.cell)∈scope.names)
  k2:∀ x,scope.names.lookup x=some .free→∃ c,cl'.lookup x=some c∧X.env.cells.lookup x=some c
  k3:∀ p∈scope.names,p.2=.cell∨p.2=.free→∃ c,cl'.lookup p.1=some c
  k4:∀ x y c,cl'.lookup x=some c→cl'.lookup y=some c→x=y
  k5:∀ x c,scope.names.lookup x=some .cell→cl'.lookup x=some c→n<c
section
variable {X:Cx} {scope:Scope} {N:List Str} {own:Nat} {js:List Nat}
theorem cellsIn_mk {cl:List (Str×Addr)} {n:Nat} {h0:Heap} (c:CompOk X scope N own js) (cl1:∀ x c,cl.lookup x=some c→X.env.cells.lookup x=some c) (cl2:∀ p∈scope.names,p.2=.free→∃ c,cl.lookup p.1=some c)
    (inj:∀ x y c,X.env.cells.lookup x=some c→X.env.cells.lookup y=some c→x=y) (lt:∀ x c,X.env.cells.lookup x=some c→c<n) (hn:h0.objs.size=n+1):CellsIn X scope (cellsFrom (n+1) scope.names cl) n (pushCells h0 scope.names):=by
  have ok:=cellsFrom_ok scope.names h0 (n+1) [] ⟨fun _ _ hm=>(nomatch hm),List.Pairwise.nil⟩ (by rw [hn]; exact Nat.le_refl _)
  rw [hn] at ok
  have two:∀ x,(cellsFrom (n+1) scope.names cl).lookup x=match (cellsFrom (n+1) scope.names []).lookup x with | some c=>some c | none=>cl.lookup x:=fun x=>by
    rw [cf_app,lookup_two]
    cases (cellsFrom (n+1) scope.names []).lookup x <;> rfl
  have own':∀ x d,(cellsFrom (n+1) scope.names []).lookup x=some d→(pushCells h0 scope.names).IsCell d none∧n<d∧(x,NameKind.cell)∈scope.names:=fun x d e =>
    ⟨(ok.empty x d (mem_of_lookup e)).1,(ok.empty x d (mem_of_lookup e)).2,cf_from _ _ x d (mem_of_lookup e)⟩
  have part:∀ x d,(cellsFrom (n+1) scope.names cl).lookup x=some d→(cellsFrom (n+1) scope.names []).lookup x=some d∨((cellsFrom (n+1) scope.names []).lookup x=none∧cl.lookup x=some d):=fun x d e=>by
    rw [two] at e
    cases q:(cellsFrom (n+1) scope.names []).lookup x with
    | some d'=>rw [q] at e; exact .inl e
    | none=>rw [q] at e; exact .inr ⟨rfl,e⟩
  have has:∀ x,(x,NameKind.cell)∈scope.names→∃ d,(cellsFrom (n+1) scope.names []).lookup x=some d:=fun x m=>by
    obtain ⟨d,q⟩:=cf_has scope.names (n+1) x m
    exact lookup_of_mem q
  refine ⟨fun x d e=>?_,fun x e=>?_,fun p hp hk=>?_,fun x y d e1 e2=>?_,fun x d e1 e2=>?_⟩
  · rcases part x d e with q | ⟨_,q⟩
    · exact .inr ⟨(own' x d q).2.1,(own' x d q).1,(own' x d q).2.2⟩
    · exact .inl (cl1 x d q)
  · obtain ⟨d,q⟩:=cl2 _ (lookup_mem e) rfl
    have no:(cellsFrom (n+1) scope.names []).lookup x=none:=by
      cases z:(cellsFrom (n+1) scope.names []).lookup x with
      | none=>rfl
      | some d' =>
        have y:=c.cell _ (own' x d' z).2.2 rfl
        rw [show scope.names.lookup x=_ from e] at y
        cases y
    exact ⟨d,by rw [two,no]; exact q,cl1 x d q⟩
  · rw [two]
    cases z:(cellsFrom (n+1) scope.names []).lookup p.1 with
    | some d'=>exact ⟨d',rfl⟩
    | none =>
      rcases hk with hk | hk
      · obtain ⟨d,q⟩:=has p.1 (by rw [← hk]; exact hp)
        rw [z] at q; cases q
      · exact cl2 p hp hk
  · rcases part x d e1 with q1 | ⟨_,q1⟩
    · rcases part y d e2 with q2 | ⟨_,q2⟩
      · exact name_of_addr ok.apart (mem_of_lookup q1) (mem_of_lookup q2)
      · exact absurd (Nat.lt_trans (own' x d q1).2.1 (lt y d (cl1 y d q2))) (Nat.lt_irrefl _)
    · rcases part y d e2 with q2 | ⟨_,q2⟩
      · exact absurd (Nat.lt_trans (own' y d q2).2.1 (lt x d (cl1 x d q1))) (Nat.lt_irrefl _)
      · exact inj x y d (cl1 x d q1) (cl1 y d q2)
  · obtain ⟨d',q⟩:=has x (lookup_mem e1)
    rw [two,q] at e2
    cases e2
    exact (own' x d q).2.1
theorem comp_start {pins:List (Addr×Obj)} {σ:St} {H:Hp} {s:Shared} {cl:List (Str×Addr)} {fp:List Addr} {h':Heap} {t':Nat} (c:CompOk X scope N own js) (I:Inv X pins σ H s) (hf:∀ b∈fp,FpOk X pins H b)
    (fo:∀ b∈fp,b<s.heap.objs.size)
    (ci:CellsIn X scope cl s.heap.objs.size h')
    (hn:h'.Ns s.heap.objs.size (fun _=>none)) (hk:∀ b o,s.heap.get? b=some o→h'.get? b=some o) :
    Inv (cxIn X N scope cl s.heap.objs.size s H fp pins) [] (List.replicate own none++js.map fun j=>(σ[j]?).join) H { s with heap:=h',toks:=t' }:=by
  have cne:∀ x c,cl.lookup x=some c→c≠s.heap.objs.size:=fun x c e=>by
    rcases ci.k1 x c e with q | ⟨q,_⟩
    · obtain ⟨v,q⟩:=I.cell x c q
      exact Nat.ne_of_lt q.lt
    · exact Nat.ne_of_gt q
  have ok:(cxIn X N scope cl s.heap.objs.size s H fp pins).Ok:=by
    refine ⟨I.ok.mod,c.kind,I.ok.glob,I.ok.blt,Nat.le_refl _,ci.k4,fun x hx=>?_,fun x d z e=>Nat.le_of_lt (ci.k5 x d (beq_iff_eq.mp (show (scope.names.lookup x == some .cell)=true from z)) e),I.ok.hd,I.ok.frames,.inl rfl,fun b hb=>⟨Nat.ne_of_lt (fo b hb),fun x d e=>(ci.k1 x d e).elim (fun q=>(hf b hb).2.2.2.2.1 x d q) fun q=>Nat.ne_of_gt (Nat.lt_trans (fo b hb) q.1)⟩,I.bs,
      Nat.le_trans I.ok.bsz I.sz,fun b o e hb=>?_,fun b hb z=>?_,I.stack,I.stkFree⟩
    · have back:∀ k,(relabel scope X.env).names.lookup x=some k→k=.cell∨k=.free→∃ k',(x,k')∈scope.names∧(k'=NameKind.cell∨k'=NameKind.free):=fun k e hk=>by
        obtain ⟨k',e',z⟩:=relabel_back e
        refine ⟨k',lookup_mem e',?_⟩
        rcases z with z | z
        · subst z; exact hk
        · exact .inr z
      obtain ⟨k',m,hk'⟩:∃ k',(x,k')∈scope.names∧(k'=NameKind.cell∨k'=NameKind.free):=by
        rcases hx with hx | hx
        · exact back _ hx (.inl rfl)
        · exact back _ hx (.inr rfl)
      exact ci.k3 _ m hk'
    · rcases (hf b hb).2.2.2.1 with z | z
      · exact I.ok.noex b o e z
      · exact absurd (Nat.lt_of_lt_of_le (Nat.lt_of_lt_of_le (Heap.lt_size e) I.ok.bsz) z) (Nat.lt_irrefl _)
    · rcases List.mem_cons.mp (I.stkSub b z) with q | q
      · exact (hf b hb).2.1 q
      · exact (hf b hb).2.2.1 q
  refine ⟨ok,rfl,I.bare,Un.kept hk,⟨_,hn,fun i x v e1 e2 e3=>?_⟩,fun x d e=>?_,I.hok.fresh (Nat.le_refl _),fun x d e=>(ci.k1 x d e).elim (fun q=>I.freeC x d q) fun q=>I.hok.fresh (Nat.le_of_lt q.1),fun p hp=>?_,I.hok.kept hk,?_⟩
  · -- a name with a value is one that the block closes over
    have hi:own≤i:=by
      by_cases hi:i<own
      · rw [List.getElem?_append_left (by simpa using hi),List.getElem?_replicate] at e2
        split at e2 <;> cases e2
      · omega
    obtain ⟨k,rfl⟩:∃ k,i=own+k:=⟨i - own,by omega⟩
    rw [List.getElem?_append_right (by simp),List.length_replicate,Nat.add_sub_cancel_left,List.getElem?_map] at e2
    cases q:js[k]? with
    | none=>rw [q] at e2; cases e2
    | some j =>
      rw [q] at e2
      have e2':(σ[j]?).join=some v:=by simpa using e2
      have e4:σ[j]?=some (some v):=by
        cases z:σ[j]? with
        | none=>rw [z] at e2'; cases e2'
        | some o=>rw [z] at e2'; rw [show o=some v from e2']
      have e1':N[own+k]?=some x:=e1
      have hXN:X.N[j]?=some x:=(c.js k j q).symm.trans e1'
      have hfr:=c.jf k x e1'
      have hmem:=lookup_mem hfr
      have hk2:=c.free _ hmem rfl
      have vis:Vis X.env.scope x:=by
        rcases hk2 with z | z
        · exact .inr (.inl z)
        · exact .inr (.inr z)
      obtain ⟨m,_,hl⟩:=I.loc
      obtain ⟨u,r,l⟩:=hl j x v hXN e4 vis
      refine ⟨u,r,?_⟩
      rcases l with ⟨z,_⟩ | ⟨_,d,e,⟨od,ho,hd⟩⟩
      · rcases hk2 with y | y
        · rw [show X.env.kindOf x=_ from z] at y; cases y
        · rw [show X.env.kindOf x=_ from z] at y; cases y
      · obtain ⟨d',e',z'⟩:=ci.k2 x hfr
        have:d'=d:=by have z:=z'; rw [e] at z; exact (Option.some.inj z).symm
        subst this
        refine .inr ⟨?_,d',e',⟨od,hk _ _ ho,hd⟩⟩
        rcases lookup_relabel_kind (scope:=scope) (env:=X.env) hfr with z | ⟨_,z⟩
        · exact .inr z
        · exact .inl z
  · rcases ci.k1 x d e with q | ⟨_,q,_⟩
    · obtain ⟨v,⟨o,ho,hd⟩⟩:=I.cell x d q
      exact ⟨v,o,hk _ _ ho,hd⟩
    · exact ⟨none,q⟩
  · have hp':p∈X.pn++pins:=by
      have z:p∈(X.pn++pins)++[]:=hp
      rwa [List.append_nil] at z
    obtain ⟨a1,a2,a3,a4,a5⟩:=I.pin p hp'
    refine ⟨hk _ _ a1,a2,Nat.ne_of_lt (Heap.lt_size a1),fun z=>?_,a5⟩
    rcases List.mem_cons.mp (I.stkSub p.1 z) with q | q
    · exact a3 q
    · exact a4 q
  · show _=N.length
    rw [c.len]; simp
theorem comp_block {pins:List (Addr×Obj)} {σ:St} {H:Hp} {s:Shared} {elt target iter:PySem.Expr} {ifs:List PySem.Expr} {pos:Pos} {it:Addr} {fp:List Addr} {tn:Nat→Heap→Prop} {J:It} {cl:List (Str×Addr)} {g:TG} {tc:TT} {te:TE} {E:Value→Shared→Prop} {Q:VK}
    {RR:Value→Addr→Result→Shared→Prop}
    (c:CompOk X scope N own js) (hc:X.calm=true) (I:Inv X pins σ H s) (T:Turn X.prog X.w X.K target J fp it tn) (st:tn 0 s.heap) (hf:∀ b∈fp,FpOk X pins H b)
    (cl1:∀ x c,cl.lookup x=some c→X.env.cells.lookup x=some c) (cl2:∀ p∈scope.names,p.2=.free→∃ c,cl.lookup p.1=some c)
    (hg:∀ cl C s0 H0 fp pins,PG (cxIn X N scope cl C s0 H0 fp pins) target g)
    (ht:∀ cl C s0 H0 fp pins pins' s σ H Q,Inv (cxIn X N scope cl C s0 H0 fp pins) pins' σ H s→tc σ H Q→wpAny (model X.prog X.w) X.A (forIn ifs true fun c r=>if r=true then do let ok ← isTrue c (compEnvC scope cl C X.env) (eval c (compEnvC scope cl C X.env)); pure (ForInStep.yield ok) else pure (ForInStep.yield r))
      (TP (cxIn X N scope cl C s0 H0 fp pins) pins' σ Q) (fun _ _=>False) s)
    (he:∀ cl C s0 H0 fp pins,PE (cxIn X N scope cl C s0 H0 fp pins) elt te)
    (h:∀ l,H l=none→∃ W:Nat→Nat→List V→St→Hp→Prop,(∃ m,W 0 m [] (List.replicate own none++js.map fun j=>(σ[j]?).join) (upd H l (.lst [])))∧∀ i m ys σ' H',W i m ys σ' H' →
      (J.stop i H'∧Q (.ref l) H')∨(J.go i H'∧∀ x H2,J.yld i H' x H2→g x σ' H2 fun σ2 H3=>tc σ2 H3 fun b H4 =>
        if b=true then te σ2 H4 fun y H5=>H5 l=some (.lst ys)∧ys.length<sizeLine∧∃ m',m'<m∧W (i+1) m' (ys++[y]) σ2 (upd H5 l (.lst (ys++[y])))
        else ∃ m',m'<m∧W (i+1) m' ys σ2 H4))
    (hRR:∀ l C H' s' m',s.heap.objs.size≤C→s'.heap.Ns C m'→H' C=none→C≠X.env.locals→C∉X.fs→(∀ h2,Heap.SameBut C s'.heap h2→Inv X pins σ H' { s' with heap:=h2 })→Q (.ref l) H'→RR (.ref l) C (.ok .next) s') :
    wpAny (model X.prog X.w) X.A (newList []) (fun acc s3=>wpAny (model X.prog X.w) X.A (newFunctionEnv scope X.env.globals cl [] X.env.qual none .none (some X.env)) (fun cenv s4 =>
      codeAny (model X.prog X.w) X.A (.compStart (.ListComp elt [⟨target,iter,ifs,0⟩] scope pos) 0 (.ref it) acc { cenv with scope:=relabel scope X.env }) (RR acc cenv.locals) s4) E s3) E s:=by
  have I2:Inv X pins σ (upd H s.heap.objs.size (.lst [])) { s with heap:=s.heap.push { cls:=.type "list",dict:=none,data:=.seq ([]:List Value).toArray },toks:=s.toks }:=I.lnew (ys:=[]) .nil (Nat.zero_le _)
  obtain ⟨W,⟨m0,w0⟩,turn⟩:=h s.heap.objs.size I.fresh
  refine wpAny_newObj_type (newEnv_cells ?_)
  dsimp only
  generalize hS:({ s with heap:=s.heap.push { cls:=.type "list",dict:=none,data:=.seq ([]:List Value).toArray },toks:=s.toks }:Shared)=s2 at I2
  have e2:s2.heap=s.heap.push { cls:=.type "list",dict:=none,data:=.seq ([]:List Value).toArray }:=by rw [← hS]
  have sz2:s2.heap.objs.size=s.heap.objs.size+1:=by rw [e2,Heap.size_push]
  rw [← e2]
  have ci:=cellsIn_mk (h0:=s2.heap.push { cls:=.type "dict",data:=.dict #[] }) (n:=s2.heap.objs.size) c cl1 cl2 I2.ok.inj (fun x d e=>by obtain ⟨v,q⟩:=I2.cell x d e; exact q.lt) (Heap.size_push ..)
  have hns1':(pushCells (s2.heap.push { cls:=.type "dict",data:=.dict #[] }) scope.names).Ns s2.heap.objs.size (fun _=>none):=(Heap.Ns.new s2.heap (.type "dict")).keeps (pushCells_keeps _ _)
  have old:∀ b o,s2.heap.get? b=some o→(pushCells (s2.heap.push { cls:=.type "dict",data:=.dict #[] }) scope.names).get? b=some o:=fun b o e=>pushCells_keeps _ _ b o (Heap.get?_push_of_some _ e)
  generalize pushCells (s2.heap.push { cls:=.type "dict",data:=.dict #[] }) scope.names=h1 at ci hns1' old ⊢
  generalize hcl:cellsFrom (s2.heap.objs.size+1) scope.names cl=cl' at ci ⊢
  have lt1:∀ b,b∈fp→b<s.heap.objs.size:=fun b hb=>by
    obtain ⟨o,e,_⟩:=T.obj 0 _ st b hb
    exact Heap.lt_size e
  have hf2:∀ b∈fp,FpOk X pins (upd H s.heap.objs.size (.lst [])) b:=fun b hb=>⟨by rw [upd_ne (Nat.ne_of_lt (lt1 b hb))]; exact (hf b hb).1,(hf b hb).2⟩
  have lt2:∀ b∈fp,b<s2.heap.objs.size:=fun b hb=>by rw [sz2]; exact Nat.lt_succ_of_lt (lt1 b hb)
  have st2:tn 0 s2.heap:=T.keep 0 _ _ st fun b _ o e=>by rw [e2]; exact Heap.get?_push_of_some _ e
  have I4:=comp_start (t':=s.toks) c I2 hf2 lt2 ci hns1' old
  have st4:tn 0 h1:=T.keep 0 _ _ st2 fun b _ o e=>old b o e
  have es:({ s2 with heap:=h1,toks:=s.toks }:Shared)={ s with heap:=h1,toks:=s.toks }:=by rw [← hS]
  rw [es] at I4
  generalize hs4:({ s with heap:=h1,toks:=s.toks }:Shared)=s4 at I4
  have st4':tn 0 s4.heap:=by rw [← hs4]; exact st4
  have loop:codeAny (model X.prog X.w) X.A (.compLoop (.ListComp elt [⟨target,iter,ifs,0⟩] scope pos) 0 (.ref it) (.ref s.heap.objs.size) (compEnvC scope cl' s2.heap.objs.size X.env)) (RR (.ref s.heap.objs.size) s2.heap.objs.size) s4:=by
    refine comp_loop (fun n s'=>∃ i ys σ' H',Inv (cxIn X N scope cl' s2.heap.objs.size s2 (upd H s.heap.objs.size (.lst [])) fp pins) [] σ' H' s'∧tn i s'.heap∧(∀ b∈fp,H' b=none)∧W i n ys σ' H') ?_ m0
      ⟨0,[],_,_,I4,st4',fun b hb=>(hf2 b hb).1,w0⟩
    rintro n s5 ⟨i,ys,σ5,H5,I5,st5,fr5,w5⟩
    have stat:∀ {H':Hp} {s':Shared} {σ':St},Inv (cxIn X N scope cl' s2.heap.objs.size s2 (upd H s.heap.objs.size (.lst [])) fp pins) [] σ' H' s'→(∀ b∈fp,H' b=none)→∀ b∈fp,FpOk (cxIn X N scope cl' s2.heap.objs.size s2 (upd H s.heap.objs.size (.lst [])) fp pins) [] H' b:=fun J' hn b hb =>
      ⟨hn b hb,(J'.ok.exf b hb).1,J'.ok.exfs b hb,.inl hb,(J'.ok.exf b hb).2,fun p hp z=>by
        have hp':p∈X.pn++pins:=by
          have q:p∈(X.pn++pins)++[]:=hp
          rwa [List.append_nil] at q
        exact (hf b hb).2.2.2.2.2 p hp' z⟩
    rcases turn i n ys σ5 H5 w5 with ⟨stop,q⟩ | ⟨go,step⟩
    · refine wpAny_mono (T.done (cxIn X N scope cl' s2.heap.objs.size s2 (upd H s.heap.objs.size (.lst [])) fp pins) rfl rfl rfl hc i [] s5 σ5 H5 (fun _ _=>False) I5 (stat I5 fr5) st5 stop) (fun r s6 ⟨hr,I6⟩=>?_) fun _ _ z=>z
      subst hr
      obtain ⟨m',hn',_⟩:=I6.loc
      have hC:s.heap.objs.size≤s2.heap.objs.size:=by rw [sz2]; exact Nat.le_succ _
      refine hRR _ _ H5 s6 m' hC hn' I6.free ?_ ?_ (fun h2 sb=>?_) q
      · exact Nat.ne_of_gt I2.lt
      · exact I2.nofs (Nat.le_refl _)
      · have u:Un (frs X.stack) fp (upd H s.heap.objs.size (.lst [])) H5 s2.heap h2:=I6.base.but (Nat.le_refl _) sb.extBut
        have z6:H5 s2.heap.objs.size=none:=I6.free
        have hok:HOk X.prog X.w H5 h2:=fun b ob e=>(I6.hok b ob e).stay (fun d w' hd z=>sb.extBut d w' (by
          rintro rfl
          rcases hd with rfl | hd
          · rw [z6] at e; cases e
          · rw [z6] at hd; cases hd) z) (fun _ z=>z) fun _ _ z=>z
        have J:=I2.call' (s':={ s6 with heap:=h2 }) (ch:=fp) (by show s6.os=s2.os; exact I6.os) u hok I6.bare fun b hb=>⟨(hf b hb).2.2.2.1,(hf b hb).2.1,(hf b hb).2.2.2.2.1,(hf b hb).2.2.2.2.2⟩
        exact J
    · refine wpAny_mono (T.item (cxIn X N scope cl' s2.heap.objs.size s2 (upd H s.heap.objs.size (.lst [])) fp pins) rfl rfl rfl hc i [] s5 σ5 H5 (fun _ _=>False) I5 (stat I5 fr5) st5 go) (fun r s6 ⟨u,hr,h6⟩=>?_) fun _ _ z=>z
      subst hr
      refine wpAny_mono h6 (fun _ s7 ⟨x,H7,I7,r7,y7,st7,fr7⟩=>?_) fun _ _ z=>z
      have I7':=I7.pinned (stat I7 fr7) (T.obj _ _ st7)
      refine wpAny_mono (hg _ _ _ _ _ _ _ s7 σ5 H7 x u _ I7' r7 (step x H7 y7)) (fun _ s8 ⟨σ8,H8,I8,q8⟩=>?_) fun _ _ z=>z
      refine wpAny_mono (ht _ _ _ _ _ _ _ s8 σ8 H8 _ I8 q8) (fun b s9 ⟨H9,I9,q9⟩=>?_) fun _ _ z=>z
      have fin:∀ {s':Shared} {H':Hp} {m':Nat} {ys':List V},Inv (cxIn X N scope cl' s2.heap.objs.size s2 (upd H s.heap.objs.size (.lst [])) fp pins) ([]++pinsAt fp s7.heap) σ8 H' s'→m'<n→W (i+1) m' ys' σ8 H' →
          ∃ m,m<n∧∃ i ys σ' H',Inv (cxIn X N scope cl' s2.heap.objs.size s2 (upd H s.heap.objs.size (.lst [])) fp pins) [] σ' H' s'∧tn i s'.heap∧(∀ b∈fp,H' b=none)∧W i m ys σ' H':=fun {s' H' m' ys'} J' hm w'=>by
        refine ⟨m',hm,i+1,ys',σ8,H',J'.unpinned,T.keep _ _ _ st7 fun b hb o e=>(J'.pin (b,o) (List.mem_append_right _ (List.mem_append_right _ (mem_pinsAt hb e)))).1,fun b hb=>?_,w'⟩
        obtain ⟨o,e,d⟩:=T.obj _ _ st7 b hb
        exact (J'.pin (b,o) (List.mem_append_right _ (List.mem_append_right _ (mem_pinsAt hb e)))).2.1
      cases b with
      | false =>
        rw [if_neg Bool.false_ne_true] at q9 ⊢
        obtain ⟨m',hm,w'⟩:=q9
        exact fin I9 hm w'
      | true =>
        rw [if_pos rfl] at q9 ⊢
        refine wpAny_mono (he _ _ _ _ _ _ _ s9 σ8 H9 _ I9 q9) (fun y s10 ⟨z,H10,I10,r10,el,ez,m',hm,w'⟩=>?_) fun _ _ z=>z
        refine wpAny_mono (mt_append (X:=cxIn X N scope cl' s2.heap.objs.size s2 (upd H s.heap.objs.size (.lst [])) fp pins) _ s10 σ8 H10 (.ref s.heap.objs.size) [z] _ [y] (fun _ H'=>H'=upd H10 s.heap.objs.size (.lst (ys++[z]))) I10 rfl (.cons r10 .nil) ⟨_,_,_,rfl,rfl,el,ez,rfl⟩) (fun _ s11 ⟨_,H11,I11,_,e11⟩=>?_) fun _ _ z=>z
        subst e11
        exact fin I11 hm w'
  have fin:codeAny (model X.prog X.w) X.A (.compStart (.ListComp elt [⟨target,iter,ifs,0⟩] scope pos) 0 (.ref it) (.ref s.heap.objs.size) (compEnvC scope cl' s2.heap.objs.size X.env)) (RR (.ref s.heap.objs.size) s2.heap.objs.size) s4 :=
    codeAny_compStart_list loop (T.self X.A 0 s4 _ _ st4' loop)
  exact fin
theorem pe_compG {elt target iter:PySem.Expr} {ifs:List PySem.Expr} {pos:Pos} {wi:TI} {g:TG} {tc:TT} {te:TE} (c:CompOk X scope N own js) (hc:X.calm=true) (hi:PI X target iter wi)
    (hg:∀ cl C s0 H0 fp pins,PG (cxIn X N scope cl C s0 H0 fp pins) target g)
    (ht:∀ cl C s0 H0 fp pins pins' s σ H Q,Inv (cxIn X N scope cl C s0 H0 fp pins) pins' σ H s→tc σ H Q→wpAny (model X.prog X.w) X.A (forIn ifs true fun c r=>if r=true then do let ok ← isTrue c (compEnvC scope cl C X.env) (eval c (compEnvC scope cl C X.env)); pure (ForInStep.yield ok) else pure (ForInStep.yield r))
      (TP (cxIn X N scope cl C s0 H0 fp pins) pins' σ Q) (fun _ _=>False) s)
    (he:∀ cl C s0 H0 fp pins,PE (cxIn X N scope cl C s0 H0 fp pins) elt te)
    (hs:∀ x,foldedSetIterable iter X.env x=pure x:=by intro _; rfl):PE X (.ListComp elt [⟨target,iter,ifs,0⟩] scope pos) (tComp own js wi g tc te):=by
  intro pins s σ H Q I h
  obtain ⟨cl,e1,cl1,_,cl2⟩:=closure_for (env:=X.env) scope.names [] (fun p hp hf=>I.ok.has _ (c.free p hp hf)) (fun x d e=>by simp at e)
  have hclos:closureFor scope X.env=pure cl:=by
    unfold closureFor
    refine (congrArg (fun z=>z >>= fun cs=>pure cs) e1).trans ?_
    rfl
  rw [eval_ListComp]
  refine wpAny_comprehension_free (use:=none) rfl hs hclos c.kind c.names (wpAny_mono (hi pins s σ H _ I h) (fun x s1 h1=>wpAny_mono h1 (fun itv s2 h2=>?_) fun _ _ e=>e) fun _ _ e=>e)
  obtain ⟨it,fp,tn,J,H2,e,I2,T,st2,f2,q⟩:=h2
  subst e
  refine comp_block (Q:=Q) (RR:=fun acc C=>compPost (model X.prog X.w) X.A X.xe none (EP X pins σ Q) acc C) c hc I2 T st2 f2 cl1 cl2 hg ht he q ?_
  intro l C H' s' m' hC hn hf hL hfs hI hq
  exact ⟨m',hn,fun h2 sb=>⟨.ref l,H',hI h2 sb,rfl,hq⟩⟩
theorem ps_compG {elt target iter:PySem.Expr} {ifs:List PySem.Expr} {pos pos' spos:Pos} {y:Str} {k:Nat} {wi:TI} {g:TG} {tc:TT} {te:TE} (c:CompOk X scope N own js) (hc:X.calm=true) (hN:X.N.Nodup) (hk:X.N[k]?=some y) (hy:X.env.scope.names.lookup y=some .local) (hi:PI X target iter wi)
    (hg:∀ cl C s0 H0 fp pins,PG (cxIn X N scope cl C s0 H0 fp pins) target g)
    (ht:∀ cl C s0 H0 fp pins pins' s σ H Q,Inv (cxIn X N scope cl C s0 H0 fp pins) pins' σ H s→tc σ H Q→wpAny (model X.prog X.w) X.A (forIn ifs true fun c r=>if r=true then do let ok ← isTrue c (compEnvC scope cl C X.env) (eval c (compEnvC scope cl C X.env)); pure (ForInStep.yield ok) else pure (ForInStep.yield r))
      (TP (cxIn X N scope cl C s0 H0 fp pins) pins' σ Q) (fun _ _=>False) s)
    (he:∀ cl C s0 H0 fp pins,PE (cxIn X N scope cl C s0 H0 fp pins) elt te)
    (hs:∀ x,foldedSetIterable iter X.env x=pure x:=by intro _; rfl)
    (hsw:swapsWith (.ListComp elt [⟨target,iter,ifs,0⟩] scope pos) (some (.Name y pos')) spos.line X.env=pure true:=by rfl):PS X (.Assign [.Name y pos'] (.ListComp elt [⟨target,iter,ifs,0⟩] scope pos) spos) (tAsg (tComp own js wi g tc te) (gName k)):=by
  intro pins s σ H D I h
  obtain ⟨cl,e1,cl1,_,cl2⟩:=closure_for (env:=X.env) scope.names [] (fun p hp hf=>I.ok.has _ (c.free p hp hf)) (fun x d e=>by simp at e)
  have hclos:closureFor scope X.env=pure cl:=by
    unfold closureFor
    refine (congrArg (fun z=>z >>= fun cs=>pure cs) e1).trans ?_
    rfl
  rw [exec_Assign_Name_used _ _ _ _ hsw]
  refine wpAny_bind (wpAny_standAt (wpAny_bind ?_))
  show wpAny _ X.A (do let _ ← comprehension (.ListComp elt [⟨target,iter,ifs,0⟩] scope pos) scope X.env _ (newList []) false (eval iter X.env) (some (assign (.Name y pos') X.env))) _ _ s
  refine wpAny_bind (wpAny_mono (wpAny_comprehension_free (use:=some (assign (.Name y pos') X.env)) (Q:=fun _ s'=>SP X pins D .next s') rfl hs hclos c.kind c.names
    (wpAny_mono (hi pins s σ H _ I h) (fun xv s1 h1=>wpAny_mono h1 (fun it s2 h2=>?_) fun _ _ e=>e) fun _ _ e=>e)) (fun _ s' hq=>wpAny_pure (wpAny_pure hq)) fun _ _ e=>e)
  obtain ⟨it,fp,tn,J,H2,e,I2,T,st2,f2,q⟩:=h2
  subst e
  refine comp_block (Q:=fun x H1=>gName k x σ H1 D.nx) (RR:=fun acc C=>compPost (model X.prog X.w) X.A X.xe (some (assign (.Name y pos') X.env)) (fun _ s'=>SP X pins D .next s') acc C) c hc I2 T st2 f2 cl1 cl2 hg ht he q ?_
  intro l C H' s' m' hC hn hf hL hfs hI hq
  have J0:=hI s'.heap (Heap.SameBut.refl ..)
  show wpAny _ X.A (assign (.Name y pos') X.env (.ref l)) _ _ _
  have J1:Inv X pins σ H' s':=J0
  refine wpAny_assign_Name (store_ok2 (v:=.ref l) J1 hN hk (.inl hy) rfl (fun s'' I'' hsb=>?_) (.inr hy))
  obtain ⟨a,sb,ha⟩:=hsb
  have hne:C≠a:=by
    rcases ha with rfl | ha
    · exact hL
    · rintro rfl
      obtain ⟨v,⟨o,ho,hd⟩⟩:=J1.cell y C ha
      obtain ⟨o',es,ep,ho',hd',_⟩:=hn
      rw [ho] at ho'; cases ho'
      rw [hd] at hd'; cases hd'
  refine ⟨m',hn.sameBut sb hne,fun h2 sb2=>?_⟩
  have hok:HOk X.prog X.w H' h2:=fun b ob e=>(I''.hok b ob e).stay (fun d w' hd z=>sb2.extBut d w' (by
    rintro rfl
    rcases hd with rfl | hd
    · rw [hf] at e; cases e
    · rw [hf] at hd; cases hd) z) (fun _ z=>z) fun _ _ z=>z
  have cne:∀ x d,X.env.cells.lookup x=some d→d≠C:=fun x d e z=>by
    subst z
    obtain ⟨v,⟨o,ho,hd⟩⟩:=J1.cell x d e
    obtain ⟨o',es,ep,ho',hd',_⟩:=hn
    rw [ho] at ho'; cases ho'
    rw [hd] at hd'; cases hd'
  have hpn:∀ p∈X.pn++pins,p.1≠C:=fun p hp z=>by
    have a1:=(I2.pin p hp).1
    exact absurd (Nat.lt_of_lt_of_le (Heap.lt_size a1) (by rw [z]; exact hC)) (Nat.lt_irrefl _)
  have fin:Inv X pins (σ.set k (some (.ref l))) H' { s'' with heap:=h2 }:=I''.turned (t':=s''.toks) (it:=C) (fun b o hb e=>sb2.extBut b o hb e) hf hL (.inr (Nat.le_trans I2.sz hC)) cne hpn
  exact ⟨_,H',fin,hq⟩
theorem pe_comp0 {elt target iter:PySem.Expr} {pos:Pos} {wi:TI} {g:TG} {te:TE} (c:CompOk X scope N own js) (hc:X.calm=true) (hi:PI X target iter wi)
    (hg:∀ cl C s0 H0 fp pins,PG (cxIn X N scope cl C s0 H0 fp pins) target g) (he:∀ cl C s0 H0 fp pins,PE (cxIn X N scope cl C s0 H0 fp pins) elt te)
    (hs:∀ x,foldedSetIterable iter X.env x=pure x:=by intro _; rfl):PE X (.ListComp elt [⟨target,iter,[],0⟩] scope pos) (tComp own js wi g tTrue te) :=
  pe_compG c hc hi hg (fun cl C s0 H0 fp pins pins' s σ H Q I h=>wpAny_tests_nil ⟨H,I,h⟩) he hs
theorem pe_comp1 {elt target iter tst:PySem.Expr} {pos:Pos} {wi:TI} {g:TG} {tc:TT} {te:TE} (c:CompOk X scope N own js) (hc:X.calm=true) (hi:PI X target iter wi)
    (hg:∀ cl C s0 H0 fp pins,PG (cxIn X N scope cl C s0 H0 fp pins) target g) (ht:∀ cl C s0 H0 fp pins,PT (cxIn X N scope cl C s0 H0 fp pins) tst tc) (he:∀ cl C s0 H0 fp pins,PE (cxIn X N scope cl C s0 H0 fp pins) elt te)
    (hs:∀ x,foldedSetIterable iter X.env x=pure x:=by intro _; rfl):PE X (.ListComp elt [⟨target,iter,[tst],0⟩] scope pos) (tComp own js wi g tc te) :=
  pe_compG c hc hi hg (fun cl C s0 H0 fp pins pins' s σ H Q I h=>wpAny_tests_one (ht cl C s0 H0 fp pins pins' s σ H Q I h)) he hs
theorem ps_comp0 {elt target iter:PySem.Expr} {pos pos' spos:Pos} {y:Str} (k:Nat) {wi:TI} {g:TG} {te:TE} (c:CompOk X scope N own js) (hc:X.calm=true) (hN:X.N.Nodup) (hk:X.N[k]?=some y) (hy:X.env.scope.names.lookup y=some .local) (hi:PI X target iter wi)
    (hg:∀ cl C s0 H0 fp pins,PG (cxIn X N scope cl C s0 H0 fp pins) target g) (he:∀ cl C s0 H0 fp pins,PE (cxIn X N scope cl C s0 H0 fp pins) elt te)
    (hs:∀ x,foldedSetIterable iter X.env x=pure x:=by intro _; rfl)
    (hsw:swapsWith (.ListComp elt [⟨target,iter,[],0⟩] scope pos) (some (.Name y pos')) spos.line X.env=pure true:=by rfl):PS X (.Assign [.Name y pos'] (.ListComp elt [⟨target,iter,[],0⟩] scope pos) spos) (tAsg (tComp own js wi g tTrue te) (gName k)) :=
  ps_compG c hc hN hk hy hi hg (fun cl C s0 H0 fp pins pins' s σ H Q I h=>wpAny_tests_nil ⟨H,I,h⟩) he hs hsw
theorem ps_comp1 {elt target iter tst:PySem.Expr} {pos pos' spos:Pos} {y:Str} (k:Nat) {wi:TI} {g:TG} {tc:TT} {te:TE} (c:CompOk X scope N own js) (hc:X.calm=true) (hN:X.N.Nodup) (hk:X.N[k]?=some y) (hy:X.env.scope.names.lookup y=some .local) (hi:PI X target iter wi)
    (hg:∀ cl C s0 H0 fp pins,PG (cxIn X N scope cl C s0 H0 fp pins) target g) (ht:∀ cl C s0 H0 fp pins,PT (cxIn X N scope cl C s0 H0 fp pins) tst tc) (he:∀ cl C s0 H0 fp pins,PE (cxIn X N scope cl C s0 H0 fp pins) elt te)
    (hs:∀ x,foldedSetIterable iter X.env x=pure x:=by intro _; rfl)
    (hsw:swapsWith (.ListComp elt [⟨target,iter,[tst],0⟩] scope pos) (some (.Name y pos')) spos.line X.env=pure true:=by rfl):PS X (.Assign [.Name y pos'] (.ListComp elt [⟨target,iter,[tst],0⟩] scope pos) spos) (tAsg (tComp own js wi g tc te) (gName k)) :=
  ps_compG c hc hN hk hy hi hg (fun cl C s0 H0 fp pins pins' s σ H Q I h=>wpAny_tests_one (ht cl C s0 H0 fp pins pins' s σ H Q I h)) he hs hsw
end
end L2
set_option Elab.async false
set_option linter.all false
set_option maxRecDepth 100000
set_option maxHeartbeats 4000000
namespace L2
open PySem PySem.Spec PyProof.Rows
section
variable {X:Cx} {pins:List (Addr×Obj)} {σ:St} {H:Hp} {s:Shared}
theorem HOk.offCh {P:Program} {w:World} {h h':Heap} {ch:List Addr} (hok:HOk P w H h) (hn:∀ b∈ch,H b=none) (k:∀ b o,b∉ch→h.get? b=some o→h'.get? b=some o):HOk P w H h':=fun b ob e =>
  (hok b ob e).stay (fun d u hd z=>k d u (fun m=>by
    rcases hd with rfl | hd
    · rw [hn _ m] at e; cases e
    · rw [hn _ m] at hd; cases hd) z) (fun _ z=>z) fun _ _ z=>z
theorem Inv.turnedCh {ch:List Addr} {h':Heap} {t':Nat} (I:Inv X pins σ H s) (hch:∀ b∈ch,FpOk X pins H b) (k:∀ b o,b∉ch→s.heap.get? b=some o→h'.get? b=some o) :
    Inv X pins σ H { s with heap:=h',toks:=t' }:=by
  have u:Un (frs X.stack) ch H H s.heap h':=⟨fun b o q _ _ hx=>k b o hx q,fun b o q _ _ hx=>⟨o.slots,k b o hx q⟩,fun _ _ _ n _=>n,fun b o q hx=>⟨o,k b o hx q⟩,fun _ _ q=>q,fun _ _ _ q=>q,fun _ _ _ q=>q⟩
  exact I.call (g':=s.gens) (d':=s.drawn) (t':=t') u (I.hok.offCh (fun b hb=>(hch b hb).1) k) I.bare fun b hb=>⟨(hch b hb).2.2.2.1,(hch b hb).2.1,(hch b hb).2.2.2.2.1,(hch b hb).2.2.2.2.2⟩
theorem Inv.laidCh {ch:List Addr} {h':Heap} {t':Nat} {o:HO} (I:Inv X pins σ H s) (hch:∀ b∈ch,FpOk X pins H b) (k:∀ b o,b∉ch→s.heap.get? b=some o→h'.get? b=some o)
    (new:ObjOk X.prog X.w (upd H s.heap.objs.size o) h' s.heap.objs.size o):Inv X pins σ (upd H s.heap.objs.size o) { s with heap:=h',toks:=t' }:=by
  have fr:H s.heap.objs.size=none:=I.hok.fresh (Nat.le_refl _)
  have ne:∀ b ob,s.heap.get? b=some ob→b≠s.heap.objs.size:=fun b ob e=>Nat.ne_of_lt (Heap.lt_size e)
  have nt:∀ b ob,H b=some ob→b≠s.heap.objs.size:=fun b ob e=>ne_of_none e fr
  have u:Un (frs X.stack) ch H (upd H s.heap.objs.size o) s.heap h':=⟨fun b o q _ _ hx=>k b o hx q,fun b o q _ _ hx=>⟨o.slots,k b o hx q⟩,fun b ob q n _=>by rw [upd_ne (ne b ob q)]; exact n,fun b o q hx=>⟨o,k b o hx q⟩,
    fun b xs q=>by rw [upd_ne (nt b _ q)]; exact q,fun b ob xs q=>by rw [upd_ne (nt b _ q)]; exact q,fun b _ _ q=>by rw [upd_ne (nt b _ q)]; exact q⟩
  have hok:HOk X.prog X.w (upd H s.heap.objs.size o) h':=fun b ob e=>by
    by_cases hb:b=s.heap.objs.size
    · subst hb
      rw [upd_same] at e; cases e
      exact new
    · rw [upd_ne hb] at e
      refine (I.hok b ob e).stay (fun d u hd z=>k d u (fun m=>?_) z) (fun d z=>by rw [upd_ne (nt d _ z)]; exact z) (fun d xs z=>by rw [upd_ne (nt d _ z)]; exact z) fun d oz z=>by rw [upd_ne (nt d _ z)]; exact z
      have hn:=(hch d m).1
      rcases hd with rfl | hd
      · rw [hn] at e; cases e
      · rw [hn] at hd; cases hd
  exact I.call (g':=s.gens) (d':=s.drawn) (t':=t') u hok I.bare fun b hb=>⟨(hch b hb).2.2.2.1,(hch b hb).2.1,(hch b hb).2.2.2.2.1,(hch b hb).2.2.2.2.2⟩
end
theorem nne {a b:Nat} (h:a<b∨b<a):@Ne Addr a b:=fun e=>by
  have e':a=b:=e
  omega
theorem zip_apart (n l1 l2:Nat) (h1:l1<n) (h2:l2<n):ZipApart (n+4) (n+2) (n+3) n (n+1) l1 l2 :=
  ⟨nne (by omega),nne (by omega),nne (by omega),nne (by omega),nne (by omega),nne (by omega),nne (by omega),nne (by omega),nne (by omega),nne (by omega),nne (by omega),nne (by omega),nne (by omega),nne (by omega),nne (by omega),nne (by omega),nne (by omega),nne (by omega)⟩
def Itz (K:PySem.W.Frag) (a b:Addr):It :=
  ⟨fun i H=>∃ xs ys x y,SqL K H a xs∧SqL K H b ys∧xs[i]?=some x∧ys[i]?=some y,
   fun i H v H'=>∃ t x y,H t=none∧v=.ref t∧H'=upd H t (.tup [x,y])∧(∀ xs,SqL K H a xs→xs[i]?=some x)∧∀ ys,SqL K H b ys→ys[i]?=some y,
   fun i H=>∃ xs ys,SqL K H a xs∧SqL K H b ys∧(xs.length≤i∨ys.length≤i)⟩
theorem iter_obj {h:Heap} {it l:Addr} {i:Nat} (x:h.IsListIter it l i):∃ o,h.get? it=some o∧∀ v,o.data≠.cell v:=by
  obtain ⟨o,e,c,d⟩:=x
  exact ⟨o,e,fun v z=>by rw [d] at z; cases z⟩
theorem turn_zip {P:Program} {w:World} {K:PySem.W.Frag} {elts:List PySem.Expr} {x1} {pos:Pos} (z TI TO i1 i2 a b:Addr) (D:ZipApart z TI TO i1 i2 a b) :
    Turn P w K (.Tuple elts x1 pos) (Itz K a b) [z,TI,TO,i1,i2] z (fun i h=>IsZip h z TI TO .none∧IsPair h TI (.ref i1) (.ref i2)∧(∃ u v,IsPair h TO u v)∧h.IsListIter i1 a i∧h.IsListIter i2 b i) where
  mem:=by simp
  obj:=fun i h st c hc=>by
    obtain ⟨hz,hTI,⟨u,v,hTO⟩,h1,h2⟩:=st
    simp only [List.mem_cons,List.not_mem_nil,or_false] at hc
    rcases hc with rfl | rfl | rfl | rfl | rfl
    · exact ⟨_,hz,fun v e=>by cases e⟩
    · exact ⟨_,hTI,fun v e=>by cases e⟩
    · exact ⟨_,hTO,fun v e=>by cases e⟩
    · exact iter_obj h1
    · exact iter_obj h2
  keep:=fun i h h' st k=>by
    obtain ⟨hz,hTI,⟨u,v,hTO⟩,h1,h2⟩:=st
    exact ⟨k z (by simp) _ hz,k TI (by simp) _ hTI,⟨u,v,k TO (by simp) _ hTO⟩,h1.at fun o e=>k i1 (by simp) o e,h2.at fun o e=>k i2 (by simp) o e⟩
  item:=by
    intro X hP hw hK hc i pins s σ H E I hf st hg
    subst hP hw hK
    obtain ⟨xs,ys,x,y,hqa,hqb,hx,hy⟩:=hg
    obtain ⟨hz,hTI,⟨u0,v0,hTO⟩,h1,h2⟩:=st
    obtain ⟨itsa,ra,pa,za⟩:=I.list hqa
    obtain ⟨itsb,rb,pb,zb⟩:=I.list hqb
    obtain ⟨ux,hux,rux⟩:=ra.get hx
    obtain ⟨uy,huy,ruy⟩:=rb.get hy
    refine wpAny_pyNext_zip_item D hz hTI hTO h1 h2 pa.isList pb.isList (x:=ux) (y:=uy) (by simpa using hux) (by simpa using huy) fun h' a1 a2 a3 a4 a5 a6 a7=>?_
    refine ⟨.ref s.heap.objs.size,rfl,?_⟩
    refine wpAny_letOwnedTupleGo_zip a1 fun h2' hz' hs'=>?_
    have hzlt:z<s.heap.objs.size:=Heap.lt_size hz
    have kk:∀ c o,c∉[z,TI,TO,i1,i2]→s.heap.get? c=some o→h2'.get? c=some o:=fun c o hc e=>by
      simp only [List.mem_cons,List.not_mem_nil,or_false,not_or] at hc
      exact hs'.extBut c o hc.1 (a7 c o hc.1 hc.2.2.1 hc.2.2.2.1 hc.2.2.2.2 e)
    have tp:h2'.get? s.heap.objs.size=some { cls:=.type "tuple",data:=.seq #[ux,uy] }:=hs'.extBut _ _ (Nat.ne_of_gt hzlt) a5
    have I1:Inv X pins σ (upd H s.heap.objs.size (.tup [x,y])) { s with heap:=h2',toks:=s.toks } :=
      I.laidCh hf kk ⟨by show 2≤sizeLine; decide,[ux,uy],.cons rux (.cons ruy .nil),⟨_,tp,rfl,_,rfl⟩⟩
    have TIk:h2'.get? TI=s.heap.get? TI:=by
      rw [hTI]
      exact hs'.extBut _ _ D.TIz (a7 _ _ D.TIz D.TITO D.TIi1 D.TIi2 hTI)
    refine ⟨.ref s.heap.objs.size,_,I1,rfl,⟨s.heap.objs.size,x,y,I.hok.fresh (Nat.le_refl _),rfl,rfl,fun xs' h=>by rw [I.list_inj h hqa]; exact hx,fun ys' h=>by rw [I.list_inj h hqb]; exact hy⟩,⟨hz',?_,⟨ux,uy,hs'.extBut _ _ D.TOz a2⟩,a3.at fun o e=>hs'.extBut _ o D.i1z e,a4.at fun o e=>hs'.extBut _ o D.i2z e⟩,fun c hc=>?_⟩
    · show h2'.get? TI=_
      rw [TIk]; exact hTI
    · have hc':=hc
      have hlt:c<s.heap.objs.size:=by
        simp only [List.mem_cons,List.not_mem_nil,or_false] at hc'
        rcases hc' with rfl | rfl | rfl | rfl | rfl
        · exact hzlt
        · exact Heap.lt_size hTI
        · exact Heap.lt_size hTO
        · obtain ⟨o,e,_⟩:=iter_obj h1; exact Heap.lt_size e
        · obtain ⟨o,e,_⟩:=iter_obj h2; exact Heap.lt_size e
      rw [upd_ne (Nat.ne_of_lt hlt)]
      exact (hf c hc).1
  done:=by
    intro X hP hw hK hc i pins s σ H E I hf st hg
    subst hP hw hK
    obtain ⟨xs,ys,hqa,hqb,hend⟩:=hg
    obtain ⟨hz,hTI,⟨u0,v0,hTO⟩,h1,h2⟩:=st
    obtain ⟨itsa,ra,pa,za⟩:=I.list hqa
    obtain ⟨itsb,rb,pb,zb⟩:=I.list hqb
    have la:=ra.length
    have lb:=rb.length
    refine wpAny_pyNext_zip_end (I.ok.hd hc) D hz hTI hTO h1 h2 pa.isList pb.isList ?_ fun h' hk=>⟨rfl,?_⟩
    · rcases hend with q | q
      · exact .inl (by simp; omega)
      · exact .inr (by simp; omega)
    · refine I.turnedCh (t':=s.toks) hf fun c o hc e=>?_
      simp only [List.mem_cons,List.not_mem_nil,or_false,not_or] at hc
      exact hk c o hc.1 hc.2.2.1 hc.2.2.2.1 hc.2.2.2.2 e
  self:=fun _ _ _ _ _ st h=>wpAny_pyIter_zip st.1 h
def iZip (K:PySem.W.Frag) (ta:TA):TI:=fun σ H R=>ta σ H fun vs H1=>∃ a b,vs=[.ref a,.ref b]∧(∃ xs,SqL K H1 a xs)∧(∃ ys,SqL K H1 b ys)∧R (Itz K a b) H1
section
variable {X:Cx}
theorem boot_zip:bootBuiltins "zip" = some (.type "zip"):=by first | rfl | decide +kernel | kernel_rfl
theorem boot_enumerate:bootBuiltins "enumerate" = some (.type "enumerate"):=by first | rfl | decide +kernel | kernel_rfl
theorem pi_zip {elts:List PySem.Expr} {x1} {tpos:Pos} {a b:PySem.Expr} {ta:TA} {p pos:Pos} (hg:Gl X "zip") (hm:X.mg "zip" = none) (ha:PA X [a,b] ta) (hs:starEach [a,b] X.env=[(false,eval a X.env),(false,eval b X.env)]:=by rfl) (hs2:starEach [b] X.env=[(false,eval b X.env)]:=by rfl) :
    PI X (.Tuple elts x1 tpos) (.Call (.Name "zip" p) [a,b] [] pos) (iZip X.K ta):=by
  intro pins s σ H R I h
  refine Call_ (ld_blt I hg hm boot_zip (PyProof.Rows.callWith_type1 (thn (ha pos pins s σ H _ I h) fun us s1 ⟨vs,H1,I1,r1,q1⟩=>?_) (by rw [hs,hs2]) (by rw [hs2]; rfl)))
  obtain ⟨l1,l2,e,⟨xs,hqa⟩,⟨ys,hqb⟩,q⟩:=q1
  subst e
  obtain ⟨v1,v2,rfl,r,r'⟩:=vals2 r1
  cases r
  cases r'
  obtain ⟨itsa,ra,pa,za⟩:=I1.list hqa
  obtain ⟨itsb,rb,pb,zb⟩:=I1.list hqb
  have lt1:l1<s1.heap.objs.size:=by obtain ⟨o,e,_⟩:=pa.isList; exact Heap.lt_size e
  have lt2:l2<s1.heap.objs.size:=by obtain ⟨o,e,_⟩:=pb.isList; exact Heap.lt_size e
  refine call_zip_2 pa.isList pb.isList fun h' g5 g3 g4 g1 g2 hsz kp=>wpAny_pyIter_zip g5 ?_
  refine ⟨_,[_,_,_,_,_],_,_,H1,rfl,I1.kept (t':=s1.toks) kp,turn_zip _ _ _ _ _ l1 l2 (zip_apart s1.heap.objs.size l1 l2 lt1 lt2),⟨g5,g3,⟨_,_,g4⟩,g1,g2⟩,fun c hc=>?_,q⟩
  have hc':s1.heap.objs.size≤c:=by
    simp only [List.mem_cons,List.not_mem_nil,or_false] at hc
    rcases hc with rfl | rfl | rfl | rfl | rfl <;> first | exact Nat.le_refl _ | exact Nat.le_add_right _ _
  exact I1.fpOk hc' (I1.hok.fresh hc')
def Ite (K:PySem.W.Frag) (a:Addr):It :=
  ⟨fun i H=>∃ xs x,SqL K H a xs∧xs[i]?=some x,
   fun i H v H'=>∃ t x,H t=none∧v=.ref t∧H'=upd H t (.tup [.int i,x])∧∀ xs,SqL K H a xs→xs[i]?=some x,
   fun i H=>∃ xs,SqL K H a xs∧xs.length=i⟩
theorem turn_enum {P:Program} {w:World} {K:PySem.W.Frag} {elts:List PySem.Expr} {x1} {pos:Pos} (e it a:Addr) (hei:e≠it) (hae:a≠e) (hai:a≠it) :
    Turn P w K (.Tuple elts x1 pos) (Ite K a) [e,it] e (fun i h=>(∃ old,IsEnum h e it i old)∧h.IsListIter it a i) where
  mem:=by simp
  obj:=fun i h st c hc=>by
    obtain ⟨⟨old,he⟩,h1⟩:=st
    simp only [List.mem_cons,List.not_mem_nil,or_false] at hc
    rcases hc with rfl | rfl
    · exact ⟨_,he,fun v z=>by cases z⟩
    · obtain ⟨o,q,c,d⟩:=h1; exact ⟨o,q,fun v z=>by rw [d] at z; cases z⟩
  keep:=fun i h h' st k=>by
    obtain ⟨⟨old,he⟩,h1⟩:=st
    exact ⟨⟨old,k e (by simp) _ he⟩,h1.at fun o q=>k it (by simp) o q⟩
  item:=by
    intro X hP hw hK hc i pins s σ H E I hf st hg
    subst hP hw hK
    obtain ⟨xs,x,hq,hx⟩:=hg
    obtain ⟨⟨old,he⟩,h1⟩:=st
    obtain ⟨its,rv,p,hz⟩:=I.list hq
    obtain ⟨u,hu,ru⟩:=rv.get hx
    have hlt:i<its.toArray.size:=by
      have:=(List.getElem?_eq_some_iff.mp hu).1
      simpa using this
    refine wpAny_pyNext_enum_itemD (Draws.list (A:=X.A.in1) (show X.A.in1.handled=none from I.ok.hd hc) it a hai its.toArray) he ⟨h1,p.isList⟩ hlt hei (by simp [hei,Ne.symm hae]) fun v h' tk hP ho hs' hT hsz hk=>?_
    have hP':v=u:=by
      have z:its[i]?=some v:=by simpa using hP
      rw [hu] at z; exact (Option.some.inj z).symm
    subst hP'
    refine ⟨.ref s.heap.objs.size,rfl,?_⟩
    refine wpAny_letOwnedTupleGo_enum ho fun h2 he2 sb2=>?_
    have helt:e<s.heap.objs.size:=Heap.lt_size he
    have kk:∀ c o,c∉[e,it]→s.heap.get? c=some o→h2.get? c=some o:=fun c o hc q=>by
      simp only [List.mem_cons,List.not_mem_nil,or_false,not_or] at hc
      exact (sb2.2 c hc.1).trans (hk c o hc.1 hc.2 q)
    have tp:h2.get? s.heap.objs.size=some { cls:=.type "tuple",data:=.seq #[.int i tk,v] }:=(sb2.2 _ (Nat.ne_of_gt helt)).trans hT
    have I1:Inv X pins σ (upd H s.heap.objs.size (.tup [.int i,x])) { s with heap:=h2,toks:=tk+1 } :=
      I.laidCh hf kk ⟨by show 2≤sizeLine; decide,[.int i tk,v],.cons ⟨tk,rfl⟩ (.cons ru .nil),⟨_,tp,rfl,_,rfl⟩⟩
    refine ⟨.ref s.heap.objs.size,_,I1,rfl,⟨s.heap.objs.size,x,I.hok.fresh (Nat.le_refl _),rfl,rfl,fun ys hy=>by rw [I.list_inj hy hq]; exact hx⟩,⟨⟨v,by simpa using he2⟩,hs'.1.at fun o q=>(sb2.2 _ (Ne.symm hei)).trans q⟩,fun c hc=>?_⟩
    have hlt':c<s.heap.objs.size:=by
      simp only [List.mem_cons,List.not_mem_nil,or_false] at hc
      rcases hc with rfl | rfl
      · exact helt
      · obtain ⟨o,q,_⟩:=h1; exact Heap.lt_size q
    rw [upd_ne (Nat.ne_of_lt hlt')]
    exact (hf c hc).1
  done:=by
    intro X hP hw hK hc i pins s σ H E I hf st hg
    subst hP hw hK
    obtain ⟨xs,hq,hx⟩:=hg
    obtain ⟨⟨old,he⟩,h1⟩:=st
    obtain ⟨its,rv,p,hz⟩:=I.list hq
    have hl:=rv.length
    have ei:i=its.toArray.size:=by simp; omega
    subst ei
    refine wpAny_pyNext_enum_endD (Draws.list (A:=X.A.in1) (show X.A.in1.handled=none from I.ok.hd hc) it a hai its.toArray) he ⟨h1,p.isList⟩ fun h' hx'=>⟨rfl,?_⟩
    refine I.turnedCh (t':=s.toks) hf fun c o hc q=>?_
    simp only [List.mem_cons,List.not_mem_nil,or_false,not_or] at hc
    exact hx' c o hc.2 q
  self:=fun _ _ _ _ _ st h=>by
    obtain ⟨⟨old,he⟩,_⟩:=st
    exact wpAny_pyIter_enum he h
def iEnum (K:PySem.W.Frag) (ta:TA):TI:=fun σ H R=>ta σ H fun vs H1=>∃ a,vs=[.ref a]∧(∃ xs,SqL K H1 a xs)∧R (Ite K a) H1
theorem pi_enum {elts:List PySem.Expr} {x1} {tpos:Pos} {a:PySem.Expr} {ta:TA} {p pos:Pos} (hg:Gl X "enumerate") (hm:X.mg "enumerate" = none) (ha:PA X [a] ta) (hs:starEach [a] X.env=[(false,eval a X.env)]:=by rfl) :
    PI X (.Tuple elts x1 tpos) (.Call (.Name "enumerate" p) [a] [] pos) (iEnum X.K ta):=by
  intro pins s σ H R I h
  refine Call_ (ld_blt I hg hm boot_enumerate (PyProof.Rows.callWith_type1 (thn (ha pos pins s σ H _ I h) fun us s1 ⟨vs,H1,I1,r1,q1⟩=>?_) hs rfl))
  obtain ⟨l,e,⟨xs,hq⟩,q⟩:=q1
  subst e
  cases r1 with
  | cons r rr =>
    cases rr
    cases r
    obtain ⟨its,rv,pl,hz⟩:=I1.list hq
    have lt1:l<s1.heap.objs.size:=by obtain ⟨o,e,_⟩:=pl.isList; exact Heap.lt_size e
    refine call_enumerate_list pl.isList fun h' he hi hsz hk=>?_
    refine wpAny_pyIter_enum he ?_
    refine ⟨s1.heap.objs.size+1,[s1.heap.objs.size+1,s1.heap.objs.size],_,_,H1,rfl,I1.kept (t':=s1.toks) hk,turn_enum (s1.heap.objs.size+1) s1.heap.objs.size l (Nat.succ_ne_self _) (nne (.inl (Nat.lt_succ_of_lt lt1))) (Nat.ne_of_lt lt1),⟨⟨_,he⟩,hi⟩,fun c hc=>?_,q⟩
    have hc':s1.heap.objs.size≤c:=by
      simp only [List.mem_cons,List.not_mem_nil,or_false] at hc
      rcases hc with rfl | rfl <;> omega
    exact I1.fpOk hc' (I1.hok.fresh hc')
end
end L2
set_option Elab.async false
set_option linter.all false
set_option maxRecDepth 100000
set_option maxHeartbeats 4000000
namespace L2
open PySem PySem.Spec PyProof.Rows
def tyN (H:Hp):V→Option String
  | .non=>some "NoneType"
  | .bl _=>some "bool"
  | .int _=>some "int"
  | .str _=>some "str"
  | .ref a=>match H a with
    | some (.lst _)=>some "list"
    | some (.frz _ (.lst _))=>some "list"
    | some (.tup _)=>some "tuple"
    | some (.dK _)=>some "dict"
    | some (.dT _)=>some "dict"
    | _=>none
  | _=>none
theorem tyN_of {K:PySem.W.Frag} {H:Hp} {x:V} {t:String} (h:tyN H x=some t):TyOf K H x (.type t):=by
  cases x with
  | non=>cases h; exact .non
  | bl b=>cases h; exact .bl b
  | int i=>cases h; exact .int i
  | str z=>cases h; exact .str z
  | ref a =>
    simp only [tyN] at h
    split at h
    · rename_i e; cases h; exact .lst e
    · rename_i e; cases h; exact .frz e
    · rename_i e; cases h; exact .tup e
    · rename_i e; cases h; exact .dK e
    · rename_i e; cases h; exact .dT e
    · cases h
  | _=>cases h
def subT (t c:String):Bool:=t == c || (t == "bool" && c == "int")
def knownT:List String:=["NoneType", "bool", "int", "str", "list", "tuple", "dict"]
def askedT:List String:=["bool", "int", "str", "list", "tuple", "dict"]
theorem kit_known (K:PySem.W.Frag):∀ t∈knownT,∀ c∈askedT,PySem.W.kitOne K (.type t) (.type c)=some (subT t c):=by
  intro t ht c hc
  simp only [knownT,List.mem_cons,List.not_mem_nil,or_false] at ht
  simp only [askedT,List.mem_cons,List.not_mem_nil,or_false] at hc
  rcases ht with rfl | rfl | rfl | rfl | rfl | rfl | rfl <;> rcases hc with rfl | rfl | rfl | rfl | rfl | rfl <;> rfl
theorem tyN_known {H:Hp} {x:V} {t:String} (h:tyN H x=some t):t∈knownT:=by
  cases x with
  | non=>cases h; decide
  | bl b=>cases h; decide
  | int i=>cases h; decide
  | str z=>cases h; decide
  | ref a =>
    simp only [tyN] at h
    split at h <;> first | (cases h; decide) | cases h
  | _=>cases h
section
variable {X:Cx}
def rIsi:List V→Hp→VK→Prop:=fun xs H Q=>∃ x t c,xs=[x,.ty c]∧tyN H x=some t∧c∈askedT∧Q (.bl (subT t c)) H
theorem call_isi:CallR X (.builtin "isinstance") rIsi:=by
  intro pins s σ H xs us Q I r h
  obtain ⟨x,t,c,rfl,ht,hc,q⟩:=h
  obtain ⟨u,w',rfl,rx,rc⟩:=vals2 r
  cases rc
  exact isinst_ok I rx (tyN_of ht) (kit_known X.K t (tyN_known ht) c hc) fun tk=>⟨.bl _,H,I.tok tk,rfl,q⟩
theorem boot_isi:bootBuiltins "isinstance" = some (.builtin "isinstance"):=by first | rfl | decide +kernel | kernel_rfl
theorem boot_all:bootBuiltins "all" = some (.builtin "all"):=by first | rfl | decide +kernel | kernel_rfl
theorem boot_any:bootBuiltins "any" = some (.builtin "any"):=by first | rfl | decide +kernel | kernel_rfl
theorem boot_max:bootBuiltins "max" = some (.builtin "max"):=by first | rfl | decide +kernel | kernel_rfl
theorem boot_min:bootBuiltins "min" = some (.builtin "min"):=by first | rfl | decide +kernel | kernel_rfl
theorem boot_abs:bootBuiltins "abs" = some (.builtin "abs"):=by first | rfl | decide +kernel | kernel_rfl
theorem boot_divmod:bootBuiltins "divmod" = some (.builtin "divmod"):=by first | rfl | decide +kernel | kernel_rfl
theorem boot_intT:bootBuiltins "int" = some (.type "int"):=by first | rfl | decide +kernel | kernel_rfl
theorem boot_boolT:bootBuiltins "bool" = some (.type "bool"):=by first | rfl | decide +kernel | kernel_rfl
theorem boot_listT:bootBuiltins "list" = some (.type "list"):=by first | rfl | decide +kernel | kernel_rfl
theorem bool_vals:∀ {bs:List Bool} {its:List Value},Vals (bs.map V.bl) its→its=bs.map Value.bool
  | [],_,.nil=>rfl
  | b :: bs,_,.cons r t=>by rw [bool_vals t]; cases r; rfl
theorem range_getD {bs:List Bool} (f:Nat→Bool) (hf:∀ i b,bs[i]?=some b→f i=b):(List.range bs.length).map f=bs:=by
  apply List.ext_getElem?
  intro i
  rw [List.getElem?_map]
  by_cases h:i<bs.length
  · rw [List.getElem?_range h,List.getElem?_eq_getElem h]
    simp only [Option.map_some]
    rw [hf i _ (List.getElem?_eq_getElem h)]
  · rw [List.getElem?_eq_none (by simpa using h),List.getElem?_eq_none (by omega)]; rfl
theorem call_allL (hc:X.calm=true):CallR X (.builtin "all") (fun xs H Q=>∃ (p:Addr) (bs:List Bool),xs=[.ref p]∧SqL X.K H p (bs.map V.bl)∧Q (.bl (bs.all id)) H):=by
  intro pins s σ H xs us Q I r h
  obtain ⟨p,bs,rfl,hq,q⟩:=h
  obtain ⟨u,rfl,rx⟩:=vals1 r
  cases rx
  obtain ⟨its,rv,pl,hz⟩:=I.list hq
  have e:=bool_vals rv
  subst e
  refine call_all_walk (wpAny_pyIter_list pl.isList ?_)
  refine ⟨s.heap.objs.size,_,[s.heap.objs.size],_,_,_,fun i=>bs.getD i true,rfl,Walks.list (A:=X.A.in1) (show X.A.in1.handled=none from I.ok.hd hc) s.heap.objs.size p ?_ (bs.map Value.bool).toArray,⟨⟨_,Heap.get?_push_size _ rfl,rfl,rfl⟩,pl.isList.at fun o e=>Heap.get?_push_of_some _ e⟩,?_,?_⟩
  · obtain ⟨o,e,_⟩:=pl.isList; exact Nat.ne_of_lt (Heap.lt_size e)
  · intro i v s' Q' E' hP hQ
    have hP':(bs.map Value.bool)[i]?=some v:=by simpa using hP
    rw [List.getElem?_map] at hP'
    cases z:bs[i]? with
    | none=>rw [z] at hP'; cases hP'
    | some b =>
      rw [z] at hP'
      cases hP'
      have:bs.getD i true=b:=by rw [List.getD_eq_getElem?_getD,z]; rfl
      have hQ':Q' (bs.getD i true) s':=hQ
      rw [this] at hQ'
      exact wpAny_truthy_bool hQ'
  · intro h' tk hk
    refine ⟨.bl (bs.all id),H,I.kept (t':=tk) (fun b o e=>hk b o (by simpa using Nat.ne_of_lt (Heap.lt_size e)) (Heap.get?_push_of_some _ e)),?_,q⟩
    have z:(List.range bs.length).map (fun i=>bs.getD i true)=bs:=range_getD _ fun i b e=>by rw [List.getD_eq_getElem?_getD,e]; rfl
    have z2:(List.range bs.length).all (fun i=>bs.getD i true)=bs.all id:=by
      conv=>rhs; rw [← z]
      rw [List.all_map]; rfl
    show Value.bool _=Value.bool _
    have z3:(bs.map Value.bool).toArray.size=bs.length:=by simp
    rw [z3,z2]
end
end L2
set_option Elab.async false
set_option linter.all false
set_option maxRecDepth 100000
set_option maxHeartbeats 4000000
namespace L2
open PySem PySem.Spec PyProof.Rows
structure Def (P:Program) (w:World) (K:PySem.W.Frag) (mg:Str→Option Value) (base:Heap) (x:Str) (k:Nat) (ps:List Str) (sp:Sp):Prop where
  ex:∃ (f:Addr) (fd:FuncData),FnOk P w K mg base CX0 k f fd ps sp∧mg x=some (.ref f)∧PySem.W.keepIn K (.ref f)=true∧Binds K fd ps []
section
variable {X:Cx} {x:Str} {p pos:Pos} {e:PySem.Expr} {es:List PySem.Expr} {t:TA} {k:Nat} {ps:List Str} {sp:Sp}
theorem pe_def (D:Def X.prog X.w X.K X.mg X.base x k ps sp) (hr:Room k X.A) (hg:Gl X x) (ha:PA X (e :: es) t)
    (he:starEach (e :: es) X.env=(false,eval e X.env) :: starEach es X.env:=by rfl) (hpl:(backTo pos (starEach es X.env)).any (·.1)=false:=by rfl) (hd:(x == ("__debug__" : Str))=false:=by decide) :
    PE X (.Call (.Name x p) (e :: es) [] pos) (tCall sp [] E0 t):=by
  obtain ⟨f,fd,F,hm,hk,hb⟩:=D.ex
  exact pe_call F hr hg hm hk hb .nil pass0 ha (hdb:=hd) (he:=he) (hpl:=hpl)
end
theorem pg_tupK {X:Cx} {K:PySem.W.Frag} {es:List PySem.Expr} {k:Nat} {t:TGs} {n:Nat} {pos:Pos} (hK:X.K=K) (hc:X.calm=true) (h:PGs X es t)
    (hn:(assignEach es X.env).length=n:=by rfl) (hst:(assignEach es X.env).findIdx? (·.1)=none:=by rfl):PG X (.Tuple es k pos) (gTup K n t):=by
  subst hK
  exact pg_tup hc h hn hst
def compB (osc:Scope) (oN:List Str) (scope:Scope) (N:List Str) (own:Nat) (js:List Nat):Bool :=
  scope.kind == .function && scope.names.all (fun y=>y.2 != .cell || scope.names.lookup y.1 == some .cell) && scope.names.all (fun y=>y.2 != .local || scope.names.lookup y.1 == some .local) &&
  scope.names.all (fun y=>y.2 != .free || (osc.names.lookup y.1 == some .cell || osc.names.lookup y.1 == some .free)) && N.length == own+js.length &&
  (js.map fun j=>oN[j]?) == (N.drop own).map some && (N.drop own).all fun x=>scope.names.lookup x == some .free
theorem compOk_of {X:Cx} {osc:Scope} {oN:List Str} {scope:Scope} {N:List Str} {own:Nat} {js:List Nat} (h:compB osc oN scope N own js=true) (hs:X.env.scope=osc) (hN:X.N=oN):CompOk X scope N own js:=by
  unfold compB at h
  simp only [Bool.and_eq_true,List.all_eq_true,Bool.or_eq_true,beq_iff_eq,bne_iff_ne,ne_eq] at h
  obtain ⟨⟨⟨⟨⟨⟨h1,h2⟩,h3⟩,h4⟩,h5⟩,h6⟩,h7⟩:=h
  refine ⟨h1,fun y hy hl=>?_,fun y hy hl=>?_,fun y hy hf=>?_,h5,fun k j e=>?_,fun k x e=>?_⟩
  · rcases h2 y hy with q | q
    · exact absurd hl q
    · exact q
  · rcases h3 y hy with q | q
    · exact absurd hl q
    · exact q
  · rcases h4 y hy with q | q
    · exact absurd hf q
    · show X.env.scope.names.lookup y.1=_∨X.env.scope.names.lookup y.1=_
      rw [hs]; exact q
  · rw [hN]
    have z:=congrArg (fun l=>l[k]?) h6
    simp only [List.getElem?_map,e,Option.map_some,List.getElem?_drop] at z
    cases q:N[own+k]? with
    | none=>rw [q] at z; cases z
    | some y=>rw [q] at z; exact (Option.some.inj z).symm
  · refine h7 x ?_
    exact List.mem_of_getElem? (i:=k) (by rw [List.getElem?_drop]; exact e)
def SB (b:Addr) (H H':Hp):Prop:=∀ a o,a≠b→H a=some o→H' a=some o
theorem SB.trans {b:Addr} {H H1 H2:Hp} (x:SB b H H1) (y:SB b H1 H2):SB b H H2:=fun a o n h=>y a o n (x a o n h)
theorem Same.sb {H H':Hp} (x:Same H H') (b:Addr):SB b H H':=fun a o _ h=>x a o h
theorem sb_upd (b:Addr) (H:Hp) (o:HO):SB b H (upd H b o):=fun a u n h=>by rw [upd_ne n]; exact h
theorem same_upd {H:Hp} {p:Addr} (h:H p=none) (o:HO):Same H (upd H p o):=fun b u q=>by rw [upd_ne (ne_of_none q h)]; exact q
def CNx (n:Nat) (l:Addr) (Pv:Nat→List V→St→Hp→Prop) (i:Nat) (ys:List V) (σ:St) (y:V) (H:Hp):Prop :=
  H l=some (.lst ys)∧ys.length<sizeLine∧∃ m',m'<n - i∧(m'=n - (i+1)∧i+1≤n∧(ys++[y]).length≤i+1∧Pv (i+1) (ys++[y]) σ (upd H l (.lst (ys++[y]))))
def CNo (n:Nat) (Pv:Nat→List V→St→Hp→Prop) (i:Nat) (ys:List V) (σ:St) (H:Hp):Prop:=∃ m',m'<n - i∧(m'=n - (i+1)∧i+1≤n∧ys.length≤i+1∧Pv (i+1) ys σ H)
theorem CNx.of {n:Nat} {l:Addr} {Pv:Nat→List V→St→Hp→Prop} {i:Nat} {ys:List V} {σ:St} {y:V} {H:Hp} (hn:n≤sizeLine) (hi:i<n) (hy:ys.length≤i) (h1:H l=some (.lst ys)) (h2:Pv (i+1) (ys++[y]) σ (upd H l (.lst (ys++[y])))):CNx n l Pv i ys σ y H :=
  ⟨h1,by omega,n - (i+1),by omega,rfl,hi,by rw [List.length_append,List.length_singleton]; omega,h2⟩
theorem CNo.of {n:Nat} {Pv:Nat→List V→St→Hp→Prop} {i:Nat} {ys:List V} {σ:St} {H:Hp} (hi:i<n) (hy:ys.length≤i) (h2:Pv (i+1) ys σ H):CNo n Pv i ys σ H :=
  ⟨n - (i+1),by omega,rfl,hi,by omega,h2⟩
theorem comp_range {lo:Int} {n:Nat} {l:Addr} {g:TG} {tc:TT} {te:TE} {σ0:St} {H0:Hp} {Qf:Hp→Prop} (Pv:Nat→List V→St→Hp→Prop) (h0:Pv 0 [] σ0 H0)
    (hs:∀ i ys σ' H',i<n→ys.length≤i→Pv i ys σ' H'→g (.int (lo+i)) σ' H' fun σ2 H3=>tc σ2 H3 fun b H4=>if b=true then te σ2 H4 fun y H5=>CNx n l Pv i ys σ2 y H5 else CNo n Pv i ys σ2 H4)
    (hd:∀ ys σ' H',ys.length≤n→Pv n ys σ' H'→Qf H') :
    ∃ W:Nat→Nat→List V→St→Hp→Prop,(∃ m,W 0 m [] σ0 H0)∧∀ i m ys σ' H',W i m ys σ' H' →
    ((Itr lo n).stop i H'∧Qf H')∨((Itr lo n).go i H'∧∀ x H2,(Itr lo n).yld i H' x H2→g x σ' H2 fun σ2 H3=>tc σ2 H3 fun b H4 =>
      if b=true then te σ2 H4 fun y H5=>H5 l=some (.lst ys)∧ys.length<sizeLine∧∃ m',m'<m∧W (i+1) m' (ys++[y]) σ2 (upd H5 l (.lst (ys++[y])))
      else ∃ m',m'<m∧W (i+1) m' ys σ2 H4):=by
  refine ⟨fun i m ys σ' H'=>m=n - i∧i≤n∧ys.length≤i∧Pv i ys σ' H',⟨n,rfl,Nat.zero_le _,Nat.le_refl _,h0⟩,?_⟩
  rintro i m ys σ' H' ⟨rfl,hi,hy,p⟩
  by_cases hlt:i<n
  · refine .inr ⟨hlt,fun x H2 q=>?_⟩
    obtain ⟨rfl,rfl⟩:=q
    exact hs i ys σ' _ hlt hy p
  · have e:i=n:=by omega
    subst e
    exact .inl ⟨Nat.le_refl _,hd ys σ' H' hy p⟩
theorem comp_list {K:PySem.W.Frag} {a:Addr} {xs:List V} {l:Addr} {g:TG} {tc:TT} {te:TE} {σ0:St} {H0:Hp} {Qf:Hp→Prop} (Pv:Nat→List V→St→Hp→Prop) (h0:Pv 0 [] σ0 H0)
    (hl:∀ i ys σ' H',i≤xs.length→Pv i ys σ' H'→SqL K H' a xs)
    (hs:∀ i x ys σ' H',i<xs.length→xs[i]?=some x→ys.length≤i→Pv i ys σ' H'→g x σ' H' fun σ2 H3=>tc σ2 H3 fun b H4=>if b=true then te σ2 H4 fun y H5=>CNx xs.length l Pv i ys σ2 y H5 else CNo xs.length Pv i ys σ2 H4)
    (hd:∀ ys σ' H',ys.length≤xs.length→Pv xs.length ys σ' H'→Qf H') :
    ∃ W:Nat→Nat→List V→St→Hp→Prop,(∃ m,W 0 m [] σ0 H0)∧∀ i m ys σ' H',W i m ys σ' H' →
    ((Itl K a).stop i H'∧Qf H')∨((Itl K a).go i H'∧∀ x H2,(Itl K a).yld i H' x H2→g x σ' H2 fun σ2 H3=>tc σ2 H3 fun b H4 =>
      if b=true then te σ2 H4 fun y H5=>H5 l=some (.lst ys)∧ys.length<sizeLine∧∃ m',m'<m∧W (i+1) m' (ys++[y]) σ2 (upd H5 l (.lst (ys++[y])))
      else ∃ m',m'<m∧W (i+1) m' ys σ2 H4):=by
  refine ⟨fun i m ys σ' H'=>m=xs.length - i∧i≤xs.length∧ys.length≤i∧Pv i ys σ' H',⟨xs.length,rfl,Nat.zero_le _,Nat.le_refl _,h0⟩,?_⟩
  rintro i m ys σ' H' ⟨rfl,hi,hy,p⟩
  have q:=hl i ys σ' H' hi p
  by_cases hlt:i<xs.length
  · refine .inr ⟨⟨xs,xs[i],q,by simp [hlt]⟩,fun x H2 z=>?_⟩
    obtain ⟨rfl,z⟩:=z
    exact hs i x ys σ' _ hlt (z xs q) hy p
  · have e:i=xs.length:=by omega
    subst e
    exact .inl ⟨⟨xs,q,Nat.le_refl _⟩,hd ys σ' H' hy p⟩
theorem for_enum {K:PySem.W.Frag} {a:Addr} {xs:List V} {g:TG} {tb:TS} {D:Ends} {σ:St} {H:Hp} (Pv:Nat→St→Hp→Prop) (h0:Pv 0 σ H) (hl:∀ i σ H,i≤xs.length→Pv i σ H→SqL K H a xs)
    (hs:∀ i x t σ H,xs[i]?=some x→Pv i σ H→H t=none→g (.ref t) σ (upd H t (.tup [.int i,x])) fun σ2 H2=>tb { D with nx:=Pv (i+1),ct:=Pv (i+1),bk:=D.nx } σ2 H2) (hd:∀ σ H,Pv xs.length σ H→D.nx σ H) :
    ∃ W:Nat→Nat→St→Hp→Prop,(∃ m,W 0 m σ H)∧∀ i m σ H,W i m σ H →
      ((Ite K a).stop i H∧D.nx σ H)∨((Ite K a).go i H∧∃ N:St→Hp→Prop,(∀ σ' H',N σ' H'→∃ m',m'<m∧W (i+1) m' σ' H')∧∀ x H',(Ite K a).yld i H x H'→g x σ H' fun σ2 H2=>tb { D with nx:=N,ct:=N,bk:=D.nx } σ2 H2):=by
  refine ⟨fun i m σ H=>m=xs.length - i∧i≤xs.length∧Pv i σ H,⟨xs.length,by simp,Nat.zero_le _,h0⟩,?_⟩
  rintro i m σ H ⟨rfl,hi,p⟩
  have q:=hl i σ H hi p
  by_cases hlt:i<xs.length
  · refine .inr ⟨⟨xs,xs[i],q,by simp [hlt]⟩,Pv (i+1),fun σ' H' p'=>⟨xs.length - (i+1),by omega,rfl,hlt,p'⟩,fun x H' y=>?_⟩
    obtain ⟨t,u,ht,rfl,rfl,y⟩:=y
    exact hs i u t σ _ (y xs q) p ht
  · have e:i=xs.length:=by omega
    subst e
    exact .inl ⟨⟨xs,q,rfl⟩,hd σ H p⟩
theorem atI0 {α:Type} {x:α} {xs:List α}:atI (x :: xs) 0=some x:=atI_nat (j:=0) rfl
theorem atI1 {α:Type} {x y:α} {xs:List α}:atI (x :: y :: xs) 1=some y:=atI_nat (j:=1) rfl
theorem atI2 {α:Type} {x y z:α} {xs:List α}:atI (x :: y :: z :: xs) 2=some z:=atI_nat (j:=2) rfl
theorem ite_dec {p A B:Prop} [Decidable p] (h1:p→A) (h2:¬ p→B):if decide p=true then A else B:=by
  by_cases h:p
  · rw [if_pos (decide_eq_true h)]; exact h1 h
  · rw [if_neg (by rw [decide_eq_false h]; exact Bool.false_ne_true)]; exact h2 h
end L2
set_option Elab.async false
set_option linter.all false
set_option maxRecDepth 100000
set_option maxHeartbeats 4000000
namespace HT
open PySem PySem.Spec PyProof.Rows
end HT
namespace L2
open PySem PySem.Spec PyProof.Rows
def NS:PySem.Expr→Prop
  | .Starred _ _=>False
  | _=>True
theorem star_ns {e:PySem.Expr} {es:List PySem.Expr} {env:Env} (h:NS e):starEach (e :: es) env=(false,eval e env) :: starEach es env:=by
  cases e <;> first | rfl | exact h.elim
def NSs:List PySem.Expr→Prop
  | []=>True
  | e :: es=>NS e∧NSs es
theorem back_ns {pos:Pos} {env:Env}:∀ {es:List PySem.Expr},NSs es→(backTo pos (starEach es env)).any (·.1)=false
  | [],_=>rfl
  | e :: es,h=>by
    rw [star_ns h.1]
    have ih:=back_ns (pos:=pos) (env:=env) h.2
    simp only [backTo] at ih ⊢
    simpa using ih
section
variable {X:Cx} {x:Str} {p pos:Pos} {e:PySem.Expr} {es:List PySem.Expr} {te:TE} {t:TA} {k:Nat} {ps:List Str} {sp:Sp} {id T:String} {r:List V→Hp→VK→Prop}
theorem pc (ha:PE X e te) (hr:PA X es t) (hn:NS e:=by exact True.intro):PA X (e :: es) (tCons te t):=pa_cons ha hr (star_ns hn)
theorem pe_defN (D:Def X.prog X.w X.K X.mg X.base x k ps sp) (hr:Room k X.A) (hg:Gl X x) (ha:PA X (e :: es) t) (hn:NSs (e :: es):=by repeat' (first | exact True.intro | refine ⟨?_,?_⟩)) (hd:(x == ("__debug__" : Str))=false:=by decide) :
    PE X (.Call (.Name x p) (e :: es) [] pos) (tCall sp [] E0 t):=pe_def D hr hg ha (star_ns hn.1) (back_ns hn.2) hd
theorem pe_callBN (hc:CallR X (.builtin id) r) (hg:Gl X x) (hm:X.mg x=none) (hv:bootBuiltins x=some (.builtin id)) (ha:PA X (e :: es) t) (hnn:NSs (e :: es):=by repeat' (first | exact True.intro | refine ⟨?_,?_⟩)) (hn:x ≠ "__name__" := by decide) (hdb:(x == ("__debug__" : Str))=false:=by decide) :
    PE X (.Call (.Name x p) (e :: es) [] pos) (tCB r t):=pe_callB hc hg hm hv ha hn hdb (star_ns hnn.1) (back_ns hnn.2)
theorem pe_callTyN (hc:CallR X (.type T) r) (hg:Gl X x) (hm:X.mg x=none) (hv:bootBuiltins x=some (.type T)) (ha:PA X (e :: es) t) (hnn:NSs (e :: es):=by repeat' (first | exact True.intro | refine ⟨?_,?_⟩)) (hn:x ≠ "__name__" := by decide) (hdb:(x == ("__debug__" : Str))=false:=by decide) :
    PE X (.Call (.Name x p) (e :: es) [] pos) (tCB r t):=pe_callTy hc hg hm hv ha hn hdb (star_ns hnn.1) (back_ns hnn.2)
end
end L2
set_option Elab.async false
set_option linter.all false
set_option maxRecDepth 100000
set_option maxHeartbeats 4000000
namespace L2
open PySem PySem.Spec PyProof.Rows
end L2
set_option Elab.async false
set_option linter.all false
set_option maxRecDepth 100000
set_option maxHeartbeats 4000000
namespace L2
open PySem PySem.Spec PyProof.Rows
section
variable {X:Cx} {K:PySem.W.Frag}
theorem ix_listK (hK:X.K=K):IxR X (rIxL K):=hK ▸ ix_list
theorem sl_listK (hK:X.K=K):SlR X (rSlL K):=hK ▸ sl_list
theorem op_in_seqK (hK:X.K=K):OpR X (compareOp .In) (rIn K false):=hK ▸ op_in_seq
theorem op_notIn_seqK (hK:X.K=K):OpR X (compareOp .NotIn) (rIn K true):=hK ▸ op_notIn_seq
theorem call_len_seqK (hK:X.K=K):CallR X (.builtin "len") (fun xs H Q=>∃ p ys,xs=[.ref p]∧(SqL K H p ys∨SqT K H p ys)∧Q (.int ys.length) H):=hK ▸ call_len_seq
theorem call_list_ofK (hK:X.K=K):CallR X (.type "list") (fun xs H Q=>∃ p ys,xs=[.ref p]∧(SqL K H p ys∨SqT K H p ys)∧∀ l,H l=none→Q (.ref l) (upd H l (.lst ys))):=hK ▸ call_list_of
theorem ints_range {ns ms:List Int} (h:ns.length=ms.length):(List.range ns.length).all (fun j=>ns.getD j 0 == ms.getD j 0)=decide (ns=ms):=by
  rw [Bool.eq_iff_iff,List.all_eq_true,decide_eq_true_eq]
  constructor
  · intro z
    refine List.ext_getElem h fun j h1 h2=>?_
    have:=z j (List.mem_range.mpr h1)
    rw [List.getD_eq_getElem?_getD,List.getD_eq_getElem?_getD,List.getElem?_eq_getElem h1,List.getElem?_eq_getElem h2] at this
    simpa using this
  · rintro rfl j _
    simp
def rEqL (K:PySem.W.Frag) (neg:Bool):R2:=fun x y H Q=>∃ (a b:Addr) (ns ms:List Int),x=.ref a∧y=.ref b∧SqL K H a (ns.map V.int)∧SqL K H b (ms.map V.int)∧Q (.bl (if neg then !decide (ns=ms) else decide (ns=ms))) H
theorem ints_eqAt {A:Around} {s:Shared} {ns:List Int} {us:List Value} (r:Vals (ns.map V.int) us) {ms:List Int} {ws:List Value} (r2:Vals (ms.map V.int) ws) (j:Nat) (h1:j<us.toArray.size) (h2:j<ws.toArray.size):SeqAt.EqAt A s us.toArray[j] ws.toArray[j] (ns.getD j 0 == ms.getD j 0):=by
  have l1:ns.length=us.length:=by have:=r.length; rwa [List.length_map] at this
  have l2:ms.length=ws.length:=by have:=r2.length; rwa [List.length_map] at this
  have k1:j<ns.length:=by rw [l1]; simpa using h1
  have k2:j<ms.length:=by rw [l2]; simpa using h2
  obtain ⟨u,hu,ru⟩:=r.get (i:=j) (x:=.int ns[j]) (by rw [List.getElem?_map,List.getElem?_eq_getElem k1]; rfl)
  obtain ⟨v,hv,rv⟩:=r2.get (i:=j) (x:=.int ms[j]) (by rw [List.getElem?_map,List.getElem?_eq_getElem k2]; rfl)
  obtain ⟨t,rfl⟩:=ru
  obtain ⟨t',rfl⟩:=rv
  have e1:us.toArray[j]=.int ns[j] t:=by
    have:us[j]?=some us[j]:=List.getElem?_eq_getElem (by simpa using h1)
    rw [hu] at this
    simpa using (Option.some.inj this).symm
  have e2:ws.toArray[j]=.int ms[j] t':=by
    have:ws[j]?=some ws[j]:=List.getElem?_eq_getElem (by simpa using h2)
    rw [hv] at this
    simpa using (Option.some.inj this).symm
  rw [e1,e2,List.getD_eq_getElem?_getD,List.getD_eq_getElem?_getD,List.getElem?_eq_getElem k1,List.getElem?_eq_getElem k2]
  exact SeqAt.EqAt.int_int _ _ _ _
theorem op_eqL (hu:X.A.units<cLine) (hK:X.K=K):OpR X (compareOp .Eq) (rEqL K false):=by
  subst hK
  intro pins s σ H x y v u Q I rx ry h
  obtain ⟨a,b,ns,ms,rfl,rfl,ha,hb,q⟩:=h
  cases rx
  cases ry
  obtain ⟨its,r1,p1,_⟩:=I.list ha
  obtain ⟨its2,r2,p2,_⟩:=I.list hb
  have l1:ns.length=its.length:=by have:=r1.length; rwa [List.length_map] at this
  have l2:ms.length=its2.length:=by have:=r2.length; rwa [List.length_map] at this
  by_cases hl:ns.length=ms.length
  · refine SeqAt.eq_listAt (e:=fun j=>ns.getD j 0 == ms.getD j 0) p1.isList p2.isList (by simp; omega) hu (fun j h1 h2=>ints_eqAt r1 r2 j h1 h2) ⟨.bl _,H,I,rfl,?_⟩
    rw [List.size_toArray,← l1,ints_range hl]
    exact q
  · refine SeqAt.eq_list_lengthsAt p1.isList p2.isList (by simp; omega) hu ⟨.bl false,H,I,rfl,?_⟩
    have e:decide (ns=ms)=false:=decide_eq_false fun z=>hl (by rw [z])
    rw [e] at q
    exact q
theorem op_neL (hu:X.A.units<cLine) (hK:X.K=K):OpR X (compareOp .NotEq) (rEqL K true):=by
  subst hK
  intro pins s σ H x y v u Q I rx ry h
  obtain ⟨a,b,ns,ms,rfl,rfl,ha,hb,q⟩:=h
  cases rx
  cases ry
  obtain ⟨its,r1,p1,_⟩:=I.list ha
  obtain ⟨its2,r2,p2,_⟩:=I.list hb
  have l1:ns.length=its.length:=by have:=r1.length; rwa [List.length_map] at this
  have l2:ms.length=its2.length:=by have:=r2.length; rwa [List.length_map] at this
  by_cases hl:ns.length=ms.length
  · refine SeqAt.RcNeAt.lists (e:=fun j=>ns.getD j 0 == ms.getD j 0) p1.isList p2.isList (by simp; omega) hu (fun j h1 h2=>ints_eqAt r1 r2 j h1 h2) X.prog X.w X.xe _ ⟨.bl _,H,I,rfl,?_⟩
    rw [List.size_toArray,← l1,ints_range hl]
    exact q
  · refine SeqAt.RcNeAt.lists_lengths p1.isList p2.isList (by simp; omega) hu X.prog X.w X.xe _ ⟨.bl true,H,I,rfl,?_⟩
    have e:decide (ns=ms)=false:=decide_eq_false fun z=>hl (by rw [z])
    rw [e] at q
    exact q
end
end L2
set_option Elab.async false
set_option linter.all false
set_option maxRecDepth 100000
set_option maxHeartbeats 4000000
namespace L2
open PySem PySem.Spec PyProof.Rows
def pairOf (x:Value) (c:Nat):Obj:={ cls:=.type "list",dict:=none,data:=.seq #[x,x] c,slots:=#[] }
theorem min_one {P0:Program} {w0:World} {A0:Around} {R0:Result→Shared→Prop} {it box:Addr} {t:Shared} {old:Value} {c:Nat} (hx:t.heap.get? box=some (pairOf old c))
    (h:∀ E,wpAny (model P0 w0) A0.in1 (pyNext (.ref it)) (fun r t1=>(∃ c1,t1.heap.get? box=some (pairOf old c1)) ∧
      ((r=none∧R0 (.ok (.ret old)) { t1 with heap:=t1.heap.update box (Obj.mapSeq fun _=>#[]) }) ∨
       ∃ v,r=some v∧∀ E',wpAny (model P0 w0) A0.in1 (richCompare .Lt v old) (fun a t2=>∃ b,a=.bool b∧t2=t1 ∧
         codeAny (model P0 w0) A0 (.builtin "min.loop" ⟨[.ref it,.none,.ref box],[]⟩) R0 (if b=true then { t1 with heap:=t1.heap.update box (Obj.mapSeq fun _=>#[v,v]) } else t1)) E' t1)) E t) :
    codeAny (model P0 w0) A0 (.builtin "min.loop" ⟨[.ref it,.none,.ref box],[]⟩) R0 t:=by
  refine codeAny_builtin F.entry_min_loop ?_
  rw [Around.under_plainId F.plain_min_loop _]
  show wpAny _ _ (seqItems? (.ref box) >>= fun found=>_) _ _ t
  refine wpAny_bind (wpAny_seqItems hx rfl (wpAny_bind (wpAny_tryCatch (wpAny_mono (h _) (fun r t1 z=>?_) fun _ _ e=>e))))
  obtain ⟨⟨c1,hx1⟩,⟨rfl,fin⟩ | ⟨v,rfl,go⟩⟩:=z
  · exact wpAny_bind (wpAny_updateSeq hx1 rfl (wpAny_bind (wpAny_letGo (wpAny_pure fin))))
  · refine wpAny_bind (wpAny_pure (wpAny_bind (wpAny_tryCatch (wpAny_holding (wpAny_bind (wpAny_mono (go _) (fun a t2 y=>?_) fun _ _ e=>e))))))
    obtain ⟨b,rfl,rfl,nxt⟩:=y
    refine wpAny_bind (wpAny_holding (wpAny_truthy_bool (wpAny_bind (wpAny_letGo (wpAny_pure ?_)))))
    have name:(toString "min" ++ toString ".loop" : String) = "min.loop" := by decide
    cases b with
    | true=>exact wpAny_bind (wpAny_updateSeq hx1 rfl (wpAny_bind (wpAny_letGo (by rw [name]; exact wpAny_pure ⟨plainId_quiet F.plain_min_loop _,nxt⟩))))
    | false=>exact wpAny_bind (wpAny_letGo (by rw [name]; exact wpAny_pure ⟨plainId_quiet F.plain_min_loop _,nxt⟩))
theorem min_first {P0:Program} {w0:World} {A0:Around} {R0:Result→Shared→Prop} {it box:Addr} {t:Shared} {c:Nat} (hx:t.heap.get? box=some { cls:=.type "list",dict:=none,data:=.seq #[] c,slots:=#[] })
    (h:∀ E,wpAny (model P0 w0) A0.in1 (pyNext (.ref it)) (fun r t1=>∃ v c1,r=some v∧t1.heap.get? box=some { cls:=.type "list",dict:=none,data:=.seq #[] c1,slots:=#[] } ∧
      codeAny (model P0 w0) A0 (.builtin "min.loop" ⟨[.ref it,.none,.ref box],[]⟩) R0 { t1 with heap:=t1.heap.update box (Obj.mapSeq fun _=>#[v,v]) }) E t) :
    codeAny (model P0 w0) A0 (.builtin "min.loop" ⟨[.ref it,.none,.ref box],[]⟩) R0 t:=by
  refine codeAny_builtin F.entry_min_loop ?_
  rw [Around.under_plainId F.plain_min_loop _]
  show wpAny _ _ (seqItems? (.ref box) >>= fun found=>_) _ _ t
  refine wpAny_bind (wpAny_seqItems hx rfl (wpAny_bind (wpAny_tryCatch (wpAny_mono (h _) (fun r t1 z=>?_) fun _ _ e=>e))))
  obtain ⟨v,c1,rfl,hx1,nxt⟩:=z
  have name:(toString "min" ++ toString ".loop" : String) = "min.loop" := by decide
  exact wpAny_bind (wpAny_pure (wpAny_bind (wpAny_updateSeq hx1 rfl (by rw [name]; exact wpAny_pure ⟨plainId_quiet F.plain_min_loop _,nxt⟩))))
def Cmpmin (P0:Program) (w0:World) (A0:Around) (Good:Heap→Prop) (At:Nat→Value→Prop) (bt:Nat→Nat→Bool):Prop :=
  ∀ (i j:Nat) (u v:Value) (t:Shared) (Q:Value→Shared→Prop) (E:Value→Shared→Prop),Good t.heap→At i u→At j v→Q (.bool (bt i j)) t→wpAny (model P0 w0) A0.in1 (richCompare .Lt u v) Q E t
section
variable {P0:Program} {w0:World} {A0:Around} {R0:Result→Shared→Prop} {it box:Addr} {fps wrs:List Addr} {cnt:Nat} {At:Nat→Value→Prop} {Sit:Nat→Heap→Prop} {Good:Heap→Prop} {bt:Nat→Nat→Bool}
theorem min_rest (wk:Walks P0 w0 A0.in1 it fps wrs cnt At Sit) (cmp:Cmpmin P0 w0 A0 Good At bt) (off:box∉wrs) (offp:box∉fps) (keep:∀ h h':Heap,Good h→(∀ b o,b∉wrs→b≠box→h.get? b=some o→h'.get? b=some o)→Good h') (left:Nat) :
    ∀ (i:Nat) (t:Shared) (best:Value) (c:Nat),cnt=i+1+left→Sit (i+1) t.heap→Good t.heap→At (argBest bt i) best→t.heap.get? box=some (pairOf best c) →
    (∀ v h' tk,At (argBest bt (cnt - 1)) v→(∀ b o,b∉wrs→b≠box→t.heap.get? b=some o→h'.get? b=some o)→R0 (.ok (.ret v)) { t with heap:=h',toks:=tk })→codeAny (model P0 w0) A0 (.builtin "min.loop" ⟨[.ref it,.none,.ref box],[]⟩) R0 t:=by
  induction left with
  | zero =>
    intro i t best c hc hs hg hb hx hR
    exact min_one hx fun E=>wk.done t _ _ (by rw [hc]; exact hs) fun h' tk kp=>⟨⟨c,kp box _ off hx⟩,.inl ⟨rfl,hR best _ tk (by rw [show cnt - 1=i by omega]; exact hb) fun b o n1 n2 e=>(Heap.get?_update_other _ _ (Ne.symm n2)).trans (kp b o n1 e)⟩⟩
  | succ left ih =>
    intro i t best c hc hs hg hb hx hR
    refine min_one hx fun E=>wk.item (i+1) t _ _ (by omega) hs fun v h' tk hv hs' kp=>⟨⟨c,kp box _ off hx⟩,.inr ⟨v,rfl,fun E'=>?_⟩⟩
    have good:=keep _ h' hg fun b o n1 _ e=>kp b o n1 e
    refine cmp (i+1) (argBest bt i) v best _ _ _ good hv hb ⟨_,rfl,rfl,?_⟩
    by_cases hbt:bt (i+1) (argBest bt i)=true
    · rw [if_pos hbt]
      refine ih (i+1) _ v _ (by omega) (wk.frame _ _ _ hs' fun b hbf o e=>(Heap.get?_update_other _ _ (fun z=>offp (by rw [z]; exact hbf))).trans e) (keep _ _ good fun b o _ n2 e=>(Heap.get?_update_other _ _ (Ne.symm n2)).trans e) (by rw [argBest,if_pos hbt]; exact hv) (Heap.get?_update_self _ (kp box _ off hx) rfl) fun u h'' tk' hu kp'=>?_
      exact hR u h'' tk' hu fun b o n1 n2 e=>kp' b o n1 n2 ((Heap.get?_update_other _ _ (Ne.symm n2)).trans (kp b o n1 e))
    · rw [if_neg hbt]
      exact ih (i+1) _ best c (by omega) hs' good (by rw [argBest,if_neg hbt]; exact hb) (kp box _ off hx) fun u h'' tk' hu kp'=>hR u h'' tk' hu fun b o n1 n2 e=>kp' b o n1 n2 (kp b o n1 e)
end
theorem call_min_at {P0:Program} {w0:World} {A0:Around} {E0:Value→Shared→Prop} {t:Shared} {x:Value} {Q:Value→Shared→Prop}
    (h:wpAny (model P0 w0) A0.in1 (pyIter x) (fun iv t2=>∃ it fps wrs cnt At Sit bt,∃ Good:Heap→Prop,iv=.ref it∧Walks P0 w0 A0.in1 it fps wrs cnt At Sit∧Sit 0 t2.heap∧(∀ b∈fps,b<t2.heap.objs.size)∧0<cnt∧Good t2.heap ∧
      (∀ h h':Heap,Good h→(∀ b o,b∉wrs→b≠t2.heap.objs.size→h.get? b=some o→h'.get? b=some o)→Good h')∧Cmpmin P0 w0 A0 Good At bt ∧
      ∀ v h' tk,At (argBest bt (cnt - 1)) v→(∀ b o,b∉wrs→t2.heap.get? b=some o→h'.get? b=some o)→Q v { t2 with heap:=h',toks:=tk }) E0 t):wpAny (model P0 w0) A0 (call (.builtin "min") [x]) Q E0 t:=by
  have name:(toString "min" ++ toString ".loop" : String) = "min.loop" := by decide
  refine call_function_tree F.kind_min F.plain_min F.entry_min (F.args_min1 _) ?_
  show wpAny _ _ (Builtin.Builtins.bindParams "min" ["key", "default"] 0 ⟨[],[]⟩ >>= fun bound=>_) _ _ t
  refine wpAny_bind (wpAny_of_eq (show Builtin.Builtins.bindParams "min" ["key", "default"] 0 ⟨[],[]⟩=pure [none,none] from rfl) (wpAny_bind (wpAny_pure (wpAny_bind (wpAny_mono h (fun iv t2 z=>?_) fun _ _ e=>e)))))
  obtain ⟨it,fps,wrs,cnt,At,Sit,bt,Good,rfl,wk,hs,hf,pos,hg,keep,cmp,hQ⟩:=z
  have offp:t2.heap.objs.size∉fps:=fun m=>Nat.lt_irrefl _ (hf _ m)
  have off:t2.heap.objs.size∉wrs:=fun m=>offp (wk.sub _ m)
  refine wpAny_bind (wpAny_newObj_type ?_)
  rw [name]
  refine wpAny_pure ⟨plainId_quiet F.plain_min_loop _,min_first (Heap.get?_push_size _ rfl) fun E=>wk.item 0 _ _ _ pos (wk.frame _ _ _ hs fun b _ o e=>Heap.get?_push_of_some _ e) fun v h' tk hv hs' kp=>⟨v,_,rfl,kp _ _ off (Heap.get?_push_size _ rfl),?_⟩⟩
  have k1:∀ b o,b∉wrs→t2.heap.get? b=some o→h'.get? b=some o:=fun b o n1 e=>kp b o n1 (Heap.get?_push_of_some _ e)
  have k2:∀ (f:Obj→Obj) b o,b∉wrs→t2.heap.get? b=some o→(h'.update t2.heap.objs.size f).get? b=some o:=fun f b o n1 e=>(Heap.get?_update_other _ _ (Nat.ne_of_gt (Heap.lt_size e))).trans (k1 b o n1 e)
  refine min_rest wk cmp off offp keep (cnt - 1) 0 _ v _ (by omega) (wk.frame _ _ _ hs' fun b hbf o e=>(Heap.get?_update_other _ _ (fun z=>offp (by rw [z]; exact hbf))).trans e) (keep _ _ hg fun b o n1 _ e=>k2 _ b o n1 e) hv (Heap.get?_update_self _ (kp _ _ off (Heap.get?_push_size _ rfl)) rfl) fun u h'' tk' hu kp'=>?_
  exact hQ u h'' tk' hu fun b o n1 e=>kp' b o n1 (Nat.ne_of_lt (Heap.lt_size e)) (k2 _ b o n1 e)
end L2
set_option Elab.async false
set_option linter.all false
set_option maxRecDepth 100000
set_option maxHeartbeats 4000000
namespace HT
open PySem PyProof.Rows
section
open PySem.SeqAt
open PySem.AutoSeq1 (wpAny_loadPart')
open PySem.MeetsSeq PySem.MeetsSeq2 PySem.MeetsSeq3
end
end HT
namespace L2
open PySem PySem.Spec PyProof.Rows
def rBest (K:PySem.W.Frag) (bt:List Int→List Int→Bool):List V→Hp→VK→Prop:=fun xs H Q=>∃ (p:Addr) (as:List Addr) (vs:List (List Int)),xs=[.ref p]∧SqL K H p (as.map V.ref)∧as≠[]∧as.length=vs.length ∧
  (∀ (i:Nat) (a:Addr) (ns:List Int),as[i]?=some a→vs[i]?=some ns→SqT K H a (ns.map V.int)) ∧
  ∀ (m:Nat) (a:Addr),m=argBest (fun i j=>bt (vs.getD i []) (vs.getD j [])) (as.length - 1)→as[m]?=some a→Q (.ref a) H
theorem tup_at {h h':Heap} {a:Addr} {us:Array Value} (x:IsTup h a us) (k:∀ o,h.get? a=some o→h'.get? a=some o):IsTup h' a us:=by
  obtain ⟨o,ho,r⟩:=x
  exact ⟨o,k o ho,r⟩
theorem tup_lt {h:Heap} {a:Addr} {us:Array Value} (x:IsTup h a us):a<h.objs.size:=by
  obtain ⟨o,ho,_⟩:=x
  exact Heap.lt_size ho
def GoodT (as:List Addr) (vs:List (List Int)) (h:Heap):Prop:=∀ (i:Nat) (a:Addr) (ns:List Int),as[i]?=some a→vs[i]?=some ns→∃ us:List Value,IsTup h a us.toArray∧IntsAre us.toArray.toList ns
theorem at_ref {as:List Addr} {us:List Value} (r:Vals (as.map V.ref) us) {i:Nat} {v:Value} (h:us.toArray[i]?=some v):∃ a,as[i]?=some a∧v=.ref a:=by
  have h':us[i]?=some v:=by simpa using h
  have hi:i<as.length:=by
    have:=r.length
    rw [List.length_map] at this
    rw [this]; exact (List.getElem?_eq_some_iff.mp h').1
  obtain ⟨u,hu,ru⟩:=r.get (i:=i) (x:=.ref as[i]) (by rw [List.getElem?_map,List.getElem?_eq_getElem hi]; rfl)
  rw [h'] at hu; cases hu
  cases ru
  exact ⟨as[i],List.getElem?_eq_getElem hi,rfl⟩
theorem getD_of {vs:List (List Int)} {i:Nat} {ns:List Int} (h:vs[i]?=some ns):vs.getD i []=ns:=by rw [List.getD_eq_getElem?_getD,h]; rfl
section
variable {X:Cx} {K:PySem.W.Frag}
theorem call_minT (hc:X.calm=true) (hu:X.A.units+1<cLine) (hK:X.K=K):CallR X (.builtin "min") (rBest K HT.lexLt):=by
  subst hK
  intro pins s σ H xs us Q I r h
  obtain ⟨p,as,vs,rfl,hq,hne,hlen,ht,q⟩:=h
  obtain ⟨u,rfl,rx⟩:=vals1 r
  cases rx
  obtain ⟨its,rv,pl,hz⟩:=I.list hq
  have hl:as.length=its.length:=by have:=rv.length; rwa [List.length_map] at this
  have hu1:X.A.in1.units<cLine:=hu
  have good0:GoodT as vs s.heap:=fun i a ns h1 h2=>by
    obtain ⟨us,r1,p1,_⟩:=I.tuple (ht i a ns h1 h2)
    exact ⟨us,p1,intsAre_of r1⟩
  have small:∀ (i:Nat) (a:Addr) (ns:List Int),as[i]?=some a→vs[i]?=some ns→a<s.heap.objs.size:=fun i a ns h1 h2=>by
    obtain ⟨us,p1,_⟩:=good0 i a ns h1 h2
    exact tup_lt p1
  have pos:0<its.length:=by rw [← hl]; exact List.length_pos_iff.mpr hne
  refine call_min_at (wpAny_pyIter_list pl.isList ?_)
  refine ⟨s.heap.objs.size,_,[s.heap.objs.size],_,_,_,fun i j=>HT.lexLt (vs.getD i []) (vs.getD j []),GoodT as vs,rfl,Walks.list (A:=X.A.in1) (show X.A.in1.handled=none from I.ok.hd hc) s.heap.objs.size p ?_ its.toArray,⟨⟨_,Heap.get?_push_size _ rfl,rfl,rfl⟩,pl.isList.at fun o e=>Heap.get?_push_of_some _ e⟩,?_,by simpa using pos,?_,?_,?_,?_⟩
  · obtain ⟨o,e,_⟩:=pl.isList; exact Nat.ne_of_lt (Heap.lt_size e)
  · intro b hb'
    have lt:p<s.heap.objs.size:=by obtain ⟨o,e,_⟩:=pl.isList; exact Heap.lt_size e
    show b<(s.heap.push _).objs.size
    rw [Heap.size_push]
    simp only [List.mem_cons,List.not_mem_nil,or_false] at hb'
    rcases hb' with rfl | rfl
    · exact Nat.lt_succ_self _
    · exact Nat.lt_succ_of_lt lt
  · intro i a ns h1 h2
    obtain ⟨us,p1,i1⟩:=good0 i a ns h1 h2
    exact ⟨us,tup_at p1 fun o e=>Heap.get?_push_of_some _ e,i1⟩
  · intro h h' g kp i a ns h1 h2
    obtain ⟨us,p1,i1⟩:=g i a ns h1 h2
    have lt:=small i a ns h1 h2
    refine ⟨us,tup_at p1 fun o e=>kp a o (by simpa using Nat.ne_of_lt lt) (fun z=>?_) e,i1⟩
    have z':a=s.heap.objs.size+1:=by rw [z]; exact Heap.size_push ..
    rw [z'] at lt
    exact absurd lt (Nat.not_lt.mpr (Nat.le_succ _))
  · intro i j u v t Q' E' g ai aj q'
    obtain ⟨a,ha,rfl⟩:=at_ref rv ai
    obtain ⟨b,hb,rfl⟩:=at_ref rv aj
    have vi:i<vs.length:=by rw [← hlen]; exact (List.getElem?_eq_some_iff.mp ha).1
    have vj:j<vs.length:=by rw [← hlen]; exact (List.getElem?_eq_some_iff.mp hb).1
    obtain ⟨us,p1,i1⟩:=g i a _ ha (List.getElem?_eq_getElem vi)
    obtain ⟨ws,p2,i2⟩:=g j b _ hb (List.getElem?_eq_getElem vj)
    refine (HT.lt_tupInts p1 p2 i1 i2 hu1 ?_:wpAny (model X.prog X.w) X.A.in1 (compareOp .Lt (.ref a) (.ref b)) Q' E' t)
    have q2:=q'
    dsimp only at q2
    rw [getD_of (List.getElem?_eq_getElem vi),getD_of (List.getElem?_eq_getElem vj)] at q2
    exact q2
  · intro v h' tk hv hk
    obtain ⟨a,ha,rfl⟩:=at_ref rv hv
    exact ⟨.ref a,H,I.kept (t':=tk) (fun b o e=>hk b o (by simpa using Nat.ne_of_lt (Heap.lt_size e)) (Heap.get?_push_of_some _ e)),rfl,q _ a (by rw [List.size_toArray,← hl]) ha⟩
end
end L2
namespace L2
open PySem PySem.Spec PyProof.Rows
end L2
set_option Elab.async false
set_option linter.all false
set_option maxRecDepth 100000
set_option maxHeartbeats 4000000
namespace L2
open PySem PySem.Spec PyProof.Rows
section
variable {κ:Type} [DecidableEq κ]
def valV (kvs:List (κ×V)) (k:κ):Option V:=(kvs.find? fun kv=>decide (kv.1=k)).map (·.2)
def putK (kvs:List (κ×V)) (k:κ) (v:V):List (κ×V) :=
  if (kvs.any fun kv=>decide (kv.1=k))=true then kvs.map (fun kv=>if kv.1=k then (kv.1,v) else kv) else kvs++[(k,v)]
theorem valV_pos {p:κ×V} {r:List (κ×V)} {k:κ} (e:p.1=k):valV (p :: r) k=some p.2:=by simp [valV,List.find?_cons,e]
theorem valV_neg {p:κ×V} {r:List (κ×V)} {k:κ} (e:¬ p.1=k):valV (p :: r) k=valV r k:=by simp [valV,List.find?_cons,e]
theorem valV_any (k:κ):∀ kvs:List (κ×V),(kvs.any fun kv=>decide (kv.1=k))=(valV kvs k).isSome
  | []=>rfl
  | p :: r=>by
    rw [List.any_cons]
    by_cases e:p.1=k
    · simp only [valV_pos e,decide_eq_true e,Bool.true_or,Option.isSome_some]
    · rw [valV_neg e,decide_eq_false e,Bool.false_or]; exact valV_any k r
theorem valV_map (k j:κ) (y:V):∀ kvs:List (κ×V),valV (kvs.map fun kv=>if kv.1=k then (kv.1,y) else kv) j=(valV kvs j).map fun x=>if j=k then y else x
  | []=>rfl
  | p :: r=>by
    have ih:=valV_map k j y r
    rw [List.map_cons]
    by_cases h:p.1=k
    · rw [if_pos h]
      by_cases e:p.1=j
      · rw [valV_pos (p:=(p.1,y)) e,valV_pos e,Option.map_some,if_pos (e.symm.trans h)]
      · rw [valV_neg (p:=(p.1,y)) e,valV_neg e,ih]
    · rw [if_neg h]
      by_cases e:p.1=j
      · rw [valV_pos (p:=p) e,valV_pos e,Option.map_some,if_neg (fun z=>h (e.trans z))]
      · rw [valV_neg (p:=p) e,valV_neg e,ih]
theorem valV_snoc (k j:κ) (y:V):∀ kvs:List (κ×V),valV kvs k=none→valV (kvs++[(k,y)]) j=if j=k then some y else valV kvs j
  | [],_=>by
    by_cases e:k=j
    · rw [if_pos e.symm]; exact valV_pos (p:=(k,y)) e
    · rw [if_neg (fun z=>e z.symm)]; exact valV_neg (p:=(k,y)) e
  | p :: r,hn=>by
    rw [List.cons_append]
    have hk:¬ p.1=k:=fun z=>by rw [valV_pos z] at hn; cases hn
    rw [valV_neg hk] at hn
    have ih:=valV_snoc k j y r hn
    by_cases e:p.1=j
    · rw [valV_pos e,valV_pos e,if_neg (fun z=>hk (e.trans z))]
    · rw [valV_neg e,valV_neg e,ih]
theorem valV_put (kvs:List (κ×V)) (k j:κ) (y:V):valV (putK kvs k y) j=if j=k then some y else valV kvs j:=by
  unfold putK
  by_cases a:(kvs.any fun kv=>decide (kv.1=k))=true
  · rw [if_pos a,valV_map]
    rw [valV_any] at a
    by_cases e:j=k
    · obtain ⟨x,hx⟩:=Option.isSome_iff_exists.mp a
      rw [if_pos e,e,hx,Option.map_some,if_pos rfl]
    · rw [if_neg e]
      cases valV kvs j with
      | none=>rfl
      | some x=>rw [Option.map_some,if_neg e]
  · rw [if_neg a]
    refine valV_snoc k j y kvs ?_
    rw [valV_any] at a
    cases q:valV kvs k with
    | none=>rfl
    | some x=>rw [q] at a; exact (a rfl).elim
theorem length_putK (kvs:List (κ×V)) (k:κ) (v:V):(putK kvs k v).length≤kvs.length+1:=by
  unfold putK
  split
  · rw [List.length_map]; omega
  · rw [List.length_append,List.length_cons,List.length_nil]; omega
theorem putK_new {kvs:List (κ×V)} {k:κ} (v:V) (h:valV kvs k=none):putK kvs k v=kvs++[(k,v)]:=by
  unfold putK
  rw [valV_any,h]
  exact if_neg (by decide)
theorem RelO.isSome_eq {o:Option V} {u:Option Value} (r:RelO o u):o.isSome=u.isSome:=by
  cases o with
  | none=>cases u with
    | none=>rfl
    | some _=>exact (show False from r).elim
  | some _=>cases u with
    | none=>exact (show False from r).elim
    | some _=>rfl
theorem RelO.getD {o:Option V} {u:Option Value} {d:V} {d':Value} (r:RelO o u) (rd:RelV d d'):RelV (o.getD d) (u.getD d'):=by
  cases o with
  | none=>cases u with
    | none=>exact rd
    | some _=>exact (show False from r).elim
  | some _=>cases u with
    | none=>exact (show False from r).elim
    | some _=>exact r
theorem KV.val {kvs:List (κ×V)} {vs:List (κ×Value)} (r:KV kvs vs) (k:κ):RelO (valV kvs k) (valueAt vs k):=by
  unfold KV at r
  induction r with
  | nil=>exact True.intro
  | @cons p q ps qs h t ih =>
    obtain ⟨h1,h2⟩:=h
    by_cases e:p.1=k
    · have e':q.1=k:=h1.symm.trans e
      have b:valueAt (q :: qs) k=some q.2:=by simp [valueAt,List.find?_cons,e']
      rw [valV_pos e,b]; exact h2
    · have e':¬ q.1=k:=fun z=>e (h1.trans z)
      have b:valueAt (q :: qs) k=valueAt qs k:=by simp [valueAt,List.find?_cons,e']
      rw [valV_neg e,b]; exact ih
theorem KV.any {kvs:List (κ×V)} {vs:List (κ×Value)} (r:KV kvs vs) (k:κ):(kvs.any fun kv=>decide (kv.1=k))=vs.any fun kv=>decide (kv.1=k):=by
  unfold KV at r
  induction r with
  | nil=>rfl
  | cons h t ih=>rw [List.any_cons,List.any_cons,ih,h.1]
theorem KV.repl {kvs:List (κ×V)} {vs:List (κ×Value)} (r:KV kvs vs) (k:κ) {y:V} {u:Value} (ry:RelV y u) :
    KV (kvs.map fun kv=>if kv.1=k then (kv.1,y) else kv) (vs.map fun kv=>if kv.1=k then (kv.1,u) else kv):=by
  unfold KV at r ⊢
  induction r with
  | nil=>exact .nil
  | @cons p q ps qs h t ih =>
    rw [List.map_cons,List.map_cons]
    refine .cons ?_ ih
    obtain ⟨h1,h2⟩:=h
    by_cases e:p.1=k
    · rw [if_pos e,if_pos (h1.symm.trans e)]; exact ⟨h1,ry⟩
    · rw [if_neg e,if_neg (fun z=>e (h1.trans z))]; exact ⟨h1,h2⟩
theorem KV.put {kvs:List (κ×V)} {vs:List (κ×Value)} (r:KV kvs vs) (k:κ) {y:V} {u:Value} (ry:RelV y u):KV (putK kvs k y) (stored vs k u):=by
  unfold putK stored
  rw [r.any k]
  by_cases e:(vs.any fun kv=>decide (kv.1=k))=true
  · rw [if_pos e,if_pos e]; exact r.repl k ry
  · rw [if_neg e,if_neg e]; exact Paired.snoc r ⟨rfl,ry⟩
theorem KV.length {kvs:List (κ×V)} {vs:List (κ×Value)} (r:KV kvs vs):kvs.length=vs.length:=Paired.length r
end
theorem kV_is {P:Program} {w:World} {k:Key} {u:Value} (r:RelV (kV k) u):(mixKind P w).is k u=true:=by
  cases k with
  | inl i=>obtain ⟨t,e⟩:=(show ∃ t,u=Value.int i t from r); subst e; exact mixKind_int P w i t
  | inr x=>obtain ⟨t,e⟩:=(show ∃ t,u=Value.str x t from r); subst e; exact mixKind_str P w x t
theorem items_are {P:Program} {w:World}:∀ {ks:List Key} {us:List Value},Vals (ks.map kV) us→ItemsAre (mixKind P w) ks us
  | [],_,r=>by rw [List.map_nil] at r; cases r; exact .nil
  | k :: ks,_,r=>by
    rw [List.map_cons] at r
    cases r with
    | cons h t=>exact .cons (kV_is h) (items_are t)
abbrev KT (H:Hp):List (List Key×V)→List (List Key×Addr×Value)→Prop:=Paired fun p q=>p.1=q.1∧H q.2.1=some (.tup (p.1.map kV))∧RelV p.2 q.2.2
theorem KT.val {H:Hp} {kvs:List (List Key×V)} {xs:List (List Key×Addr×Value)} (r:KT H kvs xs) (k:List Key):RelO (valV kvs k) ((atKey xs k).map (·.2)):=by
  induction r with
  | nil=>exact True.intro
  | @cons p q ps qs h t ih =>
    obtain ⟨h1,_,h2⟩:=h
    by_cases e:p.1=k
    · have e':q.1=k:=h1.symm.trans e
      have b:atKey (q :: qs) k=some q.2:=by simp [atKey,List.find?_cons,e']
      rw [valV_pos e,b]; exact h2
    · have e':¬ q.1=k:=fun z=>e (h1.trans z)
      have b:atKey (q :: qs) k=atKey qs k:=by simp [atKey,List.find?_cons,e']
      rw [valV_neg e,b]; exact ih
theorem KT.repl {H:Hp} {kvs:List (List Key×V)} {xs:List (List Key×Addr×Value)} (r:KT H kvs xs) (k:List Key) {y:V} {u:Value} (ry:RelV y u) :
    KT H (kvs.map fun kv=>if kv.1=k then (kv.1,y) else kv) (xs.map (putAt k u)):=by
  induction r with
  | nil=>exact .nil
  | @cons p q ps qs h t ih =>
    rw [List.map_cons,List.map_cons]
    refine .cons ?_ ih
    obtain ⟨h1,h2,h3⟩:=h
    unfold putAt
    by_cases e:p.1=k
    · rw [if_pos e,if_pos (h1.symm.trans e)]; exact ⟨h1,h2,ry⟩
    · rw [if_neg e,if_neg (fun z=>e (h1.trans z))]; exact ⟨h1,h2,h3⟩
theorem KT.put {H:Hp} {kvs:List (List Key×V)} {xs:List (List Key×Addr×Value)} (r:KT H kvs xs) (k:List Key) {b:Addr} {y:V} {u:Value} (hb:H b=some (.tup (k.map kV))) (ry:RelV y u) :
    KT H (putK kvs k y) (storedH xs k b u):=by
  have e:(kvs.any fun kv=>decide (kv.1=k))=(atKey xs k).isSome:=by
    rw [valV_any,(r.val k).isSome_eq,Option.isSome_map]
  unfold putK storedH
  rw [e]
  by_cases q:(atKey xs k).isSome=true
  · rw [if_pos q,if_pos q]; exact r.repl k ry
  · rw [if_neg q,if_neg q]; exact Paired.snoc r ⟨rfl,hb,ry⟩
theorem KT.keeps {H H':Hp} {kvs:List (List Key×V)} {xs:List (List Key×Addr×Value)} (r:KT H kvs xs) (ht:∀ b ys,H b=some (.tup ys)→H' b=some (.tup ys)):KT H' kvs xs :=
  Paired.mapP r fun _ _ z=>⟨z.1,ht _ _ z.2.1,z.2.2⟩
section
variable {P:Program} {w:World} {H:Hp} {h:Heap} {a:Addr}
theorem rd_of {u:HO} (ok:HOk P w H h) (e:Rd H a u):ObjOk P w H h a u:=e.ok ok
theorem dk_rd {kvs:List (Key×V)} (ok:HOk P w H h) (e:Rd H a (.dK kvs)):kvs.length≤sizeLine∧(a == sysModules)=false∧∃ vs,KV kvs vs∧h.DictOf (mixKind P w) a vs :=
  show ObjOk P w H h a (.dK kvs) from rd_of ok e
theorem dk_of {kvs:List (Key×V)} (ok:HOk P w H h) (e:H a=some (.dK kvs)):kvs.length≤sizeLine∧(a == sysModules)=false∧∃ vs,KV kvs vs∧h.DictOf (mixKind P w) a vs:=dk_rd ok (.inl e)
theorem key_of {ks:List Key} (ok:HOk P w H h) (e:H a=some (.tup (ks.map kV))):(tupleKind (mixKind P w)).is h ks a:=by
  obtain ⟨_,its,r,o,h1,h2,n,h3⟩:=(show ObjOk P w H h a (.tup (ks.map kV)) from ok a _ e)
  exact ⟨o,its.toArray,n,h1,h2,h3,by simpa using items_are r⟩
theorem dt_rd {kvs:List (List Key×V)} (ok:HOk P w H h) (e:Rd H a (.dT kvs)):kvs.length≤sizeLine∧(a == sysModules)=false ∧
    ∃ xs,KT H kvs xs∧h.DictOfH (tupleKind (mixKind P w)) a xs:=by
  obtain ⟨z,y,xs,r,o,es,ep,h1,h2,h3,h4,h5⟩:=(show ObjOk P w H h a (.dT kvs) from rd_of ok e)
  refine ⟨z,y,xs,r,o,es,ep,h1,h2,h3,h4,fun x hx=>?_,h5⟩
  have all:∀ {l:List (List Key×V)} {m:List (List Key×Addr×Value)},KT H l m→∀ x∈m,(tupleKind (mixKind P w)).is h x.1 x.2.1:=by
    intro l m q
    induction q with
    | nil=>intro x hx; exact nomatch hx
    | @cons p q ps qs hq t ih =>
      intro x hx
      rcases List.mem_cons.mp hx with e | hx
      · subst e
        exact key_of ok (by rw [← hq.1]; exact hq.2.1)
      · exact ih x hx
  exact all r x hx
theorem dt_of {kvs:List (List Key×V)} (ok:HOk P w H h) (e:H a=some (.dT kvs)):kvs.length≤sizeLine∧(a == sysModules)=false ∧
    ∃ xs,KT H kvs xs∧h.DictOfH (tupleKind (mixKind P w)) a xs:=dt_rd ok (.inl e)
end
def DGet (H:Hp) (a:Addr) (y:V) (r:Option V):Prop :=
  (∃ kvs k,Rd H a (.dK kvs)∧y=kV k∧r=valV kvs k)∨∃ kvs k b,Rd H a (.dT kvs)∧y=.ref b∧H b=some (.tup (k.map kV))∧r=valV kvs k
def DPut (H:Hp) (a:Addr) (y v:V) (H':Hp):Prop :=
  (∃ kvs k,H a=some (.dK kvs)∧y=kV k∧kvs.length<sizeLine∧H'=upd H a (.dK (putK kvs k v))) ∨
  ∃ kvs k b,H a=some (.dT kvs)∧y=.ref b∧H b=some (.tup (k.map kV))∧kvs.length<sizeLine∧H'=upd H a (.dT (putK kvs k v))
theorem DGet.k {H:Hp} {a:Addr} {kvs:List (Key×V)} {k:Key} (e:H a=some (.dK kvs)):DGet H a (kV k) (valV kvs k):=.inl ⟨kvs,k,.inl e,rfl,rfl⟩
theorem DPut.k {H:Hp} {a:Addr} {kvs:List (Key×V)} {k:Key} {v:V} (e:H a=some (.dK kvs)) (hl:kvs.length<sizeLine):DPut H a (kV k) v (upd H a (.dK (putK kvs k v))):=.inl ⟨kvs,k,e,rfl,hl,rfl⟩
section
variable {X:Cx} {pins:List (Addr×Obj)} {σ:St} {H:Hp} {s:Shared} {a:Addr} {y v:V} {u r:Value} {o:Option V} {A:Around} {E:Value→Shared→Prop}
theorem Inv.big (I:Inv X pins σ H s):sysModules<s.heap.objs.size:=by
  have h:mainGlobals<s.heap.objs.size:=(I.mod.glob.keeps I.bk).lt
  exact Nat.lt_trans (by decide) h
theorem d_write {h':Heap} {t':Nat} {ob:HO} (I:Inv X pins σ H s) (mu:Mut (H a)) (hs:Heap.SameBut a s.heap h') (he:∃ q,h'.get? a=some q) (new:ObjOk X.prog X.w (upd H a ob) h' a ob) :
    Inv X pins σ (upd H a ob) { s with heap:=h',toks:=t' } :=
  I.write (x:=a) (e:=a) mu (.inl rfl) (fun b q hb z=>(hs.2 b hb).trans z) he new
theorem dk_new {P:Program} {w:World} {H':Hp} {h':Heap} {kvs:List (Key×V)} {vs:List (Key×Value)} (z:kvs.length≤sizeLine) (hd:(a == sysModules)=false) (rel:KV kvs vs) (dd:h'.DictOf (mixKind P w) a vs) :
    ObjOk P w H' h' a (.dK kvs):=⟨z,hd,vs,rel,dd⟩
theorem d_setItem {H':Hp} {Q:Unit→Shared→Prop} (hu:A.units+1<cLine) (I:Inv X pins σ H s) (g:DPut H a y v H') (ry:RelV y u) (rv:RelV v r) (h:∀ s',Inv X pins σ H' s'→Q () s') :
    wpAny (model X.prog X.w) A (setItem (.ref a) u r) Q E s:=by
  rcases g with ⟨kvs,k,e,ey,l,eH⟩ | ⟨kvs,k,b,e,ey,eb,l,eH⟩
  · subst ey eH
    obtain ⟨z,hd,vs,rel,dd⟩:=dk_of I.hok e
    have hz:vs.length≤sizeLine:=by rw [← rel.length]; exact z
    have hl:(putK kvs k v).length≤sizeLine:=by have:=length_putK kvs k v; omega
    refine wpAny_setItem_pairs (hsz:=hz) (kV_is ry) dd fun h' dd' hs=>h _ ?_
    have he:∃ q,h'.get? a=some q:=let ⟨q,_,_,hq,_⟩:=dd'; ⟨q,hq⟩
    exact d_write I (by rw [e]; exact True.intro) hs he (dk_new hl hd (rel.put k rv) dd')
  · subst ey eH
    cases (show u=Value.ref b from ry)
    obtain ⟨z,hd,xs,rel,dd⟩:=dt_of I.hok e
    have hz:xs.length≤sizeLine:=by rw [← Paired.length rel]; exact z
    have hl:(putK kvs k v).length≤sizeLine:=by have:=length_putK kvs k v; omega
    refine wpAny_setItem_heap (hsz:=hz) (tupleKind_room_in1 hu) (key_of I.hok eb) dd fun h' dd' hs=>h _ ?_
    obtain ⟨q,es,ep,hq,h2,h3,h4,_,h5⟩:=dd'
    refine d_write I (by rw [e]; exact True.intro) hs ⟨q,hq⟩ ⟨hl,hd,_,(rel.put k eb rv).keeps fun c ys ec=>?_,q,es,ep,hq,h2,h3,h4,h5⟩
    rw [upd_ne (ne_of ec e (fun z=>nomatch z))]
    exact ec
end
def sDPut (td ty tv:TE):TS:=fun D σ H=>tv σ H fun v H1=>td σ H1 fun x H2=>ty σ H2 fun y H3=>∃ a H4,x=.ref a∧DPut H3 a y v H4∧D.nx σ H4
section
variable {X:Cx} {o i e value:Expr} {pos pos' tpos:Pos} {td ty tv:TE}
theorem ps_dput (hu:X.A.units+1<cLine) (ho:PE X o td) (hi:PE X i ty) (hv:PE X value tv) (hs:swapsWith value (some (.Subscript o i pos')) pos.line X.env=pure false) :
    PS X (.Assign [.Subscript o i pos'] value pos) (sDPut td ty tv):=by
  intro pins s σ H D I h
  refine wpAny_Assign_Subscript (thn (hv pins s σ H _ I h) fun r s1 ⟨v,H1,I1,rv,q1⟩=>thn (ho pins s1 σ H1 _ I1 q1) fun u s2 ⟨x,H2,I2,rx,q2⟩=>thn (hi pins s2 σ H2 _ I2 q2) fun iv s3 ⟨y,H3,I3,ry,a,H4,ex,g,q3⟩=>?_) hs
  subst ex
  obtain rfl:u=Value.ref a:=rx
  exact d_setItem hu I3 g ry rv fun s4 I4=>⟨σ,H4,I4,q3⟩
end
theorem dk_empty {P:Program} {w:World} {H:Hp} (h:Heap) (hb:sysModules<h.objs.size):ObjOk P w H (h.push { cls:=.type "dict",data:=.dict #[] }) h.objs.size (.dK []) :=
  ⟨Nat.zero_le _,beq_eq_false_iff_ne.mpr (Ne.symm (Nat.ne_of_lt hb)),[],.nil,Heap.DictOf.new h⟩
def tDNewK:TE:=fun _ H Q=>∀ p,H p=none→Q (.ref p) (upd H p (.dK []))
section
variable {X:Cx} {pos:Pos}
theorem pe_dnewK:PE X (.Dict [] [] pos) tDNewK:=fun pins s σ H Q I h =>
  wpAny_Dict_empty ⟨.ref s.heap.objs.size,_,I.laid (a:=s.heap.objs.size) (o:=.dK []) (t':=s.toks) (fun _ _ q=>Heap.get?_push_of_some _ q) (Nat.le_refl _) (dk_empty s.heap I.big),rfl,h _ (I.hok.fresh (Nat.le_refl _))⟩
end
structure M2 (X:Cx) (o:Expr) (m:Str) (apos:Pos) (e f:Expr) (cpos:Pos):Prop where
  base:attributeBase o m X.env (eval o X.env)=eval o X.env
  few:((backTo cpos (starEach [e,f] X.env)).all (fun x=>!x.1) && (backToKw cpos (keywordEach [] X.env)).all (fun x=>x.1.isSome)
    && decide (([e,f]:List Expr).length+([]:List Keyword).length+(if ([]:List Keyword).isEmpty then 0 else 1)<30))=true
  line:(apos.endLine == cpos.line)=true
  trees:backTo cpos (starEach [e,f] X.env)=[(false,eval e X.env),(false,eval f X.env)]
def IsD (H:Hp) (a:Addr):Prop:=(∃ kvs,Rd H a (.dK kvs))∨∃ kvs,Rd H a (.dT kvs)
theorem isD_at {X:Cx} {pins:List (Addr×Obj)} {σ:St} {H:Hp} {s:Shared} {a:Addr} (I:Inv X pins σ H s) (d:IsD H a) :
    s.TypeIs (.ref a) "dict" ∧ (∀ b,Value.ref a=.ref b→∃ ob,s.heap.get? b=some ob∧ob.dict=none)∧(a == sysModules)=false:=by
  rcases d with ⟨kvs,e⟩ | ⟨kvs,e⟩
  · obtain ⟨_,hd,vs,_,dd⟩:=dk_rd I.hok e
    refine ⟨dd.typeIs,fun b q=>?_,hd⟩
    cases q
    obtain ⟨ob,_,_,h1,h2,_⟩:=dd
    exact ⟨ob,h1,h2.2.1⟩
  · obtain ⟨_,hd,xs,_,dd⟩:=dt_rd I.hok e
    refine ⟨dd.typeIs,fun b q=>?_,hd⟩
    cases q
    obtain ⟨ob,_,_,h1,h2,_⟩:=dd
    exact ⟨ob,h1,h2.2.1⟩
section
variable {X:Cx} {pins:List (Addr×Obj)} {σ:St} {H:Hp} {s:Shared} {a:Addr} {y d:V} {u r:Value} {o:Option V} {A:Around} {E:Value→Shared→Prop}
theorem d_get2 {Q:Value→Shared→Prop} (hu:A.units+1<cLine) (I:Inv X pins σ H s) (g:DGet H a y o) (ry:RelV y u) (rd:RelV d r) (h:∀ w' s',Inv X pins σ H s'→RelV (o.getD d) w'→Q w' s') :
    wpAny (model X.prog X.w) A (call (.builtin "dict.get") [.ref a,u,r]) Q E s:=by
  rcases g with ⟨kvs,k,e,ey,l⟩ | ⟨kvs,k,b,e,ey,eb,l⟩
  · subst ey
    obtain ⟨z,hd,vs,rel,dd⟩:=dk_rd I.hok e
    refine call_meetsIn PySem.F.slot_dict_get dd.typeIs PySem.F.entry_dict_get (PySem.F.args_dict_get_3 _ _ _) (meets_dict_get_default (mixKind X.prog X.w) a (kV_is ry) hd r) ⟨_,dd.mapOf,h _ _ (I.tok _) ?_⟩
    rw [l]
    exact (rel.val k).getD rd
  · subst ey
    cases (show u=Value.ref b from ry)
    obtain ⟨z,hd,xs,rel,dd⟩:=dt_rd I.hok e
    refine call_meetsIn PySem.F.slot_dict_get dd.typeIs PySem.F.entry_dict_get (PySem.F.args_dict_get_3 _ _ _) (meetsH_dict_get_default (tupleKind (mixKind X.prog X.w)) a b hd r) ⟨tupleKind_room_in1 hu,k,xs,key_of I.hok eb,dd,h _ _ (I.tok _) ?_⟩
    rw [l]
    exact (rel.val k).getD rd
end
def tDGet2 (td ty tx:TE):TE:=fun σ H Q=>td σ H fun x H1=>∃ a,x=.ref a∧IsD H1 a∧ty σ H1 fun y H2=>tx σ H2 fun z H3=>∃ o,DGet H3 a y o∧Q (o.getD z) H3
section
variable {X:Cx} {o e f:Expr} {apos cpos:Pos} {td ty tx:TE}
theorem pe_dget2 (hu:X.A.units+1<cLine) (ho:PE X o td) (he:PE X e ty) (hf:PE X f tx) (m:M2 X o "get" apos e f cpos):PE X (.Call (.Attribute o "get" apos) [e,f] [] cpos) (tDGet2 td ty tx):=by
  intro pins s σ H Q I h
  refine wpAny_Call_method m.base m.few m.line PySem.F.plainAttrs_dict PySem.F.slot_dict_get PySem.F.type_dict_get (thn (ho pins s σ H _ I h) fun u s1 ⟨x,H1,I1,rx,a,ex,d,q1⟩=>?_)
  subst ex
  obtain rfl:u=Value.ref a:=rx
  obtain ⟨t1,t2,_⟩:=isD_at I1 d
  refine ⟨t1,t2,?_⟩
  rw [m.trees]
  refine Calls.callWith_builtin rfl (Calls.evalArgs_plain (Calls.spliced_cons (thn (he pins s1 σ H1 _ I1 q1) fun iv s2 ⟨y,H2,I2,ry,q2⟩ =>
    Calls.spliced_cons (thn (hf pins s2 σ H2 _ I2 q2) fun fv s3 ⟨z,H3,I3,rz,ov,g,q3⟩=>Calls.spliced_nil ?_))))
  exact d_get2 hu I3 g ry rz fun w' s4 I4 rw'=>⟨_,H3,I4,rw',q3⟩
end
end L2
namespace L2
open PySem PySem.Spec PyProof.Rows
section
variable {κ:Type} [DecidableEq κ]
theorem nd_snoc:∀ {l:List κ} {k:κ},l.Nodup→¬ k∈l→(l++[k]).Nodup
  | [],k,_,_=>by simp
  | a :: r,k,h,hk=>by
    obtain ⟨h1,h2⟩:=List.nodup_cons.mp h
    show (a :: (r++[k])).Nodup
    refine List.nodup_cons.mpr ⟨fun m=>?_,nd_snoc h2 fun m=>hk (List.mem_cons.mpr (Or.inr m))⟩
    rcases List.mem_append.mp m with q | q
    · exact h1 q
    · exact hk (List.mem_cons.mpr (Or.inl (List.mem_singleton.mp q).symm))
end
end L2
set_option Elab.async false
set_option linter.all false
set_option maxRecDepth 100000
set_option maxHeartbeats 4000000
namespace L2
open PySem PySem.Spec PyProof.Rows
section
variable {X:Cx} {pins:List (Addr×Obj)} {σ:St} {H:Hp} {s:Shared} {d:Addr} {kvs:List (Key×V)} {o:Obj}
theorem Inv.frozen (I:Inv X pins σ H s) (h:H d=some (.dK kvs)) (ho:s.heap.get? d=some o):Inv X pins σ (upd H d (.frz o (.dK kvs))) s:=by
  have ne:∀ b u,H b=some u→u≠.dK kvs→b≠d:=fun b u e n z=>by rw [z,h] at e; exact n (Option.some.inj e).symm
  have nn:∀ b,H b=none→b≠d:=fun b e z=>by rw [z,h] at e; cases e
  have q:=I.step (g':=s.gens) (t':=s.toks) (d':=s.drawn) (ch:=[]) (h':=s.heap) (H':=upd H d (.frz o (.dK kvs))) (fun _ z=>nomatch z) (fun b o' _ _ _ e _=>e) (fun b o' _ _ _ e _=>⟨o'.slots,e⟩) (fun b o' _ _ n=>by rw [upd_ne (nn b n)]; exact n) (fun b o' _ e=>⟨o',e⟩)
    (fun b xs e=>by rw [upd_ne (ne b _ e (by intro z; cases z))]; exact e) (fun b o' u e=>by rw [upd_ne (ne b _ e (by intro z; cases z))]; exact e) (fun b _ _ e=>by rw [upd_ne (ne b _ e (by intro z; cases z))]; exact e) (fun m hm=>hm) (fun b u e=>?_) I.bare
  · exact q
  · by_cases hb:b=d
    · subst hb
      rw [upd_same] at e
      cases e
      exact ⟨ho,I.hok b _ h⟩
    · rw [upd_ne hb] at e
      exact (I.hok b u e).stay (fun _ _ _ z=>z) (fun c z=>by rw [upd_ne (ne c _ z (by intro y; cases y))]; exact z) (fun c xs z=>by rw [upd_ne (ne c _ z (by intro y; cases y))]; exact z) fun c oz z=>by rw [upd_ne (ne c _ z (by intro y; cases y))]; exact z
end
theorem dict_at {P:Program} {w:World} {H:Hp} {h:Heap} {d:Addr} {o:Obj} {kvs:List (Key×V)} {es:Array DictEntry} {ep:Nat} (q:ObjOk P w H h d (.frz o (.dK kvs))) (he:o.data=.dict es ep):(d == sysModules)=false∧∃ vs,KV kvs vs∧h.DictAt (mixKind P w) d vs ep:=by
  obtain ⟨ho,_,hs,vs,r,o',es',ep',h1,h2,h3,h4⟩:=q
  rw [ho] at h1; cases h1
  rw [he] at h3
  cases h3
  exact ⟨hs,vs,r,o,es,ho,h2,he,h4⟩
end L2
set_option Elab.async false
set_option linter.all false
set_option maxRecDepth 100000
set_option maxHeartbeats 4000000
namespace L2
open PySem PySem.Spec PyProof.Rows
end L2
set_option Elab.async false
set_option linter.all false
set_option maxRecDepth 100000
set_option maxHeartbeats 4000000
namespace L2
open PySem PySem.Spec PyProof.Rows
section
variable {X:Cx} {K:PySem.W.Frag} {tg:PySem.Expr}
theorem pi_listK (hK:X.K=K) {l:PySem.Expr} {tl:TE} (hl:PE X l tl):PI X tg l (iList K tl):=hK ▸ pi_list hl
end
end L2
set_option Elab.async false
set_option linter.all false
set_option maxRecDepth 100000
set_option maxHeartbeats 4000000
namespace L2
open PySem PySem.Spec PyProof.Rows
section
variable {X:Cx}
theorem call_anyL (hc:X.calm=true):CallR X (.builtin "any") (fun xs H Q=>∃ (p:Addr) (bs:List Bool),xs=[.ref p]∧SqL X.K H p (bs.map V.bl)∧Q (.bl (bs.any id)) H):=by
  intro pins s σ H xs us Q I r h
  obtain ⟨p,bs,rfl,hq,q⟩:=h
  obtain ⟨u,rfl,rx⟩:=vals1 r
  cases rx
  obtain ⟨its,rv,pl,hz⟩:=I.list hq
  have e:=bool_vals rv
  subst e
  refine call_any_walk (wpAny_pyIter_list pl.isList ?_)
  refine ⟨s.heap.objs.size,_,[s.heap.objs.size],_,_,_,fun i=>bs.getD i true,rfl,Walks.list (A:=X.A.in1) (show X.A.in1.handled=none from I.ok.hd hc) s.heap.objs.size p ?_ (bs.map Value.bool).toArray,⟨⟨_,Heap.get?_push_size _ rfl,rfl,rfl⟩,pl.isList.at fun o e=>Heap.get?_push_of_some _ e⟩,?_,?_⟩
  · obtain ⟨o,e,_⟩:=pl.isList; exact Nat.ne_of_lt (Heap.lt_size e)
  · intro i v s' Q' E' hP hQ
    have hP':(bs.map Value.bool)[i]?=some v:=by simpa using hP
    rw [List.getElem?_map] at hP'
    cases z:bs[i]? with
    | none=>rw [z] at hP'; cases hP'
    | some b =>
      rw [z] at hP'
      cases hP'
      have:bs.getD i true=b:=by rw [List.getD_eq_getElem?_getD,z]; rfl
      have hQ':Q' (bs.getD i true) s':=hQ
      rw [this] at hQ'
      exact wpAny_truthy_bool hQ'
  · intro h' tk hk
    refine ⟨.bl (bs.any id),H,I.kept (t':=tk) (fun b o e=>hk b o (by simpa using Nat.ne_of_lt (Heap.lt_size e)) (Heap.get?_push_of_some _ e)),?_,q⟩
    have z:(List.range bs.length).map (fun i=>bs.getD i true)=bs:=range_getD _ fun i b e=>by rw [List.getD_eq_getElem?_getD,e]; rfl
    have z2:(List.range bs.length).any (fun i=>bs.getD i true)=bs.any id:=by
      conv=>rhs; rw [← z]
      rw [List.any_map]; rfl
    show Value.bool _=Value.bool _
    have z3:(bs.map Value.bool).toArray.size=bs.length:=by simp
    rw [z3,z2]
end
theorem comp_zipN {K:PySem.W.Frag} {a b:Addr} {xs zs:List V} {l:Addr} {g:TG} {tc:TT} {te:TE} {σ0:St} {H0:Hp} {Qf:Hp→Prop} (n:Nat) (hn:n=min xs.length zs.length) (Pv:Nat→List V→St→Hp→Prop) (h0:Pv 0 [] σ0 H0)
    (hl:∀ i ys σ' H',i≤n→Pv i ys σ' H'→SqL K H' a xs∧SqL K H' b zs)
    (hs:∀ i x z t ys σ' H',i<n→xs[i]?=some x→zs[i]?=some z→ys.length≤i→Pv i ys σ' H'→H' t=none→g (.ref t) σ' (upd H' t (.tup [x,z])) fun σ2 H3=>tc σ2 H3 fun b H4=>if b=true then te σ2 H4 fun y H5=>CNx n l Pv i ys σ2 y H5 else CNo n Pv i ys σ2 H4)
    (hd:∀ ys σ' H',ys.length≤n→Pv n ys σ' H'→Qf H') :
    ∃ W:Nat→Nat→List V→St→Hp→Prop,(∃ m,W 0 m [] σ0 H0)∧∀ i m ys σ' H',W i m ys σ' H' →
    ((Itz K a b).stop i H'∧Qf H')∨((Itz K a b).go i H'∧∀ x H2,(Itz K a b).yld i H' x H2→g x σ' H2 fun σ2 H3=>tc σ2 H3 fun b H4 =>
      if b=true then te σ2 H4 fun y H5=>H5 l=some (.lst ys)∧ys.length<sizeLine∧∃ m',m'<m∧W (i+1) m' (ys++[y]) σ2 (upd H5 l (.lst (ys++[y])))
      else ∃ m',m'<m∧W (i+1) m' ys σ2 H4):=by
  refine ⟨fun i m ys σ' H'=>m=n - i∧i≤n∧ys.length≤i∧Pv i ys σ' H',⟨n,rfl,Nat.zero_le _,Nat.le_refl _,h0⟩,?_⟩
  rintro i m ys σ' H' ⟨rfl,hi,hy,p⟩
  obtain ⟨qa,qb⟩:=hl i ys σ' H' hi p
  by_cases hlt:i<n
  · have h1:i<xs.length:=by omega
    have h2:i<zs.length:=by omega
    refine .inr ⟨⟨xs,zs,xs[i],zs[i],qa,qb,by simp [h1],by simp [h2]⟩,fun x H2 zq=>?_⟩
    obtain ⟨t,u,v,ht,rfl,rfl,z1,z2⟩:=zq
    exact hs i u v t ys σ' H' hlt (z1 xs qa) (z2 zs qb) hy p ht
  · have e:i=n:=by omega
    subst e
    exact .inl ⟨⟨xs,zs,qa,qb,by omega⟩,hd ys σ' H' hy p⟩
end L2
set_option Elab.async false
set_option linter.all false
set_option maxRecDepth 100000
set_option maxHeartbeats 4000000
namespace L2
open PySem PySem.Spec PyProof.Rows
section
variable {X:Cx} {K:PySem.W.Frag}
def pickV (xs:List V) (lo hi st:Option Int):List V:=(sliceRange (sliceBounds lo hi st xs.length).1 (sliceBounds lo hi st xs.length).2.1 (sliceBounds lo hi st xs.length).2.2).filterMap (xs[·]?)
theorem vals_pick {xs:List V} {us:List Value} (r:Vals xs us):∀ l:List Nat,Vals (l.filterMap (xs[·]?)) (l.filterMap (us[·]?))
  | []=>.nil
  | i :: l=>by
    rw [List.filterMap_cons,List.filterMap_cons]
    cases e:xs[i]? with
    | none=>rw [r.none_of e]; exact vals_pick r l
    | some x =>
      obtain ⟨u,hu,ru⟩:=r.get e
      rw [hu]
      exact .cons ru (vals_pick r l)
def tSl3 (K:PySem.W.Frag) (te:TE) (tl th ts:TO):TE:=fun σ H Q=>te σ H fun x H1=>tl σ H1 fun l H2=>th σ H2 fun u H3=>ts σ H3 fun st H4=>∃ a xs,x=.ref a∧SqL K H4 a xs∧st≠some 0∧(pickV xs l u st).length≤sizeLine∧∀ p,H4 p=none→Q (.ref p) (upd H4 p (.lst (pickV xs l u st)))
theorem pe_slice3 {e:PySem.Expr} {te:TE} {lo hi:Option PySem.Expr} {st:PySem.Expr} {tl th ts:TO} {p2 pos:Pos} (hK:X.K=K) (he:PE X e te) (hl:PO X lo tl) (hu:PO X hi th) (hst:PO X (some st) ts):PE X (.Subscript e (.Slice lo hi (some st) p2) pos) (tSl3 K te tl th ts):=by
  subst hK
  intro pins s σ H Q I h
  refine Subscript_ (thn (he pins s σ H _ I h) fun v s1 ⟨x,H1,I1,r1,q1⟩=>?_)
  refine wpAny_Slice (thn (hl pins s1 σ H1 _ I1 q1) fun vl s2 ⟨l,H2,I2,pl,q2⟩=>thn (hu pins s2 σ H2 _ I2 q2) fun vu s3 ⟨u,H3,I3,pu,q3⟩=>thn (hst pins s3 σ H3 _ I3 q3) fun vs s4 ⟨so,H4,I4,ps,q4⟩=>?_)
  obtain ⟨a,xs,rfl,hx,h0,hz,q⟩:=q4
  cases r1
  have I5:Inv X pins σ H4 { s4 with heap:=s4.heap.push { cls:=.type "slice",data:=.fields #[vl,vu,vs] } }:=I4.kept (t':=s4.toks) fun b ob q=>Heap.get?_push_of_some _ q
  obtain ⟨its,r,ht,hzz⟩:=I5.list hx
  have hlen:=r.length
  show wpAny (model X.prog X.w) X.A (subscriptTail e (.Slice lo hi (some st) p2) (.ref a) (.ref s4.heap.objs.size)) (EP X pins σ Q) X.xe { s4 with heap:=s4.heap.push { cls:=.type "slice",data:=.fields #[vl,vu,vs] } }
  refine tail_any (ops:=[.ref a,.ref s4.heap.objs.size]) ht.isList.typeIs slot_list_getitem.lookup (wpAny_getItem_list_slice ht.isList (Heap.IsSliceOf.new ..) pl pu ps h0 ?_ (by rw [List.size_toArray] <;> omega)) (by with_unfolding_all rfl)
  refine ⟨.ref _,_,I5.laid (t':=s4.toks) (o:=.lst (pickV xs l u so)) (fun b ob q=>Heap.get?_push_of_some _ q) (Nat.le_refl _) ?_,rfl,q _ (I5.hok.fresh (Nat.le_refl _))⟩
  refine ⟨hz,_,0,vals_pick r (sliceRange (sliceBounds l u so xs.length).1 (sliceBounds l u so xs.length).2.1 (sliceBounds l u so xs.length).2.2),?_⟩
  have e2:slicePick its.toArray l u so=((sliceRange (sliceBounds l u so xs.length).1 (sliceBounds l u so xs.length).2.1 (sliceBounds l u so xs.length).2.2).filterMap (its[·]?)).toArray:=by
    unfold slicePick
    rw [List.size_toArray,← hlen]
    congr 1
    refine congrArg (fun f=>List.filterMap f _) ?_
    funext i
    simp
  rw [e2]
  exact Heap.get?_push_size _ rfl
end
end L2
set_option Elab.async false
set_option linter.all false
set_option maxRecDepth 100000
set_option maxHeartbeats 4000000
namespace L2
open PySem PySem.Spec PyProof.Rows
def ItDn (hi:Int) (n:Nat):It:=⟨fun i _=>i<n,fun i H x H'=>H'=H∧x=.int (hi - i),fun i _=>n≤i⟩
theorem turn_down {P:Program} {w:World} {K:PySem.W.Frag} {tg:PySem.Expr} (it:Addr) (lo:Int) (n:Nat):Turn P w K tg (ItDn lo n) [it] it (fun i h=>IsRangeIter h it (lo+(i:Nat) * (-1)) ((n:Int) - (i:Nat)) (-1)) where
  mem:=by simp
  obj:=fun i h st b hb=>by
    have e:b=it:=by simpa using hb
    subst e
    exact ⟨_,st,fun v z=>by
      have z':Data.fields _=Data.cell v:=z
      cases z'⟩
  keep:=fun i h h' st k=>k it (by simp) _ st
  item:=by
    intro X hP hw hK hc i pins s σ H E I hf st hg
    subst hP hw hK
    obtain ⟨f0,f1,f2,f3,f4,f5⟩:=hf it (by simp)
    have W:=Walks.range (prog:=X.prog) (w:=X.w) (I.ok.hd hc) it lo (-1) n
    refine W.item i s _ _ hg st fun v h' tk hv st' kk=>?_
    obtain ⟨t,rfl⟩:=hv
    have I1:Inv X pins σ H { s with heap:=h',toks:=tk }:=I.turned (fun b o hb e=>kk b o (by simpa using hb) e) f0 f1 f3 f4 f5
    refine ⟨_,rfl,go_of (s:={ s with heap:=h',toks:=tk }) (n := "range_iterator") st' rfl rfl (by decide) ⟨.int (lo - i),H,I1,⟨t,?_⟩,⟨rfl,rfl⟩,st',fun b hb=>(hf b hb).1⟩⟩
    rw [show lo+(i:Int) * (-1)=lo - i by omega]
  done:=by
    intro X hP hw hK hc i pins s σ H E I hf st hg
    subst hP hw hK
    obtain ⟨f0,f1,f2,f3,f4,f5⟩:=hf it (by simp)
    exact wpAny_pyNext_range_end (I.ok.hd hc) st (by have:n≤i:=hg; omega) fun h' eb=>⟨rfl,I.turned (t':=s.toks) (fun b o hb e=>eb b o hb e) f0 f1 f3 f4 f5⟩
  self:=fun _ _ _ _ _ st h=>wpAny_pyIter_rangeiter st h
section
variable {X:Cx} {tg:PySem.Expr}
theorem range_itd {pins:List (Addr×Obj)} {σ:St} {H:Hp} {s:Shared} {R:It→Hp→Prop} {E:Value→Shared→Prop} {lo hi:Int} {t u v:Tok} {tk:Nat} (I:Inv X pins σ H s) (h1 : -(2 ^ 62)≤lo) (h2:lo<2 ^ 62) (h3 : -(2 ^ 62)≤hi) (h4:hi<2 ^ 62)
    (q:R (ItDn lo (lo - hi).toNat) H):wpAny (model X.prog X.w) X.A (pyIter (.ref s.heap.objs.size)) (PIE X pins σ tg R) E { s with heap:=s.heap.push { cls:=.type "range",data:=.fields #[.int lo t,.int hi u,.int (-1) v] },toks:=tk }:=by
  refine wpAny_pyIter_range (IsRange.new ..) (PySem.W.small_down h1 h2 h3 h4) ?_
  have I1:Inv X pins σ H { s with heap:=s.heap.push { cls:=.type "range",data:=.fields #[.int lo t,.int hi u,.int (-1) v] },toks:=tk }:=I.kept fun b o e=>Heap.get?_push_of_some _ e
  refine ⟨(s.heap.push { cls:=.type "range",data:=.fields #[.int lo t,.int hi u,.int (-1) v] }).objs.size,[(s.heap.push { cls:=.type "range",data:=.fields #[.int lo t,.int hi u,.int (-1) v] }).objs.size],_,_,H,rfl,
    I1.kept (t':=tk) fun b o e=>Heap.get?_push_of_some _ e,turn_down _ lo (lo - hi).toNat,?_,fun b hb=>?_,q⟩
  · have e1:lo+((0:Nat):Int) * (-1)=lo:=by simp
    have e2:(((lo - hi).toNat:Nat):Int) - ((0:Nat):Int)=Builtin.Range.rangeSize lo hi (-1):=by rw [PySem.W.rangeSize_downNat]; omega
    show IsRangeIter _ _ (lo+((0:Nat):Int) * (-1)) ((((lo - hi).toNat:Nat):Int) - ((0:Nat):Int)) (-1)
    rw [e1,e2]
    exact Heap.get?_push_size _ rfl
  · have e:b=(s.heap.push { cls:=.type "range",data:=.fields #[.int lo t,.int hi u,.int (-1) v] }).objs.size:=by simpa using hb
    subst e
    exact I1.fpOk (Nat.le_refl _) (I1.hok.fresh (Nat.le_refl _))
def iRngD (ta:TA):TI:=fun σ H R=>ta σ H fun vs H1=>∃ i j:Int,vs=[.int i,.int j,.int (-1)]∧(-(2 ^ 61)≤i∧i<2 ^ 61 ∧ -(2 ^ 61)≤j∧j<2 ^ 61)∧R (ItDn i (i - j).toNat) H1
theorem pi_range3 {a b c:PySem.Expr} {ta:TA} {p pos:Pos} (hg:Gl X "range") (hm:X.mg "range" = none) (ha:PA X [a,b,c] ta) (hs:starEach [a,b,c] X.env=(false,eval a X.env) :: starEach [b,c] X.env:=by rfl) (hpl:(backTo pos (starEach [b,c] X.env)).any (·.1)=false:=by rfl) :
    PI X tg (.Call (.Name "range" p) [a,b,c] [] pos) (iRngD ta):=by
  intro pins s σ H R I h
  refine Call_ (ld_blt I hg hm boot_range (PyProof.Rows.callWith_type1 (thn (ha pos pins s σ H _ I h) fun us s1 ⟨vs,H1,I1,r1,q1⟩=>?_) hs hpl))
  obtain ⟨i,j,e,⟨q1,q2,q3,q4⟩,q⟩:=q1
  subst e
  cases r1 with
  | cons r rr =>
    cases rr with
    | cons r' rr =>
      cases rr with
      | cons r'' rr =>
        cases rr
        obtain ⟨t,rfl⟩:=r
        obtain ⟨t',rfl⟩:=r'
        obtain ⟨t'',rfl⟩:=r''
        exact call_range_3 (by decide) (range_itd I1 (by omega) (by omega) (by omega) (by omega) q) (.inl (PyProof.noPylong_small (by omega)))
end
theorem for_down {hi:Int} {n:Nat} {g:TG} {tb:TS} {D:Ends} {σ:St} {H:Hp} (Pv:Nat→St→Hp→Prop) (h0:Pv 0 σ H)
    (hs:∀ i σ H,i<n→Pv i σ H→g (.int (hi - i)) σ H fun σ2 H2=>tb { D with nx:=Pv (i+1),ct:=Pv (i+1),bk:=D.nx } σ2 H2) (hd:∀ σ H,Pv n σ H→D.nx σ H) :
    ∃ W:Nat→Nat→St→Hp→Prop,(∃ m,W 0 m σ H)∧∀ i m σ H,W i m σ H →
      ((ItDn hi n).stop i H∧D.nx σ H)∨((ItDn hi n).go i H∧∃ N:St→Hp→Prop,(∀ σ' H',N σ' H'→∃ m',m'<m∧W (i+1) m' σ' H')∧∀ x H',(ItDn hi n).yld i H x H'→g x σ H' fun σ2 H2=>tb { D with nx:=N,ct:=N,bk:=D.nx } σ2 H2):=by
  refine ⟨fun i m σ H=>m=n - i∧i≤n∧Pv i σ H,⟨n,by simp,Nat.zero_le _,h0⟩,?_⟩
  rintro i m σ H ⟨rfl,hi,p⟩
  by_cases hlt:i<n
  · refine .inr ⟨hlt,Pv (i+1),fun σ' H' p'=>⟨n - (i+1),by omega,rfl,hlt,p'⟩,fun x H' y=>?_⟩
    obtain ⟨e,y⟩:=y
    subst e y
    exact hs i σ _ hlt p
  · have e:i=n:=by omega
    subst e
    exact .inl ⟨Nat.le_refl _,hd σ H p⟩
theorem filterMap_get_range (xs:List V):∀ n,n≤xs.length→((List.range n).map fun i=>n - 1 - i).filterMap (xs[·]?)=(xs.take n).reverse
  | 0,_=>by simp
  | n+1,h=>by
    have hn:n<xs.length:=h
    have ih:=filterMap_get_range xs n (by omega)
    rw [List.range_succ_eq_map,List.map_cons,List.map_map,List.filterMap_cons]
    have e0:n+1 - 1 - 0=n:=by omega
    rw [e0,List.getElem?_eq_getElem hn]
    have e1:(List.range n).map ((fun i=>n+1 - 1 - i) ∘ Nat.succ)=(List.range n).map fun i=>n - 1 - i:=by
      refine List.map_congr_left fun i _=>?_
      show n+1 - 1 - (i+1)=n - 1 - i
      omega
    rw [e1,ih,List.take_succ,List.getElem?_eq_getElem hn,List.reverse_append]
    rfl
theorem pickV_rev (xs:List V):pickV xs none none (some (-1))=xs.reverse:=by
  have h:=filterMap_get_range xs xs.length (Nat.le_refl _)
  rw [List.take_length] at h
  rw [← h,← PySem.W.krv_sliceRange]
  rfl
end L2
set_option Elab.async false
set_option linter.all false
set_option maxRecDepth 100000
set_option maxHeartbeats 4000000
namespace L2.Stb
open PySem PySem.Spec PyProof.Rows
end L2.Stb
set_option Elab.async false
set_option linter.all false
set_option maxRecDepth 100000
set_option maxHeartbeats 4000000
namespace L2
open PySem PySem.Spec PyProof.Rows
end L2
set_option Elab.async false
set_option linter.all false
set_option maxRecDepth 100000
set_option maxHeartbeats 4000000
namespace L2
open PySem PySem.Spec PyProof.Rows L2.Stb
end L2
set_option Elab.async false
set_option linter.all false
set_option maxRecDepth 100000
set_option maxHeartbeats 4000000
namespace L2
open PySem PySem.Spec PyProof.Rows
end L2
set_option Elab.async false
set_option linter.all false
set_option maxRecDepth 100000
set_option maxHeartbeats 4000000
namespace L2
open PySem PySem.Spec PyProof.Rows
end L2
set_option Elab.async false
set_option linter.all false
set_option maxRecDepth 100000
set_option maxHeartbeats 4000000
namespace L2
open PySem PySem.Spec PyProof.Rows
end L2
set_option Elab.async false
set_option linter.all false
set_option maxRecDepth 100000
set_option maxHeartbeats 4000000
namespace L2
open PySem PySem.F PyProof.Rows PySem.MeetsSeq
variable {K:PySem.W.Frag} {X:Cx} {pins:List Pin} {σ:St} {H:Hp} {s:Shared}
theorem pe_bmC {e:PySem.Expr} {T:String} {r:V→List V→Hp→VK→Prop} {to:TE} {t:TA} (hK:X.K=K) (h:PE X e (tBM X.K T r to t)):PE X e (tBM K T r to t):=by
  subst hK; exact h
end L2
set_option Elab.async false
set_option linter.all false
set_option maxRecDepth 100000
set_option maxHeartbeats 4000000
namespace L2
open PySem PySem.Calls PyProof.Rows PySem.MeetsSeq PySem.W
variable {K:PySem.W.Frag} {X:Cx} {pins:List Pin} {σ:St} {H:Hp} {s:Shared}
theorem comp_enum {K:PySem.W.Frag} {a:Addr} {xs:List V} {l:Addr} {g:TG} {tc:TT} {te:TE} {σ0:St} {H0:Hp} {Qf:Hp→Prop} (Pv:Nat→List V→St→Hp→Prop) (h0:Pv 0 [] σ0 H0)
    (hl:∀ i ys σ' H',i≤xs.length→Pv i ys σ' H'→SqL K H' a xs)
    (hs:∀ i x t ys σ' H',i<xs.length→xs[i]?=some x→ys.length≤i→Pv i ys σ' H'→H' t=none→g (.ref t) σ' (upd H' t (.tup [.int i,x])) fun σ2 H3=>tc σ2 H3 fun b H4=>if b=true then te σ2 H4 fun y H5=>CNx xs.length l Pv i ys σ2 y H5 else CNo xs.length Pv i ys σ2 H4)
    (hd:∀ ys σ' H',ys.length≤xs.length→Pv xs.length ys σ' H'→Qf H') :
    ∃ W:Nat→Nat→List V→St→Hp→Prop,(∃ m,W 0 m [] σ0 H0)∧∀ i m ys σ' H',W i m ys σ' H' →
    ((Ite K a).stop i H'∧Qf H')∨((Ite K a).go i H'∧∀ x H2,(Ite K a).yld i H' x H2→g x σ' H2 fun σ2 H3=>tc σ2 H3 fun b H4 =>
      if b=true then te σ2 H4 fun y H5=>H5 l=some (.lst ys)∧ys.length<sizeLine∧∃ m',m'<m∧W (i+1) m' (ys++[y]) σ2 (upd H5 l (.lst (ys++[y])))
      else ∃ m',m'<m∧W (i+1) m' ys σ2 H4):=by
  refine ⟨fun i m ys σ' H'=>m=xs.length - i∧i≤xs.length∧ys.length≤i∧Pv i ys σ' H',⟨xs.length,rfl,Nat.zero_le _,Nat.le_refl _,h0⟩,?_⟩
  rintro i m ys σ' H' ⟨rfl,hi,hy,p⟩
  have q:=hl i ys σ' H' hi p
  by_cases hlt:i<xs.length
  · refine .inr ⟨⟨xs,xs[i],q,by simp [hlt]⟩,fun x H2 z=>?_⟩
    obtain ⟨t,u,ht,rfl,rfl,z1⟩:=z
    exact hs i u t ys σ' _ hlt (z1 xs q) hy p ht
  · have e:i=xs.length:=by omega
    subst e
    exact .inl ⟨⟨xs,q,rfl⟩,hd ys σ' H' hy p⟩
end L2
set_option Elab.async false
set_option linter.all false
set_option maxRecDepth 100000
set_option maxHeartbeats 4000000
namespace L2
open PySem PySem.Calls PySem.Spec PyProof.Rows PySem.W
end L2
set_option Elab.async false
set_option linter.all false
set_option maxRecDepth 100000
set_option maxHeartbeats 4000000
namespace L2
open PySem PySem.Calls PySem.Spec PyProof.Rows PySem.W
end L2
set_option Elab.async false
set_option linter.all false
set_option maxRecDepth 100000
set_option maxHeartbeats 4000000
namespace L2
open PySem PySem.Calls PySem.Spec PyProof.Rows PySem.W
end L2
set_option Elab.async false
set_option linter.all false
set_option maxRecDepth 100000
set_option maxHeartbeats 4000000
namespace L2
open PySem PySem.Calls PySem.Spec PyProof.Rows PySem.W Builtin Builtin.ObjectAttr Builtin.Getset_descriptor
end L2
set_option Elab.async false
set_option linter.all false
set_option maxRecDepth 100000
set_option maxHeartbeats 4000000
namespace L2
open PySem PySem.Calls PySem.Spec PyProof.Rows PySem.W
end L2
namespace L2
open PySem PySem.Calls PySem.Spec PyProof.Rows PySem.W
end L2
set_option Elab.async false
set_option linter.all false
set_option maxRecDepth 100000
set_option maxHeartbeats 4000000
namespace L2
open PySem PySem.Calls PySem.Spec PyProof.Rows PySem.W
theorem Room.m {j k:Nat} {A:Around} (r:Room k A) (h:j≤k:=by first | decide | omega):Room j A:=r.mono h
section
variable {X:Cx} {pos:Pos}
theorem pgn (i:Nat) {x:Str} (hN:X.N.Nodup) (hi:X.N[i]?=some x:=by rfl) (hx:Loc X.env.scope x:=by first | exact Or.inl rfl | exact Or.inr rfl) (hf:X.fn x=true∨X.env.scope.names.lookup x=some .local:=by first | exact .inl rfl | exact .inr rfl | assumption):PG X (.Name x pos) (gName i):=pg_name hN hi hx hf
theorem pst (i:Nat) {x:Str} {e:PySem.Expr} {te:TE} {pos':Pos} (hN:X.N.Nodup) (he:PE X e te) (hi:X.N[i]?=some x:=by rfl) (hx:Loc X.env.scope x:=by first | exact Or.inl rfl | exact Or.inr rfl) (hs:swapsWith e (some (.Name x pos')) pos.line X.env=pure false:=by rfl) (hf:X.fn x=true∨X.env.scope.names.lookup x=some .local:=by first | exact .inl rfl | exact .inr rfl | assumption):PS X (.Assign [.Name x pos'] e pos) (tAsg te (gName i)):=ps_set hN hi hx he hs hf
end
end L2
set_option Elab.async false
set_option linter.all false
set_option maxRecDepth 100000
namespace L2
open PySem PySem.Spec PyProof.Rows
end L2
set_option Elab.async false
set_option linter.all false
set_option maxRecDepth 100000
set_option maxHeartbeats 4000000
namespace L2
open PySem PySem.Calls PyProof.Rows PySem.MeetsSeq PySem.W PySem.Spec
end L2
set_option Elab.async false
set_option linter.all false
set_option maxRecDepth 100000
set_option maxHeartbeats 4000000
namespace L2
open PySem PySem.Calls PyProof.Rows PySem.W PySem.Spec
end L2
set_option Elab.async false
set_option linter.all false
set_option maxRecDepth 100000
set_option maxHeartbeats 4000000
namespace L2
open PySem PySem.Calls PyProof.Rows PySem.W PySem.Spec
end L2
set_option Elab.async false
set_option linter.all false
set_option maxRecDepth 100000
set_option maxHeartbeats 4000000
namespace L2
open PySem PySem.F PyProof.Rows
variable {K:PySem.W.Frag} {X:Cx} {pins:List (Addr×Obj)} {σ:St} {H H':Hp} {s:Shared}
end L2
set_option Elab.async false
set_option linter.all false
set_option maxRecDepth 100000
set_option maxHeartbeats 4000000
namespace L2
open PySem PySem.F PyProof.Rows PySem.MeetsSeq
variable {K:PySem.W.Frag} {X:Cx}
end L2
set_option Elab.async false
set_option linter.all false
set_option maxRecDepth 100000
set_option maxHeartbeats 4000000
namespace L2
open PySem PySem.F PyProof.Rows
end L2
set_option Elab.async false
set_option linter.all false
set_option maxRecDepth 100000
set_option maxHeartbeats 4000000
namespace L2.Stg
open PySem PySem.Spec PyProof.Rows
structure RR where
  r:Keyed→Nat
  g:Keyed→Int
def Kg (ρ:RR) (xs:Array Keyed) (i:Nat):Int:=(xs[i]?).elim 0 ρ.g
theorem Kg_congr {ρ:RR} {xs ys:Array Keyed} {i j:Nat} (h:xs[i]?=ys[j]?):Kg ρ xs i=Kg ρ ys j:=by unfold Kg; rw [h]
theorem Kg_bubble {ρ:RR} {xs:Array Keyed} {src d:Nat} (hs:src<xs.size) (hd:d≤src) (k:Nat) :
    Kg ρ (bubble xs src d) k=if k=src - d then Kg ρ xs src else if src - d<k∧k≤src then Kg ρ xs (k - 1) else Kg ρ xs k:=by
  have e:=getElem?_bubble hs d hd k
  by_cases c:k=src - d
  · rw [if_pos c] at e ⊢; exact Kg_congr e
  · by_cases c2:src - d<k∧k≤src
    · rw [if_neg c,if_pos c2] at e ⊢; exact Kg_congr e
    · rw [if_neg c,if_neg c2] at e ⊢; exact Kg_congr e
theorem Kg_mirror {ρ:RR} {xs:Array Keyed} {i j:Nat} (hj:j≤xs.size) (k:Nat) :
    Kg ρ (mirror xs i j ((j - i) / 2)) k=if i≤k∧k<j then Kg ρ xs (i+j - 1 - k) else Kg ρ xs k:=by
  have e:=getElem?_mirror_all (i:=i) hj k
  by_cases c:i≤k∧k<j
  · rw [if_pos c] at e ⊢; exact Kg_congr e
  · rw [if_neg c] at e ⊢; exact Kg_congr e
theorem Kg_mirror_equal {ρ:RR} {xs:Array Keyed} {i j:Nat} (hj:j≤xs.size) (al:∀ k,i≤k→k<j→Kg ρ xs k=Kg ρ xs (j - 1)) (k:Nat):Kg ρ (mirror xs i j ((j - i) / 2)) k=Kg ρ xs k:=by
  rw [Kg_mirror hj]
  by_cases c:i≤k∧k<j
  · rw [if_pos c,al _ (by omega) (by omega),al k c.1 c.2]
  · rw [if_neg c]
def Cmp (prog:Program) (w:World) (A:Around) (s:Shared) (κ:SortKind) (ρ:RR) (a₀:Array Keyed):Prop :=
  ∀ p,p∈a₀.toList→∀ q,q∈a₀.toList→∀ (E:Value→Shared→Prop) (Q:Bool→Shared→Prop),Q (decide (ρ.g p<ρ.g q)) s→wpAny (model prog w) A (keyLt' κ p.1 q.1) Q E s
end L2.Stg
set_option Elab.async false
set_option linter.all false
set_option maxRecDepth 100000
set_option maxHeartbeats 4000000
namespace L2
open PySem PySem.Spec PyProof.Rows
section
open PySem.SeqAt
open PySem.AutoSeq1 (wpAny_loadPart')
open PySem.MeetsSeq PySem.MeetsSeq2 PySem.MeetsSeq3
end
end L2
set_option Elab.async false
set_option linter.all false
set_option maxRecDepth 100000
set_option maxHeartbeats 4000000
namespace L2
open PySem PySem.Spec PyProof.Rows
section
variable {prog:Program} {w:World} {A:Around} {E:Value→Shared→Prop} {s:Shared}
def srtH (h:Heap) (a:Addr) (us:List Value):Heap:=((h.update a (Obj.mapSeq fun _=>#[])).push (seqObj "tuple" us.toArray 0)).push (seqObj "list" #[] 0)
theorem srtH_old {h:Heap} {a b:Addr} {us:List Value} {o:Obj} (n:b≠a) (e:h.get? b=some o):(srtH h a us).get? b=some o :=
  Heap.get?_push_of_some _ (Heap.get?_push_of_some _ (by rw [Heap.get?_update_ne _ _ _ _ n]; exact e))
def srtG (h:Heap) (us:List Value):Heap:=((h.push (seqObj "list" #[] 0)).update h.objs.size (Obj.mapSeq (·++us.toArray))).push (seqObj "list" us.toArray 0)
theorem srtG_old {h:Heap} {b:Addr} {us:List Value} {o:Obj} (e:h.get? b=some o):(srtG h us).get? b=some o :=
  Heap.get?_push_of_some _ (by rw [Heap.get?_update_ne _ _ _ _ (Nat.ne_of_lt (Heap.lt_size e))]; exact Heap.get?_push_of_some _ e)
end
variable {K:PySem.W.Frag} {X:Cx}
end L2
set_option Elab.async false
set_option linter.all false
set_option maxRecDepth 100000
set_option maxHeartbeats 4000000
namespace L2
open PySem PySem.Spec PyProof.Rows
end L2
set_option Elab.async false
set_option linter.all false
set_option maxRecDepth 100000
set_option maxHeartbeats 4000000
namespace L2
open PySem PySem.Spec PyProof.Rows
end L2
set_option Elab.async false
set_option linter.all false
set_option maxRecDepth 100000
set_option maxHeartbeats 4000000
namespace L2.Stm
open PySem PySem.Spec PyProof.Rows
def gallop':Bool→Keyed→Array Keyed→Nat→Nat→Nat→StateT SortSt Sem (Option Nat):=sortPriv% PySem.Builtin.gallop
def setMinGallop':Nat→StateT SortSt Sem Unit:=sortPriv% PySem.Builtin.setMinGallop
def mergeLo':Array Keyed→Array Keyed→StateT SortSt Sem (Array Keyed):=sortPriv% PySem.Builtin.mergeLo
def mergeHi':Array Keyed→Array Keyed→StateT SortSt Sem (Array Keyed):=sortPriv% PySem.Builtin.mergeHi
def byd (left:Bool) (key:Keyed) (arr:Array Keyed) (base i:Nat):StateT SortSt Sem (Option Bool):=do
  let x ← elem' arr (base+i)
  if left then lt' x key else return (← lt' key x).map (!·)
def gBin (left:Bool) (key:Keyed) (arr:Array Keyed) (base n lo0 hi0:Nat):StateT SortSt Sem (Option Nat):=do
  let mut lo:=lo0
  let mut hi:=hi0
  for _ in [0:n] do
    if lo ≥ hi then break
    let m:=lo+(hi - lo) / 2
    let some more ← byd left key arr base m | return none
    if more then lo:=m+1 else hi:=m
  return some hi
def gUp (left:Bool) (key:Keyed) (arr:Array Keyed) (base n hint:Nat):StateT SortSt Sem (Option Nat):=do
  let mut lastofs:=0
  let mut ofs:=1
  for _ in [0:n] do
    if ofs ≥ n - hint then break
    let some more ← byd left key arr base (hint+ofs) | return none
    if !more then break
    lastofs:=ofs
    ofs:=2 * ofs+1
  gBin left key arr base n (hint+lastofs+1) (hint+min ofs (n - hint))
def gDn (left:Bool) (key:Keyed) (arr:Array Keyed) (base n hint:Nat):StateT SortSt Sem (Option Nat):=do
  let mut lastofs:=0
  let mut ofs:=1
  for _ in [0:n] do
    if ofs ≥ hint+1 then break
    let some found ← byd left key arr base (hint - ofs) | return none
    if found then break
    lastofs:=ofs
    ofs:=2 * ofs+1
  gBin left key arr base n (hint+1 - min ofs (hint+1)) (hint - lastofs)
theorem gallop'_eq (left:Bool) (key:Keyed) (arr:Array Keyed) (base n hint:Nat):gallop' left key arr base n hint=(do
  let some right ← byd left key arr base hint | return none
  if right then gUp left key arr base n hint else gDn left key arr base n hint):=rfl
theorem setMinGallop'_eq (g:Nat):setMinGallop' g=modify (fun s=>SortSt.mk' (kindOf s) (arrOf s) (pendingOf s) g (failedOf s)):=rfl
theorem by_eq {σ α:Type} {M:Model} {A:Around} {E:Value→Shared→Prop} {s:Shared} {m m':StateT σ Sem α} {Q:α→σ→Prop} {st:σ} (e:m=m') (h:wpS M A E s m' Q st):wpAny M A (m st) (fun r s'=>s'=s∧Q r.1 r.2) E s:=by subst e; exact h
section
variable {prog:Program} {w:World} {A:Around} {E:Value→Shared→Prop} {s:Shared} {a₀:Array Keyed} {κ:SortKind} {ρ:Stg.RR}
theorem lt_ok {st:SortSt} {p q:Keyed} {Q:Option Bool→SortSt→Prop} (hk:kindOf st=κ) (h0:Stg.Cmp prog w A s κ ρ a₀) (mp:p∈a₀.toList) (mq:q∈a₀.toList) (h:Q (some (decide (ρ.g p<ρ.g q))) st):wpS (model prog w) A E s (lt' p q) Q st:=by
  rw [lt'_eq]
  refine wpS_bind (wpS_get ?_)
  rw [hk]
  exact wpS_bind (wpS_lift (wpAny_attempt (h0 p mp q mq _ _ ⟨rfl,wpS_pure h⟩)))
theorem elem_ok {st:SortSt} {arr:Array Keyed} {i:Nat} {Q:Keyed→SortSt→Prop} (hi:i<arr.size) (h:Q arr[i] st):wpS (model prog w) A E s (elem' arr i) Q st:=by
  rw [elem'_eq,getElem?_pos arr i hi]
  exact wpS_pure h
theorem kg_at {arr:Array Keyed} {i:Nat} (hi:i<arr.size):Stg.Kg ρ arr i=ρ.g arr[i]:=by
  unfold Stg.Kg
  rw [getElem?_pos arr i hi]
  rfl
def Bd (ρ:Stg.RR) (left:Bool) (kv:Int) (arr:Array Keyed) (base i:Nat):Bool:=if left then decide (Stg.Kg ρ arr (base+i)<kv) else !decide (kv<Stg.Kg ρ arr (base+i))
theorem byd_ok {st:SortSt} {left:Bool} {key:Keyed} {arr:Array Keyed} {base i:Nat} {Q:Option Bool→SortSt→Prop} (hk:kindOf st=κ) (h0:Stg.Cmp prog w A s κ ρ a₀) (ha:∀ p∈arr.toList,p∈a₀.toList) (mk:key∈a₀.toList) (hi:base+i<arr.size) (h:Q (some (Bd ρ left (ρ.g key) arr base i)) st):wpS (model prog w) A E s (byd left key arr base i) Q st:=by
  unfold byd
  refine wpS_bind (elem_ok hi ?_)
  have m:arr[base+i]∈a₀.toList:=ha _ (by simp)
  unfold Bd at h
  rw [kg_at hi] at h
  cases left with
  | true =>
    simp only [if_true] at h ⊢
    exact lt_ok hk h0 m mk h
  | false =>
    simp only [Bool.false_eq_true,if_false] at h ⊢
    exact wpS_bind (lt_ok hk h0 mk m (wpS_pure h))
structure Cut (ρ:Stg.RR) (left:Bool) (kv:Int) (arr:Array Keyed) (base n k:Nat):Prop where
  le:k≤n
  lo:∀ i,i<k→Bd ρ left kv arr base i=true
  hi:∀ i,k≤i→i<n→Bd ρ left kv arr base i=false
def Srt (ρ:Stg.RR) (arr:Array Keyed) (a b:Nat):Prop:=∀ i j,a≤i→i≤j→j<b→Stg.Kg ρ arr i≤Stg.Kg ρ arr j
theorem bd_mono {left:Bool} {kv:Int} {arr:Array Keyed} {base n i j:Nat} (hs:Srt ρ arr base (base+n)) (hij:i≤j) (hj:j<n) (h:Bd ρ left kv arr base j=true):Bd ρ left kv arr base i=true:=by
  have q:=hs (base+i) (base+j) (by omega) (by omega) (by omega)
  unfold Bd at h ⊢
  cases left with
  | true =>
    simp only [if_true,decide_eq_true_eq] at h ⊢
    omega
  | false =>
    simp only [Bool.false_eq_true,if_false,Bool.not_eq_true',decide_eq_false_iff_not] at h ⊢
    omega
section
variable {st:SortSt} {left:Bool} {key:Keyed} {arr:Array Keyed} {base n:Nat} {Q:Option Nat→SortSt→Prop} {P:Nat→Bool}
theorem gBin_ok {lo hi:Nat} (B:∀ {i:Nat} {Q:Option Bool→SortSt→Prop},i<n→Q (some (P i)) st→wpS (model prog w) A E s (byd left key arr base i) Q st)
    (up:∀ {i j:Nat},i≤j→j<n→P j=true→P i=true) (dn:∀ {i j:Nat},i≤j→j<n→P i=false→P j=false)
    (h:∀ k,k≤n→(∀ i,i<k→P i=true)→(∀ i,k≤i→i<n→P i=false)→Q (some k) st)
    (hlh:lo≤hi) (hhn:hi≤n) (u1:∀ i,i<lo→P i=true) (u2:∀ i,hi≤i→i<n→P i=false):wpS (model prog w) A E s (gBin left key arr base n lo hi) Q st:=by
  unfold gBin
  refine wpS_bind (wpS_mono (wpS_forRange (I:=fun x c st2=>st2=st∧∃ l r,c=(none,l,r)∧l≤r∧r≤n∧r - l≤n - x∧(∀ i,i<l→P i=true)∧(∀ i,r≤i→i<n→P i=false))
    (Q:=fun c st2=>st2=st∧∃ r,c=(none,r,r)∧r≤n∧(∀ i,i<r→P i=true)∧(∀ i,r≤i→i<n→P i=false)) ?iturn ?ilast ?ifirst) ?iafter)
  case ifirst=>exact ⟨rfl,lo,hi,rfl,hlh,hhn,by omega,u1,u2⟩
  case ilast =>
    rintro c st2 ⟨rfl,l,r,rfl,hlr,hrk,hm,u1,u2⟩
    have e:l=r:=by omega
    subst e
    exact ⟨rfl,l,rfl,hrk,u1,u2⟩
  case iturn =>
    rintro x c st2 _ hxk ⟨rfl,l,r,rfl,hlr,hrk,hm,u1,u2⟩
    dsimp only
    by_cases hge:l ≥ r
    · rw [if_pos hge]
      have e:l=r:=by omega
      subst e
      exact wpS_pure ⟨rfl,l,rfl,hrk,u1,u2⟩
    · rw [if_neg hge]
      refine wpS_bind (B (by omega) ?_)
      dsimp only
      cases c:P (l+(r - l) / 2) with
      | true =>
        rw [if_pos rfl]
        exact wpS_pure ⟨rfl,l+(r - l) / 2+1,r,rfl,by omega,by omega,by omega,fun i p=>up (j:=l+(r - l) / 2) (by omega) (by omega) c,u2⟩
      | false =>
        rw [if_neg (by simp)]
        exact wpS_pure ⟨rfl,l,l+(r - l) / 2,rfl,by omega,by omega,by omega,u1,fun i p q=>dn p q c⟩
  case iafter =>
    rintro c st2 ⟨rfl,r,rfl,hrn,u1,u2⟩
    exact wpS_pure (h r hrn u1 u2)
end
theorem gallop_ok {st:SortSt} {left:Bool} {key:Keyed} {arr:Array Keyed} {base n hint:Nat} {Q:Option Nat→SortSt→Prop} (hk:kindOf st=κ) (h0:Stg.Cmp prog w A s κ ρ a₀) (ha:∀ p∈arr.toList,p∈a₀.toList) (mk:key∈a₀.toList) (hb:base+n≤arr.size) (hh:hint<n) (hs:Srt ρ arr base (base+n))
    (h:∀ k,Cut ρ left (ρ.g key) arr base n k→Q (some k) st):wpS (model prog w) A E s (gallop' left key arr base n hint) Q st:=by
  rw [gallop'_eq]
  have B:∀ {i:Nat} {Q:Option Bool→SortSt→Prop},i<n→Q (some (Bd ρ left (ρ.g key) arr base i)) st→wpS (model prog w) A E s (byd left key arr base i) Q st:=fun {i Q} hi hq=>byd_ok hk h0 ha mk (by omega) hq
  have up:∀ {i j:Nat},i≤j→j<n→Bd ρ left (ρ.g key) arr base j=true→Bd ρ left (ρ.g key) arr base i=true:=fun hij hj hq=>bd_mono hs hij hj hq
  have h:=fun k c1 c2 c3=>h k ⟨c1,c2,c3⟩
  generalize Bd ρ left (ρ.g key) arr base=P at *
  have dn:∀ {i j:Nat},i≤j→j<n→P i=false→P j=false:=fun {i j} hij hj hq=>by
    cases e:P j with
    | false=>rfl
    | true=>rw [up hij hj e] at hq; exact hq
  refine wpS_bind (B hh ?_)
  dsimp only
  cases e:P hint with
  | true =>
    rw [if_pos rfl]
    unfold gUp
    refine wpS_bind (wpS_mono (wpS_forRange (I:=fun x c st2=>st2=st∧∃ l o,c=(none,l,o)∧l<o∧x+1≤o∧hint+l<n∧P (hint+l)=true)
      (Q:=fun c st2=>st2=st∧∃ l o,c=(none,l,o)∧l<o∧hint+l<n∧P (hint+l)=true∧(n - hint≤o∨hint+o<n∧P (hint+o)=false)) ?jturn ?jlast ?jfirst) ?jafter)
    case jfirst=>exact ⟨rfl,0,1,rfl,by omega,by omega,by omega,e⟩
    case jlast =>
      rintro c st2 ⟨rfl,l,o,rfl,hlo,hxo,hln,hp⟩
      exact ⟨rfl,l,o,rfl,hlo,hln,hp,.inl (by omega)⟩
    case jturn =>
      rintro x c st2 _ hxk ⟨rfl,l,o,rfl,hlo,hxo,hln,hp⟩
      dsimp only
      by_cases hge:o ≥ n - hint
      · rw [if_pos hge]
        exact wpS_pure ⟨rfl,l,o,rfl,hlo,hln,hp,.inl hge⟩
      · rw [if_neg hge]
        refine wpS_bind (B (by omega) ?_)
        dsimp only
        cases c:P (hint+o) with
        | true =>
          rw [if_neg (by simp)]
          exact wpS_pure ⟨rfl,o,2 * o+1,rfl,by omega,by omega,by omega,c⟩
        | false =>
          rw [if_pos (by simp)]
          exact wpS_pure ⟨rfl,l,o,rfl,hlo,hln,hp,.inr ⟨by omega,c⟩⟩
    case jafter =>
      rintro c st2 ⟨rfl,l,o,rfl,hlo,hln,hp,ho⟩
      refine gBin_ok B up dn h (by dsimp only; omega) (by dsimp only; omega) (fun i hi=>up (j:=hint+l) (by dsimp only at hi; omega) hln hp) (fun i p q=>?_)
      dsimp only at p
      rcases ho with ho | ⟨ho,c⟩
      · omega
      · exact dn (i:=hint+o) (by omega) q c
  | false =>
    rw [if_neg (by simp)]
    unfold gDn
    refine wpS_bind (wpS_mono (wpS_forRange (I:=fun x c st2=>st2=st∧∃ l o,c=(none,l,o)∧l<o∧x+1≤o∧l≤hint∧P (hint - l)=false)
      (Q:=fun c st2=>st2=st∧∃ l o,c=(none,l,o)∧l<o∧l≤hint∧P (hint - l)=false∧(hint+1≤o∨o≤hint∧P (hint - o)=true)) ?kturn ?klast ?kfirst) ?kafter)
    case kfirst=>exact ⟨rfl,0,1,rfl,by omega,by omega,by omega,e⟩
    case klast =>
      rintro c st2 ⟨rfl,l,o,rfl,hlo,hxo,hln,hp⟩
      exact ⟨rfl,l,o,rfl,hlo,hln,hp,.inl (by omega)⟩
    case kturn =>
      rintro x c st2 _ hxk ⟨rfl,l,o,rfl,hlo,hxo,hln,hp⟩
      dsimp only
      by_cases hge:o ≥ hint+1
      · rw [if_pos hge]
        exact wpS_pure ⟨rfl,l,o,rfl,hlo,hln,hp,.inl hge⟩
      · rw [if_neg hge]
        refine wpS_bind (B (by omega) ?_)
        dsimp only
        cases c:P (hint - o) with
        | true =>
          rw [if_pos rfl]
          exact wpS_pure ⟨rfl,l,o,rfl,hlo,hln,hp,.inr ⟨by omega,c⟩⟩
        | false =>
          rw [if_neg (by simp)]
          exact wpS_pure ⟨rfl,o,2 * o+1,rfl,by omega,by omega,by omega,c⟩
    case kafter =>
      rintro c st2 ⟨rfl,l,o,rfl,hlo,hln,hp,ho⟩
      refine gBin_ok B up dn h (by dsimp only; omega) (by dsimp only; omega) (fun i hi=>?_) (fun i p q=>dn (i:=hint - l) (by dsimp only at p; omega) q hp)
      dsimp only at hi
      rcases ho with ho | ⟨ho,c⟩
      · omega
      · exact up (j:=hint - o) (by omega) (by omega) c
end
end L2.Stm
set_option Elab.async false
set_option linter.all false
set_option maxRecDepth 100000
set_option maxHeartbeats 4000000
namespace L2.Stm
open PySem PySem.Spec PyProof.Rows
def Lk (ρ:Stg.RR) (x y:Keyed):Prop:=ρ.g x≤ρ.g y
structure MI (ρ:Stg.RR) (A B out:List Keyed) (ia ib:Nat):Prop where
  perm:(out++A.drop ia++B.drop ib).Perm (A++B)
  sa:(out++A.drop ia).Pairwise (Lk ρ)
  sb:(out++B.drop ib).Pairwise (Lk ρ)
section
variable {ρ:Stg.RR} {A B out:List Keyed} {ia ib:Nat}
theorem MI.takeB (h:MI ρ A B out ia ib) (k:Nat) (hk:∀ t∈(B.drop ib).take k,∀ x∈A.drop ia,ρ.g t≤ρ.g x):MI ρ A B (out++(B.drop ib).take k) ia (ib+k):=by
  have e:B.drop (ib+k)=(B.drop ib).drop k:=by rw [List.drop_drop]
  have s:=h.sb
  have p:=h.perm
  rw [← List.take_append_drop k (B.drop ib)] at s p
  refine ⟨?_,?_,?_⟩
  · rw [e]
    refine List.Perm.trans ?_ p
    rw [List.append_assoc out,List.append_assoc out,List.append_assoc out,← List.append_assoc (A.drop ia)]
    exact (List.Perm.append_right _ List.perm_append_comm).append_left _
  · have s1:(out++(B.drop ib).take k).Pairwise (Lk ρ):=by
      rw [← List.append_assoc] at s
      exact (List.pairwise_append.1 s).1
    have a1:=List.pairwise_append.1 h.sa
    refine List.pairwise_append.2 ⟨s1,a1.2.1,fun x hx y hy=>?_⟩
    rcases List.mem_append.1 hx with hx | hx
    · exact a1.2.2 x hx y hy
    · exact hk x hx y hy
  · rw [e,List.append_assoc]
    exact s
theorem MI.takeA (h:MI ρ A B out ia ib) (k:Nat) (hk:∀ t∈(A.drop ia).take k,∀ x∈B.drop ib,ρ.g t≤ρ.g x):MI ρ A B (out++(A.drop ia).take k) (ia+k) ib:=by
  have h2:MI ρ B A out ib ia:=⟨by
    refine List.Perm.trans ?_ (List.Perm.trans h.perm List.perm_append_comm)
    rw [List.append_assoc,List.append_assoc]
    exact List.perm_append_comm.append_left _,h.sb,h.sa⟩
  have h3:=h2.takeB k hk
  refine ⟨?_,h3.sb,h3.sa⟩
  refine List.Perm.trans ?_ (List.Perm.trans h3.perm List.perm_append_comm)
  rw [List.append_assoc _ (A.drop _),List.append_assoc _ (B.drop _)]
  exact List.perm_append_comm.append_left _
def Res (ρ:Stg.RR) (A B:List Keyed) (r:Array Keyed):Prop:=r.toList.Perm (A++B)∧r.toList.Pairwise (Lk ρ)
theorem ex_all (a:Array Keyed) (i:Nat):(a.extract i a.size).toList=a.toList.drop i:=by
  rw [Array.toList_extract,List.extract_eq_drop_take]
  exact List.take_of_length_le (by simp)
theorem ex_some (a:Array Keyed) (i k:Nat):(a.extract i (i+k)).toList=(a.toList.drop i).take k:=by
  rw [Array.toList_extract,List.extract_eq_drop_take]
  congr 1
  omega
theorem MI.res {a b out:Array Keyed} (h:MI ρ a.toList b.toList out.toList ia ib) (he:a.toList.drop ia=[]∨b.toList.drop ib=[]):Res ρ a.toList b.toList (out++a.extract ia a.size++b.extract ib b.size):=by
  unfold Res
  rw [Array.toList_append,Array.toList_append,ex_all,ex_all]
  refine ⟨h.perm,?_⟩
  rcases he with he | he
  · rw [he,List.append_nil]; exact h.sb
  · rw [he,List.append_nil]; exact h.sa
theorem MI.last {a b out:Array Keyed} (h:MI ρ a.toList b.toList out.toList ia ib) (hl:∀ y∈b.toList,∀ x∈a.toList.drop (a.size - 1),ρ.g y≤ρ.g x) (he:ia+1=a.size):Res ρ a.toList b.toList (out++b.extract ib b.size++a.extract ia a.size):=by
  have e:ia=a.size - 1:=by omega
  have h2:=h.takeB (b.toList.length) (fun t ht x hx=>hl t (List.mem_of_mem_drop (List.mem_of_mem_take ht)) x (by rw [← e]; exact hx))
  have e2:(b.toList.drop ib).take b.toList.length=b.toList.drop ib:=List.take_of_length_le (by simp)
  have e3:b.toList.drop (ib+b.toList.length)=[]:=List.drop_of_length_le (by omega)
  rw [e2] at h2
  unfold Res
  rw [Array.toList_append,Array.toList_append,ex_all,ex_all]
  refine ⟨?_,h2.sa⟩
  have:=h2.perm
  rw [e3,List.append_nil] at this
  exact this
end
abbrev LoSt:=Option (Array Keyed)×Array Keyed×Nat×Nat×Nat×Nat×Nat
def lo3 (a b out:Array Keyed) (ia ib g k k1:Nat):StateT SortSt Sem (ForInStep LoSt):=do
  let x ← elem' a ia
  if ia+1+1 == a.size then pure (.done (some (out.push x++b.extract ib b.size++a.extract (ia+1) a.size),out.push x,ia+1,ib,g,k,k1))
  else if k<7 && k1<7 then pure (.done (none,out.push x,ia+1,ib,g,k,k1)) else pure (.yield (none,out.push x,ia+1,ib,g,k,k1))
def lo2 (a b out:Array Keyed) (ia ib g k bc:Nat):StateT SortSt Sem (ForInStep LoSt):=do
  let x ← elem' b ib
  if ib+1 == b.size then pure (.done (some (out.push x++a.extract ia a.size++b.extract (ib+1) b.size),out.push x,ia,ib+1,g,k,bc))
  else do
    let y ← elem' a ia
    let r ← gallop' true y b (ib+1) (b.size - (ib+1)) 0
    match r with
    | some k1 =>
      if k1 > 0 then
        if ib+1+k1 == b.size then pure (.done (some (out.push x++b.extract (ib+1) (ib+1+k1)++a.extract ia a.size++b.extract (ib+1+k1) b.size),out.push x++b.extract (ib+1) (ib+1+k1),ia,ib+1+k1,g,k,k1))
        else lo3 a b (out.push x++b.extract (ib+1) (ib+1+k1)) ia (ib+1+k1) g k k1
      else lo3 a b (out.push x) ia (ib+1) g k k1
    | none=>pure (.done (some (out.push x++a.extract ia a.size++b.extract (ib+1) b.size),out.push x,ia,ib+1,g,k,bc))
def lo1 (a b out:Array Keyed) (ia ib g ac bc:Nat):StateT SortSt Sem (ForInStep LoSt):=do
  setMinGallop' g
  let y ← elem' b ib
  let r ← gallop' false y a ia (a.size - ia) 0
  match r with
  | some k =>
    if k > 0 then
      if ia+k+1 == a.size then pure (.done (some (out++a.extract ia (ia+k)++b.extract ib b.size++a.extract (ia+k) a.size),out++a.extract ia (ia+k),ia+k,ib,g,k,bc))
      else if ia+k == a.size then pure (.done (some (out++a.extract ia (ia+k)++a.extract (ia+k) a.size++b.extract ib b.size),out++a.extract ia (ia+k),ia+k,ib,g,k,bc))
      else lo2 a b (out++a.extract ia (ia+k)) (ia+k) ib g k bc
    else lo2 a b out ia ib g k bc
  | none=>pure (.done (some (out++a.extract ia a.size++b.extract ib b.size),out,ia,ib,g,ac,bc))
abbrev CmSt:=Option (Array Keyed)×Array Keyed×Nat×Nat×Nat×Nat
def loC (a b:Array Keyed) (mg:Nat) (c:CmSt):StateT SortSt Sem (ForInStep CmSt):=do
  let y ← elem' b c.2.2.2.1
  let x ← elem' a c.2.2.1
  let r ← lt' y x
  match r with
  | some w =>
    if w then do
      let y ← elem' b c.2.2.2.1
      if c.2.2.2.1+1 == b.size then pure (.done (some (c.2.1.push y++a.extract c.2.2.1 a.size++b.extract (c.2.2.2.1+1) b.size),c.2.1.push y,c.2.2.1,c.2.2.2.1+1,0,c.2.2.2.2.2+1))
      else if c.2.2.2.2.2+1 ≥ mg then pure (.done (none,c.2.1.push y,c.2.2.1,c.2.2.2.1+1,0,c.2.2.2.2.2+1))
      else pure (.yield (none,c.2.1.push y,c.2.2.1,c.2.2.2.1+1,0,c.2.2.2.2.2+1))
    else do
      let x ← elem' a c.2.2.1
      if c.2.2.1+1+1 == a.size then pure (.done (some (c.2.1.push x++b.extract c.2.2.2.1 b.size++a.extract (c.2.2.1+1) a.size),c.2.1.push x,c.2.2.1+1,c.2.2.2.1,c.2.2.2.2.1+1,0))
      else if c.2.2.2.2.1+1 ≥ mg then pure (.done (none,c.2.1.push x,c.2.2.1+1,c.2.2.2.1,c.2.2.2.2.1+1,0))
      else pure (.yield (none,c.2.1.push x,c.2.2.1+1,c.2.2.2.1,c.2.2.2.2.1+1,0))
  | none=>pure (.done (some (c.2.1++a.extract c.2.2.1 a.size++b.extract c.2.2.2.1 b.size),c.2.1,c.2.2.1,c.2.2.2.1,c.2.2.2.2.1,c.2.2.2.2.2))
abbrev OuSt:=Option (Array Keyed)×Array Keyed×Nat×Nat×Nat
def loO (a b:Array Keyed) (c:OuSt):StateT SortSt Sem (ForInStep OuSt):=do
  let d ← forIn [0:a.size+b.size] ((none,c.2.1,c.2.2.1,c.2.2.2.1,0,0):CmSt) (fun _ d=>loC a b c.2.2.2.2 d)
  match d.1 with
  | some r=>pure (.done (some r,d.2.1,d.2.2.1,d.2.2.2.1,c.2.2.2.2))
  | none=>do
    rule "list.sort.gallop"
    let e ← forIn [0:a.size+b.size] ((none,d.2.1,d.2.2.1,d.2.2.2.1,c.2.2.2.2+1,d.2.2.2.2.1,d.2.2.2.2.2):LoSt) (fun _ e=>if e.2.2.2.2.1 > 1 then lo1 a b e.2.1 e.2.2.1 e.2.2.2.1 (e.2.2.2.2.1 - 1) e.2.2.2.2.2.1 e.2.2.2.2.2.2 else lo1 a b e.2.1 e.2.2.1 e.2.2.2.1 e.2.2.2.2.1 e.2.2.2.2.2.1 e.2.2.2.2.2.2)
    match e.1 with
    | some r=>pure (.done (some r,e.2.1,e.2.2.1,e.2.2.2.1,e.2.2.2.2.1))
    | none=>do
      setMinGallop' (e.2.2.2.2.1+1)
      pure (.yield (none,e.2.1,e.2.2.1,e.2.2.2.1,e.2.2.2.2.1+1))
theorem mergeLo_by {M:Model} {A:Around} {E:Value→Shared→Prop} {s:Shared} {Q:Array Keyed→SortSt→Prop} {st:SortSt} (a b:Array Keyed) (h:wpS M A E s (do
  rule "list.sort.merge-lo"
  let x ← elem' b 0
  if 1 == b.size then pure (#[x]++a.extract 0 a.size++b.extract 1 b.size)
  else if 0+1 == a.size then pure (#[x]++b.extract 1 b.size++a.extract 0 a.size)
  else do
    let st ← get
    let c ← forIn [0:a.size+b.size] ((none,#[x],0,1,gallopOf st):OuSt) (fun _ c=>loO a b c)
    match c.1 with
    | some r=>pure r
    | none=>unsupported "internal:list.sort.merge-bound") Q st):wpS M A E s (mergeLo' a b) Q st:=by
  show wpAny M A (mergeLo' a b st) _ E s
  wp_delta
  wp_delta
  refine by_eq ?_ h
  dsimp only
  refine bind_congr fun _=>bind_congr fun x=>?_
  congr 1
  congr 1
  refine bind_congr fun st=>?_
  congr 1
  · congr 1
    funext _ c
    unfold loO
    congr 1
    · congr 1
      funext _ d
      unfold loC
      refine bind_congr fun y=>bind_congr fun x=>bind_congr fun r=>?_
      cases r with
      | some w =>
        cases w with
        | true=>rfl
        | false=>rfl
      | none=>rfl
    · funext d
      cases d.1 with
      | some r=>rfl
      | none =>
        dsimp only
        refine bind_congr fun _=>?_
        congr 1
        · congr 1
          funext _ e
          congr 1
          all_goals
            unfold lo1
            refine bind_congr fun _=>bind_congr fun y=>bind_congr fun r=>?_
            cases r with
            | none=>rfl
            | some k =>
              dsimp only
              congr 1
              · congr 1
                congr 1
                unfold lo2
                refine bind_congr fun x=>?_
                congr 1
                refine bind_congr fun y=>bind_congr fun r=>?_
                cases r with
                | none=>rfl
                | some k1=>rfl
              · unfold lo2
                refine bind_congr fun x=>?_
                congr 1
                refine bind_congr fun y=>bind_congr fun r=>?_
                cases r with
                | none=>rfl
                | some k1=>rfl
        · funext e
          cases e.1 with
          | some r=>rfl
          | none=>rfl
  · funext c
    cases c.1 with
    | some r=>rfl
    | none=>rfl
end L2.Stm
set_option Elab.async false
set_option linter.all false
set_option maxRecDepth 100000
set_option maxHeartbeats 4000000
namespace L2.Stm
open PySem PySem.Spec PyProof.Rows
def Sm (st st':SortSt):Prop:=kindOf st'=kindOf st∧arrOf st'=arrOf st∧pendingOf st'=pendingOf st∧failedOf st'=failedOf st
theorem Sm.refl (st:SortSt):Sm st st:=⟨rfl,rfl,rfl,rfl⟩
theorem Sm.trans {a b c:SortSt} (h:Sm a b) (h':Sm b c):Sm a c:=⟨h'.1.trans h.1,h'.2.1.trans h.2.1,h'.2.2.1.trans h.2.2.1,h'.2.2.2.trans h.2.2.2⟩
section
variable {prog:Program} {w:World} {A:Around} {E:Value→Shared→Prop} {s:Shared} {a₀:Array Keyed} {κ:SortKind} {ρ:Stg.RR} {a b:Array Keyed}
theorem smg_ok {st:SortSt} {g:Nat} {Q:Unit→SortSt→Prop} (h:∀ st',Sm st st'→Q () st'):wpS (model prog w) A E s (setMinGallop' g) Q st:=by
  rw [setMinGallop'_eq]
  exact wpS_modify (h _ ⟨rfl,rfl,rfl,rfl⟩)
theorem srt_of (h:a.toList.Pairwise (Lk ρ)) (i j:Nat):Srt ρ a i (i+(a.size - i)):=by
  intro x y hx hxy hy
  have hy':y<a.size:=by omega
  rw [kg_at (show x<a.size by omega),kg_at hy']
  by_cases e:x=y
  · subst e; omega
  · exact List.pairwise_iff_getElem.1 h x y (by simpa using (show x<a.size by omega)) (by simpa using hy') (by omega)
theorem mem_drop_at {i:Nat} {x:Keyed} (h:x∈a.toList.drop i):∃ j,∃ hj:i+j<a.size,x=a[i+j]:=by
  obtain ⟨j,hj,e⟩:=List.mem_iff_getElem.1 h
  rw [List.length_drop,Array.length_toList] at hj
  refine ⟨j,by omega,?_⟩
  rw [← e,List.getElem_drop,Array.getElem_toList]
theorem mem_take_at {i k:Nat} {x:Keyed} (h:x∈(a.toList.drop i).take k):∃ j,j<k∧∃ hj:i+j<a.size,x=a[i+j]:=by
  obtain ⟨j,hj,e⟩:=List.mem_iff_getElem.1 h
  rw [List.length_take,List.length_drop,Array.length_toList] at hj
  refine ⟨j,by omega,by omega,?_⟩
  rw [← e,List.getElem_take,List.getElem_drop,Array.getElem_toList]
theorem Cut.low {left:Bool} {kv:Int} {i k:Nat} (h:Cut ρ left kv a i (a.size - i) k) {x:Keyed} (hx:x∈(a.toList.drop i).take k):ρ.g x≤kv:=by
  obtain ⟨j,hj,hs,rfl⟩:=mem_take_at hx
  have:=h.lo j hj
  unfold Bd at this
  rw [kg_at hs] at this
  cases left with
  | true=>simp only [if_true,decide_eq_true_eq] at this; omega
  | false=>simp only [Bool.false_eq_true,if_false,Bool.not_eq_true',decide_eq_false_iff_not] at this; omega
theorem Cut.high {left:Bool} {kv:Int} {i k:Nat} (h:Cut ρ left kv a i (a.size - i) k) {x:Keyed} (hx:x∈a.toList.drop (i+k)):kv≤ρ.g x:=by
  obtain ⟨j,hs,rfl⟩:=mem_drop_at hx
  have:=h.hi (k+j) (by omega) (by omega)
  unfold Bd at this
  rw [show i+(k+j)=i+k+j by omega,kg_at hs] at this
  cases left with
  | true=>simp only [if_true,decide_eq_false_iff_not] at this; omega
  | false=>simp only [Bool.false_eq_true,if_false,Bool.not_eq_false',decide_eq_true_eq] at this; omega
theorem drop_one {i:Nat} (hi:i<a.size):(a.toList.drop i).take 1=[a[i]]:=by
  rw [List.drop_eq_getElem_cons (by simpa using hi)]
  rfl
theorem first_le {i:Nat} (hi:i<a.size) (h:(a.toList.drop i).Pairwise (Lk ρ)) {x:Keyed} (hx:x∈a.toList.drop i):ρ.g a[i]≤ρ.g x:=by
  rw [List.drop_eq_getElem_cons (by simpa using hi)] at h hx
  rcases List.mem_cons.1 hx with rfl | hx
  · exact Int.le_refl _
  · exact (List.pairwise_cons.1 h).1 x hx
structure Two (ρ:Stg.RR) (a₀ a b:Array Keyed):Prop where
  ma:∀ p∈a.toList,p∈a₀.toList
  mb:∀ p∈b.toList,p∈a₀.toList
  sa:a.toList.Pairwise (Lk ρ)
  sb:b.toList.Pairwise (Lk ρ)
  last:∀ y∈b.toList,∀ x∈a.toList.drop (a.size - 1),ρ.g y≤ρ.g x
def Jm (ρ:Stg.RR) (a b:Array Keyed) (m:Nat) (out:Array Keyed) (ia ib:Nat):Prop:=MI ρ a.toList b.toList out.toList ia ib∧m≤ia+ib∧ia+1<a.size∧ib<b.size
def LoP (ρ:Stg.RR) (a b:Array Keyed) (m:Nat) (c:LoSt):Prop:=(∃ r q,c=(some r,q)∧Res ρ a.toList b.toList r)∨∃ out ia ib g k k1,c=(none,out,ia,ib,g,k,k1)∧Jm ρ a b m out ia ib
def LoR (ρ:Stg.RR) (a b:Array Keyed) (m:Nat) (st:SortSt) (r:ForInStep LoSt) (st':SortSt):Prop:=Sm st st'∧match r with
  | .done c=>LoP ρ a b m c
  | .yield c=>∃ out ia ib g k k1,c=(none,out,ia,ib,g,k,k1)∧Jm ρ a b m out ia ib
theorem MI.pushA {out:Array Keyed} {ia ib:Nat} (h:MI ρ a.toList b.toList out.toList ia ib) (hi:ia<a.size) (hk:∀ x∈b.toList.drop ib,ρ.g a[ia]≤ρ.g x):MI ρ a.toList b.toList (out.push a[ia]).toList (ia+1) ib:=by
  have:=h.takeA 1 (by rw [drop_one hi]; intro t ht x hx; rw [List.mem_singleton.1 ht]; exact hk x hx)
  rw [drop_one hi] at this
  rw [Array.toList_push]
  exact this
theorem MI.pushB {out:Array Keyed} {ia ib:Nat} (h:MI ρ a.toList b.toList out.toList ia ib) (hi:ib<b.size) (hk:∀ x∈a.toList.drop ia,ρ.g b[ib]≤ρ.g x):MI ρ a.toList b.toList (out.push b[ib]).toList ia (ib+1):=by
  have:=h.takeB 1 (by rw [drop_one hi]; intro t ht x hx; rw [List.mem_singleton.1 ht]; exact hk x hx)
  rw [drop_one hi] at this
  rw [Array.toList_push]
  exact this
theorem lo3_ok {st0 st:SortSt} {out:Array Keyed} {ia ib g k k1 m:Nat} (T:Two ρ a₀ a b) (hS:Sm st0 st) (h:Jm ρ a b m out ia ib) (hk:∀ x∈b.toList.drop ib,ρ.g (a[ia]'(by have:=h.2.2.1; omega))≤ρ.g x):wpS (model prog w) A E s (lo3 a b out ia ib g k k1) (LoR ρ a b (m+1) st0) st:=by
  obtain ⟨M,hm,ha,hb⟩:=h
  have ia':ia<a.size:=by omega
  unfold lo3
  refine wpS_bind (elem_ok ia' ?_)
  have M2:=M.pushA ia' hk
  by_cases e:ia+1+1=a.size
  · rw [if_pos (by simpa using e)]
    exact wpS_pure ⟨hS,.inl ⟨_,_,rfl,M2.last T.last e⟩⟩
  · rw [if_neg (by simpa using e)]
    have J:Jm ρ a b (m+1) (out.push a[ia]) (ia+1) ib:=⟨M2,by omega,by omega,hb⟩
    by_cases c:(decide (k<7) && decide (k1<7))=true
    · rw [if_pos c]
      exact wpS_pure ⟨hS,.inr ⟨_,_,_,_,_,_,rfl,J⟩⟩
    · rw [if_neg c]
      exact wpS_pure ⟨hS,_,_,_,_,_,_,rfl,J⟩
theorem lo2_ok {st0 st:SortSt} {out:Array Keyed} {ia ib g k bc m:Nat} (h0:Stg.Cmp prog w A s κ ρ a₀) (hk:kindOf st=κ) (T:Two ρ a₀ a b) (hS:Sm st0 st) (h:Jm ρ a b m out ia ib) (hq:∀ x∈a.toList.drop ia,ρ.g (b[ib]'(h.2.2.2))≤ρ.g x):wpS (model prog w) A E s (lo2 a b out ia ib g k bc) (LoR ρ a b (m+1) st0) st:=by
  obtain ⟨M,hm,ha,hb⟩:=h
  have ia':ia<a.size:=by omega
  unfold lo2
  refine wpS_bind (elem_ok hb ?_)
  have M2:=M.pushB hb hq
  by_cases e:ib+1=b.size
  · rw [if_pos (by simpa using e)]
    exact wpS_pure ⟨hS,.inl ⟨_,_,rfl,M2.res (.inr (List.drop_of_length_le (by simp; omega)))⟩⟩
  · rw [if_neg (by simpa using e)]
    refine wpS_bind (elem_ok ia' ?_)
    refine wpS_bind (gallop_ok hk h0 T.mb (T.ma _ (by simp)) (by omega) (by omega) (srt_of T.sb _ 0) (fun k1 C=>?_))
    dsimp only
    have fa:∀ x∈a.toList.drop ia,ρ.g a[ia]≤ρ.g x:=fun x hx=>first_le ia' (List.Pairwise.sublist (List.drop_sublist _ _) T.sa) hx
    have M3:=M2.takeB k1 (fun t ht x hx=>Int.le_trans (C.low ht) (fa x hx))
    rw [← ex_some,← Array.toList_append] at M3
    have hi:∀ x∈b.toList.drop (ib+1+k1),ρ.g a[ia]≤ρ.g x:=fun x hx=>C.high hx
    by_cases c:k1 > 0
    · rw [if_pos c]
      by_cases e2:ib+1+k1=b.size
      · rw [if_pos (by simpa using e2)]
        exact wpS_pure ⟨hS,.inl ⟨_,_,rfl,M3.res (.inr (List.drop_of_length_le (by simp; omega)))⟩⟩
      · rw [if_neg (by simpa using e2)]
        have:=C.le
        exact lo3_ok T hS ⟨M3,by omega,ha,by omega⟩ hi
    · rw [if_neg c]
      have e3:k1=0:=by omega
      subst e3
      exact lo3_ok T hS ⟨M2,by omega,ha,by omega⟩ hi
theorem lo1_ok {st0 st:SortSt} {out:Array Keyed} {ia ib g ac bc m:Nat} (h0:Stg.Cmp prog w A s κ ρ a₀) (hk:kindOf st=κ) (T:Two ρ a₀ a b) (hS:Sm st0 st) (h:Jm ρ a b m out ia ib):wpS (model prog w) A E s (lo1 a b out ia ib g ac bc) (LoR ρ a b (m+1) st0) st:=by
  obtain ⟨M,hm,ha,hb⟩:=h
  have ia':ia<a.size:=by omega
  unfold lo1
  refine wpS_bind (smg_ok fun st1 hS1=>?_)
  have hk1:kindOf st1=κ:=hS1.1.trans hk
  have hS2:=hS.trans hS1
  refine wpS_bind (elem_ok hb ?_)
  refine wpS_bind (gallop_ok hk1 h0 T.ma (T.mb _ (by simp)) (by omega) (by omega) (srt_of T.sa _ 0) (fun k C=>?_))
  dsimp only
  have fb:∀ x∈b.toList.drop ib,ρ.g b[ib]≤ρ.g x:=fun x hx=>first_le hb (List.Pairwise.sublist (List.drop_sublist _ _) T.sb) hx
  have M3:=M.takeA k (fun t ht x hx=>Int.le_trans (C.low ht) (fb x hx))
  rw [← ex_some,← Array.toList_append] at M3
  have hi:∀ x∈a.toList.drop (ia+k),ρ.g b[ib]≤ρ.g x:=fun x hx=>C.high hx
  have:=C.le
  by_cases c:k > 0
  · rw [if_pos c]
    by_cases e2:ia+k+1=a.size
    · rw [if_pos (by simpa using e2)]
      exact wpS_pure ⟨hS2,.inl ⟨_,_,rfl,M3.last T.last e2⟩⟩
    · rw [if_neg (by simpa using e2)]
      by_cases e3:ia+k=a.size
      · rw [if_pos (by simpa using e3)]
        exact wpS_pure ⟨hS2,.inl ⟨_,_,rfl,M3.res (.inl (List.drop_of_length_le (by simp; omega)))⟩⟩
      · rw [if_neg (by simpa using e3)]
        exact lo2_ok h0 hk1 T hS2 ⟨M3,by omega,by omega,hb⟩ hi
  · rw [if_neg c]
    have e3:k=0:=by omega
    subst e3
    exact lo2_ok h0 hk1 T hS2 ⟨M,by omega,ha,hb⟩ hi
def CmP (ρ:Stg.RR) (a b:Array Keyed) (m:Nat) (c:CmSt):Prop:=(∃ r q,c=(some r,q)∧Res ρ a.toList b.toList r)∨∃ out ia ib k k1,c=(none,out,ia,ib,k,k1)∧Jm ρ a b m out ia ib
theorem loC_ok {st:SortSt} {out:Array Keyed} {mg ia ib ac bc m:Nat} (h0:Stg.Cmp prog w A s κ ρ a₀) (hk:kindOf st=κ) (T:Two ρ a₀ a b) (h:Jm ρ a b m out ia ib):wpS (model prog w) A E s (loC a b mg (none,out,ia,ib,ac,bc)) (fun r st'=>st'=st∧match r with
    | .done c=>CmP ρ a b (m+1) c
    | .yield c=>∃ out ia ib k k1,c=(none,out,ia,ib,k,k1)∧Jm ρ a b (m+1) out ia ib) st:=by
  obtain ⟨M,hm,ha,hb⟩:=h
  have ia':ia<a.size:=by omega
  have fa:∀ x∈a.toList.drop ia,ρ.g a[ia]≤ρ.g x:=fun x hx=>first_le ia' (List.Pairwise.sublist (List.drop_sublist _ _) T.sa) hx
  have fb:∀ x∈b.toList.drop ib,ρ.g b[ib]≤ρ.g x:=fun x hx=>first_le hb (List.Pairwise.sublist (List.drop_sublist _ _) T.sb) hx
  unfold loC
  dsimp only
  refine wpS_bind (elem_ok hb (wpS_bind (elem_ok ia' (wpS_bind (lt_ok hk h0 (T.mb _ (by simp)) (T.ma _ (by simp)) ?_)))))
  dsimp only
  by_cases c:ρ.g b[ib]<ρ.g a[ia]
  · rw [decide_eq_true c,if_pos rfl]
    refine wpS_bind (elem_ok hb ?_)
    have M2:=M.pushB hb (fun x hx=>by have:=fa x hx; omega)
    by_cases e:ib+1=b.size
    · rw [if_pos (by simpa using e)]
      exact wpS_pure ⟨rfl,.inl ⟨_,_,rfl,M2.res (.inr (List.drop_of_length_le (by simp; omega)))⟩⟩
    · rw [if_neg (by simpa using e)]
      have J:Jm ρ a b (m+1) (out.push b[ib]) ia (ib+1):=⟨M2,by omega,ha,by omega⟩
      by_cases c2:bc+1 ≥ mg
      · rw [if_pos c2]
        exact wpS_pure ⟨rfl,.inr ⟨_,_,_,_,_,rfl,J⟩⟩
      · rw [if_neg c2]
        exact wpS_pure ⟨rfl,_,_,_,_,_,rfl,J⟩
  · rw [decide_eq_false c,if_neg (by simp)]
    refine wpS_bind (elem_ok ia' ?_)
    have M2:=M.pushA ia' (fun x hx=>by have:=fb x hx; omega)
    by_cases e:ia+1+1=a.size
    · rw [if_pos (by simpa using e)]
      exact wpS_pure ⟨rfl,.inl ⟨_,_,rfl,M2.last T.last e⟩⟩
    · rw [if_neg (by simpa using e)]
      have J:Jm ρ a b (m+1) (out.push a[ia]) (ia+1) ib:=⟨M2,by omega,by omega,hb⟩
      by_cases c2:ac+1 ≥ mg
      · rw [if_pos c2]
        exact wpS_pure ⟨rfl,.inr ⟨_,_,_,_,_,rfl,J⟩⟩
      · rw [if_neg c2]
        exact wpS_pure ⟨rfl,_,_,_,_,_,rfl,J⟩
theorem Jm.weak {m m':Nat} {out:Array Keyed} {ia ib:Nat} (h:Jm ρ a b m out ia ib) (hm:m'≤m):Jm ρ a b m' out ia ib:=⟨h.1,by have:=h.2.1; omega,h.2.2.1,h.2.2.2⟩
theorem loO_ok {st:SortSt} {out:Array Keyed} {ia ib g m:Nat} (h0:Stg.Cmp prog w A s κ ρ a₀) (hk:kindOf st=κ) (T:Two ρ a₀ a b) (h:Jm ρ a b m out ia ib):wpS (model prog w) A E s (loO a b (none,out,ia,ib,g)) (fun r st'=>Sm st st'∧match r with
    | .done c=>∃ r q,c=(some r,q)∧Res ρ a.toList b.toList r
    | .yield c=>∃ out ia ib g,c=(none,out,ia,ib,g)∧Jm ρ a b (m+1) out ia ib) st:=by
  have pos:0<a.size+b.size:=by have:=h.2.2.1; omega
  unfold loO
  dsimp only
  refine wpS_bind (wpS_mono (wpS_forRange (I:=fun x c st2=>st2=st∧∃ out ia ib k k1,c=(none,out,ia,ib,k,k1)∧Jm ρ a b (m+x) out ia ib) (Q:=fun c st2=>st2=st∧CmP ρ a b (m+1) c) ?turn ?last ?first) ?after)
  case first=>exact ⟨rfl,_,_,_,_,_,rfl,h⟩
  case last =>
    rintro c st2 ⟨rfl,out,ia,ib,k,k1,rfl,J⟩
    exact ⟨rfl,.inr ⟨_,_,_,_,_,rfl,J.weak (by omega)⟩⟩
  case turn =>
    rintro x c st2 _ hx ⟨rfl,out,ia,ib,k,k1,rfl,J⟩
    refine wpS_mono (loC_ok h0 hk T J) ?_
    rintro r st3 ⟨rfl,hr⟩
    cases r with
    | done c =>
      refine ⟨rfl,?_⟩
      rcases hr with hr | ⟨out,ia,ib,k,k1,rfl,J⟩
      · exact .inl hr
      · exact .inr ⟨_,_,_,_,_,rfl,J.weak (by omega)⟩
    | yield c=>exact ⟨rfl,hr⟩
  case after =>
    rintro c st2 ⟨rfl,hc⟩
    rcases hc with ⟨r,q,rfl,R⟩ | ⟨out,ia,ib,k,k1,rfl,J⟩
    · exact wpS_pure ⟨Sm.refl _,_,_,rfl,R⟩
    · dsimp only
      refine wpS_bind (wpS_lift (wpAny_rule ⟨rfl,?_⟩))
      refine wpS_bind (wpS_mono (wpS_forRange (I:=fun x c st3=>Sm st2 st3∧∃ out ia ib g k k1,c=(none,out,ia,ib,g,k,k1)∧Jm ρ a b (m+x) out ia ib) (Q:=fun c st3=>Sm st2 st3∧LoP ρ a b (m+1) c) ?jturn ?jlast ?jfirst) ?jafter)
      case jfirst=>exact ⟨Sm.refl _,_,_,_,_,_,_,rfl,J.weak (by omega)⟩
      case jlast =>
        rintro c st3 ⟨hS,out,ia,ib,g,k,k1,rfl,J⟩
        exact ⟨hS,.inr ⟨_,_,_,_,_,_,rfl,J.weak (by omega)⟩⟩
      case jturn =>
        rintro x c st3 _ hx ⟨hS,out,ia,ib,g,k,k1,rfl,J⟩
        have hk3:kindOf st3=κ:=hS.1.trans hk
        dsimp only
        rw [show (if g > 1 then lo1 a b out ia ib (g - 1) k k1 else lo1 a b out ia ib g k k1)=lo1 a b out ia ib (if g > 1 then g - 1 else g) k k1 by split <;> rfl]
        refine wpS_mono (lo1_ok h0 hk3 T hS J) ?_
        rintro r st4 ⟨hS4,hr⟩
        cases r with
        | done c =>
          refine ⟨hS4,?_⟩
          rcases hr with hr | ⟨out,ia,ib,g,k,k1,rfl,J⟩
          · exact .inl hr
          · exact .inr ⟨_,_,_,_,_,_,rfl,J.weak (by omega)⟩
        | yield c=>exact ⟨hS4,hr⟩
      case jafter =>
        rintro c st3 ⟨hS,hc⟩
        rcases hc with ⟨r,q,rfl,R⟩ | ⟨out,ia,ib,g,k,k1,rfl,J⟩
        · exact wpS_pure ⟨hS,_,_,rfl,R⟩
        · refine wpS_bind (smg_ok fun st4 hS4=>wpS_pure ⟨hS.trans hS4,_,_,_,_,rfl,J⟩)
theorem mergeLo_ok {st:SortSt} {Q:Array Keyed→SortSt→Prop} (h0:Stg.Cmp prog w A s κ ρ a₀) (hk:kindOf st=κ) (T:Two ρ a₀ a b) (ha:0<a.size) (hb:0<b.size) (hf:∀ x∈a.toList,ρ.g b[0]≤ρ.g x)
    (h:∀ r st',Sm st st'→Res ρ a.toList b.toList r→Q r st'):wpS (model prog w) A E s (mergeLo' a b) Q st:=by
  refine mergeLo_by _ _ ?_
  refine wpS_bind (wpS_lift (wpAny_rule ⟨rfl,?_⟩))
  refine wpS_bind (elem_ok hb ?_)
  have M0:MI ρ a.toList b.toList (#[]:Array Keyed).toList 0 0:=⟨by simp,by simpa using T.sa,by simpa using T.sb⟩
  have M1:MI ρ a.toList b.toList (#[b[0]]:Array Keyed).toList 0 1:=M0.pushB hb (fun x hx=>hf x (by simpa using hx))
  by_cases e1:1=b.size
  · rw [if_pos (by simpa using e1)]
    exact wpS_pure (h _ _ (Sm.refl _) (M1.res (.inr (List.drop_of_length_le (by simp; omega)))))
  · rw [if_neg (by simpa using e1)]
    by_cases e2:0+1=a.size
    · rw [if_pos (by simpa using e2)]
      exact wpS_pure (h _ _ (Sm.refl _) (M1.last T.last e2))
    · rw [if_neg (by simpa using e2)]
      refine wpS_bind (wpS_get ?_)
      refine wpS_bind (wpS_mono (wpS_forRange (I:=fun x c st2=>Sm st st2∧∃ out ia ib g,c=(none,out,ia,ib,g)∧Jm ρ a b (x+1) out ia ib) (Q:=fun c st2=>Sm st st2∧∃ r q,c=(some r,q)∧Res ρ a.toList b.toList r) ?turn ?last ?first) ?after)
      case first=>exact ⟨Sm.refl _,_,_,_,_,rfl,M1,by omega,by omega,by omega⟩
      case last =>
        rintro c st2 ⟨_,out,ia,ib,g,rfl,J⟩
        have:=J.2.1
        have:=J.2.2.1
        have:=J.2.2.2
        omega
      case turn =>
        rintro x c st2 _ hx ⟨hS,out,ia,ib,g,rfl,J⟩
        refine wpS_mono (loO_ok h0 (hS.1.trans hk) T J) ?_
        rintro r st3 ⟨hS3,hr⟩
        cases r with
        | done c=>exact ⟨hS.trans hS3,hr⟩
        | yield c=>exact ⟨hS.trans hS3,hr⟩
      case after =>
        rintro c st2 ⟨hS,r,q,rfl,R⟩
        exact wpS_pure (h r st2 hS R)
end
end L2.Stm
set_option Elab.async false
set_option linter.all false
set_option maxRecDepth 100000
set_option maxHeartbeats 4000000
namespace L2.Stm
open PySem PySem.Spec PyProof.Rows
structure MH (ρ:Stg.RR) (A B O:List Keyed) (na nb:Nat):Prop where
  perm:(A.take na++B.take nb++O).Perm (A++B)
  sa:(A.take na++O).Pairwise (Lk ρ)
  sb:(B.take nb++O).Pairwise (Lk ρ)
section
variable {ρ:Stg.RR} {A B O:List Keyed} {na nb:Nat}
theorem MH.takeB (h:MH ρ A B O na nb) (k:Nat) (hkn:k≤nb) (hk:∀ t∈(B.take nb).drop k,∀ x∈A.take na,ρ.g x≤ρ.g t):MH ρ A B ((B.take nb).drop k++O) na k:=by
  have e:B.take k=(B.take nb).take k:=by rw [List.take_take,Nat.min_eq_left hkn]
  have s:=h.sb
  have p:=h.perm
  rw [← List.take_append_drop k (B.take nb),List.append_assoc] at s
  rw [← List.take_append_drop k (B.take nb)] at p
  refine ⟨?_,?_,?_⟩
  · rw [e]
    refine List.Perm.trans ?_ p
    simp only [List.append_assoc]
    exact List.Perm.refl _
  · have s1:=(List.pairwise_append.1 s).2.1
    have a1:=List.pairwise_append.1 h.sa
    refine List.pairwise_append.2 ⟨a1.1,s1,fun x hx y hy=>?_⟩
    rcases List.mem_append.1 hy with hy | hy
    · exact hk y hy x hx
    · exact a1.2.2 x hx y hy
  · rw [e]
    exact s
theorem MH.takeA (h:MH ρ A B O na nb) (k:Nat) (hkn:k≤na) (hk:∀ t∈(A.take na).drop k,∀ x∈B.take nb,ρ.g x≤ρ.g t):MH ρ A B ((A.take na).drop k++O) k nb:=by
  have h2:MH ρ B A O nb na:=⟨List.Perm.trans (List.perm_append_comm.append_right _) (List.Perm.trans h.perm List.perm_append_comm),h.sb,h.sa⟩
  have h3:=h2.takeB k hkn hk
  exact ⟨List.Perm.trans (List.perm_append_comm.append_right _) (List.Perm.trans h3.perm List.perm_append_comm),h3.sb,h3.sa⟩
theorem ex_to (a:Array Keyed) (k:Nat):(a.extract 0 k).toList=a.toList.take k:=by
  rw [Array.toList_extract,List.extract_eq_drop_take,List.drop_zero,Nat.sub_zero]
theorem ex_mid (a:Array Keyed) (i k:Nat):(a.extract i k).toList=(a.toList.take k).drop i:=by
  rw [Array.toList_extract,List.extract_eq_drop_take,List.drop_take]
theorem MH.res {a b out:Array Keyed} (h:MH ρ a.toList b.toList out.toList.reverse na nb) (he:na=0∨nb=0):Res ρ a.toList b.toList (a.extract 0 na++b.extract 0 nb++out.reverse):=by
  unfold Res
  rw [Array.toList_append,Array.toList_append,ex_to,ex_to,Array.toList_reverse]
  refine ⟨h.perm,?_⟩
  rcases he with rfl | rfl
  · rw [List.take_zero,List.nil_append]; exact h.sb
  · rw [List.take_zero,List.append_nil]; exact h.sa
theorem MH.first {a b out:Array Keyed} (h:MH ρ a.toList b.toList out.toList.reverse na 1) (hl:∀ y∈b.toList.take 1,∀ x∈a.toList,ρ.g y≤ρ.g x):Res ρ a.toList b.toList (b.extract 0 1++a.extract 0 na++out.reverse):=by
  have h2:=h.takeA 0 (Nat.zero_le _) (fun t ht x hx=>hl x hx t (List.mem_of_mem_take (List.mem_of_mem_drop ht)))
  rw [List.drop_zero] at h2
  unfold Res
  rw [Array.toList_append,Array.toList_append,ex_to,ex_to,Array.toList_reverse]
  have p:=h2.perm
  have s:=h2.sb
  rw [List.take_zero,List.nil_append,← List.append_assoc] at p
  rw [← List.append_assoc] at s
  exact ⟨p,s⟩
end
end L2.Stm
set_option Elab.async false
set_option linter.all false
set_option maxRecDepth 100000
set_option maxHeartbeats 4000000
namespace L2.Stm
open PySem PySem.Spec PyProof.Rows
abbrev HiSt:=Option (Array Keyed)×Nat×Nat×Array Keyed×Nat×Nat×Nat
def hi3 (a b:Array Keyed) (na nb:Nat) (out:Array Keyed) (g k k1:Nat):StateT SortSt Sem (ForInStep HiSt):=do
  let x ← elem' a (na - 1)
  if na - 1 == 0 then pure (.done (some (a.extract 0 (na - 1)++b.extract 0 nb++(out.push x).reverse),na - 1,nb,out.push x,g,k,k1))
  else if k<7 && k1<7 then pure (.done (none,na - 1,nb,out.push x,g,k,k1)) else pure (.yield (none,na - 1,nb,out.push x,g,k,k1))
def hi2 (a b:Array Keyed) (na nb:Nat) (out:Array Keyed) (g k bc:Nat):StateT SortSt Sem (ForInStep HiSt):=do
  let x ← elem' b (nb - 1)
  if nb - 1 == 1 then pure (.done (some (b.extract 0 (nb - 1)++a.extract 0 na++(out.push x).reverse),na,nb - 1,out.push x,g,k,bc))
  else do
    let y ← elem' a (na - 1)
    let r ← gallop' true y b 0 (nb - 1) (nb - 1 - 1)
    match r with
    | some i =>
      if nb - 1 - i > 0 then
        if i == 1 then pure (.done (some (b.extract 0 i++a.extract 0 na++(out.push x++(b.extract i (nb - 1)).reverse).reverse),na,i,out.push x++(b.extract i (nb - 1)).reverse,g,k,nb - 1 - i))
        else if i == 0 then pure (.done (some (a.extract 0 na++b.extract 0 i++(out.push x++(b.extract i (nb - 1)).reverse).reverse),na,i,out.push x++(b.extract i (nb - 1)).reverse,g,k,nb - 1 - i))
        else hi3 a b na i (out.push x++(b.extract i (nb - 1)).reverse) g k (nb - 1 - i)
      else hi3 a b na (nb - 1) (out.push x) g k (nb - 1 - i)
    | none=>pure (.done (some (a.extract 0 na++b.extract 0 (nb - 1)++(out.push x).reverse),na,nb - 1,out.push x,g,k,bc))
def hi1 (a b:Array Keyed) (na nb:Nat) (out:Array Keyed) (g ac bc:Nat):StateT SortSt Sem (ForInStep HiSt):=do
  setMinGallop' g
  let y ← elem' b (nb - 1)
  let r ← gallop' false y a 0 na (na - 1)
  match r with
  | some i =>
    if na - i > 0 then
      if i == 0 then pure (.done (some (a.extract 0 i++b.extract 0 nb++(out++(a.extract i na).reverse).reverse),i,nb,out++(a.extract i na).reverse,g,na - i,bc))
      else hi2 a b i nb (out++(a.extract i na).reverse) g (na - i) bc
    else hi2 a b na nb out g (na - i) bc
  | none=>pure (.done (some (a.extract 0 na++b.extract 0 nb++out.reverse),na,nb,out,g,ac,bc))
abbrev HcSt:=Option (Array Keyed)×Nat×Nat×Array Keyed×Nat×Nat
def hiC (a b:Array Keyed) (mg:Nat) (c:HcSt):StateT SortSt Sem (ForInStep HcSt):=do
  let y ← elem' b (c.2.2.1 - 1)
  let x ← elem' a (c.2.1 - 1)
  let r ← lt' y x
  match r with
  | some w =>
    if w then do
      let x ← elem' a (c.2.1 - 1)
      if c.2.1 - 1 == 0 then pure (.done (some (a.extract 0 (c.2.1 - 1)++b.extract 0 c.2.2.1++(c.2.2.2.1.push x).reverse),c.2.1 - 1,c.2.2.1,c.2.2.2.1.push x,c.2.2.2.2.1+1,0))
      else if c.2.2.2.2.1+1 ≥ mg then pure (.done (none,c.2.1 - 1,c.2.2.1,c.2.2.2.1.push x,c.2.2.2.2.1+1,0))
      else pure (.yield (none,c.2.1 - 1,c.2.2.1,c.2.2.2.1.push x,c.2.2.2.2.1+1,0))
    else do
      let y ← elem' b (c.2.2.1 - 1)
      if c.2.2.1 - 1 == 1 then pure (.done (some (b.extract 0 (c.2.2.1 - 1)++a.extract 0 c.2.1++(c.2.2.2.1.push y).reverse),c.2.1,c.2.2.1 - 1,c.2.2.2.1.push y,0,c.2.2.2.2.2+1))
      else if c.2.2.2.2.2+1 ≥ mg then pure (.done (none,c.2.1,c.2.2.1 - 1,c.2.2.2.1.push y,0,c.2.2.2.2.2+1))
      else pure (.yield (none,c.2.1,c.2.2.1 - 1,c.2.2.2.1.push y,0,c.2.2.2.2.2+1))
  | none=>pure (.done (some (a.extract 0 c.2.1++b.extract 0 c.2.2.1++c.2.2.2.1.reverse),c.2.1,c.2.2.1,c.2.2.2.1,c.2.2.2.2.1,c.2.2.2.2.2))
abbrev HoSt:=Option (Array Keyed)×Nat×Nat×Array Keyed×Nat
def hiO (a b:Array Keyed) (c:HoSt):StateT SortSt Sem (ForInStep HoSt):=do
  let d ← forIn [0:a.size+b.size] ((none,c.2.1,c.2.2.1,c.2.2.2.1,0,0):HcSt) (fun _ d=>hiC a b c.2.2.2.2 d)
  match d.1 with
  | some r=>pure (.done (some r,d.2.1,d.2.2.1,d.2.2.2.1,c.2.2.2.2))
  | none=>do
    rule "list.sort.gallop"
    let e ← forIn [0:a.size+b.size] ((none,d.2.1,d.2.2.1,d.2.2.2.1,c.2.2.2.2+1,d.2.2.2.2.1,d.2.2.2.2.2):HiSt) (fun _ e=>if e.2.2.2.2.1 > 1 then hi1 a b e.2.1 e.2.2.1 e.2.2.2.1 (e.2.2.2.2.1 - 1) e.2.2.2.2.2.1 e.2.2.2.2.2.2 else hi1 a b e.2.1 e.2.2.1 e.2.2.2.1 e.2.2.2.2.1 e.2.2.2.2.2.1 e.2.2.2.2.2.2)
    match e.1 with
    | some r=>pure (.done (some r,e.2.1,e.2.2.1,e.2.2.2.1,e.2.2.2.2.1))
    | none=>do
      setMinGallop' (e.2.2.2.2.1+1)
      pure (.yield (none,e.2.1,e.2.2.1,e.2.2.2.1,e.2.2.2.2.1+1))
theorem mergeHi_by {M:Model} {A:Around} {E:Value→Shared→Prop} {s:Shared} {Q:Array Keyed→SortSt→Prop} {st:SortSt} (a b:Array Keyed) (h:wpS M A E s (do
  rule "list.sort.merge-hi"
  let x ← elem' a (a.size - 1)
  if a.size - 1 == 0 then pure (a.extract 0 (a.size - 1)++b.extract 0 b.size++#[x].reverse)
  else if b.size == 1 then pure (b.extract 0 b.size++a.extract 0 (a.size - 1)++#[x].reverse)
  else do
    let st ← get
    let c ← forIn [0:a.size+b.size] ((none,a.size - 1,b.size,#[x],gallopOf st):HoSt) (fun _ c=>hiO a b c)
    match c.1 with
    | some r=>pure r
    | none=>unsupported "internal:list.sort.merge-bound") Q st):wpS M A E s (mergeHi' a b) Q st:=by
  show wpAny M A (mergeHi' a b st) _ E s
  wp_delta
  wp_delta
  refine by_eq ?_ h
  dsimp only
  refine bind_congr fun _=>bind_congr fun x=>?_
  congr 1
  congr 1
  refine bind_congr fun st=>?_
  congr 1
  · congr 1
    funext _ c
    unfold hiO
    congr 1
    · congr 1
      funext _ d
      unfold hiC
      refine bind_congr fun y=>bind_congr fun x=>bind_congr fun r=>?_
      cases r with
      | some w =>
        cases w with
        | true=>rfl
        | false=>rfl
      | none=>rfl
    · funext d
      cases d.1 with
      | some r=>rfl
      | none =>
        dsimp only
        refine bind_congr fun _=>?_
        congr 1
        · congr 1
          funext _ e
          congr 1
          all_goals
            unfold hi1
            refine bind_congr fun _=>bind_congr fun y=>bind_congr fun r=>?_
            cases r with
            | none=>rfl
            | some k =>
              dsimp only
              congr 1
              · congr 1
                unfold hi2
                refine bind_congr fun x=>?_
                congr 1
                refine bind_congr fun y=>bind_congr fun r=>?_
                cases r with
                | none=>rfl
                | some k1=>rfl
              · unfold hi2
                refine bind_congr fun x=>?_
                congr 1
                refine bind_congr fun y=>bind_congr fun r=>?_
                cases r with
                | none=>rfl
                | some k1=>rfl
        · funext e
          cases e.1 with
          | some r=>rfl
          | none=>rfl
  · funext c
    cases c.1 with
    | some r=>rfl
    | none=>rfl
end L2.Stm
set_option Elab.async false
set_option linter.all false
set_option maxRecDepth 100000
set_option maxHeartbeats 4000000
namespace L2.Stm
open PySem PySem.Spec PyProof.Rows
section
variable {prog:Program} {w:World} {A:Around} {E:Value→Shared→Prop} {s:Shared} {a₀:Array Keyed} {κ:SortKind} {ρ:Stg.RR} {a b:Array Keyed}
theorem srt_to (h:a.toList.Pairwise (Lk ρ)) {n:Nat} (hn:n≤a.size):Srt ρ a 0 (0+n):=by
  intro x y hx hxy hy
  have hy':y<a.size:=by omega
  rw [kg_at (show x<a.size by omega),kg_at hy']
  by_cases e:x=y
  · subst e; omega
  · exact List.pairwise_iff_getElem.1 h x y (by simpa using (show x<a.size by omega)) (by simpa using hy') (by omega)
theorem mem_to {n:Nat} {x:Keyed} (h:x∈a.toList.take n):∃ j,j<n∧∃ hj:j<a.size,x=a[j]:=by
  obtain ⟨j,hj,e⟩:=List.mem_iff_getElem.1 h
  rw [List.length_take,Array.length_toList] at hj
  refine ⟨j,by omega,by omega,?_⟩
  rw [← e,List.getElem_take,Array.getElem_toList]
theorem mem_mid {i n:Nat} {x:Keyed} (h:x∈(a.toList.take n).drop i):∃ j,i≤j∧j<n∧∃ hj:j<a.size,x=a[j]:=by
  obtain ⟨j,hj,e⟩:=List.mem_iff_getElem.1 h
  rw [List.length_drop,List.length_take,Array.length_toList] at hj
  refine ⟨i+j,by omega,by omega,by omega,?_⟩
  rw [← e,List.getElem_drop,List.getElem_take,Array.getElem_toList]
theorem Cut.low0 {left:Bool} {kv:Int} {n k:Nat} (h:Cut ρ left kv a 0 n k) {x:Keyed} (hx:x∈a.toList.take k):ρ.g x≤kv:=by
  obtain ⟨j,hj,hs,rfl⟩:=mem_to hx
  have:=h.lo j hj
  unfold Bd at this
  simp only [Nat.zero_add] at this
  rw [kg_at hs] at this
  cases left with
  | true=>simp only [if_true,decide_eq_true_eq] at this; omega
  | false=>simp only [Bool.false_eq_true,if_false,Bool.not_eq_true',decide_eq_false_iff_not] at this; omega
theorem Cut.high0 {left:Bool} {kv:Int} {n k:Nat} (h:Cut ρ left kv a 0 n k) {x:Keyed} (hx:x∈(a.toList.take n).drop k):kv≤ρ.g x:=by
  obtain ⟨j,hk,hj,hs,rfl⟩:=mem_mid hx
  have:=h.hi j hk hj
  unfold Bd at this
  simp only [Nat.zero_add] at this
  rw [kg_at hs] at this
  cases left with
  | true=>simp only [if_true,decide_eq_false_iff_not] at this; omega
  | false=>simp only [Bool.false_eq_true,if_false,Bool.not_eq_false',decide_eq_true_eq] at this; omega
theorem last_one {n:Nat} (hn:0<n) (hs:n≤a.size):(a.toList.take n).drop (n - 1)=[a[n - 1]]:=by
  rw [List.drop_take,show n - (n - 1)=1 by omega]
  exact drop_one (by omega)
theorem last_ge {n:Nat} (hn:0<n) (hs:n≤a.size) (h:a.toList.Pairwise (Lk ρ)) {x:Keyed} (hx:x∈a.toList.take n):ρ.g x≤ρ.g a[n - 1]:=by
  obtain ⟨j,hj,hs2,rfl⟩:=mem_to hx
  have:=srt_to h hs j (n - 1) (by omega) (by omega) (by omega)
  rw [kg_at hs2,kg_at (show n - 1<a.size by omega)] at this
  exact this
theorem MH.first' {out:Array Keyed} {na nb:Nat} (h:MH ρ a.toList b.toList out.toList.reverse na nb) (hl:∀ y∈b.toList.take 1,∀ x∈a.toList,ρ.g y≤ρ.g x) (e:nb=1):Res ρ a.toList b.toList (b.extract 0 nb++a.extract 0 na++out.reverse):=by
  subst e
  exact h.first hl
structure Twh (ρ:Stg.RR) (a₀ a b:Array Keyed):Prop where
  ma:∀ p∈a.toList,p∈a₀.toList
  mb:∀ p∈b.toList,p∈a₀.toList
  sa:a.toList.Pairwise (Lk ρ)
  sb:b.toList.Pairwise (Lk ρ)
  first:∀ y∈b.toList.take 1,∀ x∈a.toList,ρ.g y≤ρ.g x
structure Jh (ρ:Stg.RR) (a b:Array Keyed) (m na nb:Nat) (out:Array Keyed):Prop where
  M:MH ρ a.toList b.toList out.toList.reverse na nb
  bd:na+nb+m≤a.size+b.size
  la:na≤a.size
  lb:nb≤b.size
  pa:1≤na
  pb:2≤nb
theorem Jh.weak {m m' na nb:Nat} {out:Array Keyed} (h:Jh ρ a b m na nb out) (hm:m'≤m):Jh ρ a b m' na nb out:=⟨h.M,by have:=h.bd; omega,h.la,h.lb,h.pa,h.pb⟩
def HiP (ρ:Stg.RR) (a b:Array Keyed) (m:Nat) (c:HiSt):Prop:=(∃ r q,c=(some r,q)∧Res ρ a.toList b.toList r)∨∃ na nb out g k k1,c=(none,na,nb,out,g,k,k1)∧Jh ρ a b m na nb out
def HiR (ρ:Stg.RR) (a b:Array Keyed) (m:Nat) (st:SortSt) (r:ForInStep HiSt) (st':SortSt):Prop:=Sm st st'∧match r with
  | .done c=>HiP ρ a b m c
  | .yield c=>∃ na nb out g k k1,c=(none,na,nb,out,g,k,k1)∧Jh ρ a b m na nb out
theorem MH.pushA {out:Array Keyed} {na nb:Nat} (h:MH ρ a.toList b.toList out.toList.reverse na nb) (hn:0<na) (hs:na≤a.size) (hk:∀ x∈b.toList.take nb,ρ.g x≤ρ.g a[na - 1]):MH ρ a.toList b.toList (out.push a[na - 1]).toList.reverse (na - 1) nb:=by
  have:=h.takeA (na - 1) (by omega) (by rw [last_one hn hs]; intro t ht x hx; rw [List.mem_singleton.1 ht]; exact hk x hx)
  rw [last_one hn hs] at this
  rw [Array.toList_push,List.reverse_append]
  exact this
theorem MH.pushB {out:Array Keyed} {na nb:Nat} (h:MH ρ a.toList b.toList out.toList.reverse na nb) (hn:0<nb) (hs:nb≤b.size) (hk:∀ x∈a.toList.take na,ρ.g x≤ρ.g b[nb - 1]):MH ρ a.toList b.toList (out.push b[nb - 1]).toList.reverse na (nb - 1):=by
  have:=h.takeB (nb - 1) (by omega) (by rw [last_one hn hs]; intro t ht x hx; rw [List.mem_singleton.1 ht]; exact hk x hx)
  rw [last_one hn hs] at this
  rw [Array.toList_push,List.reverse_append]
  exact this
theorem rev_ex (out:Array Keyed) (i n:Nat):(out++(a.extract i n).reverse).toList.reverse=(a.toList.take n).drop i++out.toList.reverse:=by
  rw [Array.toList_append,List.reverse_append,Array.toList_reverse,List.reverse_reverse,ex_mid]
theorem hi3_ok {st0 st:SortSt} {out:Array Keyed} {na nb g k k1 m:Nat} (T:Twh ρ a₀ a b) (hS:Sm st0 st) (h:Jh ρ a b m na nb out) (hk:∀ x∈b.toList.take nb,ρ.g x≤ρ.g (a[na - 1]'(by have:=h.pa; have:=h.la; omega))):wpS (model prog w) A E s (hi3 a b na nb out g k k1) (HiR ρ a b (m+1) st0) st:=by
  obtain ⟨M,bd,la,lb,pa,pb⟩:=h
  unfold hi3
  refine wpS_bind (elem_ok (show na - 1<a.size by omega) ?_)
  have M2:=M.pushA (by omega) la hk
  by_cases e:na - 1=0
  · rw [if_pos (by simpa using e)]
    exact wpS_pure ⟨hS,.inl ⟨_,_,rfl,M2.res (.inl e)⟩⟩
  · rw [if_neg (by simpa using e)]
    have J:Jh ρ a b (m+1) (na - 1) nb (out.push a[na - 1]):=⟨M2,by omega,by omega,lb,by omega,pb⟩
    by_cases c:(decide (k<7) && decide (k1<7))=true
    · rw [if_pos c]
      exact wpS_pure ⟨hS,.inr ⟨_,_,_,_,_,_,rfl,J⟩⟩
    · rw [if_neg c]
      exact wpS_pure ⟨hS,_,_,_,_,_,_,rfl,J⟩
theorem hi2_ok {st0 st:SortSt} {out:Array Keyed} {na nb g k bc m:Nat} (h0:Stg.Cmp prog w A s κ ρ a₀) (hk:kindOf st=κ) (T:Twh ρ a₀ a b) (hS:Sm st0 st) (h:Jh ρ a b m na nb out) (hq:∀ x∈a.toList.take na,ρ.g x≤ρ.g (b[nb - 1]'(by have:=h.pb; have:=h.lb; omega))):wpS (model prog w) A E s (hi2 a b na nb out g k bc) (HiR ρ a b (m+1) st0) st:=by
  obtain ⟨M,bd,la,lb,pa,pb⟩:=h
  unfold hi2
  refine wpS_bind (elem_ok (show nb - 1<b.size by omega) ?_)
  have M2:=M.pushB (by omega) lb hq
  by_cases e:nb - 1=1
  · rw [if_pos (by simpa using e)]
    exact wpS_pure ⟨hS,.inl ⟨_,_,rfl,M2.first' T.first e⟩⟩
  · rw [if_neg (by simpa using e)]
    refine wpS_bind (elem_ok (show na - 1<a.size by omega) ?_)
    refine wpS_bind (gallop_ok hk h0 T.mb (T.ma _ (by simp)) (by omega) (by omega) (srt_to T.sb (by omega)) (fun i C=>?_))
    dsimp only
    have fa:∀ x∈a.toList.take na,ρ.g x≤ρ.g a[na - 1]:=fun x hx=>last_ge (by omega) la T.sa hx
    have ci:=C.le
    have M3:=M2.takeB i (by omega) (fun t ht x hx=>Int.le_trans (fa x hx) (C.high0 ht))
    rw [← rev_ex] at M3
    have hi:∀ x∈b.toList.take i,ρ.g x≤ρ.g a[na - 1]:=fun x hx=>C.low0 hx
    by_cases c:nb - 1 - i > 0
    · rw [if_pos c]
      by_cases e2:i=1
      · rw [if_pos (by simpa using e2)]
        exact wpS_pure ⟨hS,.inl ⟨_,_,rfl,M3.first' T.first e2⟩⟩
      · rw [if_neg (by simpa using e2)]
        by_cases e3:i=0
        · rw [if_pos (by simpa using e3)]
          exact wpS_pure ⟨hS,.inl ⟨_,_,rfl,M3.res (.inr e3)⟩⟩
        · rw [if_neg (by simpa using e3)]
          exact hi3_ok T hS ⟨M3,by omega,la,by omega,pa,by omega⟩ hi
    · rw [if_neg c]
      have e3:i=nb - 1:=by omega
      subst e3
      exact hi3_ok T hS ⟨M2,by omega,la,by omega,pa,by omega⟩ hi
theorem hi1_ok {st0 st:SortSt} {out:Array Keyed} {na nb g ac bc m:Nat} (h0:Stg.Cmp prog w A s κ ρ a₀) (hk:kindOf st=κ) (T:Twh ρ a₀ a b) (hS:Sm st0 st) (h:Jh ρ a b m na nb out):wpS (model prog w) A E s (hi1 a b na nb out g ac bc) (HiR ρ a b (m+1) st0) st:=by
  obtain ⟨M,bd,la,lb,pa,pb⟩:=h
  unfold hi1
  refine wpS_bind (smg_ok fun st1 hS1=>?_)
  have hk1:kindOf st1=κ:=hS1.1.trans hk
  have hS2:=hS.trans hS1
  refine wpS_bind (elem_ok (show nb - 1<b.size by omega) ?_)
  refine wpS_bind (gallop_ok hk1 h0 T.ma (T.mb _ (by simp)) (by omega) (by omega) (srt_to T.sa la) (fun i C=>?_))
  dsimp only
  have fb:∀ x∈b.toList.take nb,ρ.g x≤ρ.g b[nb - 1]:=fun x hx=>last_ge (by omega) lb T.sb hx
  have ci:=C.le
  have M3:=M.takeA i ci (fun t ht x hx=>Int.le_trans (fb x hx) (C.high0 ht))
  rw [← rev_ex] at M3
  have hi:∀ x∈a.toList.take i,ρ.g x≤ρ.g b[nb - 1]:=fun x hx=>C.low0 hx
  by_cases c:na - i > 0
  · rw [if_pos c]
    by_cases e2:i=0
    · rw [if_pos (by simpa using e2)]
      exact wpS_pure ⟨hS2,.inl ⟨_,_,rfl,M3.res (.inl e2)⟩⟩
    · rw [if_neg (by simpa using e2)]
      exact hi2_ok h0 hk1 T hS2 ⟨M3,by omega,by omega,lb,by omega,pb⟩ hi
  · rw [if_neg c]
    have e3:i=na:=by omega
    subst e3
    exact hi2_ok h0 hk1 T hS2 ⟨M,by omega,la,lb,pa,pb⟩ hi
def HcP (ρ:Stg.RR) (a b:Array Keyed) (m:Nat) (c:HcSt):Prop:=(∃ r q,c=(some r,q)∧Res ρ a.toList b.toList r)∨∃ na nb out k k1,c=(none,na,nb,out,k,k1)∧Jh ρ a b m na nb out
theorem hiC_ok {st:SortSt} {out:Array Keyed} {mg na nb ac bc m:Nat} (h0:Stg.Cmp prog w A s κ ρ a₀) (hk:kindOf st=κ) (T:Twh ρ a₀ a b) (h:Jh ρ a b m na nb out):wpS (model prog w) A E s (hiC a b mg (none,na,nb,out,ac,bc)) (fun r st'=>st'=st∧match r with
    | .done c=>HcP ρ a b (m+1) c
    | .yield c=>∃ na nb out k k1,c=(none,na,nb,out,k,k1)∧Jh ρ a b (m+1) na nb out) st:=by
  obtain ⟨M,bd,la,lb,pa,pb⟩:=h
  have fa:∀ x∈a.toList.take na,ρ.g x≤ρ.g a[na - 1]:=fun x hx=>last_ge (by omega) la T.sa hx
  have fb:∀ x∈b.toList.take nb,ρ.g x≤ρ.g b[nb - 1]:=fun x hx=>last_ge (by omega) lb T.sb hx
  have ha:na - 1<a.size:=by omega
  have hb:nb - 1<b.size:=by omega
  unfold hiC
  dsimp only
  refine wpS_bind (elem_ok hb (wpS_bind (elem_ok ha (wpS_bind (lt_ok hk h0 (T.mb _ (by simp)) (T.ma _ (by simp)) ?_)))))
  dsimp only
  by_cases c:ρ.g b[nb - 1]<ρ.g a[na - 1]
  · rw [decide_eq_true c,if_pos rfl]
    refine wpS_bind (elem_ok ha ?_)
    have M2:=M.pushA (by omega) la (fun x hx=>by have:=fb x hx; omega)
    by_cases e:na - 1=0
    · rw [if_pos (by simpa using e)]
      exact wpS_pure ⟨rfl,.inl ⟨_,_,rfl,M2.res (.inl e)⟩⟩
    · rw [if_neg (by simpa using e)]
      have J:Jh ρ a b (m+1) (na - 1) nb (out.push a[na - 1]):=⟨M2,by omega,by omega,lb,by omega,pb⟩
      by_cases c2:ac+1 ≥ mg
      · rw [if_pos c2]
        exact wpS_pure ⟨rfl,.inr ⟨_,_,_,_,_,rfl,J⟩⟩
      · rw [if_neg c2]
        exact wpS_pure ⟨rfl,_,_,_,_,_,rfl,J⟩
  · rw [decide_eq_false c,if_neg (by simp)]
    refine wpS_bind (elem_ok hb ?_)
    have M2:=M.pushB (by omega) lb (fun x hx=>by have:=fa x hx; omega)
    by_cases e:nb - 1=1
    · rw [if_pos (by simpa using e)]
      exact wpS_pure ⟨rfl,.inl ⟨_,_,rfl,M2.first' T.first e⟩⟩
    · rw [if_neg (by simpa using e)]
      have J:Jh ρ a b (m+1) na (nb - 1) (out.push b[nb - 1]):=⟨M2,by omega,la,by omega,pa,by omega⟩
      by_cases c2:bc+1 ≥ mg
      · rw [if_pos c2]
        exact wpS_pure ⟨rfl,.inr ⟨_,_,_,_,_,rfl,J⟩⟩
      · rw [if_neg c2]
        exact wpS_pure ⟨rfl,_,_,_,_,_,rfl,J⟩
theorem hiO_ok {st:SortSt} {out:Array Keyed} {na nb g m:Nat} (h0:Stg.Cmp prog w A s κ ρ a₀) (hk:kindOf st=κ) (T:Twh ρ a₀ a b) (h:Jh ρ a b m na nb out):wpS (model prog w) A E s (hiO a b (none,na,nb,out,g)) (fun r st'=>Sm st st'∧match r with
    | .done c=>∃ r q,c=(some r,q)∧Res ρ a.toList b.toList r
    | .yield c=>∃ na nb out g,c=(none,na,nb,out,g)∧Jh ρ a b (m+1) na nb out) st:=by
  have pos:0<a.size+b.size:=by have:=h.la; have:=h.pa; omega
  unfold hiO
  dsimp only
  refine wpS_bind (wpS_mono (wpS_forRange (I:=fun x c st2=>st2=st∧∃ na nb out k k1,c=(none,na,nb,out,k,k1)∧Jh ρ a b (m+x) na nb out) (Q:=fun c st2=>st2=st∧HcP ρ a b (m+1) c) ?turn ?last ?first) ?after)
  case first=>exact ⟨rfl,_,_,_,_,_,rfl,h⟩
  case last =>
    rintro c st2 ⟨rfl,na,nb,out,k,k1,rfl,J⟩
    exact ⟨rfl,.inr ⟨_,_,_,_,_,rfl,J.weak (by omega)⟩⟩
  case turn =>
    rintro x c st2 _ hx ⟨rfl,na,nb,out,k,k1,rfl,J⟩
    refine wpS_mono (hiC_ok h0 hk T J) ?_
    rintro r st3 ⟨rfl,hr⟩
    cases r with
    | done c =>
      refine ⟨rfl,?_⟩
      rcases hr with hr | ⟨na,nb,out,k,k1,rfl,J⟩
      · exact .inl hr
      · exact .inr ⟨_,_,_,_,_,rfl,J.weak (by omega)⟩
    | yield c=>exact ⟨rfl,hr⟩
  case after =>
    rintro c st2 ⟨rfl,hc⟩
    rcases hc with ⟨r,q,rfl,R⟩ | ⟨na,nb,out,k,k1,rfl,J⟩
    · exact wpS_pure ⟨Sm.refl _,_,_,rfl,R⟩
    · dsimp only
      refine wpS_bind (wpS_lift (wpAny_rule ⟨rfl,?_⟩))
      refine wpS_bind (wpS_mono (wpS_forRange (I:=fun x c st3=>Sm st2 st3∧∃ na nb out g k k1,c=(none,na,nb,out,g,k,k1)∧Jh ρ a b (m+x) na nb out) (Q:=fun c st3=>Sm st2 st3∧HiP ρ a b (m+1) c) ?jturn ?jlast ?jfirst) ?jafter)
      case jfirst=>exact ⟨Sm.refl _,_,_,_,_,_,_,rfl,J.weak (by omega)⟩
      case jlast =>
        rintro c st3 ⟨hS,na,nb,out,g,k,k1,rfl,J⟩
        exact ⟨hS,.inr ⟨_,_,_,_,_,_,rfl,J.weak (by omega)⟩⟩
      case jturn =>
        rintro x c st3 _ hx ⟨hS,na,nb,out,g,k,k1,rfl,J⟩
        have hk3:kindOf st3=κ:=hS.1.trans hk
        dsimp only
        rw [show (if g > 1 then hi1 a b na nb out (g - 1) k k1 else hi1 a b na nb out g k k1)=hi1 a b na nb out (if g > 1 then g - 1 else g) k k1 by split <;> rfl]
        refine wpS_mono (hi1_ok h0 hk3 T hS J) ?_
        rintro r st4 ⟨hS4,hr⟩
        cases r with
        | done c =>
          refine ⟨hS4,?_⟩
          rcases hr with hr | ⟨na,nb,out,g,k,k1,rfl,J⟩
          · exact .inl hr
          · exact .inr ⟨_,_,_,_,_,_,rfl,J.weak (by omega)⟩
        | yield c=>exact ⟨hS4,hr⟩
      case jafter =>
        rintro c st3 ⟨hS,hc⟩
        rcases hc with ⟨r,q,rfl,R⟩ | ⟨na,nb,out,g,k,k1,rfl,J⟩
        · exact wpS_pure ⟨hS,_,_,rfl,R⟩
        · refine wpS_bind (smg_ok fun st4 hS4=>wpS_pure ⟨hS.trans hS4,_,_,_,_,rfl,J⟩)
theorem mergeHi_ok {st:SortSt} {Q:Array Keyed→SortSt→Prop} (h0:Stg.Cmp prog w A s κ ρ a₀) (hk:kindOf st=κ) (T:Twh ρ a₀ a b) (ha:0<a.size) (hb:0<b.size) (hf:∀ x∈b.toList,ρ.g x≤ρ.g a[a.size - 1])
    (h:∀ r st',Sm st st'→Res ρ a.toList b.toList r→Q r st'):wpS (model prog w) A E s (mergeHi' a b) Q st:=by
  refine mergeHi_by _ _ ?_
  refine wpS_bind (wpS_lift (wpAny_rule ⟨rfl,?_⟩))
  refine wpS_bind (elem_ok (show a.size - 1<a.size by omega) ?_)
  have ta:a.toList.take a.size=a.toList:=List.take_of_length_le (by simp)
  have tb:b.toList.take b.size=b.toList:=List.take_of_length_le (by simp)
  have M0:MH ρ a.toList b.toList (#[]:Array Keyed).toList.reverse a.size b.size:=⟨by rw [ta,tb]; simp,by rw [ta]; simpa using T.sa,by rw [tb]; simpa using T.sb⟩
  have M1:MH ρ a.toList b.toList (#[a[a.size - 1]]:Array Keyed).toList.reverse (a.size - 1) b.size:=M0.pushA ha (Nat.le_refl _) (fun x hx=>hf x (by rw [tb] at hx; exact hx))
  by_cases e1:a.size - 1=0
  · rw [if_pos (by simpa using e1)]
    exact wpS_pure (h _ _ (Sm.refl _) (M1.res (.inl e1)))
  · rw [if_neg (by simpa using e1)]
    by_cases e2:b.size=1
    · rw [if_pos (by simpa using e2)]
      exact wpS_pure (h _ _ (Sm.refl _) (M1.first' T.first e2))
    · rw [if_neg (by simpa using e2)]
      refine wpS_bind (wpS_get ?_)
      refine wpS_bind (wpS_mono (wpS_forRange (I:=fun x c st2=>Sm st st2∧∃ na nb out g,c=(none,na,nb,out,g)∧Jh ρ a b (x+1) na nb out) (Q:=fun c st2=>Sm st st2∧∃ r q,c=(some r,q)∧Res ρ a.toList b.toList r) ?turn ?last ?first) ?after)
      case first=>exact ⟨Sm.refl _,_,_,_,_,rfl,M1,by omega,by omega,by omega,by omega,by omega⟩
      case last =>
        rintro c st2 ⟨_,na,nb,out,g,rfl,J⟩
        have:=J.bd
        have:=J.pa
        omega
      case turn =>
        rintro x c st2 _ hx ⟨hS,na,nb,out,g,rfl,J⟩
        refine wpS_mono (hiO_ok h0 (hS.1.trans hk) T J) ?_
        rintro r st3 ⟨hS3,hr⟩
        cases r with
        | done c=>exact ⟨hS.trans hS3,hr⟩
        | yield c=>exact ⟨hS.trans hS3,hr⟩
      case after =>
        rintro c st2 ⟨hS,r,q,rfl,R⟩
        exact wpS_pure (h r st2 hS R)
end
end L2.Stm
set_option Elab.async false
set_option linter.all false
set_option maxRecDepth 100000
set_option maxHeartbeats 400000
namespace L2.Stm
open PySem PySem.Spec PyProof.Rows
def mergeAt':Nat→StateT SortSt Sem Bool:=sortPriv% PySem.Builtin.mergeAt
def layAt (arr:Array Keyed) (at_:Nat) (l:List Keyed) (k:Nat):Array Keyed:=(l.zipIdx k).foldl (fun a (p,j)=>a.setIfInBounds (at_+j) p) arr
theorem layAt_get (arr:Array Keyed) (at_:Nat) (l:List Keyed) (k i:Nat) (h:at_+k+l.length≤arr.size):(layAt arr at_ l k)[i]?=if at_+k≤i∧i<at_+k+l.length then l[i - (at_+k)]? else arr[i]?:=by
  induction l generalizing arr k with
  | nil=>rw [if_neg (by simp)]; rfl
  | cons x l ih =>
    have e:layAt arr at_ (x :: l) k=layAt (arr.setIfInBounds (at_+k) x) at_ l (k+1):=by
      unfold layAt
      rw [List.zipIdx_cons,List.foldl_cons]
    simp only [List.length_cons] at h ⊢
    rw [e,ih (arr.setIfInBounds (at_+k) x) (k+1) (by simp; omega)]
    by_cases c:at_+k=i
    · subst c
      rw [if_neg (by omega),if_pos (by omega),Nat.sub_self,Array.getElem?_setIfInBounds_self_of_lt (by omega)]
      rfl
    · by_cases c2:at_+(k+1)≤i∧i<at_+(k+1)+l.length
      · rw [if_pos c2,if_pos (by omega),show i - (at_+k)=(i - (at_+(k+1)))+1 by omega,List.getElem?_cons_succ]
      · rw [if_neg c2,if_neg (by omega),Array.getElem?_setIfInBounds_ne c]
theorem layAt_toList (arr:Array Keyed) (at_:Nat) (l:List Keyed) (h:at_+l.length≤arr.size):(layAt arr at_ l 0).toList=arr.toList.take at_++(l++arr.toList.drop (at_+l.length)):=by
  refine List.ext_getElem? fun i=>?_
  rw [Array.getElem?_toList,layAt_get arr at_ l 0 i (by omega),Nat.add_zero]
  have hl:(arr.toList.take at_).length=at_:=by rw [List.length_take,Array.length_toList]; omega
  by_cases c1:i<at_
  · rw [if_neg (by omega),List.getElem?_append_left (by omega),List.getElem?_take_of_lt c1,Array.getElem?_toList]
  · rw [List.getElem?_append_right (by omega),hl]
    by_cases c2:i<at_+l.length
    · rw [if_pos (by omega),List.getElem?_append_left (by omega)]
    · rw [if_neg (by omega),List.getElem?_append_right (by omega),List.getElem?_drop,Array.getElem?_toList]
      congr 1
      omega
theorem layAt_perm {arr:Array Keyed} {at_ n:Nat} {l:List Keyed} (h:at_+n≤arr.size) (p:l.Perm (arr.extract at_ (at_+n)).toList):(layAt arr at_ l 0).Perm arr:=by
  rw [ex_some] at p
  have e:l.length=n:=by rw [p.length_eq,List.length_take,List.length_drop,Array.length_toList]; omega
  refine Array.perm_iff_toList_perm.2 ?_
  rw [layAt_toList arr at_ l (by omega),e]
  have d:arr.toList=arr.toList.take at_++((arr.toList.drop at_).take n++arr.toList.drop (at_+n)):=by
    rw [← List.drop_drop,List.take_append_drop,List.take_append_drop]
  conv=>rhs; rw [d]
  exact (p.append_right _).append_left _
section
variable {prog:Program} {w:World} {A:Around} {E:Value→Shared→Prop} {s:Shared} {a₀:Array Keyed} {κ:SortKind} {ρ:Stg.RR}
theorem pw_ex {arr:Array Keyed} {i j:Nat} (hj:j≤arr.size) (h:Srt ρ arr i j):(arr.extract i j).toList.Pairwise (Lk ρ):=by
  refine List.pairwise_iff_getElem.2 fun x y hx hy hxy=>?_
  simp only [Array.length_toList,Array.size_extract] at hx hy
  have:=h (i+x) (i+y) (by omega) (by omega) (by omega)
  rw [kg_at (show i+x<arr.size by omega),kg_at (show i+y<arr.size by omega)] at this
  simpa [Lk] using this
theorem mem_ex {arr:Array Keyed} {i j:Nat} {x:Keyed} (h:x∈(arr.extract i j).toList):∃ k,i≤k∧k<j∧k<arr.size∧ρ.g x=Stg.Kg ρ arr k∧x∈arr.toList:=by
  rw [ex_mid] at h
  obtain ⟨k,h1,h2,h3,rfl⟩:=mem_mid h
  exact ⟨k,h1,h2,h3,(kg_at h3).symm,by simp⟩
theorem kg_lay {arr:Array Keyed} {at_:Nat} {l:List Keyed} (h:at_+l.length≤arr.size) {i:Nat} (h1:at_≤i) (h2:i<at_+l.length):Stg.Kg ρ (layAt arr at_ l 0) i=ρ.g (l[i - at_]'(by omega)):=by
  have:=layAt_get arr at_ l 0 i (by omega)
  rw [if_pos (by omega),Nat.add_zero,List.getElem?_eq_getElem (by omega)] at this
  unfold Stg.Kg
  rw [this]
  rfl
theorem kg_out {arr:Array Keyed} {at_:Nat} {l:List Keyed} (h:at_+l.length≤arr.size) {i:Nat} (h1:i<at_∨at_+l.length≤i):Stg.Kg ρ (layAt arr at_ l 0) i=Stg.Kg ρ arr i:=by
  have:=layAt_get arr at_ l 0 i (by omega)
  rw [if_neg (by omega)] at this
  unfold Stg.Kg
  rw [this]
end
end L2.Stm
set_option Elab.async false
set_option linter.all false
set_option maxRecDepth 100000
set_option maxHeartbeats 1000000
namespace L2.Stm
open PySem PySem.Spec PyProof.Rows
section
variable {prog:Program} {w:World} {A:Around} {E:Value→Shared→Prop} {s:Shared} {a₀:Array Keyed} {κ:SortKind} {ρ:Stg.RR}
theorem lay_srt {arr:Array Keyed} {u lo hi:Nat} {r:List Keyed} (h:u+r.length≤arr.size) (hr:r.Pairwise (Lk ρ)) (hne:0<r.length) (hl:Srt ρ arr lo u) (hh:Srt ρ arr (u+r.length) hi)
    (bl:∀ i,lo≤i→i<u→∀ x∈r,Stg.Kg ρ arr i≤ρ.g x) (bh:∀ i,u+r.length≤i→i<hi→∀ x∈r,ρ.g x≤Stg.Kg ρ arr i):Srt ρ (layAt arr u r 0) lo hi:=by
  intro i j hi1 hij hj
  by_cases a1:i<u
  · rw [kg_out h (.inl a1)]
    by_cases b1:j<u
    · rw [kg_out h (.inl b1)]
      exact hl i j hi1 hij b1
    · by_cases b2:j<u+r.length
      · rw [kg_lay h (by omega) b2]
        exact bl i hi1 a1 _ (List.getElem_mem _)
      · rw [kg_out h (.inr (by omega))]
        exact Int.le_trans (bl i hi1 a1 (r[0]'hne) (List.getElem_mem _)) (bh j (by omega) hj _ (List.getElem_mem _))
  · by_cases a2:i<u+r.length
    · rw [kg_lay h (by omega) a2]
      by_cases b2:j<u+r.length
      · rw [kg_lay h (by omega) b2]
        by_cases e:i=j
        · subst e; exact Int.le_refl _
        · exact List.pairwise_iff_getElem.1 hr (i - u) (j - u) (by omega) (by omega) (by omega)
      · rw [kg_out h (.inr (by omega))]
        exact bh j (by omega) hj _ (List.getElem_mem _)
    · rw [kg_out h (.inr (by omega)),kg_out h (.inr (by omega))]
      exact hh i j (by omega) hij hj
theorem Cut.lowK {left:Bool} {kv:Int} {arr:Array Keyed} {base n k:Nat} (h:Cut ρ left kv arr base n k) {i:Nat} (h1:base≤i) (h2:i<base+k):Stg.Kg ρ arr i≤kv:=by
  have:=h.lo (i - base) (by omega)
  unfold Bd at this
  rw [show base+(i - base)=i by omega] at this
  cases left with
  | true=>simp only [if_true,decide_eq_true_eq] at this; omega
  | false=>simp only [Bool.false_eq_true,if_false,Bool.not_eq_true',decide_eq_false_iff_not] at this; omega
theorem Cut.highK {left:Bool} {kv:Int} {arr:Array Keyed} {base n k:Nat} (h:Cut ρ left kv arr base n k) {i:Nat} (h1:base+k≤i) (h2:i<base+n):kv≤Stg.Kg ρ arr i:=by
  have:=h.hi (i - base) (by omega) (by omega)
  unfold Bd at this
  rw [show base+(i - base)=i by omega] at this
  cases left with
  | true=>simp only [if_true,decide_eq_false_iff_not] at this; omega
  | false=>simp only [Bool.false_eq_true,if_false,Bool.not_eq_false',decide_eq_true_eq] at this; omega
theorem wpS_set {st st':SortSt} {Q:PUnit→SortSt→Prop} (h:Q ⟨⟩ st'):wpS (model prog w) A E s (set st') Q st:=wpS_modify (f:=fun _=>st') h
theorem mergeAt_ok {st:SortSt} {i sa na p sb nb q:Nat} {Q:Bool→SortSt→Prop} (h0:Stg.Cmp prog w A s κ ρ a₀) (hk:kindOf st=κ) (ha:∀ x∈(arrOf st).toList,x∈a₀.toList) (hfl:failedOf st=none)
    (e1:(pendingOf st)[i]?=some (sa,na,p)) (e2:(pendingOf st)[i+1]?=some (sb,nb,q)) (hsb:sb=sa+na) (pa:0<na) (pb:0<nb) (hsz:sb+nb≤(arrOf st).size) (s1:Srt ρ (arrOf st) sa (sa+na)) (s2:Srt ρ (arrOf st) sb (sb+nb))
    (h:∀ st',kindOf st'=κ→failedOf st'=none→(arrOf st').Perm (arrOf st)→pendingOf st'=((pendingOf st).setIfInBounds i (sa,na+nb,p)).eraseIdxIfInBounds (i+1)→Srt ρ (arrOf st') sa (sb+nb) →
      (∀ j,j<sa∨sb+nb≤j→(arrOf st')[j]?=(arrOf st)[j]?)→Q true st'):wpS (model prog w) A E s (mergeAt' i) Q st:=by
  show wpAny (model prog w) A (mergeAt' i st) _ E s
  wp_delta
  wp_delta
  refine by_eq rfl ?_
  refine wpS_bind (wpS_get ?_)
  rw [e1,e2]
  refine wpS_bind (wpS_set (st':=SortSt.mk' (kindOf st) (arrOf st) (((pendingOf st).setIfInBounds i (sa,na+nb,p)).eraseIdxIfInBounds (i+1)) (gallopOf st) (failedOf st)) ?_)
  generalize hst1:SortSt.mk' (kindOf st) (arrOf st) (((pendingOf st).setIfInBounds i (sa,na+nb,p)).eraseIdxIfInBounds (i+1)) (gallopOf st) (failedOf st)=st1
  have k1:kindOf st1=κ:=by rw [← hst1]; exact hk
  have f1:failedOf st1=none:=by rw [← hst1]; exact hfl
  have a1:arrOf st1=arrOf st:=by rw [← hst1]
  have p1:pendingOf st1=((pendingOf st).setIfInBounds i (sa,na+nb,p)).eraseIdxIfInBounds (i+1):=by rw [← hst1]
  have hb0:sb<(arrOf st).size:=by omega
  refine wpS_bind (elem_ok hb0 ?_)
  refine wpS_bind (gallop_ok k1 h0 ha (ha _ (by simp)) (show sa+na≤(arrOf st).size by omega) pa s1 (fun k C1=>?_))
  have c1:=C1.le
  rw [← kg_at hb0] at C1
  dsimp only
  have whole:(∀ x y,sa≤x→x<sb→sb≤y→y<sb+nb→Stg.Kg ρ (arrOf st) x≤Stg.Kg ρ (arrOf st) y)→Srt ρ (arrOf st) sa (sb+nb):=fun hc x y hx hxy hy=>by
    by_cases u:y<sb
    · exact s1 x y hx hxy (by omega)
    · by_cases v:x<sb
      · exact hc x y hx v (by omega) hy
      · exact s2 x y (by omega) hxy hy
  by_cases z:na - k=0
  · rw [if_pos (by simpa using z)]
    refine wpS_pure (h st1 k1 f1 (by rw [a1]) p1 ?_ (fun j _=>by rw [a1]))
    rw [a1]
    refine whole fun x y hx hx2 hy hy2=>?_
    exact Int.le_trans (C1.lowK hx (by omega)) (s2 sb y (Nat.le_refl _) hy hy2)
  · rw [if_neg (by simpa using z)]
    have hl0:sa+k+(na - k) - 1<(arrOf st).size:=by omega
    refine wpS_bind (elem_ok hl0 ?_)
    refine wpS_bind (gallop_ok k1 h0 ha (ha _ (by simp)) (show sb+nb≤(arrOf st).size by omega) (by omega) s2 (fun n2 C2=>?_))
    have c2:=C2.le
    rw [← kg_at hl0,show sa+k+(na - k) - 1=sb - 1 by omega] at C2
    dsimp only
    by_cases z2:n2=0
    · rw [if_pos (by simpa using z2)]
      refine wpS_pure (h st1 k1 f1 (by rw [a1]) p1 ?_ (fun j _=>by rw [a1]))
      rw [a1]
      refine whole fun x y hx hx2 hy hy2=>?_
      exact Int.le_trans (s1 x (sb - 1) hx (by omega) (by omega)) (C2.highK (by omega) hy2)
    · rw [if_neg (by simpa using z2)]
      have c3:=Nat.pos_of_ne_zero z2
      have mX:∀ x∈((arrOf st).extract (sa+k) sb).toList,∃ j,sa+k≤j∧j<sb∧j<(arrOf st).size∧ρ.g x=Stg.Kg ρ (arrOf st) j∧x∈(arrOf st).toList:=fun x hx=>mem_ex hx
      have mY:∀ x∈((arrOf st).extract sb (sb+n2)).toList,∃ j,sb≤j∧j<sb+n2∧j<(arrOf st).size∧ρ.g x=Stg.Kg ρ (arrOf st) j∧x∈(arrOf st).toList:=fun x hx=>mem_ex hx
      have sX:((arrOf st).extract (sa+k) sb).toList.Pairwise (Lk ρ):=pw_ex (by omega) (fun x y p q r=>s1 x y (by omega) q (by omega))
      have sY:((arrOf st).extract sb (sb+n2)).toList.Pairwise (Lk ρ):=pw_ex (by omega) (fun x y p q r=>s2 x y (by omega) q (by omega))
      have zX:((arrOf st).extract (sa+k) sb).size=na - k:=by rw [Array.size_extract]; omega
      have zY:((arrOf st).extract sb (sb+n2)).size=n2:=by rw [Array.size_extract]; omega
      have low:∀ x∈((arrOf st).extract (sa+k) sb).toList,Stg.Kg ρ (arrOf st) sb≤ρ.g x:=fun x hx=>by
        obtain ⟨j,j1,j2,j3,e,_⟩:=mX x hx
        rw [e]
        exact C1.highK j1 (by omega)
      have high:∀ x∈((arrOf st).extract sb (sb+n2)).toList,ρ.g x≤Stg.Kg ρ (arrOf st) (sb - 1):=fun x hx=>by
        obtain ⟨j,j1,j2,j3,e,_⟩:=mY x hx
        rw [e]
        exact C2.lowK j1 j2
      have fin:∀ r st',Sm st1 st'→Res ρ ((arrOf st).extract (sa+k) sb).toList ((arrOf st).extract sb (sb+n2)).toList r→wpS (model prog w) A E s (do
          modify fun s=>SortSt.mk' (kindOf s) (layAt (arrOf s) (sa+k) r.toList 0) (pendingOf s) (gallopOf s) (failedOf s)
          return (failedOf (← get)).isNone) Q st':=by
        rintro r st' ⟨hS1,hS2,hS3,hS4⟩ ⟨rp,rs⟩
        refine wpS_bind (wpS_modify (wpS_bind (wpS_get (wpS_pure ?_))))
        have ex:((arrOf st).extract (sa+k) sb).toList++((arrOf st).extract sb (sb+n2)).toList=((arrOf st).extract (sa+k) (sa+k+(na - k+n2))).toList:=by
          rw [ex_mid,ex_mid,ex_mid,List.drop_take,List.drop_take,List.drop_take]
          rw [show sb - (sa+k)=na - k by omega,show sb+n2 - sb=n2 by omega,show sa+k+(na - k+n2) - (sa+k)=(na - k)+n2 by omega,List.take_add,List.drop_drop,show sa+k+(na - k)=sb by omega]
        have len:r.toList.length=na - k+n2:=by rw [rp.length_eq,List.length_append,Array.length_toList,Array.length_toList,zX,zY]
        have in_r:∀ x∈r.toList,Stg.Kg ρ (arrOf st) sb≤ρ.g x∧ρ.g x≤Stg.Kg ρ (arrOf st) (sb - 1):=fun x hx=>by
          rcases List.mem_append.1 (rp.mem_iff.1 hx) with hx | hx
          · obtain ⟨j,j1,j2,j3,e,_⟩:=mX x hx
            exact ⟨low x hx,by rw [e]; exact s1 j (sb - 1) (by omega) (by omega) (by omega)⟩
          · obtain ⟨j,j1,j2,j3,e,_⟩:=mY x hx
            exact ⟨by rw [e]; exact s2 sb j (Nat.le_refl _) j1 (by omega),high x hx⟩
        have hs3:failedOf st'=none:=hS4.trans f1
        show Q (failedOf st').isNone _
        rw [hs3]
        refine h _ (hS1.trans k1) rfl ?_ (hS3.trans p1) ?_ ?_
        · show (layAt (arrOf st') (sa+k) r.toList 0).Perm (arrOf st)
          rw [hS2,a1]
          exact layAt_perm (n:=na - k+n2) (by omega) (by rw [← ex]; exact rp)
        · show Srt ρ (layAt (arrOf st') (sa+k) r.toList 0) sa (sb+nb)
          rw [hS2,a1]
          refine lay_srt (by omega) rs (by omega) (fun x y p q r=>s1 x y p q (by omega)) (fun x y p q r=>s2 x y (by omega) q r) (fun i i1 i2 x hx=>?_) (fun i i1 i2 x hx=>?_)
          · exact Int.le_trans (C1.lowK i1 (by omega)) (in_r x hx).1
          · exact Int.le_trans (in_r x hx).2 (C2.highK (by omega) i2)
        · intro j hj
          show (layAt (arrOf st') (sa+k) r.toList 0)[j]?=_
          rw [hS2,a1,layAt_get _ _ _ _ _ (by omega),if_neg (by omega)]
      by_cases c:na - k≤n2
      · rw [if_pos c]
        refine wpS_bind (mergeLo_ok h0 k1 ⟨fun x hx=>?_,fun x hx=>?_,sX,sY,fun y hy x hx=>?_⟩ (show 0<((arrOf st).extract (sa+k) sb).size by omega) (show 0<((arrOf st).extract sb (sb+n2)).size by omega) (fun x hx=>?_) (fun r st' hS R=>fin r st' hS R))
        · obtain ⟨_,_,_,_,_,m⟩:=mX x hx; exact ha x m
        · obtain ⟨_,_,_,_,_,m⟩:=mY x hx; exact ha x m
        · rw [zX,ex_mid,List.drop_drop] at hx
          obtain ⟨j,j1,j2,j3,rfl⟩:=mem_mid hx
          have ej:j=sb - 1:=by omega
          subst ej
          rw [← kg_at j3]
          exact high y hy
        · rw [Array.getElem_extract,← kg_at]
          exact low x hx
      · rw [if_neg c]
        refine wpS_bind (mergeHi_ok h0 k1 ⟨fun x hx=>?_,fun x hx=>?_,sX,sY,fun y hy x hx=>?_⟩ (show 0<((arrOf st).extract (sa+k) sb).size by omega) (show 0<((arrOf st).extract sb (sb+n2)).size by omega) (fun x hx=>?_) (fun r st' hS R=>fin r st' hS R))
        · obtain ⟨_,_,_,_,_,m⟩:=mX x hx; exact ha x m
        · obtain ⟨_,_,_,_,_,m⟩:=mY x hx; exact ha x m
        · obtain ⟨j,j1,j2,rfl⟩:=mem_to hy
          rw [Array.getElem_extract,← kg_at,show sb+j=sb by omega]
          exact low x hx
        · rw [Array.getElem_extract,← kg_at]
          have:=high x hx
          rw [show sa+k+(((arrOf st).extract (sa+k) sb).size - 1)=sb - 1 by omega]
          exact this
end
end L2.Stm
set_option Elab.async false
set_option linter.all false
set_option maxRecDepth 100000
set_option maxHeartbeats 1000000
namespace L2.Stm
open PySem PySem.Spec PyProof.Rows
structure GP (κ:SortKind) (a₀:Array Keyed) (P:Array (Nat×Nat×Nat)) (st:SortSt):Prop where
  perm:(arrOf st).Perm a₀
  kn:kindOf st=κ
  failed:failedOf st=none
  pend:pendingOf st=P
section
variable {prog:Program} {w:World} {A:Around} {E:Value→Shared→Prop} {s:Shared} {a₀:Array Keyed} {κ:SortKind} {ρ:Stg.RR} {P:Array (Nat×Nat×Nat)}
theorem GP.size {st:SortSt} (h:GP κ a₀ P st):(arrOf st).size=a₀.size:=h.perm.size_eq
theorem GP.setArr {st:SortSt} {xs:Array Keyed} (h:GP κ a₀ P st) (hp:xs.Perm (arrOf st)):GP κ a₀ P (setArr st xs):=⟨hp.trans h.perm,h.kn,h.failed,h.pend⟩
theorem GP.mem {st:SortSt} (h:GP κ a₀ P st):∀ x∈(arrOf st).toList,x∈a₀.toList:=fun x hx=>(Array.perm_iff_toList_perm.mp h.perm).mem_iff.mp hx
theorem wpS_ltP {st:SortSt} {i j:Nat} {Q:Option Bool→SortSt→Prop} (hB:GP κ a₀ P st) (h0:Stg.Cmp prog w A s κ ρ a₀) (hi:i<a₀.size) (hj:j<a₀.size)
    (h:Q (some (decide (Stg.Kg ρ (arrOf st) i<Stg.Kg ρ (arrOf st) j))) st):wpS (model prog w) A E s (ltAt' i j) Q st:=by
  have hi':i<(arrOf st).size:=by rw [hB.size]; exact hi
  have hj':j<(arrOf st).size:=by rw [hB.size]; exact hj
  rw [kg_at hi',kg_at hj'] at h
  rw [ltAt'_eq]
  refine wpS_bind (wpS_get ?_)
  refine wpS_bind (elem_ok hi' (wpS_bind (elem_ok hj' ?_)))
  exact lt_ok hB.kn h0 (hB.mem _ (by simp)) (hB.mem _ (by simp)) h
theorem binP_ok {st:SortSt} {lo n ok:Nat} {Q:Bool→SortSt→Prop} (h0:Stg.Cmp prog w A s κ ρ a₀) (hn:lo+n≤a₀.size) (hok:ok≤n) (h1k:1≤ok) (hB:GP κ a₀ P st) (hs:Srt ρ (arrOf st) lo (lo+ok))
    (h:∀ st',GP κ a₀ P st'→Srt ρ (arrOf st') lo (lo+n)→(∀ j,j<lo∨lo+n≤j→(arrOf st')[j]?=(arrOf st)[j]?)→Q true st'):wpS (model prog w) A E s (binarySort' lo n ok) Q st:=by
  rw [binarySort'_eq]
  refine wpS_bind (wpS_mono (wpS_forRange (I:=fun k c st1=>c=(none,())∧GP κ a₀ P st1∧Srt ρ (arrOf st1) lo (lo+min k n)∧∀ j,j<lo∨lo+n≤j→(arrOf st1)[j]?=(arrOf st)[j]?)
    (Q:=fun c st1=>c=(none,())∧GP κ a₀ P st1∧Srt ρ (arrOf st1) lo (lo+n)∧∀ j,j<lo∨lo+n≤j→(arrOf st1)[j]?=(arrOf st)[j]?) ?turn ?last ?first) ?after)
  case after =>
    rintro c st1 ⟨rfl,b1,i1,o1⟩
    exact wpS_pure (h st1 b1 i1 o1)
  case first =>
    rw [show min (max ok 1) n=ok by omega]
    exact ⟨rfl,hB,hs,fun _ _=>rfl⟩
  case last =>
    rintro c st1 ⟨hc,b1,i1,o1⟩
    rw [show min (max (max ok 1) n) n=n by omega] at i1
    exact ⟨hc,b1,i1,o1⟩
  case turn =>
    rintro k c st1 hak hkn ⟨rfl,b1,i1,o1⟩
    rw [show min k n=k by omega] at i1
    have hk:lo+k<a₀.size:=by omega
    have sz:=b1.size
    refine wpS_bind (wpS_mono (wpS_forRange (I:=fun x c st2=>st2=st1∧∃ l r,c=(none,l,r)∧l≤r∧r≤k∧r - l≤k - x∧(∀ i,i<l→Stg.Kg ρ (arrOf st1) (lo+i)≤Stg.Kg ρ (arrOf st1) (lo+k))∧(∀ i,r≤i→i<k→Stg.Kg ρ (arrOf st1) (lo+k)≤Stg.Kg ρ (arrOf st1) (lo+i)))
      (Q:=fun c st2=>st2=st1∧∃ l r,c=(none,l,r)∧l≤k∧(∀ i,i<l→Stg.Kg ρ (arrOf st1) (lo+i)≤Stg.Kg ρ (arrOf st1) (lo+k))∧(∀ i,l≤i→i<k→Stg.Kg ρ (arrOf st1) (lo+k)≤Stg.Kg ρ (arrOf st1) (lo+i))) ?iturn ?ilast ?ifirst) ?iafter)
    case ifirst=>exact ⟨rfl,0,k,rfl,by omega,by omega,by omega,fun i hi=>absurd hi (by omega),fun i p q=>absurd q (by omega)⟩
    case ilast =>
      rintro c st2 ⟨rfl,l,r,rfl,hlr,hrk,hm,u1,u2⟩
      have e:l=r:=by omega
      subst e
      exact ⟨rfl,l,l,rfl,hrk,u1,u2⟩
    case iturn =>
      rintro x c st2 _ hxk ⟨rfl,l,r,rfl,hlr,hrk,hm,u1,u2⟩
      dsimp only
      by_cases hge:l ≥ r
      · rw [if_pos hge]
        have e:l=r:=by omega
        subst e
        exact wpS_pure ⟨rfl,l,l,rfl,hrk,u1,u2⟩
      · rw [if_neg hge]
        refine wpS_bind (wpS_ltP b1 h0 hk (by omega) ?_)
        by_cases c:Stg.Kg ρ (arrOf st2) (lo+k)<Stg.Kg ρ (arrOf st2) (lo+(l+r) / 2)
        · simp only [c,decide_true,if_true]
          refine wpS_pure ⟨rfl,l,(l+r) / 2,rfl,by omega,by omega,by omega,u1,fun i p q=>?_⟩
          have:=i1 (lo+(l+r) / 2) (lo+i) (by omega) (by omega) (by omega)
          omega
        · simp only [c,decide_false,Bool.false_eq_true,if_false]
          refine wpS_pure ⟨rfl,(l+r) / 2+1,r,rfl,by omega,by omega,by omega,fun i p=>?_,u2⟩
          have:=i1 (lo+i) (lo+(l+r) / 2) (by omega) (by omega) (by omega)
          omega
    case iafter =>
      rintro c st2 ⟨rfl,l,r,rfl,hlk,u1,u2⟩
      show wpS _ _ _ _ (do moveDown' (lo+k) (lo+l); pure (ForInStep.yield (none,()))) _ _
      rw [moveDown'_eq]
      have hks:lo+k<(arrOf st2).size:=by omega
      refine wpS_bind (wpS_modify (wpS_pure ⟨rfl,b1.setArr (bubble_perm _ _ _),?_,?_⟩))
      · rw [show min (k+1) n=k+1 by omega]
        intro i j hi hij hj
        show Stg.Kg ρ (bubble (arrOf st2) (lo+k) (lo+k - (lo+l))) i≤Stg.Kg ρ (bubble (arrOf st2) (lo+k) (lo+k - (lo+l))) j
        rw [Stg.Kg_bubble hks (by omega),Stg.Kg_bubble hks (by omega),show lo+k - (lo+k - (lo+l))=lo+l by omega]
        have U1:∀ i,lo≤i→i<lo+l→Stg.Kg ρ (arrOf st2) i≤Stg.Kg ρ (arrOf st2) (lo+k):=fun i p q=>by
          have:=u1 (i - lo) (by omega)
          rw [show lo+(i - lo)=i by omega] at this
          exact this
        have U2:∀ i,lo+l≤i→i<lo+k→Stg.Kg ρ (arrOf st2) (lo+k)≤Stg.Kg ρ (arrOf st2) i:=fun i p q=>by
          have:=u2 (i - lo) (by omega) (by omega)
          rw [show lo+(i - lo)=i by omega] at this
          exact this
        by_cases a1:i=lo+l
        · rw [if_pos a1]
          by_cases b2:j=lo+l
          · rw [if_pos b2]; exact Int.le_refl _
          · rw [if_neg b2,if_pos (by omega)]
            exact U2 _ (by omega) (by omega)
        · rw [if_neg a1]
          by_cases a2:j=lo+l
          · rw [if_pos a2,if_neg (by omega)]
            exact U1 _ (by omega) (by omega)
          · rw [if_neg a2]
            by_cases a3:lo+l<i∧i≤lo+k
            · rw [if_pos a3,if_pos (by omega)]
              exact i1 _ _ (by omega) (by omega) (by omega)
            · rw [if_neg a3]
              by_cases a4:lo+l<j∧j≤lo+k
              · rw [if_pos a4]
                exact i1 _ _ (by omega) (by omega) (by omega)
              · rw [if_neg a4]
                exact i1 _ _ (by omega) (by omega) (by omega)
      · intro j hj
        show (bubble (arrOf st2) (lo+k) (lo+k - (lo+l)))[j]?=_
        rw [getElem?_bubble hks _ (by omega),if_neg (by omega),if_neg (by omega)]
        exact o1 j hj
end
end L2.Stm
set_option Elab.async false
set_option linter.all false
set_option maxRecDepth 100000
set_option maxHeartbeats 1000000
namespace L2.Stm
open PySem PySem.Spec PyProof.Rows
abbrev AS:=Option (Option Nat)×Nat
abbrev DS:=Option (Option Nat)×Nat×Nat
def ascL (lo a nrem:Nat):StateT SortSt Sem AS:=forIn [a:nrem] ((none,a):AS) fun _ c=>do
  let x ← ltAt' (lo+c.2) (lo+c.2 - 1)
  match x with
  | some y=>if y=true then pure (.done (none,c.2)) else pure (.yield (none,c.2+1))
  | _=>pure (.done (some none,c.2))
def tailL (lo n nrem:Nat):StateT SortSt Sem (Option Nat):=do
  reverseSlice' lo (lo+n)
  let c ← ascL lo n nrem
  match c.1 with
  | some r=>pure r
  | none=>pure (some c.2)
def descL (lo n nrem:Nat):StateT SortSt Sem DS:=forIn [n:nrem] ((none,n,0):DS) fun _ c=>do
  let x ← ltAt' (lo+c.2.1) (lo+c.2.1 - 1)
  match x with
  | some y=>if y=true then (if c.2.2 > 0 then (do
        reverseSlice' (lo+c.2.1 - (c.2.2+1)) (lo+c.2.1)
        pure (.yield (none,c.2.1+1,0))) else pure (.yield (none,c.2.1+1,0))) else (do
      let x ← ltAt' (lo+c.2.1 - 1) (lo+c.2.1)
      match x with
      | some z=>if z=true then pure (.done (none,c.2.1,c.2.2)) else pure (.yield (none,c.2.1+1,c.2.2+1))
      | _=>pure (.done (some none,c.2.1,c.2.2)))
  | _=>pure (.done (some none,c.2.1,c.2.2))
def partL (lo n nrem:Nat):StateT SortSt Sem (Option Nat):=do
  liftM (rule "list.sort.descending-run")
  let c ← descL lo (n+1) nrem
  match c.1 with
  | some r=>pure r
  | none=>if c.2.2 > 0 then (do
      reverseSlice' (lo+c.2.1 - (c.2.2+1)) (lo+c.2.1)
      tailL lo c.2.1 nrem) else tailL lo c.2.1 nrem
theorem countL_eq (lo nrem:Nat):countRun' lo nrem=(do
    let c ← ascL lo 1 nrem
    match c.1 with
    | some r=>pure r
    | none=>if (c.2 == nrem)=true then pure (some c.2) else if c.2 > 1 then (do
        let x ← ltAt' lo (lo+c.2 - 1)
        match x with
        | some y=>if y=true then pure (some c.2) else (do
            reverseSlice' lo (lo+c.2)
            partL lo c.2 nrem)
        | _=>pure none) else partL lo c.2 nrem):=by
  rw [countRun'_eq]
  unfold partL tailL descL ascL
  have tl:∀ {f g:AS→StateT SortSt Sem (Option Nat)} {m:StateT SortSt Sem AS},(∀ r n,f (r,n)=g (r,n))→(m >>= f)=(m >>= g):=fun h=>congrArg _ (funext fun ⟨r,n⟩=>h r n)
  have td:∀ {f g:DS→StateT SortSt Sem (Option Nat)} {m:StateT SortSt Sem DS},(∀ r n q,f (r,n,q)=g (r,n,q))→(m >>= f)=(m >>= g):=fun h=>congrArg _ (funext fun ⟨r,n,q⟩=>h r n q)
  have bc:∀ {α:Type} {f g:α→StateT SortSt Sem (Option Nat)} {m:StateT SortSt Sem α},(∀ x,f x=g x)→(m >>= f)=(m >>= g):=fun h=>congrArg _ (funext h)
  refine tl fun r n=>?_
  cases r with
  | some r=>rfl
  | none =>
    dsimp only
    split
    · rfl
    · split
      · refine bc fun x=>?_
        cases x with
        | none=>rfl
        | some y =>
          dsimp only
          split
          · rfl
          · refine bc fun _=>bc fun _=>td fun r n q=>?_
            cases r with
            | some r=>rfl
            | none =>
              dsimp only
              split
              · exact bc fun _=>bc fun _=>tl fun r n=>by cases r <;> rfl
              · exact bc fun _=>tl fun r n=>by cases r <;> rfl
      · refine bc fun _=>td fun r n q=>?_
        cases r with
        | some r=>rfl
        | none =>
          dsimp only
          split
          · exact bc fun _=>bc fun _=>tl fun r n=>by cases r <;> rfl
          · exact bc fun _=>tl fun r n=>by cases r <;> rfl
section
variable {prog:Program} {w:World} {A:Around} {E:Value→Shared→Prop} {s:Shared} {a₀:Array Keyed} {κ:SortKind} {ρ:Stg.RR} {P:Array (Nat×Nat×Nat)}
def Out (lo n:Nat) (xs ys:Array Keyed):Prop:=∀ j,j<lo∨lo+n≤j→ys[j]?=xs[j]?
theorem out_mirror {xs:Array Keyed} {lo n i j:Nat} (hj:j≤xs.size) (h1:lo≤i) (h2:j≤lo+n):Out lo n xs (mirror xs i j ((j - i) / 2)):=fun k hk=>by
  rw [getElem?_mirror_all hj,if_neg (by omega)]
theorem ascL_ok {st:SortSt} {lo a nrem:Nat} {Q:AS→SortSt→Prop} (h0:Stg.Cmp prog w A s κ ρ a₀) (hn:lo+nrem≤a₀.size) (ha:1≤a) (han:a≤nrem) (hB:GP κ a₀ P st) (hs:Srt ρ (arrOf st) lo (lo+a))
    (h:∀ n,a≤n→n≤nrem→Srt ρ (arrOf st) lo (lo+n)→(n=nrem∨Stg.Kg ρ (arrOf st) (lo+n)<Stg.Kg ρ (arrOf st) (lo+n - 1))→Q (none,n) st):wpS (model prog w) A E s (ascL lo a nrem) Q st:=by
  unfold ascL
  refine wpS_forRange (I:=fun x c st1=>st1=st∧c=(none,x)∧Srt ρ (arrOf st) lo (lo+x)) ?turn ?last ⟨rfl,rfl,hs⟩
  case last =>
    rintro c st1 ⟨rfl,rfl,i1⟩
    rw [show max a nrem=nrem by omega] at i1 ⊢
    exact h nrem han (Nat.le_refl _) i1 (.inl rfl)
  case turn =>
    rintro x c st1 hax hxn ⟨rfl,rfl,i1⟩
    dsimp only
    refine wpS_bind (wpS_ltP hB h0 (by omega) (by omega) ?_)
    by_cases c:Stg.Kg ρ (arrOf st1) (lo+x)<Stg.Kg ρ (arrOf st1) (lo+x - 1)
    · simp only [c,decide_true,if_true]
      exact wpS_pure (h x hax (by omega) i1 (.inr c))
    · simp only [c,decide_false,Bool.false_eq_true,if_false]
      refine wpS_pure ⟨rfl,rfl,fun i j hi hij hj=>?_⟩
      by_cases hjx:j<lo+x
      · exact i1 i j hi hij hjx
      · have ej:j=lo+x:=by omega
        subst ej
        by_cases e:i=lo+x
        · subst e; exact Int.le_refl _
        · have:=i1 i (lo+x - 1) hi (by omega) (by omega)
          omega
structure DX (ρ:Stg.RR) (xs:Array Keyed) (lo x q:Nat):Prop where
  l:q+1≤x
  d:∀ i j,lo≤i→i≤j→j<lo+x→Stg.Kg ρ xs j≤Stg.Kg ρ xs i
  e:∀ i,lo+x - (q+1)≤i→i<lo+x→Stg.Kg ρ xs i=Stg.Kg ρ xs (lo+x - 1)
theorem DX.rev {xs:Array Keyed} {lo x q:Nat} (h:DX ρ xs lo x q) (hz:lo+x≤xs.size):DX ρ (mirror xs (lo+x - (q+1)) (lo+x) ((lo+x - (lo+x - (q+1))) / 2)) lo x 0:=by
  have ke:=Stg.Kg_mirror_equal (ρ:=ρ) (i:=lo+x - (q+1)) hz h.e
  have:=h.l
  refine ⟨by omega,fun i j h1 h2 h3=>?_,fun i h1 h2=>?_⟩
  · rw [ke,ke]; exact h.d i j h1 h2 h3
  · have e:i=lo+x - 1:=by omega
    rw [e]
theorem DX.zero {xs:Array Keyed} {lo x q:Nat} (h:DX ρ xs lo x q):DX ρ xs lo x 0:=⟨by have:=h.l; omega,h.d,fun i h1 h2=>by rw [show i=lo+x - 1 by have:=h.l; omega]⟩
theorem DX.less {xs:Array Keyed} {lo x:Nat} (h:DX ρ xs lo x 0) (k:Stg.Kg ρ xs (lo+x)<Stg.Kg ρ xs (lo+x - 1)):DX ρ xs lo (x+1) 0:=by
  have:=h.l
  refine ⟨by omega,fun i j h1 h2 h3=>?_,fun i h1 h2=>by rw [show i=lo+(x+1) - 1 by omega]⟩
  by_cases c:j<lo+x
  · exact h.d i j h1 h2 c
  · have ej:j=lo+x:=by omega
    subst ej
    by_cases e:i=lo+x
    · subst e; exact Int.le_refl _
    · have:=h.d i (lo+x - 1) h1 (by omega) (by omega)
      omega
theorem DX.more {xs:Array Keyed} {lo x q:Nat} (h:DX ρ xs lo x q) (k:Stg.Kg ρ xs (lo+x)=Stg.Kg ρ xs (lo+x - 1)):DX ρ xs lo (x+1) (q+1):=by
  have:=h.l
  refine ⟨by omega,fun i j h1 h2 h3=>?_,fun i h1 h2=>?_⟩
  · by_cases c:j<lo+x
    · exact h.d i j h1 h2 c
    · have ej:j=lo+x:=by omega
      subst ej
      by_cases e:i=lo+x
      · subst e; exact Int.le_refl _
      · have:=h.d i (lo+x - 1) h1 (by omega) (by omega)
        omega
  · rw [show lo+(x+1) - 1=lo+x by omega]
    by_cases c:i<lo+x
    · rw [k]; exact h.e i (by omega) c
    · rw [show i=lo+x by omega]
theorem descL_ok {st:SortSt} {lo n nrem:Nat} {Q:DS→SortSt→Prop} (h0:Stg.Cmp prog w A s κ ρ a₀) (hn:lo+nrem≤a₀.size) (hnn:n≤nrem) (hB:GP κ a₀ P st) (hs:DX ρ (arrOf st) lo n 0)
    (h:∀ m q st',GP κ a₀ P st'→m≤nrem→DX ρ (arrOf st') lo m q→Out lo nrem (arrOf st) (arrOf st')→Q (none,m,q) st'):wpS (model prog w) A E s (descL lo n nrem) Q st:=by
  unfold descL
  refine wpS_forRange (I:=fun x c st1=>∃ q,c=(none,x,q)∧GP κ a₀ P st1∧DX ρ (arrOf st1) lo x q∧Out lo nrem (arrOf st) (arrOf st1)) ?turn ?last ⟨0,rfl,hB,hs,fun _ _=>rfl⟩
  case last =>
    rintro c st1 ⟨q,rfl,b1,d1,o1⟩
    rw [show max n nrem=nrem by omega] at d1 ⊢
    exact h nrem q st1 b1 (Nat.le_refl _) d1 o1
  case turn =>
    rintro x c st1 hax hxn ⟨q,rfl,b1,d1,o1⟩
    dsimp only
    have sz:=b1.size
    have hl:=d1.l
    refine wpS_bind (wpS_ltP b1 h0 (by omega) (by omega) ?_)
    by_cases c:Stg.Kg ρ (arrOf st1) (lo+x)<Stg.Kg ρ (arrOf st1) (lo+x - 1)
    · simp only [c,decide_true,if_true]
      by_cases hq:q > 0
      · rw [if_pos hq]
        have ke:=Stg.Kg_mirror_equal (ρ:=ρ) (i:=lo+x - (q+1)) (by omega:lo+x≤(arrOf st1).size) d1.e
        refine wpS_bind (wpS_reverse (wpS_pure ⟨0,rfl,b1.setArr (mirror_perm _ _ _ _),(d1.rev (by omega)).less ?_,fun k hk=>(out_mirror (by omega) (by omega) (by omega) k hk).trans (o1 k hk)⟩))
        rw [ke,ke]; exact c
      · rw [if_neg hq]
        have e:q=0:=by omega
        subst e
        exact wpS_pure ⟨0,rfl,b1,d1.less c,o1⟩
    · simp only [c,decide_false,Bool.false_eq_true,if_false]
      refine wpS_bind (wpS_ltP b1 h0 (by omega) (by omega) ?_)
      by_cases c2:Stg.Kg ρ (arrOf st1) (lo+x - 1)<Stg.Kg ρ (arrOf st1) (lo+x)
      · simp only [c2,decide_true,if_true]
        exact wpS_pure (h x q st1 b1 (by omega) d1 o1)
      · simp only [c2,decide_false,Bool.false_eq_true,if_false]
        exact wpS_pure ⟨q+1,rfl,b1,d1.more (by omega),o1⟩
theorem tailL_ok {st st0:SortSt} {lo n nrem:Nat} {Q:Option Nat→SortSt→Prop} (h0:Stg.Cmp prog w A s κ ρ a₀) (hn:lo+nrem≤a₀.size) (h1:1≤n) (hnn:n≤nrem) (hB:GP κ a₀ P st) (hs:DX ρ (arrOf st) lo n 0) (ho:Out lo nrem (arrOf st0) (arrOf st))
    (h:∀ m st',GP κ a₀ P st'→1≤m→m≤nrem→Srt ρ (arrOf st') lo (lo+m)→Out lo nrem (arrOf st0) (arrOf st')→Q (some m) st'):wpS (model prog w) A E s (tailL lo n nrem) Q st:=by
  unfold tailL
  have sz:=hB.size
  refine wpS_bind (wpS_reverse ?_)
  have b1:GP κ a₀ P (setArr st (mirror (arrOf st) lo (lo+n) ((lo+n - lo) / 2))):=hB.setArr (mirror_perm _ _ _ _)
  refine wpS_bind (ascL_ok h0 hn h1 hnn b1 ?_ fun m m1 m2 i2 _=>wpS_pure (h m _ b1 (by omega) m2 i2 fun k hk=>(out_mirror (by omega) (by omega) (by omega) k hk).trans (ho k hk)))
  intro i j hi hij hj
  show Stg.Kg ρ (mirror (arrOf st) lo (lo+n) ((lo+n - lo) / 2)) i≤Stg.Kg ρ (mirror (arrOf st) lo (lo+n) ((lo+n - lo) / 2)) j
  rw [Stg.Kg_mirror (by omega),Stg.Kg_mirror (by omega),if_pos (by omega),if_pos (by omega)]
  exact hs.d _ _ (by omega) (by omega) (by omega)
theorem partL_ok {st st0:SortSt} {lo n nrem:Nat} {Q:Option Nat→SortSt→Prop} (h0:Stg.Cmp prog w A s κ ρ a₀) (hn:lo+nrem≤a₀.size) (hnn:n+1≤nrem) (hB:GP κ a₀ P st) (hs:DX ρ (arrOf st) lo (n+1) 0) (ho:Out lo nrem (arrOf st0) (arrOf st))
    (h:∀ m st',GP κ a₀ P st'→1≤m→m≤nrem→Srt ρ (arrOf st') lo (lo+m)→Out lo nrem (arrOf st0) (arrOf st')→Q (some m) st'):wpS (model prog w) A E s (partL lo n nrem) Q st:=by
  unfold partL
  refine wpS_bind (wpS_lift (wpAny_rule ⟨rfl,?_⟩))
  refine wpS_bind (descL_ok h0 hn hnn hB hs fun m q st1 b1 m2 d1 o1=>?_)
  dsimp only
  have hl:=d1.l
  have sz:=b1.size
  by_cases hq:q > 0
  · rw [if_pos hq]
    exact wpS_bind (wpS_reverse (tailL_ok h0 hn (by omega) m2 (b1.setArr (mirror_perm _ _ _ _)) (d1.rev (by omega)) (fun k hk=>((out_mirror (by omega) (by omega) (by omega) k hk).trans (o1 k hk)).trans (ho k hk)) h))
  · rw [if_neg hq]
    exact tailL_ok h0 hn (by omega) m2 b1 d1.zero (fun k hk=>(o1 k hk).trans (ho k hk)) h
theorem countL_ok {st:SortSt} {lo nrem:Nat} {Q:Option Nat→SortSt→Prop} (h0:Stg.Cmp prog w A s κ ρ a₀) (hn:lo+nrem≤a₀.size) (h1:1≤nrem) (hB:GP κ a₀ P st)
    (h:∀ m st',GP κ a₀ P st'→1≤m→m≤nrem→Srt ρ (arrOf st') lo (lo+m)→Out lo nrem (arrOf st) (arrOf st')→Q (some m) st'):wpS (model prog w) A E s (countRun' lo nrem) Q st:=by
  rw [countL_eq]
  have sz:=hB.size
  refine wpS_bind (ascL_ok h0 hn (Nat.le_refl 1) h1 hB (fun i j hi hij hj=>by rw [show i=j by omega]; exact Int.le_refl _) fun n n1 n2 i1 hor=>?_)
  dsimp only
  by_cases e:n=nrem
  · rw [if_pos (by simpa using e)]
    exact wpS_pure (h n st hB n1 n2 i1 fun _ _=>rfl)
  · rw [if_neg (by simpa using e)]
    have lt:Stg.Kg ρ (arrOf st) (lo+n)<Stg.Kg ρ (arrOf st) (lo+n - 1):=hor.resolve_left e
    by_cases g:n > 1
    · rw [if_pos g]
      refine wpS_bind (wpS_ltP hB h0 (by omega) (by omega) ?_)
      by_cases c:Stg.Kg ρ (arrOf st) lo<Stg.Kg ρ (arrOf st) (lo+n - 1)
      · simp only [c,decide_true,if_true]
        exact wpS_pure (h n st hB n1 n2 i1 fun _ _=>rfl)
      · simp only [c,decide_false,Bool.false_eq_true,if_false]
        have all:∀ k,lo≤k→k<lo+n→Stg.Kg ρ (arrOf st) k=Stg.Kg ρ (arrOf st) (lo+n - 1):=fun k h1 h2=>by
          have a1:=i1 lo k (Nat.le_refl _) h1 h2
          have a2:=i1 k (lo+n - 1) h1 (by omega) (by omega)
          omega
        have ke:=Stg.Kg_mirror_equal (ρ:=ρ) (xs:=arrOf st) (i:=lo) (j:=lo+n) (by omega) all
        have dx:DX ρ (mirror (arrOf st) lo (lo+n) ((lo+n - lo) / 2)) lo n 0:=⟨by omega,fun i j h1 h2 h3=>by rw [ke,ke,all i h1 (by omega),all j (by omega) h3]; exact Int.le_refl _,fun i h1 h2=>by rw [show i=lo+n - 1 by omega]⟩
        exact wpS_bind (wpS_reverse (partL_ok (st0:=st) h0 hn (by omega) (hB.setArr (mirror_perm _ _ _ _)) (dx.less (by rw [ke,ke]; exact lt)) (out_mirror (by omega) (by omega) (by omega)) h))
    · rw [if_neg g]
      have en:n=1:=by omega
      subst en
      exact partL_ok (st0:=st) h0 hn (by omega) hB (DX.less ⟨by omega,fun i j h1 h2 h3=>by rw [show i=j by omega]; exact Int.le_refl _,fun i h1 h2=>by rw [show i=lo+1 - 1 by omega]⟩ lt) (fun _ _=>rfl) h
end
end L2.Stm
set_option Elab.async false
set_option linter.all false
set_option maxRecDepth 100000
set_option maxHeartbeats 1000000
namespace L2.Stm
open PySem PySem.Spec PyProof.Rows
abbrev Rn:=Nat×Nat×Nat
def Tile:List Rn→Nat→Nat→Prop
  | [],a,b=>a=b
  | t :: r,a,b=>t.1=a∧0<t.2.1∧Tile r (a+t.2.1) b
theorem tile_app:∀ {l m:List Rn} {a b:Nat},Tile (l++m) a b↔∃ c,Tile l a c∧Tile m c b
  | [],m,a,b=>⟨fun h=>⟨a,rfl,h⟩,fun ⟨c,h1,h2⟩=>by rw [show a=c from h1]; exact h2⟩
  | t :: r,m,a,b=>by
    constructor
    · rintro ⟨h1,h2,h3⟩
      obtain ⟨c,h4,h5⟩:=tile_app.mp h3
      exact ⟨c,⟨h1,h2,h4⟩,h5⟩
    · rintro ⟨c,⟨h1,h2,h4⟩,h5⟩
      exact ⟨h1,h2,tile_app.mpr ⟨c,h4,h5⟩⟩
theorem tile_len:∀ {l:List Rn} {a b:Nat},Tile l a b→l.length+a≤b
  | [],a,b,h=>by rw [show a=b from h]; show 0+b≤b; omega
  | t :: r,a,b,⟨_,h2,h3⟩=>by
    have:=tile_len h3
    rw [List.length_cons]
    omega
theorem tile_in:∀ {l:List Rn} {a b:Nat},Tile l a b→∀ t∈l,a≤t.1∧t.1+t.2.1≤b
  | [],a,b,h,t,ht=>nomatch ht
  | u :: r,a,b,⟨h1,h2,h3⟩,t,ht=>by
    have l:=tile_len h3
    rcases List.mem_cons.mp ht with e | ht
    · subst e; omega
    · have:=tile_in h3 t ht
      omega
theorem split2:∀ {l:List Rn} {i:Nat} {x y:Rn},l[i]?=some x→l[i+1]?=some y→l=l.take i++x :: y :: l.drop (i+2)
  | [],i,x,y,h,_=>by simp at h
  | [a],0,x,y,h,h2=>by simp at h2
  | a :: b :: r,0,x,y,h,h2=>by
    simp only [List.getElem?_cons_zero,List.getElem?_cons_succ,Option.some.injEq] at h h2
    subst h h2; rfl
  | a :: r,i+1,x,y,h,h2=>by
    have:=split2 (l:=r) (i:=i) (x:=x) (y:=y) (by simpa using h) (by simpa using h2)
    show a :: r=a :: (r.take i++x :: y :: r.drop (i+2))
    rw [← this]
theorem set_erase (l m:List Rn) (x y v:Rn):((l++x :: y :: m).set l.length v).eraseIdx (l.length+1)=l++v :: m:=by
  induction l with
  | nil=>rfl
  | cons a r ih=>show a :: ((r++x :: y :: m).set r.length v).eraseIdx (r.length+1)=a :: (r++v :: m); rw [ih]
section
variable {prog:Program} {w:World} {A:Around} {E:Value→Shared→Prop} {s:Shared} {a₀:Array Keyed} {κ:SortKind} {ρ:Stg.RR} {P:Array Rn}
theorem srt_at {xs ys:Array Keyed} {a b:Nat} (h:Srt ρ xs a b) (e:∀ j,a≤j→j<b→ys[j]?=xs[j]?):Srt ρ ys a b:=fun i j h1 h2 h3=>by
  rw [Stg.Kg_congr (e i h1 (by omega)),Stg.Kg_congr (e j (by omega) h3)]
  exact h i j h1 h2 h3
structure RI (κ:SortKind) (a₀:Array Keyed) (ρ:Stg.RR) (lo:Nat) (st:SortSt):Prop where
  perm:(arrOf st).Perm a₀
  kn:kindOf st=κ
  failed:failedOf st=none
  tile:Tile (pendingOf st).toList 0 lo
  srt:∀ t∈(pendingOf st).toList,Srt ρ (arrOf st) t.1 (t.1+t.2.1)
theorem RI.gp {lo:Nat} {st:SortSt} (h:RI κ a₀ ρ lo st):GP κ a₀ (pendingOf st) st:=⟨h.perm,h.kn,h.failed,rfl⟩
theorem RI.out {lo n:Nat} {st st':SortSt} (h:RI κ a₀ ρ lo st) (g:GP κ a₀ (pendingOf st) st') (o:Out lo n (arrOf st) (arrOf st')):RI κ a₀ ρ lo st' :=
  ⟨g.perm,g.kn,g.failed,by rw [g.pend]; exact h.tile,fun t ht=>by
    rw [g.pend] at ht
    have:=tile_in h.tile t ht
    exact srt_at (h.srt t ht) fun j h1 h2=>o j (.inl (by omega))⟩
theorem RI.merge {lo i:Nat} {x y:Rn} {st:SortSt} {Q:Bool→SortSt→Prop} (h0:Stg.Cmp prog w A s κ ρ a₀) (h:RI κ a₀ ρ lo st) (hlo:lo≤a₀.size) (e1:(pendingOf st)[i]?=some x) (e2:(pendingOf st)[i+1]?=some y)
    (k:∀ st',RI κ a₀ ρ lo st'→(pendingOf st').size+1=(pendingOf st).size→(∀ j,lo≤j→(arrOf st')[j]?=(arrOf st)[j]?)→Q true st'):wpS (model prog w) A E s (mergeAt' i) Q st:=by
  obtain ⟨sa,na,p⟩:=x
  obtain ⟨sb,nb,q⟩:=y
  have el:=split2 (l:=(pendingOf st).toList) (i:=i) (by rw [Array.getElem?_toList]; exact e1) (by rw [Array.getElem?_toList]; exact e2)
  have hi:i<(pendingOf st).toList.length:=by
    rw [Array.length_toList]
    exact (Array.getElem?_eq_some_iff.mp e1).1
  have hti:((pendingOf st).toList.take i).length=i:=by rw [List.length_take]; omega
  have ht:=h.tile
  have hs:=h.srt
  have hsz:(pendingOf st).size=(pendingOf st).toList.length:=Array.length_toList.symm
  have hnew:(((pendingOf st).setIfInBounds i (sa,na+nb,p)).eraseIdxIfInBounds (i+1)).toList=(pendingOf st).toList.take i++(sa,na+nb,p) :: (pendingOf st).toList.drop (i+2):=by
    rw [Array.toList_eraseIdxIfInBounds,Array.toList_setIfInBounds]
    conv=>lhs; rw [el]
    have:=set_erase ((pendingOf st).toList.take i) ((pendingOf st).toList.drop (i+2)) (sa,na,p) (sb,nb,q) (sa,na+nb,p)
    rw [hti] at this
    exact this
  generalize (pendingOf st).toList.take i=l at *
  generalize (pendingOf st).toList.drop (i+2)=m at *
  rw [el] at ht hs hsz
  obtain ⟨c,t1,t2,t3,t4,t5,t6⟩:=tile_app.mp ht
  have t2:sa=c:=t2
  have t3:0<na:=t3
  have t4:sb=c+na:=t4
  have t5:0<nb:=t5
  have t6:Tile m (c+na+nb) lo:=t6
  have l6:=tile_len t6
  refine mergeAt_ok h0 h.kn h.gp.mem h.failed e1 e2 (by omega) t3 t5 (by rw [h.gp.size]; omega) (hs (sa,na,p) (by simp)) (hs (sb,nb,q) (by simp)) fun st' k1 f1 p1 pe s1 o1=>?_
  refine k st' ⟨p1.trans h.perm,k1,f1,?_,?_⟩ ?_ fun j hj=>o1 j (.inr (by omega))
  · rw [pe,hnew]
    exact tile_app.mpr ⟨c,t1,t2,by show 0<na+nb; omega,by show Tile m (c+(na+nb)) lo; rw [← Nat.add_assoc]; exact t6⟩
  · rw [pe,hnew]
    intro t ht
    rcases List.mem_append.mp ht with ht | ht
    · have:=tile_in t1 t ht
      exact srt_at (hs t (List.mem_append_left _ ht)) fun j h1 h2=>o1 j (.inl (by omega))
    · rcases List.mem_cons.mp ht with ht | ht
      · subst ht
        show Srt ρ (arrOf st') sa (sa+(na+nb))
        rw [show sa+(na+nb)=sb+nb by omega]
        exact s1
      · have:=tile_in t6 t ht
        exact srt_at (hs t (List.mem_append_right _ (List.mem_cons_of_mem _ (List.mem_cons_of_mem _ ht)))) fun j h1 h2=>o1 j (.inr (by omega))
  · have z:(pendingOf st').size=(pendingOf st').toList.length:=Array.length_toList.symm
    rw [z,pe,hnew,hsz,List.length_append,List.length_append]
    rfl
theorem RI.push {lo n:Nat} {st:SortSt} (h:RI κ a₀ ρ lo st) (hn:0<n) (hs:Srt ρ (arrOf st) lo (lo+n)):RI κ a₀ ρ (lo+n) (setPending st ((pendingOf st).push (lo,n,0))):=by
  refine ⟨h.perm,h.kn,h.failed,?_,?_⟩
  · show Tile ((pendingOf st).push (lo,n,0)).toList 0 (lo+n)
    rw [Array.toList_push]
    exact tile_app.mpr ⟨lo,h.tile,rfl,hn,rfl⟩
  · show ∀ t∈((pendingOf st).push (lo,n,0)).toList,_
    rw [Array.toList_push]
    intro t ht
    rcases List.mem_append.mp ht with ht | ht
    · exact h.srt t ht
    · rw [List.mem_singleton.mp ht]; exact hs
theorem tile_map {f:Rn→Rn} (hf:∀ t,(f t).1=t.1∧(f t).2.1=t.2.1):∀ {l:List Rn} {i a b:Nat},Tile l a b→Tile (l.modify i f) a b
  | [],i,a,b,h=>by cases i <;> exact h
  | t :: r,0,a,b,⟨h1,h2,h3⟩=>by
    show Tile (f t :: r) a b
    exact ⟨(hf t).1.trans h1,by rw [(hf t).2]; exact h2,by rw [(hf t).2]; exact h3⟩
  | t :: r,i+1,a,b,⟨h1,h2,h3⟩=>⟨h1,h2,tile_map hf h3⟩
theorem mem_modify {f:Rn→Rn}:∀ {l:List Rn} {i:Nat} {t:Rn},t∈l.modify i f→t∈l∨∃ u∈l,t=f u
  | [],i,t,h=>by cases i <;> exact nomatch h
  | u :: r,0,t,h=>by
    rcases List.mem_cons.mp (show t∈f u :: r from h) with e | h
    · exact .inr ⟨u,List.mem_cons_self,e⟩
    · exact .inl (List.mem_cons_of_mem _ h)
  | u :: r,i+1,t,h=>by
    rcases List.mem_cons.mp (show t∈u :: r.modify i f from h) with e | h
    · exact .inl (e ▸ List.mem_cons_self)
    · rcases mem_modify h with h | ⟨v,hv,e⟩
      · exact .inl (List.mem_cons_of_mem _ h)
      · exact .inr ⟨v,List.mem_cons_of_mem _ hv,e⟩
theorem RI.pow {lo i:Nat} {st:SortSt} {f:Rn→Rn} (hf:∀ t,(f t).1=t.1∧(f t).2.1=t.2.1) (h:RI κ a₀ ρ lo st):RI κ a₀ ρ lo (setPending st ((pendingOf st).modify i f)):=by
  refine ⟨h.perm,h.kn,h.failed,?_,?_⟩
  · show Tile ((pendingOf st).modify i f).toList 0 lo
    rw [Array.toList_modify]
    exact tile_map hf h.tile
  · show ∀ t∈((pendingOf st).modify i f).toList,_
    rw [Array.toList_modify]
    intro t ht
    rcases mem_modify ht with ht | ⟨u,hu,e⟩
    · exact h.srt t ht
    · rw [e,(hf u).1,(hf u).2]; exact h.srt u hu
theorem runsL_ok {st:SortSt} {Q:Unit→SortSt→Prop} (h0:Stg.Cmp prog w A s κ ρ a₀) (hP:(arrOf st).Perm a₀) (hk:kindOf st=κ) (hf:failedOf st=none) (hp:pendingOf st=#[])
    (h:∀ st',(arrOf st').Perm a₀→failedOf st'=none→Srt ρ (arrOf st') 0 a₀.size→Q () st'):wpS (model prog w) A E s sortRuns' Q st:=by
  rw [sortRuns'_eq]
  refine wpS_bind (wpS_get ?_)
  dsimp only
  have esz:(arrOf st).size=a₀.size:=hP.size_eq
  simp only [esz]
  generalize minRun' a₀.size a₀.size 0=mr
  have r0:RI κ a₀ ρ 0 st:=⟨hP,hk,hf,by rw [hp]; rfl,by rw [hp]; exact fun t ht=>nomatch ht⟩
  refine wpS_bind (wpS_mono (wpS_forRange (I:=fun x c st1=>∃ lo,c=(none,lo)∧lo≤a₀.size∧(x≤lo∨lo=a₀.size)∧RI κ a₀ ρ lo st1) (Q:=fun c st1=>c=(none,a₀.size)∧RI κ a₀ ρ a₀.size st1) ?turn ?last ⟨0,rfl,Nat.zero_le _,.inl (Nat.le_refl _),r0⟩) ?after)
  case last =>
    rintro c st1 ⟨lo,rfl,hlo,hx,r1⟩
    have e:lo=a₀.size:=by omega
    subst e
    exact ⟨rfl,r1⟩
  case turn =>
    rintro x c st1 _ hx ⟨lo,rfl,hlo,hxl,r1⟩
    dsimp only
    by_cases g:lo ≥ a₀.size
    · rw [if_pos g]
      have e:lo=a₀.size:=by omega
      subst e
      exact wpS_pure ⟨rfl,r1⟩
    · rw [if_neg g]
      refine wpS_bind (countL_ok h0 (by omega) (by omega) r1.gp fun m st2 b2 m1 m2 s2 o2=>?_)
      dsimp only
      have r2:=r1.out b2 o2
      have fin:∀ {n:Nat} {st3:SortSt},0<n→lo+n≤a₀.size→RI κ a₀ ρ lo st3→Srt ρ (arrOf st3) lo (lo+n)→∃ lo',(none,lo+n)=((none,lo'):Option Unit×Nat)∧lo'≤a₀.size∧(x+1≤lo'∨lo'=a₀.size)∧RI κ a₀ ρ lo' (setPending st3 ((pendingOf st3).push (lo,n,0))):=fun {n st3} h1 h2 h3 h4=>⟨lo+n,rfl,h2,by omega,h3.push h1 h4⟩
      by_cases lt:m<mr
      · rw [if_pos lt]
        refine wpS_bind (wpS_lift (wpAny_rule ⟨rfl,?_⟩))
        refine wpS_bind (binP_ok h0 (by omega) (by omega) m1 b2 s2 fun st3 b3 s3 o3=>?_)
        simp only [Bool.not_true,Bool.false_eq_true,if_false]
        have r3:=r1.out (n:=a₀.size - lo) b3 fun j hj=>(o3 j (by omega)).trans (o2 j hj)
        have hn:0<min (a₀.size - lo) mr:=by omega
        have hln:lo+min (a₀.size - lo) mr≤a₀.size:=by omega
        clear b3 o3 b2 s2 o2 r2 m1 m2 lt
        generalize min (a₀.size - lo) mr=n at *
        refine wpS_bind (wpS_get ?_)
        cases eb:(pendingOf st3).back? with
        | none =>
          dsimp only
          exact wpS_bind (wpS_modify (wpS_pure (fin hn hln r3 s3)))
        | some t =>
          obtain ⟨s1,n1,z⟩:=t
          dsimp only
          generalize power' a₀.size (2 * s1+n1) (2 * s1+n1+n1+n) a₀.size=pw
          refine wpS_bind (wpS_mono (wpS_forRange (I:=fun _ c st4=>c=(none,())∧RI κ a₀ ρ lo st4∧Srt ρ (arrOf st4) lo (lo+n)) (Q:=fun c st4=>c=(none,())∧RI κ a₀ ρ lo st4∧Srt ρ (arrOf st4) lo (lo+n)) ?_ (fun _ _ hh=>hh) ⟨rfl,r3,s3⟩) ?_)
          · rintro y c st4 _ _ ⟨rfl,r4,h4⟩
            refine wpS_bind (wpS_get ?_)
            by_cases c2:(pendingOf st4).size > 1
            · have e1:(pendingOf st4)[(pendingOf st4).size - 2]?=some (pendingOf st4)[(pendingOf st4).size - 2]:=Array.getElem?_eq_getElem (by omega)
              have e2:(pendingOf st4)[(pendingOf st4).size - 2+1]?=some (pendingOf st4)[(pendingOf st4).size - 2+1]:=Array.getElem?_eq_getElem (by omega)
              simp only [if_pos c2]
              rw [e1]
              dsimp only
              by_cases c3:(pendingOf st4)[(pendingOf st4).size - 2].2.2≤pw
              · rw [if_pos c3]
                exact wpS_pure ⟨rfl,r4,h4⟩
              · rw [if_neg c3]
                refine wpS_bind (RI.merge h0 r4 hlo e1 e2 fun st5 r5 _ o5=>?_)
                simp only [Bool.not_true,Bool.false_eq_true,if_false]
                exact wpS_pure ⟨rfl,r5,srt_at h4 fun j h1 _=>o5 j h1⟩
            · simp only [if_neg c2]
              exact wpS_pure ⟨rfl,r4,h4⟩
          · rintro c st4 ⟨rfl,r4,h4⟩
            dsimp only
            exact wpS_bind (wpS_modify (wpS_bind (wpS_modify (wpS_pure (fin hn hln (r4.pow fun _=>⟨rfl,rfl⟩) h4)))))
      · rw [if_neg lt]
        have hn:0<m:=by omega
        have hln:lo+m≤a₀.size:=by omega
        have r3:=r2
        have s3:=s2
        clear b2 s2 o2 r2 m1 m2 lt
        generalize m=n at *
        generalize st2=st3 at *
        refine wpS_bind (wpS_get ?_)
        cases eb:(pendingOf st3).back? with
        | none =>
          dsimp only
          exact wpS_bind (wpS_modify (wpS_pure (fin hn hln r3 s3)))
        | some t =>
          obtain ⟨s1,n1,z⟩:=t
          dsimp only
          generalize power' a₀.size (2 * s1+n1) (2 * s1+n1+n1+n) a₀.size=pw
          refine wpS_bind (wpS_mono (wpS_forRange (I:=fun _ c st4=>c=(none,())∧RI κ a₀ ρ lo st4∧Srt ρ (arrOf st4) lo (lo+n)) (Q:=fun c st4=>c=(none,())∧RI κ a₀ ρ lo st4∧Srt ρ (arrOf st4) lo (lo+n)) ?_ (fun _ _ hh=>hh) ⟨rfl,r3,s3⟩) ?_)
          · rintro y c st4 _ _ ⟨rfl,r4,h4⟩
            refine wpS_bind (wpS_get ?_)
            by_cases c2:(pendingOf st4).size > 1
            · have e1:(pendingOf st4)[(pendingOf st4).size - 2]?=some (pendingOf st4)[(pendingOf st4).size - 2]:=Array.getElem?_eq_getElem (by omega)
              have e2:(pendingOf st4)[(pendingOf st4).size - 2+1]?=some (pendingOf st4)[(pendingOf st4).size - 2+1]:=Array.getElem?_eq_getElem (by omega)
              simp only [if_pos c2]
              rw [e1]
              dsimp only
              by_cases c3:(pendingOf st4)[(pendingOf st4).size - 2].2.2≤pw
              · rw [if_pos c3]
                exact wpS_pure ⟨rfl,r4,h4⟩
              · rw [if_neg c3]
                refine wpS_bind (RI.merge h0 r4 hlo e1 e2 fun st5 r5 _ o5=>?_)
                simp only [Bool.not_true,Bool.false_eq_true,if_false]
                exact wpS_pure ⟨rfl,r5,srt_at h4 fun j h1 _=>o5 j h1⟩
            · simp only [if_neg c2]
              exact wpS_pure ⟨rfl,r4,h4⟩
          · rintro c st4 ⟨rfl,r4,h4⟩
            dsimp only
            exact wpS_bind (wpS_modify (wpS_bind (wpS_modify (wpS_pure (fin hn hln (r4.pow fun _=>⟨rfl,rfl⟩) h4)))))
  case after =>
    rintro c st1 ⟨rfl,r1⟩
    dsimp only
    have l1:=tile_len r1.tile
    rw [Array.length_toList] at l1
    refine wpS_bind (wpS_mono (wpS_forRange (I:=fun x c st2=>c=(none,())∧RI κ a₀ ρ a₀.size st2∧(pendingOf st2).size+x≤a₀.size+1) (Q:=fun c st2=>c=(none,())∧RI κ a₀ ρ a₀.size st2∧(pendingOf st2).size≤1) ?_ ?_ ⟨rfl,r1,by omega⟩) ?_)
    · rintro y c st2 _ _ ⟨rfl,r2,h2⟩
      refine wpS_bind (wpS_get ?_)
      by_cases c1:(pendingOf st2).size≤1
      · rw [if_pos c1]
        exact wpS_pure ⟨rfl,r2,c1⟩
      · rw [if_neg c1]
        obtain ⟨i,hi,hlt⟩:∃ i,(if Option.any (fun x=>decide (x<(pendingOf st2)[(pendingOf st2).size - 2+1]?.elim 0 fun x=>x.snd.fst)) (if (pendingOf st2).size - 2 > 0 then Option.map (fun x=>x.snd.fst) (pendingOf st2)[(pendingOf st2).size - 2 - 1]? else none)=true then (pendingOf st2).size - 2 - 1 else (pendingOf st2).size - 2)=i∧i+1<(pendingOf st2).size:=⟨_,rfl,by generalize Option.any _ _=bb; cases bb <;> simp <;> omega⟩
        rw [hi]
        refine wpS_bind (RI.merge h0 r2 (Nat.le_refl _) (Array.getElem?_eq_getElem (by omega)) (Array.getElem?_eq_getElem hlt) fun st5 r5 z5 _=>?_)
        simp only [Bool.not_true,Bool.false_eq_true,if_false]
        exact wpS_pure ⟨rfl,r5,by omega⟩
    · rintro c st2 ⟨rfl,r2,h2⟩
      exact ⟨rfl,r2,by omega⟩
    · rintro c st2 ⟨rfl,r2,h2⟩
      dsimp only
      refine wpS_pure (h st2 r2.perm r2.failed ?_)
      have ht:=r2.tile
      have hs:=r2.srt
      have z:(pendingOf st2).size=(pendingOf st2).toList.length:=Array.length_toList.symm
      rw [z] at h2
      generalize (pendingOf st2).toList=l at *
      match l,h2,ht,hs with
      | [],_,ht,_ =>
        have e:0=a₀.size:=ht
        intro i j _ _ hj
        omega
      | [t],_,⟨t1,t2,t3⟩,hs =>
        have e:0+t.2.1=a₀.size:=t3
        have q:=hs t (by simp)
        rw [t1,e] at q
        exact q
      | _ :: _ :: _,h2,_,_=>simp at h2
end
end L2.Stm
set_option Elab.async false
set_option linter.all false
set_option maxRecDepth 100000
set_option maxHeartbeats 4000000
namespace L2
open PySem PySem.Spec PyProof.Rows
section
variable {prog:Program} {w:World} {A:Around} {E:Value→Shared→Prop} {s:Shared}
theorem lsortA {a:Addr} {us:List Value} {m:Nat} {P:PySem.Fin→Shared→Prop} {κ:SortKind} {ρ:Stg.RR} (ho:s.heap.get? a=some (seqObj "list" us.toArray m)) (z:us.length≤1000000)
    (hk:2≤us.length→(∀ (E:Value→Shared→Prop) (Q:SortKind→Shared→Prop),Q κ { s with heap:=srtH s.heap a us }→wpAny (model prog w) A (keyKind' us.toArray) Q E { s with heap:=srtH s.heap a us })∧Stg.Cmp prog w A { s with heap:=srtH s.heap a us } κ ρ (pairsOf us))
    (g:∀ q:SortSt,(arrOf q).Perm (pairsOf us)→Stm.Srt ρ (arrOf q) 0 (pairsOf us).size→P (.done (.ret .none)) { s with heap:=sortedHeap s.heap a us ((arrOf q).map (·.2)) }):wpAny (model prog w) A (Builtin.«list.sort» ⟨[.ref a],[]⟩) P E s:=by
  rw [list_sort_plain]
  have al:a<s.heap.objs.size:=Heap.lt_size ho
  obtain ⟨c,oc⟩:∃ c,(s.heap.update a (Obj.mapSeq fun _=>#[])).get? a=some (seqObj "list" #[] c):=⟨_,get?_update_seq ho (fun _=>#[])⟩
  have oc6:(srtH s.heap a us).get? a=some (seqObj "list" #[] c):=Heap.get?_push_of_some _ (Heap.get?_push_of_some _ oc)
  refine wpAny_bind (listItems_at ho rfl (wpAny_bind (listUpdate_at ho rfl (wpAny_bind (seqEpoch_at oc rfl (wpAny_bind (wpAny_newTuple (wpAny_bind (wpAny_newList (wpAny_holding ?_)))))))))) <;> try (rw [sizeLine_eq]; first | (rw [List.size_toArray]; omega) | omega)
  show wpAny (model prog w) A _ P E { s with heap:=srtH s.heap a us }
  dsimp only
  have us2:us.toArray.size=us.length:=List.size_toArray ..
  by_cases few:us.toArray.size<2
  · rw [if_pos few,if_pos few]
    refine wpAny_bind (wpAny_pure ?_)
    rw [StateT.run_pure]
    refine wpAny_bind (wpAny_pure (wpAny_bind (seqEpoch_at oc6 rfl (wpAny_bind (listUpdate_at oc6 rfl ?_ (hsz2:=by rw [Array.size_map]; show (pairsOf us).size≤_; rw [pairsOf_size,sizeLine_eq]; omega))))))
    simp only [bne_self_eq_false,Bool.false_eq_true,if_false]
    refine wpAny_pure (g (SortSt.mk' general' (us.toArray.zip us.toArray) #[] 7 none) (Array.Perm.refl _) fun i j _ hij hj=>?_)
    rw [pairsOf_size] at hj
    rw [show i=j by omega]
    exact Int.le_refl _
  · rw [if_neg few,if_neg few]
    have two:2≤us.length:=by omega
    obtain ⟨k1,k2⟩:=hk two
    refine wpAny_bind (k1 _ _ (wpAny_bind (wpAny_mono (Stm.runsL_ok (a₀:=pairsOf us) (st:=SortSt.mk' κ (us.toArray.zip us.toArray) #[] 7 none) (Q:=fun _ q=>(arrOf q).Perm (pairsOf us)∧failedOf q=none∧Stm.Srt ρ (arrOf q) 0 (pairsOf us).size) k2 (Array.Perm.refl _) rfl rfl rfl fun q a1 a2 a3=>⟨a1,a2,a3⟩) ?_ fun _ _ e=>e)))
    rintro ⟨⟨⟩,q⟩ t ⟨rfl,hp,hf,hs⟩
    refine wpAny_bind (seqEpoch_at oc6 rfl (wpAny_bind (listUpdate_at oc6 rfl ?_ (hsz2:=by rw [Array.size_map,hp.size_eq,pairsOf_size,sizeLine_eq]; omega))))
    dsimp only
    rw [hf]
    simp only [bne_self_eq_false,Bool.false_eq_true,if_false]
    exact wpAny_pure (g q hp hs)
theorem sortedA {l:Addr} {us:List Value} {Q:Value→Shared→Prop} {κ:SortKind} {ρ:Stg.RR} (hl:s.heap.IsList l us.toArray) (z:us.length≤1000000)
    (hk:2≤us.length→∀ h':Heap,(∀ b o,s.heap.get? b=some o→h'.get? b=some o)→(∀ (E:Value→Shared→Prop) (Q:SortKind→Shared→Prop),Q κ { s with heap:=h' }→wpAny (model prog w) A.in1.in1 (keyKind' us.toArray) Q E { s with heap:=h' })∧Stg.Cmp prog w A.in1.in1 { s with heap:=h' } κ ρ (pairsOf us))
    (g:∀ q:SortSt,(arrOf q).Perm (pairsOf us)→Stm.Srt ρ (arrOf q) 0 (pairsOf us).size→Q (.ref (s.heap.objs.size+1)) { s with heap:=sortedAll s.heap us ((arrOf q).map (·.2)) }):wpAny (model prog w) A (call (.builtin "sorted") [.ref l]) Q E s:=by
  have zz:us.length≤sizeLine:=by rw [sizeLine_eq]; omega
  refine Calls.call_function_entry kind_sorted plain_sorted entry_sorted (args_sorted1 _) ?_
  unfold Builtin.«sorted»
  refine wpAny_bind (m:=checkCount "sorted" 1 1 _) (wpAny_pure (wpAny_bind (collect_list hl (wpAny_bind (wpAny_newList ?_ zz)) zz)))
  have sz:((s.heap.push (seqObj "list" #[] 0)).update s.heap.objs.size (Obj.mapSeq (·++us.toArray))).objs.size=s.heap.objs.size+1:=by rw [Heap.size_update,size_push']
  have oL:(srtG s.heap us).get? (s.heap.objs.size+1)=some (seqObj "list" us.toArray 0):=by unfold srtG; rw [← sz]; exact Heap.get?_push_size _ rfl
  show wpAny _ _ _ _ _ { s with heap:=srtG s.heap us }
  rw [sz]
  refine wpAny_bind (wpAny_holding (wpAny_call_entry slot_list_sort ⟨_,oL,rfl⟩ entry_list_sort (lsortA (s:={ s with heap:=srtG s.heap us }) (κ:=κ) oL z (fun two=>hk two _ fun b o e=>srtH_old (Nat.ne_of_lt (Nat.lt_succ_of_lt (Heap.lt_size e))) (srtG_old e)) fun q a1 a2=>⟨_,rfl,?_⟩) (args_list_sort _)))
  exact wpAny_pure ⟨_,rfl,g q a1 a2⟩
end
theorem two_of {α:Type}:∀ {l:List α},2≤l.length→∃ a b r,l=a :: b :: r
  | [],h=>absurd h (Nat.not_succ_le_zero 1)
  | [_],h=>absurd h (Nat.lt_irrefl 1)
  | a :: b :: r,_=>⟨a,b,r,rfl⟩
def rrI:Stg.RR:=⟨fun _=>0,fun p=>match p.1 with | .int n _=>n | _=>0⟩
theorem kg_int {xs:Array Keyed} {i:Nat}:Stg.Kg rrI xs i=PyProof.Rows.K xs i:=by
  unfold Stg.Kg PyProof.Rows.K
  cases xs[i]? with
  | none=>rfl
  | some p=>obtain ⟨v,u⟩:=p; cases v <;> rfl
def rSortedA (K:PySem.W.Frag):List V→Hp→VK→Prop:=fun xs H Q=>∃ (p:Addr) (ns:List Int),xs=[.ref p]∧SqL K H p (ns.map V.int)∧ns.length≤1000000 ∧
  ∀ (D:Addr) (os:List Int),H D=none→os.Perm ns→os.Pairwise (·≤·)→Q (.ref D) (upd H D (.lst (os.map V.int)))
variable {K:PySem.W.Frag} {X:Cx}
theorem call_sortedA (hK:X.K=K):CallR X (.builtin "sorted") (rSortedA K):=by
  subst hK
  intro pins s σ H xs us Q I r h
  obtain ⟨p,ns,rfl,hq,hz0,q⟩:=h
  obtain ⟨u,rfl,rx⟩:=vals1 r
  cases rx
  obtain ⟨its,rv,pl,hz⟩:=I.list hq
  have hv:=intsAre_of rv
  have lv:its.length=ns.length:=by have:=rv.length; rw [List.length_map] at this; exact this.symm
  refine sortedA (κ:=oneType') (ρ:=rrI) pl.isList (by omega) (fun two h' kp=>⟨fun E Q hQ=>?_,fun x mx y my E Q hQ=>?_⟩) fun st hp hs=>?_
  · obtain ⟨v1,v2,rest,e⟩:=two_of two
    rw [e] at hv ⊢
    rw [keyKind_ints hv]
    exact wpAny_pure hQ
  · obtain ⟨a,t,ea⟩:=hv.intKeys x mx
    obtain ⟨b,t',eb⟩:=hv.intKeys y my
    rw [ea,eb]
    refine PySem.W.kat_lt_int ?_
    have e1:rrI.g x=a:=by unfold rrI; dsimp only; rw [ea]
    have e2:rrI.g y=b:=by unfold rrI; dsimp only; rw [eb]
    rw [e1,e2] at hQ
    exact hQ
  · obtain ⟨ns',h1,h2,h3⟩:=sorted_out hv hp (fun i j hij hj=>by rw [← kg_int,← kg_int]; exact hs i j (Nat.zero_le _) hij hj)
    generalize (arrOf st).map (·.2)=out at *
    obtain ⟨e,he⟩:=sortedAll_at s.heap its out
    have hz2:(ns'.map V.int).length≤sizeLine:=by rw [List.length_map,h2.length_eq,sizeLine_eq]; omega
    have fr:H (s.heap.objs.size+1)=none:=I.hok.fresh (Nat.le_succ _)
    refine ⟨.ref (s.heap.objs.size+1),_,I.laid (a:=s.heap.objs.size+1) (t':=s.toks) (o:=.lst (ns'.map V.int)) (fun b o z=>sortedAll_old z) (Nat.le_succ _) ⟨hz2,out.toList,e,vals_ints h1,he⟩,rfl,q _ ns' fr h2 h3⟩
end L2
set_option Elab.async false
set_option linter.all false
set_option maxRecDepth 100000
set_option maxHeartbeats 1000000
namespace L2
open PySem PySem.Spec PyProof.Rows
def Itv (d:Addr) (o:Obj) (kvs:List (Key×V)):It :=
  ⟨fun i H=>H d=some (.frz o (.dK kvs))∧i<kvs.length,fun i H x H'=>H'=H∧∃ k,kvs[i]?=some (k,x),fun i H=>H d=some (.frz o (.dK kvs))∧kvs.length≤i⟩
theorem kv_at:∀ {kvs:List (Key×V)} {vs:List (Key×Value)},KV kvs vs→∀ {i:Nat} {k:Key} {v:Value},vs[i]?=some (k,v)→∃ x,kvs[i]?=some (k,x)∧RelV x v
  | _,_,.nil,i,k,v,h=>by simp at h
  | p :: r,q :: t,.cons a b,0,k,v,h=>by
    have e:q=(k,v):=by simpa using h
    subst e
    obtain ⟨p1,p2⟩:=p
    obtain ⟨h1,h2⟩:=a
    cases h1
    exact ⟨p2,rfl,h2⟩
  | p :: r,q :: t,.cons a b,i+1,k,v,h=>by
    obtain ⟨x,e,rx⟩:=kv_at b (i:=i) (by simpa using h)
    exact ⟨x,by simpa using e,rx⟩
theorem turn_dvals {P:Program} {w:World} {K:PySem.W.Frag} {tg:Expr} (d it:Addr) {o:Obj} {kvs:List (Key×V)} {es:Array DictEntry} {ep:Nat} (he:o.data=.dict es ep):Turn P w K tg (Itv d o kvs) [it] it (fun i h=>h.IsValIter it d i kvs.length ep) where
  mem:=by simp
  obj:=fun i h st b hb=>by
    have e:b=it:=by simpa using hb
    subst e
    obtain ⟨o,e,c,d⟩:=st
    exact ⟨o,e,fun v z=>by rw [d] at z; cases z⟩
  keep:=fun i h h' ⟨o,ho,x⟩ k=>⟨o,k it (by simp) o ho,x⟩
  item:=by
    intro X hP hw hK hc i pins s σ H E I hf st hg
    subst hP hw hK
    obtain ⟨hd,hi⟩:=hg
    obtain ⟨hs,vs,r,m⟩:=dict_at (I.hok d _ hd) he
    have hlen:=r.length
    rw [hlen] at st hi
    obtain ⟨f0,f1,f2,f3,f4,f5⟩:=hf it (by simp)
    obtain ⟨⟨k,v⟩,hx⟩:∃ p,vs[i]?=some p:=⟨vs[i],List.getElem?_eq_getElem hi⟩
    refine wpAny_pyNext_values_item st m hx fun h' st' sb=>?_
    have I1:Inv X pins σ H { s with heap:=h' }:=I.turned (t':=s.toks) (fun b o hb e=>(sb.2 b hb).trans e) f0 f1 f3 f4 f5
    obtain ⟨x,ex,rx⟩:=kv_at r hx
    refine ⟨v,rfl,letGo_valiter (s':={ s with heap:=h' }) st' ⟨x,H,I1,rx,⟨rfl,k,ex⟩,?_,fun b hb=>(hf b hb).1⟩⟩
    show h'.IsValIter it d (i+1) kvs.length ep
    rw [hlen]; exact st'
  done:=by
    intro X hP hw hK hc i pins s σ H E I hf st hg
    subst hP hw hK
    obtain ⟨hd,hi⟩:=hg
    obtain ⟨hs,vs,r,m⟩:=dict_at (I.hok d _ hd) he
    have hlen:=r.length
    rw [hlen] at st hi
    obtain ⟨f0,f1,f2,f3,f4,f5⟩:=hf it (by simp)
    exact wpAny_pyNext_values_end (I.ok.hd hc) st m (List.getElem?_eq_none_iff.mpr hi) fun h' eb=>⟨rfl,I.turned (t':=s.toks) (fun b o hb e=>eb b o hb e) f0 f1 f3 f4 f5⟩
  self:=fun _ _ _ _ _ st h=>wpAny_pyIter_valiter st h
section
variable {X:Cx} {tg:Expr}
def iDVals (tl:TE):TI:=fun σ H R=>tl σ H fun x H1=>∃ d kvs,x=.ref d∧H1 d=some (.dK kvs)∧∀ o,R (Itv d o kvs) (upd H1 d (.frz o (.dK kvs)))
theorem pi_dvals {l:Expr} {tl:TE} {apos cpos:Pos} (hl:PE X l tl) (hbase:attributeBase l "values" X.env (eval l X.env)=eval l X.env:=by rfl) (hline:(apos.endLine == cpos.line)=true:=by rfl):PI X tg (.Call (.Attribute l "values" apos) [] [] cpos) (iDVals tl):=by
  intro pins s σ H R I h
  refine wpAny_Call_method0_late hbase hline (thn (hl pins s σ H _ I h) fun v s1 ⟨x,H1,I1,r1,q1⟩=>?_)
  obtain ⟨d,kvs,e,hd,q⟩:=q1
  subst e
  cases r1
  obtain ⟨t1,t2,_⟩:=isD_at I1 (.inl ⟨kvs,.inl hd⟩)
  obtain ⟨hz,hs,vs,rv,dd⟩:=I1.hok d _ hd
  obtain ⟨ep,m⟩:=dd.dictAt
  obtain ⟨o,es,ho,hx,he,rest⟩:=id m
  refine ⟨"dict", "dict.values",PySem.F.plainAttrs_dict,PySem.F.slot_dict_values,PySem.F.type_dict_values,t1,t2,Calls.callWith_builtin rfl (PySem.evalArgs_none ?_)⟩
  refine call_meetsIn PySem.F.slot_dict_values t1 PySem.F.entry_dict_values (PySem.F.args_dict_values_1 _) (meets_dict_values (mixKind X.prog X.w) d hs) ⟨⟨vs,dd⟩,?_⟩
  generalize hh:s1.heap.push { cls:=.type "dict_values",data:=.fields #[.ref d] }=h2
  have up:∀ b o,s1.heap.get? b=some o→h2.get? b=some o:=fun b o e=>by rw [← hh]; exact Heap.get?_push_of_some _ e
  have sz:s1.heap.objs.size≤h2.objs.size:=by rw [← hh,Heap.size_push]; exact Nat.le_succ _
  have hv:h2.IsValuesView s1.heap.objs.size d:=by rw [← hh]; exact ⟨_,Heap.get?_push_size _ rfl,rfl,rfl⟩
  have I2:Inv X pins σ (upd H1 d (.frz o (.dK kvs))) { s1 with heap:=h2 }:=(I1.frozen hd ho).kept (t':=s1.toks) fun b o e=>up b o e
  have m2:h2.DictAt (mixKind X.prog X.w) d vs ep:=m.at' fun o e=>up d o e
  refine wpAny_pyIter_values (s:={ s1 with heap:=h2 }) hv m2 ?_
  refine ⟨h2.objs.size,[h2.objs.size],_,_,_,rfl,I2.kept (t':=s1.toks) fun b o e=>Heap.get?_push_of_some _ e,turn_dvals d _ (kvs:=kvs) he,?_,fun b hb=>?_,q o⟩
  · show Heap.IsValIter _ _ d 0 kvs.length ep
    rw [rv.length]
    exact ⟨_,Heap.get?_push_size _ rfl,rfl,rfl⟩
  · have e:b=h2.objs.size:=by simpa using hb
    subst e
    exact I2.fpOk (Nat.le_refl _) (I2.hok.fresh (Nat.le_refl _))
end
theorem for_dvals {d:Addr} {o:Obj} {kvs:List (Key×V)} {g:TG} {tb:TS} {D:Ends} {σ:St} {H:Hp} (Pv:Nat→St→Hp→Prop) (h0:Pv 0 σ H) (hl:∀ i σ H,i≤kvs.length→Pv i σ H→H d=some (.frz o (.dK kvs)))
    (hs:∀ i k v σ H,kvs[i]?=some (k,v)→Pv i σ H→g v σ H fun σ2 H2=>tb { D with nx:=Pv (i+1),ct:=Pv (i+1),bk:=D.nx } σ2 H2) (hd:∀ σ H,Pv kvs.length σ H→D.nx σ H) :
    ∃ W:Nat→Nat→St→Hp→Prop,(∃ m,W 0 m σ H)∧∀ i m σ H,W i m σ H →
      ((Itv d o kvs).stop i H∧D.nx σ H)∨((Itv d o kvs).go i H∧∃ N:St→Hp→Prop,(∀ σ' H',N σ' H'→∃ m',m'<m∧W (i+1) m' σ' H')∧∀ x H',(Itv d o kvs).yld i H x H'→g x σ H' fun σ2 H2=>tb { D with nx:=N,ct:=N,bk:=D.nx } σ2 H2):=by
  refine ⟨fun i m σ H=>m=kvs.length - i∧i≤kvs.length∧Pv i σ H,⟨kvs.length,by simp,Nat.zero_le _,h0⟩,?_⟩
  rintro i m σ H ⟨rfl,hi,p⟩
  have q:=hl i σ H hi p
  by_cases hlt:i<kvs.length
  · refine .inr ⟨⟨q,hlt⟩,Pv (i+1),fun σ' H' z=>⟨kvs.length - (i+1),by omega,rfl,by omega,z⟩,fun x H' z=>?_⟩
    obtain ⟨rfl,k,hkv⟩:=z
    exact hs i k x σ _ hkv p
  · have e:i=kvs.length:=by omega
    subst e
    exact .inl ⟨⟨q,Nat.le_refl _⟩,hd σ H p⟩
def tDSetd (td ty tx:TE):TE:=fun σ H Q=>td σ H fun x H1=>∃ a,x=.ref a∧IsD H1 a∧ty σ H1 fun y H2=>tx σ H2 fun z H3=>∃ kvs k,H3 a=some (.dK kvs)∧y=kV k∧kvs.length<sizeLine ∧
  (∀ v,valV kvs k=some v→Q v H3)∧(valV kvs k=none→Q z (upd H3 a (.dK (putK kvs k z))))
section
variable {X:Cx} {o e f:Expr} {apos cpos:Pos} {td ty tx:TE}
theorem pe_dsetd (ho:PE X o td) (he:PE X e ty) (hf:PE X f tx) (m:M2 X o "setdefault" apos e f cpos):PE X (.Call (.Attribute o "setdefault" apos) [e,f] [] cpos) (tDSetd td ty tx):=by
  intro pins s σ H Q I h
  refine wpAny_Call_method m.base m.few m.line PySem.F.plainAttrs_dict PySem.F.slot_dict_setdefault PySem.F.type_dict_setdefault (thn (ho pins s σ H _ I h) fun u s1 ⟨x,H1,I1,rx,a,ex,d,q1⟩=>?_)
  subst ex
  obtain rfl:u=Value.ref a:=rx
  obtain ⟨t1,t2,_⟩:=isD_at I1 d
  refine ⟨t1,t2,?_⟩
  rw [m.trees]
  refine Calls.callWith_builtin rfl (Calls.evalArgs_plain (Calls.spliced_cons (thn (he pins s1 σ H1 _ I1 q1) fun iv s2 ⟨y,H2,I2,ry,q2⟩ =>
    Calls.spliced_cons (thn (hf pins s2 σ H2 _ I2 q2) fun fv s3 ⟨z,H3,I3,rz,kvs,k,ea,ey,hlt,q3,q4⟩=>Calls.spliced_nil ?_))))
  subst ey
  obtain ⟨zz,hd,vs,rel,dd⟩:=dk_of I3.hok ea
  have hz:vs.length≤sizeLine:=by rw [← rel.length]; exact zz
  refine call_meetsIn PySem.F.slot_dict_setdefault dd.typeIs PySem.F.entry_dict_setdefault (PySem.F.args_dict_setdefault_3 _ _ _) (kt_meets_setdefault (mixKind X.prog X.w) a (kV_is ry) hd fv) ⟨vs,dd,hz,fun v hv=>?_,fun hn h' dd' hs=>?_⟩
  · have q:=rel.val k
    rw [hv] at q
    cases e:valV kvs k with
    | none=>rw [e] at q; cases RelO.none_of q
    | some w' =>
      rw [e] at q
      obtain ⟨u,eu,ru⟩:=q.some_of
      cases eu
      exact ⟨w',H3,I3.tok _,ru,q3 w' e⟩
  · have hn':valV kvs k=none:=by
      have q:=(rel.val k).isSome_eq
      rw [hn] at q
      cases e:valV kvs k with
      | none=>rfl
      | some _=>rw [e] at q; cases q
    have he:∃ q,h'.get? a=some q:=let ⟨q,_,_,hq,_⟩:=dd'; ⟨q,hq⟩
    have hl:(putK kvs k z).length≤sizeLine:=by have:=length_putK kvs k z; omega
    exact ⟨z,_,d_write I3 (by rw [ea]; exact True.intro) hs he (dk_new hl hd (rel.put k rz) dd'),rz,q4 hn'⟩
end
def ipL:TIp:=fun x y H Q=>∃ l b xs zs,x=.ref l∧y=.ref b∧H l=some (.lst xs)∧H b=some (.lst zs)∧xs.length+zs.length≤sizeLine∧Q (.ref l) (upd H l (.lst (xs++zs)))
theorem lookup_iadd:typeLookup (.type "list") (dunderI "add")=pure (some (.builtin "list.__iadd__")):=PySem.F.slot_list_iadd.lookup
theorem ip_ext {X:Cx}:PIp X .Add ipL:=by
  intro pins s σ H x y v u Q I rx ry h
  obtain ⟨l,b,xs,zs,rfl,rfl,hH,hB,hz,q⟩:=h
  cases rx
  cases ry
  obtain ⟨z,its,n,r,hl,e⟩:=I.lstM hH
  obtain ⟨z2,its2,n2,r2,hl2,e2⟩:=I.lstM hB
  have hsz:its.toArray.size+its2.toArray.size≤sizeLine:=by rw [List.size_toArray,List.size_toArray]; omega
  have hlong:¬ (!its.toArray.isEmpty && Builtin.List.listTooLong (its.toArray.size+its2.toArray.size))=true:=by
    rw [notLongL hsz,Bool.and_false]
    exact Bool.false_ne_true
  have T1:s.TypeIs (.ref l) "list" := ⟨_,e,rfl⟩
  have T2:s.TypeIs (.ref b) "list" := ⟨_,e2,rfl⟩
  unfold inplaceOp
  refine wpAny_holding ?_
  have hfi:fillsInplaceSlot (.type "list") "add" (Operator.Add == .Add)=pure false:=by
    show (typeLookup (.type "list") (dunderI "add") >>= _)=_
    rw [lookup_iadd]; rfl
  have hsi:seqSlot? (.type "list") (dunderI "add")=pure (some (.builtin "list.__iadd__")):=by
    unfold seqSlot?
    rw [lookup_iadd]; rfl
  refine wpAny_bind (wpAny_typeOf T1 (wpAny_bind (wpAny_of_eq hfi ?_)))
  rw [if_neg Bool.false_ne_true]
  refine wpAny_bind (wpAny_binaryOp1_none (nm := "add") T1 T2 noFill_list_add ?_)
  refine wpAny_bind (wpAny_of_eq hsi (wpAny_bind (wpAny_rule ?_)))
  refine call_meets PySem.F.slot_list_iadd T1 PySem.F.entry_list_iadd (PySem.F.args_list_iadd_2 _ _) (AutoSeq1.list___iadd___list_list_0 l its.toArray n b its2.toArray n2 hlong (by rw [List.size_toArray]; omega) (by omega)) ⟨e,e2,?_⟩
  refine ⟨.ref l,_,I.lset (its':=its++its2) hH e (by simp) (r.append r2) ?_,rfl,q⟩
  rw [List.length_append]
  omega
end L2
set_option Elab.async false
set_option linter.all false
set_option maxRecDepth 100000
set_option maxHeartbeats 4000000
namespace Mine
open PySem L2
def top (i:Nat):Stmt:=PySem.Challenge.pw_nearstairs_k21_marks_of_the_least_bound.main.body.getD i (.Pass ⟨0,0,0,0⟩)
abbrev s_shelf_of:Stmt:=top 1
abbrev N_shelf_of:List Str:=["shelves", "board"]
abbrev P_shelf_of:List Str:=["shelves", "board"]
theorem sc_shelf_of:FnScope N_shelf_of P_shelf_of (defScope s_shelf_of):=⟨rfl,rfl,rfl,by decide +kernel,rfl,by decide +kernel,by decide +kernel⟩
abbrev s_asked_again:Stmt:=top 3
abbrev N_asked_again:List Str:=["row", "told", "behind", "at", "board"]
abbrev P_asked_again:List Str:=["row"]
theorem sc_asked_again:FnScope N_asked_again P_asked_again (defScope s_asked_again):=⟨rfl,rfl,rfl,by decide +kernel,rfl,by decide +kernel,by decide +kernel⟩
abbrev s_returns_of:Stmt:=top 5
abbrev N_returns_of:List Str:=["row"]
abbrev P_returns_of:List Str:=["row"]
theorem sc_returns_of:FnScope N_returns_of P_returns_of (defScope s_returns_of):=⟨rfl,rfl,rfl,by decide +kernel,rfl,by decide +kernel,by decide +kernel⟩
abbrev s_places_by_shelf:Stmt:=top 6
abbrev N_places_by_shelf:List Str:=["shelves", "row", "told", "at", "board"]
abbrev P_places_by_shelf:List Str:=["shelves", "row"]
theorem sc_places_by_shelf:FnScope N_places_by_shelf P_places_by_shelf (defScope s_places_by_shelf):=⟨rfl,rfl,rfl,by decide +kernel,rfl,by decide +kernel,by decide +kernel⟩
abbrev s_cheapest_ahead:Stmt:=top 7
abbrev N_cheapest_ahead:List Str:=["again", "costs", "at", "within", "choices", "ahead"]
abbrev P_cheapest_ahead:List Str:=["again", "costs", "at"]
theorem sc_cheapest_ahead:FnScope N_cheapest_ahead P_cheapest_ahead (defScope s_cheapest_ahead):=⟨rfl,rfl,rfl,by decide +kernel,rfl,by decide +kernel,by decide +kernel⟩
abbrev s_least_marks:Stmt:=top 8
abbrev N_least_marks:List Str:=["fee", "row", "again", "costs", "aheads", "at", "cost", "ahead", "marks", "mark"]
abbrev P_least_marks:List Str:=["fee", "row"]
theorem sc_least_marks:FnScope N_least_marks P_least_marks (defScope s_least_marks):=⟨rfl,rfl,rfl,by decide +kernel,rfl,by decide +kernel,by decide +kernel⟩
abbrev s_is_marked:Stmt:=top 10
abbrev N_is_marked:List Str:=["shelves", "row", "marks", "first", "last", "shelf"]
abbrev P_is_marked:List Str:=["shelves", "row", "marks", "first", "last"]
theorem sc_is_marked:FnScope N_is_marked P_is_marked (defScope s_is_marked):=⟨rfl,rfl,rfl,by decide +kernel,rfl,by decide +kernel,by decide +kernel⟩
abbrev s_bound:Stmt:=top 11
abbrev N_bound:List Str:=["shelves", "places", "row", "marks", "free"]
abbrev P_bound:List Str:=["shelves", "places", "row", "marks"]
theorem sc_bound:FnScope N_bound P_bound (defScope s_bound):=⟨rfl,rfl,rfl,by decide +kernel,rfl,by decide +kernel,by decide +kernel⟩
abbrev s_marks_of:Stmt:=top 12
abbrev N_marks_of:List Str:=["shelves", "places", "row", "marks", "spots", "asked"]
abbrev P_marks_of:List Str:=["shelves", "places", "row"]
theorem sc_marks_of:FnScope N_marks_of P_marks_of (defScope s_marks_of):=⟨rfl,rfl,rfl,by decide +kernel,rfl,by decide +kernel,by decide +kernel⟩
abbrev s_box:Stmt:=top 14
abbrev N_box:List Str:=["_law_script", "_law_k", "_law_cell"]
abbrev P_box:List Str:=["_law_script", "_law_k"]
theorem sc_box:FnScope N_box P_box (defScope s_box):=⟨rfl,rfl,rfl,by decide +kernel,rfl,by decide +kernel,by decide +kernel⟩
abbrev s_take:Stmt:=top 15
abbrev N_take:List Str:=["_law_box_here", "_law_size", "_law_found", "_law_step", "_law_once", "_law_twice"]
abbrev P_take:List Str:=["_law_box_here", "_law_size"]
theorem sc_take:FnScope N_take P_take (defScope s_take):=⟨rfl,rfl,rfl,by decide +kernel,rfl,by decide +kernel,by decide +kernel⟩
abbrev s_folded:Stmt:=top 16
abbrev N_folded:List Str:=["_law_script", "_law_size", "_law_cells", "_law_k", "_law_cell"]
abbrev P_folded:List Str:=["_law_script", "_law_size"]
theorem sc_folded:FnScope N_folded P_folded (defScope s_folded):=⟨rfl,rfl,rfl,by decide +kernel,rfl,by decide +kernel,by decide +kernel⟩
abbrev s_some_boards:Stmt:=top 17
abbrev N_some_boards:List Str:=["_law_box_here", "_law_size", "_law_many", "_law_way", "_law_begin", "_law_first", "_law_found", "_law_far", "_law_k", "_law_at"]
abbrev P_some_boards:List Str:=["_law_box_here", "_law_size"]
theorem sc_some_boards:FnScope N_some_boards P_some_boards (defScope s_some_boards):=⟨rfl,rfl,rfl,by decide +kernel,rfl,by decide +kernel,by decide +kernel⟩
abbrev s_shape:Stmt:=top 18
abbrev N_shape:List Str:=["_law_box_here", "_law_far", "_law_shelves"]
abbrev P_shape:List Str:=["_law_box_here"]
theorem sc_shape:FnScope N_shape P_shape (defScope s_shape):=⟨rfl,rfl,rfl,by decide +kernel,rfl,by decide +kernel,by decide +kernel⟩
abbrev s_asked:Stmt:=top 19
abbrev N_asked:List Str:=["_law_box_here", "_law_few", "_law_most", "_law_some", "_law_size", "_law_way", "_law_found", "_law_k", "_law_drawn", "_law_back", "_law_turned", "_law_often"]
abbrev P_asked:List Str:=["_law_box_here", "_law_few", "_law_most"]
theorem sc_asked:FnScope N_asked P_asked (defScope s_asked):=⟨rfl,rfl,rfl,by decide +kernel,rfl,by decide +kernel,by decide +kernel⟩
abbrev s_few_asked:Stmt:=top 20
abbrev N_few_asked:List Str:=["_law_box_here", "_law_some"]
abbrev P_few_asked:List Str:=["_law_box_here"]
theorem sc_few_asked:FnScope N_few_asked P_few_asked (defScope s_few_asked):=⟨rfl,rfl,rfl,by decide +kernel,rfl,by decide +kernel,by decide +kernel⟩
abbrev s_small:Stmt:=top 21
abbrev N_small:List Str:=["_law_box_here", "_law_shelves", "_law_places"]
abbrev P_small:List Str:=["_law_box_here"]
theorem sc_small:FnScope N_small P_small (defScope s_small):=⟨rfl,rfl,rfl,by decide +kernel,rfl,by decide +kernel,by decide +kernel⟩
abbrev s_l_bound:Stmt:=top 22
abbrev N_l_bound:List Str:=["_law_shelves", "_law_places", "_law_row", "_law_marks", "_law_found", "_law_j", "_law_board", "_law_behind", "_law_over"]
abbrev P_l_bound:List Str:=["_law_shelves", "_law_places", "_law_row", "_law_marks"]
theorem sc_l_bound:FnScope N_l_bound P_l_bound (defScope s_l_bound):=⟨rfl,rfl,rfl,by decide +kernel,rfl,by decide +kernel,by decide +kernel⟩
abbrev s_some_marks:Stmt:=top 23
abbrev N_some_marks:List Str:=["_law_box_here", "_law_row", "_law_way", "_law_found", "_law_place"]
abbrev P_some_marks:List Str:=["_law_box_here", "_law_row"]
theorem sc_some_marks:FnScope N_some_marks P_some_marks (defScope s_some_marks):=⟨rfl,rfl,rfl,by decide +kernel,rfl,by decide +kernel,by decide +kernel⟩
abbrev s_are_marks:Stmt:=top 24
abbrev N_are_marks:List Str:=["_law_row", "_law_marks"]
abbrev P_are_marks:List Str:=["_law_row", "_law_marks"]
theorem sc_are_marks:FnScope N_are_marks P_are_marks (defScope s_are_marks):=⟨rfl,rfl,rfl,by decide +kernel,rfl,by decide +kernel,by decide +kernel⟩
abbrev s_sets:Stmt:=top 25
abbrev N_sets:List Str:=["_law_row", "_law_found", "_law_place"]
abbrev P_sets:List Str:=["_law_row"]
theorem sc_sets:FnScope N_sets P_sets (defScope s_sets):=⟨rfl,rfl,rfl,by decide +kernel,rfl,by decide +kernel,by decide +kernel⟩
abbrev s_right:Stmt:=top 26
abbrev N_right:List Str:=["_law_box_here", "_law_shelves", "_law_places", "_law_row", "_law_marks", "_law_least", "_law_rule", "_law_handed_row", "_law_kept", "_law_others", "_law_turn", "_law_at"]
abbrev P_right:List Str:=["_law_box_here"]
theorem sc_right:FnScope N_right P_right (defScope s_right):=⟨rfl,rfl,rfl,by decide +kernel,rfl,by decide +kernel,by decide +kernel⟩
abbrev s_law:Stmt:=top 27
abbrev N_law:List Str:=["_law_script", "_law_cells"]
abbrev P_law:List Str:=["_law_script"]
theorem sc_law:FnScope N_law P_law (defScope s_law):=⟨rfl,rfl,rfl,by decide +kernel,rfl,by decide +kernel,by decide +kernel⟩
structure Txt (K:PySem.W.Frag) (mg:Str→Option Value):Prop where
  z_abs:mg "abs" = none
  z_all:mg "all" = none
  z_any:mg "any" = none
  z_bool:mg "bool" = none
  z_divmod:mg "divmod" = none
  z_enumerate:mg "enumerate" = none
  z_int:mg "int" = none
  z_isinstance:mg "isinstance" = none
  z_len:mg "len" = none
  z_list:mg "list" = none
  z_max:mg "max" = none
  z_min:mg "min" = none
  z_range:mg "range" = none
  z_sorted:mg "sorted" = none
  z_zip:mg "zip" = none
structure BoxAt (H:Hp) (b:Addr) (a q c:Int):Prop where
  at':H b=some (.lst [.int a,.int q,.int c])
  a0:0≤a
  q0:0≤q
  q1:q<2147483647
  c0:0≤c
theorem BoxAt.sb {H H':Hp} {b x:Addr} {a q c:Int} (B:BoxAt H b a q c) (s:SB x H H') (n:b≠x):BoxAt H' b a q c:=⟨s _ _ n B.at',B.a0,B.q0,B.q1,B.c0⟩
theorem BoxAt.same {H H':Hp} {b:Addr} {a q c:Int} (B:BoxAt H b a q c) (s:Same H H'):BoxAt H' b a q c:=⟨s _ _ B.at',B.a0,B.q0,B.q1,B.c0⟩
def spTake:Sp:=fun vs H Q _=>∃ (b:Addr) (a q c n:Int),vs=[.ref b,.int n]∧BoxAt H b a q c∧c<1099511627776∧0<n∧n<1073741824 ∧
  ∀ (r a' c':Int) (H':Hp),0≤r→r<n→BoxAt H' b a' q c'→c'≤c+1→SB b H H'→Q (.int r) H'
section
variable {P:Program} {w:World} {K:PySem.W.Frag} {mg:Str→Option Value} {base:Heap}
theorem em0 (a:Int) {b:Int} (h:0<b):0≤a % b:=Int.emod_nonneg a (by omega)
theorem em1 (a:Int) {b:Int} (h:0<b):a % b<b:=Int.emod_lt_of_pos a h
theorem ok_take {f:Addr} {fd:FuncData} (F:Fun K "_law_take" "_law_take" s_take f fd) (T:Txt K mg):FnOk P w K mg base CX0 1 f fd P_take spTake:=by
  refine F.ok sc_take (fun vs H Q E h=>?_) (fun cdv A outer s H vs Q E hr h=>?_)
  · obtain ⟨b,a,q,c,n,rfl,_⟩:=h
    rfl
  obtain ⟨b,a,q,c,n,rfl,B,hc,hn0,hn1,k⟩:=h
  have nd:=sc_take.nd
  refine ⟨_,(pss_cons (ps_if (pt_cmpR op_gt (pe_ix (ix_listK (K:=K) rfl) (pv 0) pe_int (fun _ _=>rfl)) pe_int (nomark _)) (pss_cons (ps_asg (pe_callBN call_divmod rfl T.z_divmod boot_divmod (pc (pe_ix (ix_listK (K:=K) rfl) (pv 0) pe_int (fun _ _=>rfl)) (pc (pv 1) pa_nil))) (pg_tupK (K:=K) (n:=2) rfl rfl (pgs_cons (pg_sub (pv 0) pe_int set_list) (pgs_cons (pgn 2 nd) pgs_nil))))
      (pss_one (ps_ret (pv 2)))) pss_nil)
      (pss_cons (ps_asg (pe_op op_add (pe_ix (ix_listK (K:=K) rfl) (pv 0) pe_int (fun _ _=>rfl)) pe_int) (pg_sub (pv 0) pe_int set_list))
      (pss_cons (pst 3 nd (pe_op op_add pe_int (pe_op op_mul (pe_ix (ix_listK (K:=K) rfl) (pv 0) pe_int (fun _ _=>rfl)) (pe_ix (ix_listK (K:=K) rfl) (pv 0) pe_int (fun _ _=>rfl)))))
      (pss_cons (pst 4 nd (pe_op op_mod (pe_op op_mul (pe_op op_add (pe_ix (ix_listK (K:=K) rfl) (pv 0) pe_int (fun _ _=>rfl)) (pe_op op_mul pe_int (pe_ix (ix_listK (K:=K) rfl) (pv 0) pe_int (fun _ _=>rfl)))) (pv 3)) pe_int))
      (pss_cons (pst 5 nd (pe_op op_mod (pe_op op_add (pe_op op_mul (pv 4) (pe_op op_add (pe_op op_mod (pv 4) pe_int) pe_int)) (pe_ix (ix_listK (K:=K) rfl) (pv 0) pe_int (fun _ _=>rfl))) pe_int))
      (pss_one (ps_ret (pe_op op_mod (pe_op op_fdiv (pe_op op_mod (pe_op op_mul (pv 5) (pe_op op_add (pe_op op_mod (pv 5) pe_int) pe_int)) pe_int) pe_int) (pv 1))))))))),?_⟩
  have hb:=B.at'
  have hc0:=B.c0
  have hq0:=B.q0
  have hq1:=B.q1
  refine ⟨_,rfl,b,_,_,_,rfl,rfl,SqL.of hb,atI0,_,_,rfl,rfl,_,rfl,?_⟩
  refine ite_dec (fun ha=>?_) (fun ha=>?_)
  · refine ⟨_,rfl,b,_,_,_,rfl,rfl,SqL.of hb,atI0,_,rfl,_,_,rfl,⟨hn0,hn1⟩,fun p hp=>?_⟩
    have hbp:upd H p (.tup [.int (a / n),.int (a % n)]) b=some (.lst [.int a,.int q,.int c]):=by rw [upd_ne (ne_of_none hb hp)]; exact hb
    refine ⟨p,_,rfl,SqT.of upd_same,rfl,_,_,rfl,⟨_,rfl,b,_,_,0,rfl,rfl,hbp,rfl,?_⟩⟩
    refine ⟨_,_,rfl,rfl,_,rfl,?_⟩
    exact k _ (a / n) c _ (em0 _ hn0) (em1 _ hn0) ⟨upd_same,Int.ediv_nonneg B.a0 (by omega),hq0,hq1,hc0⟩ (by omega) ((same_upd hp _).sb b |>.trans (sb_upd b _ _))
  · refine ⟨_,rfl,b,_,_,_,rfl,rfl,SqL.of hb,atI2,_,_,rfl,rfl,_,rfl,b,_,_,2,rfl,rfl,hb,rfl,?_⟩
    have hb1:upd H b (.lst [.int a,.int q,.int (c+1)]) b=some (.lst [.int a,.int q,.int (c+1)]):=upd_same
    have i0:SqL K (upd H b (.lst [.int a,.int q,.int (c+1)])) b [.int a,.int q,.int (c+1)]:=SqL.of hb1
    refine ⟨_,rfl,b,_,_,_,rfl,rfl,i0,atI2,_,rfl,b,_,_,_,rfl,rfl,i0,atI2,_,_,rfl,rfl,.inl ⟨by omega,by omega⟩,_,_,rfl,rfl,?_⟩
    refine ⟨_,rfl,b,_,_,_,rfl,rfl,i0,atI1,_,rfl,b,_,_,_,rfl,rfl,i0,atI2,_,_,rfl,rfl,.inl ⟨by decide,by decide⟩,_,_,rfl,rfl,_,rfl,_,_,rfl,rfl,.inl ⟨by omega,by omega⟩,_,_,rfl,rfl,(by show (0:Int)<_; decide),?_⟩
    generalize hon:(q+39373 * (c+1)) * (69621+(c+1) * (c+1)) % 2147483587=on
    have on0:0≤on:=by rw [← hon]; exact em0 _ (by decide)
    have on1:on<2147483587:=by rw [← hon]; exact em1 _ (by decide)
    refine ⟨_,rfl,_,rfl,_,_,rfl,rfl,(by show (0:Int)<_; decide),_,_,rfl,rfl,_,_,rfl,rfl,.inl ⟨by omega,by omega⟩,_,rfl,b,_,_,_,rfl,rfl,i0,atI2,_,_,rfl,rfl,_,_,rfl,rfl,(by show (0:Int)<_; decide),?_⟩
    generalize htw:(on * (on % 30011+5)+(c+1)) % 2147483563=tw
    have tw0:0≤tw:=by rw [← htw]; exact em0 _ (by decide)
    have tw1:tw<2147483563:=by rw [← htw]; exact em1 _ (by decide)
    refine ⟨_,rfl,_,rfl,_,_,rfl,rfl,(by show (0:Int)<_; decide),_,_,rfl,rfl,_,_,rfl,rfl,.inl ⟨by omega,by omega⟩,_,_,rfl,rfl,(by show (0:Int)<_; decide),_,_,rfl,rfl,⟨by decide,by decide⟩,_,rfl,_,_,rfl,rfl,hn0,?_⟩
    exact k _ a (c+1) _ (em0 _ hn0) (em1 _ hn0) ⟨hb1,B.a0,hq0,hq1,by omega⟩ (by omega) (sb_upd b _ _)
end
section
variable {P:Program} {w:World} {K:PySem.W.Frag} {mg:Str→Option Value} {base:Heap}
def spBox (K:PySem.W.Frag):Sp:=fun vs H Q _=>∃ (l:Addr) (ns:List Int) (k:Int),vs=[.ref l,.int k]∧SqL K H l (ns.map V.int)∧0≤k∧k<1000000 ∧
  ∀ (r:Addr) (a q:Int) (H':Hp),H r=none→Same H H'→BoxAt H' r a q 0→Q (.ref r) H'
theorem ite01 (b:Bool) : -(2 ^ 64)<(if b then 1 else 0:Int)∧(if b then 1 else 0:Int)<2 ^ 64:=by cases b <;> decide
theorem atI_ints {ns:List Int} {k:Int} (h0:0≤k) (h:k<(ns.length:Int)):∃ v:Int,atI (ns.map V.int) k=some (.int v):=by
  have hk:k.toNat<ns.length:=by omega
  have q:atI (ns.map V.int) ((k.toNat:Nat):Int)=some (.int ns[k.toNat]):=atI_nat (by rw [List.getElem?_map,List.getElem?_eq_getElem hk] <;> rfl)
  rw [show ((k.toNat:Nat):Int)=k by omega] at q
  exact ⟨_,q⟩
theorem abs_nn (i:Int):0≤(if i<0 then -i else i):=by split <;> omega
theorem abs_mul (i:Int) (b:Bool):0≤(if i<0 then -i else i) * (if b then 1 else 0:Int):=Int.mul_nonneg (abs_nn i) (by cases b <;> decide)
theorem ok_box {f:Addr} {fd:FuncData} (F:Fun K "_law_box" "_law_box" s_box f fd) (T:Txt K mg):FnOk P w K mg base CX0 1 f fd P_box (spBox K):=by
  refine F.ok sc_box (fun vs H Q E h=>?_) (fun cdv A outer s H vs Q E hr h=>?_)
  · obtain ⟨l,ns,k,rfl,_⟩:=h
    rfl
  obtain ⟨l,ns,k,rfl,hS,hk0,hk1,kk⟩:=h
  have nd:=sc_box.nd
  refine ⟨_,(pss_cons (pst 2 nd (pe_ifExp (pt_cmpR op_lt (pv 1) (pe_callBN (call_len_seqK (K:=K) rfl) rfl T.z_len PySem.boot_len (pc (pv 0) pa_nil)) (nomark _)) (pe_ix (ix_listK (K:=K) rfl) (pv 0) (pv 1) (fun _ _=>rfl)) pe_int))
      (pss_one (ps_ret (pe_lst (pc (pe_op op_mul (pe_callBN call_abs rfl T.z_abs boot_abs (pc (pv 2) pa_nil)) (pe_callTyN call_int1 rfl T.z_int boot_intT (pc (pe_cmpR op_ge (pe_callBN call_abs rfl T.z_abs boot_abs (pc (pv 2) pa_nil)) (pe_op op_pow pe_int pe_int) (nomark _)) pa_nil))) (pc (pe_op op_mod (pe_op op_mul (pe_op op_add (pe_op op_add (pe_op op_mod (pv 2) pe_int) (pe_op op_mul pe_int (pv 1))) pe_int) pe_int) pe_int) (pc pe_int pa_nil))))))),?_⟩
  refine ⟨_,rfl,_,rfl,l,_,rfl,.inl hS,_,_,rfl,rfl,_,rfl,?_⟩
  refine ite_dec (fun c=>?_) (fun c=>?_)
  · rw [List.length_map] at c
    obtain ⟨v,hv⟩:=atI_ints hk0 c
    refine ⟨_,rfl,_,rfl,l,_,_,_,rfl,rfl,hS,hv,?_⟩
    refine ⟨_,rfl,_,rfl,_,rfl,_,rfl,_,_,rfl,rfl,⟨by decide,by decide,by decide⟩,_,_,rfl,rfl,.inr ⟨_,rfl,_,_,rfl,rfl,.inr (ite01 _),?_⟩⟩
    refine ⟨_,rfl,_,_,rfl,rfl,(by show (0:Int)<_; decide),_,rfl,_,_,rfl,rfl,.inl ⟨by decide,by decide⟩,_,_,rfl,rfl,_,_,rfl,rfl,_,_,rfl,rfl,.inr ⟨by decide,by decide⟩,_,_,rfl,rfl,(by show (0:Int)<_; decide),(by show 3≤sizeLine; decide),fun r hr=>?_⟩
    exact kk r _ _ _ hr (same_upd hr _) ⟨upd_same,abs_mul _ _,em0 _ (by decide),em1 _ (by decide),Int.le_refl _⟩
  · refine ⟨_,rfl,_,rfl,_,rfl,_,rfl,_,_,rfl,rfl,⟨by decide,by decide,by decide⟩,_,_,rfl,rfl,.inr ⟨_,rfl,_,_,rfl,rfl,.inr (ite01 _),?_⟩⟩
    refine ⟨_,rfl,_,_,rfl,rfl,(by show (0:Int)<_; decide),_,rfl,_,_,rfl,rfl,.inl ⟨by decide,by decide⟩,_,_,rfl,rfl,_,_,rfl,rfl,_,_,rfl,rfl,.inr ⟨by decide,by decide⟩,_,_,rfl,rfl,(by show (0:Int)<_; decide),(by show 3≤sizeLine; decide),fun r hr=>?_⟩
    exact kk r _ _ _ hr (same_upd hr _) ⟨upd_same,abs_mul _ _,em0 _ (by decide),em1 _ (by decide),Int.le_refl _⟩
def spFolded (K:PySem.W.Frag):Sp:=fun vs H Q _=>∃ (a:Addr) (ns:List Int) (n:Nat),vs=[.ref a,.int (n:Int)]∧SqL K H a (ns.map V.int)∧ns.length≤63∧0<n∧n≤63 ∧
  ∀ (r:Addr) (ms:List Int) (H':Hp),H r=none→Same H H'→H' r=some (.lst (ms.map V.int))→ms.length=min n ns.length→Q (.ref r) H'
theorem cut_map (ns:List Int) (lo hi:Option Int):cutV (ns.map V.int) lo hi=((ns.drop (HT.sIx ns.length 0 lo)).take (HT.sIx ns.length ns.length hi - HT.sIx ns.length 0 lo)).map V.int:=by
  unfold cutV
  rw [List.length_map,← List.map_drop,← List.map_take]
theorem set_ints (ms:List Int) (j:Nat) (v:Int):(ms.map V.int).set j (.int v)=(ms.set j v).map V.int:=by rw [List.map_set]
theorem ixN_ok {n:Nat} {i:Int} (h0:0≤i) (h:i<n):ixN n i=some i.toNat:=by unfold ixN; rw [if_pos h0,if_pos h]
theorem ms_get {ms:List Int} {i:Nat} {x:V} (h:(ms.map V.int)[i]?=some x):∃ z,x=V.int z∧i<ms.length:=by
  rw [List.getElem?_map] at h
  cases e:ms[i]? with
  | none=>rw [e] at h; cases h
  | some z=>rw [e] at h; exact ⟨z,(Option.some.inj h).symm,(List.getElem?_eq_some_iff.mp e).1⟩
theorem ok_folded {f:Addr} {fd:FuncData} (F:Fun K "_law_folded" "_law_folded" s_folded f fd) (T:Txt K mg):FnOk P w K mg base CX0 1 f fd P_folded (spFolded K):=by
  refine F.ok sc_folded (fun vs H Q E h=>?_) (fun cdv A outer s H vs Q E hr h=>?_)
  · obtain ⟨a,ns,n,rfl,_⟩:=h
    rfl
  obtain ⟨a,ns,n,rfl,hS,h63,hn0,hn1,k⟩:=h
  have nd:=sc_folded.nd
  refine ⟨_,(pss_cons (pst 2 nd (pe_callTyN (call_list_ofK (K:=K) rfl) rfl T.z_list boot_listT (pc (pe_slice (sl_listK (K:=K) rfl) (pv 0) po_none (po_some (pv 1))) pa_nil)))
      (pss_cons (ps_for PassesOwn.never rfl (pi_enum rfl T.z_enumerate (pc (pe_slice (sl_listK (K:=K) rfl) (pv 0) (po_some (pv 1)) (po_some pe_int)) pa_nil)) (pg_tupK (K:=K) (n:=2) rfl rfl (pgs_cons (pgn 3 nd) (pgs_cons (pgn 4 nd) pgs_nil))) (pss_one (ps_asg (pe_op op_add (pe_ix (ix_listK (K:=K) rfl) (pv 2) (pe_op op_mod (pv 3) (pv 1)) (fun _ _=>rfl)) (pe_op op_mul (pv 4) (pe_op op_add (pv 3) pe_int))) (pg_sub (pv 2) (pe_op op_mod (pv 3) (pv 1)) set_list))))
      (pss_one (ps_ret (pv 2))))),?_⟩
  refine ⟨_,rfl,_,rfl,_,rfl,a,_,rfl,hS,fun p hp=>?_⟩
  have s1:=same_upd hp (.lst (cutV (ns.map V.int) none (some (n:Int))))
  refine ⟨p,_,rfl,.inl (SqL.of upd_same),fun r hr1=>?_⟩
  have s2:=s1.trans (same_upd hr1 (.lst (cutV (ns.map V.int) none (some (n:Int)))))
  have hrH:H r=none:=s1.free hr1
  rw [cut_map] at *
  generalize hms:(ns.drop (HT.sIx ns.length 0 none)).take (HT.sIx ns.length ns.length (some (n:Int)) - HT.sIx ns.length 0 none)=ms at *
  have lms:ms.length=min n ns.length:=by
    rw [← hms,HT.sIx_none,HT.sIx_nat,List.length_take,List.length_drop]; omega
  generalize hH2:upd (upd H p (.lst (ms.map V.int))) r (.lst (ms.map V.int))=H2 at *
  have h2r:H2 r=some (.lst (ms.map V.int)):=by rw [← hH2]; exact upd_same
  refine ⟨_,rfl,_,rfl,_,rfl,_,rfl,a,_,rfl,s2.seq hS,fun t ht=>?_⟩
  rw [cut_map]
  generalize hws:(ns.drop (HT.sIx ns.length 0 (some (n:Int)))).take (HT.sIx ns.length ns.length (some 63) - HT.sIx ns.length 0 (some (n:Int)))=ws
  have lws:0<ws.length→n<ns.length:=fun h=>by
    rw [← hws,List.length_take,List.length_drop,HT.sIx_nat] at h; omega
  have lw63:ws.length≤63:=by rw [← hws,List.length_take,List.length_drop]; omega
  have s3:=s2.trans (same_upd ht (.lst (ws.map V.int)))
  have nrt:r≠t:=ne_of_none h2r ht
  refine ⟨t,rfl,⟨_,SqL.of upd_same⟩,for_enum (K:=K) (a:=t) (xs:=ws.map V.int) (fun i σ H'=>∃ (ms':List Int) (v3 v4:Option V),σ=[some (.ref a),some (.int n),some (.ref r),v3,v4]∧ms'.length=min n ns.length∧H' r=some (.lst (ms'.map V.int))∧H' t=some (.lst (ws.map V.int))∧Same H H')
    ⟨ms,none,none,rfl,lms,by rw [upd_ne nrt]; exact h2r,upd_same,s3⟩ (fun i σ H' _ ⟨_,_,_,_,_,_,q,_⟩=>SqL.of q) ?_ ?_⟩
  · rintro i x u σ H' hi ⟨ms',v3,v4,rfl,lm,h1,h2,s4⟩ hu
    obtain ⟨z,rfl,hlt⟩:=ms_get hi
    have hnl:=lws (by omega)
    have s5:=same_upd hu (.tup [.int (i:Int),.int z])
    refine ⟨u,_,rfl,SqT.of upd_same,rfl,_,_,rfl,_,_,rfl,rfl,?_⟩
    have m0:0≤(i:Int) % (n:Int):=em0 _ (by omega)
    have m1:(i:Int) % (n:Int)<(n:Int):=em1 _ (by omega)
    obtain ⟨v,hv⟩:=atI_ints (ns:=ms') m0 (by omega)
    refine ⟨_,rfl,_,rfl,_,rfl,_,_,rfl,rfl,(by show (0:Int)<_; omega),r,_,_,_,rfl,rfl,SqL.of (s5 _ _ h1),hv,?_⟩
    refine ⟨_,rfl,_,rfl,_,_,rfl,rfl,_,_,rfl,rfl,.inr ⟨by omega,by omega⟩,_,_,rfl,rfl,?_⟩
    refine ⟨_,rfl,_,rfl,_,rfl,_,_,rfl,rfl,(by show (0:Int)<_; omega),r,_,_,((i:Int) % (n:Int)).toNat,rfl,rfl,s5 _ _ h1,ixN_ok m0 (by rw [List.length_map]; omega),?_⟩
    refine ⟨ms'.set ((i:Int) % (n:Int)).toNat (v+z * ((i:Int)+2)),_,_,rfl,by rw [List.length_set]; exact lm,by rw [upd_same,set_ints],?_,?_⟩
    · rw [upd_ne (Ne.symm nrt)]; exact s5 _ _ h2
    · intro b o e
      rw [upd_ne (ne_of_none e hrH)]
      exact s5 _ _ (s4 _ _ e)
  · rintro σ H' ⟨ms',v3,v4,rfl,lm,h1,h2,s4⟩
    exact ⟨_,rfl,k r ms' H' hrH s4 h1 lm⟩
end
theorem hide {t u:TS} {D:Ends} {σ:St} {H:Hp} (h:∀ u',u'=u→tSeq t u' D σ H):tSeq t u D σ H:=h u rfl
theorem cpE {te:TE} {σ:St} {H:Hp} {Q:VK} (Post:V→Hp→Prop) (h1:∀ Q':VK,(∀ v H1,Post v H1→Q' v H1)→te σ H Q') (h2:∀ v H1,Post v H1→Q v H1):te σ H Q:=h1 Q h2
theorem cpA {te:TE} {g:TG} {u:TS} {D:Ends} {σ:St} {H:Hp} (Post:V→Hp→Prop) (h1:∀ Q':VK,(∀ v H1,Post v H1→Q' v H1)→te σ H Q') (h2:∀ v H1,Post v H1→g v σ H1 (u D)):tSeq (tAsg te g) u D σ H:=h1 _ h2
theorem cpI {ts u:TS} {D:Ends} {σ:St} {H:Hp} (Post:St→Hp→Prop) (h1:∀ D':Ends,D'.rt=D.rt→(∀ σ1 H1,Post σ1 H1→D'.nx σ1 H1)→ts D' σ H) (h2:∀ σ1 H1,Post σ1 H1→u D σ1 H1):tSeq ts u D σ H:=h1 _ rfl h2
theorem cpIf {tt:TT} {ta tb:TE} {σ:St} {H:Hp} {Q:VK} (Post:Bool→Hp→Prop) (h1:∀ Q':Bool→Hp→Prop,(∀ v H1,Post v H1→Q' v H1)→tt σ H Q') (h2:∀ c H1,Post c H1→if c=true then ta σ H1 Q else tb σ H1 Q):tIf tt ta tb σ H Q:=h1 _ h2
theorem cpIfS {tt:TT} {ta tb:TS} {D:Ends} {σ:St} {H:Hp} (Post:Bool→Hp→Prop) (h1:∀ Q':Bool→Hp→Prop,(∀ v H1,Post v H1→Q' v H1)→tt σ H Q') (h2:∀ c H1,Post c H1→if c=true then ta D σ H1 else tb D σ H1):tIfS tt ta tb D σ H:=h1 _ h2
theorem cpOr {t u:TT} {σ:St} {H:Hp} {Q:Bool→Hp→Prop} (Post:Bool→Hp→Prop) (h1:∀ Q':Bool→Hp→Prop,(∀ v H1,Post v H1→Q' v H1)→t σ H Q') (h2:∀ c H1,Post c H1→if c=true then Q true H1 else u σ H1 Q):tOr t u σ H Q:=h1 _ h2
theorem sb_fresh {b l:Addr} {H G:Hp} {xs:List V} (s:SB b H G) (hb:G b=some (.lst xs)) (hl:G l=none):H l=none:=by
  cases e:H l with
  | none=>rfl
  | some o =>
    by_cases h:l=b
    · rw [h,hb] at hl; cases hl
    · rw [s _ _ h e] at hl; cases hl
theorem at_mem {ns:List Int} {k:Int} (h0:0≤k) (h:k<(ns.length:Int)):∃ v:Int,atI (ns.map V.int) k=some (.int v)∧v∈ns:=by
  have hk:k.toNat<ns.length:=by omega
  have q:atI (ns.map V.int) ((k.toNat:Nat):Int)=some (.int ns[k.toNat]):=atI_nat (by rw [List.getElem?_map,List.getElem?_eq_getElem hk] <;> rfl)
  rw [show ((k.toNat:Nat):Int)=k by omega] at q
  exact ⟨_,q,List.getElem_mem hk⟩
theorem ints_flat (ns:List Int):(ns.map V.int).all flatV=true:=by
  rw [List.all_eq_true]
  intro x hx
  obtain ⟨n,_,rfl⟩:=List.mem_map.mp hx
  rfl
theorem ixN_last {n:Nat} (h:0<n):ixN n (-1)=some (n - 1):=by
  unfold ixN
  rw [if_neg (by decide),if_pos (by omega)]
  congr 1
  omega
theorem mem_set {ns:List Int} {j:Nat} {v x:Int} (h:x∈ns.set j v):x∈ns∨x=v:=by
  rcases List.mem_or_eq_of_mem_set h with h | h
  · exact .inl h
  · exact .inr h
theorem ifF {b:Bool} {A B:Prop} (h:b=false) (hB:B):if b=true then A else B:=by subst h; rw [if_neg Bool.false_ne_true]; exact hB
theorem ifT {b:Bool} {A B:Prop} (h:b=true) (hA:A):if b=true then A else B:=by subst h; rw [if_pos rfl]; exact hA
theorem atI_some {α:Type} {xs:List α} {i:Int} (h0:0≤i) (h1:i<(xs.length:Int)):∃ v,atI xs i=some v∧v∈xs:=by
  have hk:i.toNat<xs.length:=by omega
  have q:atI xs ((i.toNat:Nat):Int)=some xs[i.toNat]:=atI_nat (List.getElem?_eq_getElem hk)
  rw [show ((i.toNat:Nat):Int)=i by omega] at q
  exact ⟨_,q,List.getElem_mem hk⟩
theorem pick01 (x y:Int) (k:Bool):∃ n:Int,atI [V.int x,V.int y] (if k=true then 1 else 0)=some (.int n)∧(n=x∨n=y):=by
  cases k with
  | true=>exact ⟨y,atI1,.inr rfl⟩
  | false=>exact ⟨x,atI0,.inl rfl⟩
theorem pick2 (x y r:Int) (h0:0≤r) (h1:r<2):∃ n:Int,atI [V.int x,V.int y] r=some (.int n)∧(n=x∨n=y):=by
  have h:r=0∨r=1:=by omega
  rcases h with rfl | rfl
  · exact ⟨x,atI0,.inl rfl⟩
  · exact ⟨y,atI1,.inr rfl⟩
theorem pick4s (r:Int) (h0:0≤r) (h1:r<4):∃ n:Int,atI [V.int 1,V.int 1,V.int 12,V.int 24] r=some (.int n)∧(n=1∨n=12∨n=24):=by
  obtain ⟨x,hx,m⟩:=atI_some (xs:=[V.int 1,V.int 1,V.int 12,V.int 24]) h0 (by show r<((4:Nat):Int); omega)
  simp only [List.mem_cons,List.not_mem_nil,or_false] at m
  rcases m with rfl | rfl | rfl | rfl
  · exact ⟨_,hx,.inl rfl⟩
  · exact ⟨_,hx,.inl rfl⟩
  · exact ⟨_,hx,.inr (.inl rfl)⟩
  · exact ⟨_,hx,.inr (.inr rfl)⟩
theorem pick5 (r:Int) (h0:0≤r) (h1:r<5):∃ v,atI [V.int 1,V.int 1,V.int 2,V.int 3,V.int 4] r=some (.int v)∧1≤v∧v≤64:=by
  obtain ⟨x,hx,m⟩:=atI_some (xs:=[V.int 1,V.int 1,V.int 2,V.int 3,V.int 4]) h0 (by show r<((5:Nat):Int); omega)
  simp only [List.mem_cons,List.not_mem_nil,or_false] at m
  rcases m with rfl | rfl | rfl | rfl | rfl <;> exact ⟨_,hx,by decide,by decide⟩
def Rule (z:Str):Prop:=z = "old" ∨ z = "come" ∨ z = "few"
theorem pickR (r:Int) (h0:0≤r) (h1:r<3):∃ z:Str,atI [V.str "old",V.str "come",V.str "few"] r=some (.str z)∧Rule z:=by
  obtain ⟨x,hx,m⟩:=atI_some (xs:=[V.str "old",V.str "come",V.str "few"]) h0 (by show r<((3:Nat):Int); omega)
  simp only [List.mem_cons,List.not_mem_nil,or_false] at m
  rcases m with rfl | rfl | rfl
  · exact ⟨_,hx,.inl rfl⟩
  · exact ⟨_,hx,.inr (.inl rfl)⟩
  · exact ⟨_,hx,.inr (.inr rfl)⟩
theorem top_facts {s:Int} (h0:1≤s) (h1:s≤16):555≤9999 / s∧9999 / s≤9999∧1≤(if 10000 / s - 480 > 1 then 10000 / s - 480 else 1)∧(if 10000 / s - 480 > 1 then 10000 / s - 480 else 1)+455≤9999 / s:=by
  have key:∀ n:Fin 17,1≤(n.val:Int)→(555≤9999 / (n.val:Int)∧9999 / (n.val:Int)≤9999∧1≤(if 10000 / (n.val:Int) - 480 > 1 then 10000 / (n.val:Int) - 480 else 1)∧(if 10000 / (n.val:Int) - 480 > 1 then 10000 / (n.val:Int) - 480 else 1)+455≤9999 / (n.val:Int)):=by decide +kernel
  have e:((⟨s.toNat,by omega⟩:Fin 17).val:Int)=s:=by show ((s.toNat:Nat):Int)=s; omega
  have q:=key ⟨s.toNat,by omega⟩ (by rw [e]; exact h0)
  rw [e] at q
  exact q
def Bds (t:Int) (ns:List Int):Prop:=∀ n∈ns,0≤n∧n≤t
section
variable {P:Program} {w:World} {K:PySem.W.Frag} {mg:Str→Option Value} {base:Heap}
def spBoards:Sp:=fun vs H Q _=>∃ (b:Addr) (a q c s:Int),vs=[.ref b,.int s]∧BoxAt H b a q c∧c<500000000∧1≤s∧s≤16 ∧
  ∀ (l:Addr) (ns:List Int) (a' c':Int) (H':Hp),H l=none→H' l=some (.lst (ns.map V.int))→3≤ns.length→ns.length≤20→Bds (9999 / s) ns→BoxAt H' b a' q c'→c'≤c+40→SB b H H'→Q (.ref l) H'
theorem ok_some_boards {f:Addr} {fd:FuncData} (F:Fun K "_law_some_boards" "_law_some_boards" s_some_boards f fd) (T:Txt K mg) (D_take:Def P w K mg base "_law_take" 1 P_take spTake):FnOk P w K mg base CX0 2 f fd P_some_boards spBoards:=by
  refine F.ok sc_some_boards (fun vs H Q E h=>?_) (fun cdv A outer st H vs Q E hr h=>?_)
  · obtain ⟨b,a,q,c,s,rfl,_⟩:=h
    rfl
  obtain ⟨b,a,q,c,s,rfl,B,hc,hs0,hs1,k⟩:=h
  have nd:=sc_some_boards.nd
  obtain ⟨top0,top1,m0,m1⟩:=top_facts hs0 hs1
  refine ⟨_,(pss_cons (pst 2 nd (pe_op op_add pe_int (pe_defN D_take hr.m rfl (pc (pv 0) (pc (pe_ix (ix_listK (K:=K) rfl) (pe_lst (pc pe_int (pc pe_int pa_nil))) (pe_callTyN call_int1 rfl T.z_int boot_intT (pc (pe_cmpR op_eq (pe_defN D_take hr.m rfl (pc (pv 0) (pc pe_int pa_nil))) pe_int (nomark _)) pa_nil)) (fun _ _=>rfl)) pa_nil)))))
      (pss_cons (ps_asg (pe_tup (pc (pe_defN D_take hr.m rfl (pc (pv 0) (pc pe_int pa_nil))) (pc (pe_defN D_take hr.m rfl (pc (pv 0) (pc pe_int pa_nil))) pa_nil))) (pg_tupK (K:=K) (n:=2) rfl rfl (pgs_cons (pgn 3 nd) (pgs_cons (pgn 4 nd) pgs_nil))))
      (pss_cons (pst 5 nd (pe_ifExp (pt_cmpR op_lt (pv 4) pe_int (nomark _)) (pv 4) (pe_defN D_take hr.m rfl (pc (pv 0) (pc (pe_ix (ix_listK (K:=K) rfl) (pe_lst (pc pe_int (pc (pe_callBN (call_max2 rfl) rfl T.z_max boot_max (pc pe_int (pc (pe_op op_sub (pe_op op_fdiv pe_int (pv 1)) pe_int) pa_nil))) pa_nil))) (pe_op op_sub (pv 4) pe_int) (fun _ _=>rfl)) pa_nil)))))
      (pss_cons (ps_comp0 6 (compOk_of (osc:=(defScope s_some_boards)) (oN:=N_some_boards) (N:=["_law_k", "_law_first", "_law_way"]) (own:=1) (js:=[5,3]) (by decide +kernel) rfl rfl) rfl nd rfl rfl (pi_range1 rfl T.z_range (pc (pv 2) pa_nil)) (fun _ _ _ _ _ _=>(pgn 0 (show List.Nodup (["_law_k", "_law_first", "_law_way"]:List Str) by decide +kernel))) (fun _ _ _ _ _ _=>(pe_op op_add (pv 1) (pe_op op_mul (pe_ix (ix_listK (K:=K) rfl) (pe_lst (pc pe_int (pc pe_int (pc pe_int (pc pe_int pa_nil))))) (pv 2) (fun _ _=>rfl)) (pv 0)))))
      (pss_cons (pst 7 nd (pe_ifExp (pt_cmpR op_eq (pe_defN D_take hr.m rfl (pc (pv 0) (pc pe_int pa_nil))) pe_int (nomark _)) (pe_op op_fdiv pe_int (pv 1)) (pe_defN D_take hr.m rfl (pc (pv 0) (pc (pe_op op_add pe_int (pe_op op_fdiv pe_int (pv 1))) pa_nil)))))
      (pss_cons (ps_if (PW.pt (pw_or (PW.pt (pw_and (pt_cmpR op_eq (pv 3) pe_int (nomark _)) (pw_and1 (pt_cmpR (op_notIn_seqK (K:=K) rfl) (pv 7) (pv 6) rfl)))) (pw_or1 (PW.pt (pw_and (pt_cmpR op_eq (pv 7) (pe_op op_fdiv pe_int (pv 1)) (nomark _)) (pw_and1 (pt_cmpR (op_notIn_seqK (K:=K) rfl) (pv 7) (pv 6) rfl))))))) (pss_one (ps_asg (pv 7) (pg_sub (pv 6) (pe_un un_neg pe_int) set_list))) pss_nil)
      (pss_cons (ps_for PassesOwn.never rfl (pi_range1 rfl T.z_range (pc (pe_op op_sub (pv 2) pe_int) pa_nil)) (pgn 8 nd) (pss_cons (pst 9 nd (pe_op op_add (pv 8) (pe_defN D_take hr.m rfl (pc (pv 0) (pc (pe_op op_sub (pv 2) (pv 8)) pa_nil)))))
      (pss_one (ps_asg (pe_tup (pc (pe_ix (ix_listK (K:=K) rfl) (pv 6) (pv 9) (fun _ _=>rfl)) (pc (pe_ix (ix_listK (K:=K) rfl) (pv 6) (pv 8) (fun _ _=>rfl)) pa_nil))) (pg_tupK (K:=K) (n:=2) rfl rfl (pgs_cons (pg_sub (pv 6) (pv 8) set_list) (pgs_cons (pg_sub (pv 6) (pv 9) set_list) pgs_nil)))))))
      (pss_one (ps_ret (pv 6)))))))))),?_⟩
  generalize hm:(if 10000 / s - 480 > 1 then 10000 / s - 480 else 1)=m at m0 m1
  generalize ht:(9999:Int) / s=top at *
  refine hide fun uu ee=>?_
  refine ⟨_,rfl,(by show 2≤sizeLine; decide),fun p1 hp1=>⟨_,rfl,b,a,q,c,6,rfl,B.same (same_upd hp1 _),by omega,by decide,by decide,fun r1 a1 c1 H1 r10 r11 B1 hc1 s1=>⟨rfl,.inr ⟨_,rfl,?_⟩⟩⟩⟩
  have q1:b≠p1:=ne_of_none B.at' hp1
  obtain ⟨n,hn,hn'⟩:=pick01 5 18 (decide (V.int r1=V.int 0))
  refine ⟨p1,_,_,_,rfl,rfl,SqL.of (s1 _ _ (Ne.symm q1) upd_same),hn,b,a1,q,c1,n,rfl,B1,by omega,by omega,by omega,fun r2 a2 c2 H2 r20 r21 B2 hc2 s2=>⟨_,_,rfl,rfl,?_⟩⟩
  have mn0:3≤3+r2:=by omega
  have mn1:3+r2≤20:=by omega
  have u2:SB b H H2:=(((same_upd hp1 _).sb b).trans s1).trans s2
  dsimp only [gName]
  subst ee
  try dsimp only
  refine hide fun uu ee=>?_
  refine ⟨_,rfl,b,a2,q,c2,4,rfl,B2,by omega,by decide,by decide,fun r3 a3 c3 H3 r30 r31 B3 hc3 s3=>?_⟩
  refine ⟨_,rfl,b,a3,q,c3,4,rfl,B3,by omega,by decide,by decide,fun r4 a4 c4 H4' r40 r41 B4' hc4 s4=>⟨(by show 2≤sizeLine; decide),fun p4 hp4=>⟨p4,_,rfl,SqT.of upd_same,rfl,_,_,rfl,_,_,rfl,rfl,?_⟩⟩⟩
  have B4:=B4'.same (same_upd hp4 (.tup [.int r3,.int r4]))
  have u4:SB b H (upd H4' p4 (.tup [.int r3,.int r4])):=((u2.trans s3).trans s4).trans ((same_upd hp4 _).sb b)
  generalize upd H4' p4 (.tup [.int r3,.int r4])=H4 at *
  subst ee
  try dsimp only
  refine cpA (fun v G=>∃ z a' c',v=.int z∧0≤z∧z+456≤top∧BoxAt G b a' q c'∧c'≤c4+1∧SB b H G) (fun Q' k'=>?_) ?_
  · refine ⟨_,rfl,_,_,rfl,rfl,_,rfl,ite_dec (fun c2'=>⟨_,rfl,k' _ _ ⟨_,a4,c4,rfl,r40,by omega,B4,by omega,u4⟩⟩) (fun c2'=>?_)⟩
    refine ⟨_,rfl,_,rfl,_,_,rfl,rfl,⟨by omega,by omega⟩,_,_,rfl,rfl,_,_,rfl,(by show 2≤sizeLine; decide),fun p2 hp2=>?_⟩
    have q2:b≠p2:=ne_of_none B4.at' hp2
    rw [hm]
    obtain ⟨n2,hn2,hn2'⟩:=pick2 100 m (r4 - 2) (by omega) (by omega)
    refine ⟨_,rfl,_,_,rfl,rfl,p2,_,_,_,rfl,rfl,SqL.of upd_same,hn2,b,a4,q,c4,n2,rfl,B4.same (same_upd hp2 _),by omega,by omega,by omega,fun r5 a5 c5 H5 r50 r51 B5 hc5 s5=>?_⟩
    exact k' _ _ ⟨r5,a5,c5,rfl,r50,by omega,B5,by omega,u4.trans (((same_upd hp2 _).sb b).trans s5)⟩
  rintro _ H5 ⟨z,a5,c5,rfl,z0,z1,B5,hc5,u5⟩
  dsimp only [gName]
  refine hide fun uu ee=>?_
  refine ⟨_,rfl,_,rfl,by omega,by omega,fun l hl=>?_⟩
  have hlH:H l=none:=sb_fresh u5 B5.at' hl
  have nlb:l≠b:=Ne.symm (ne_of_none B5.at' hl)
  have hmn:(3+r2).toNat≤20:=by omega
  refine comp_range (lo:=0) (n:=(3+r2).toNat) (l:=l) (fun j ys σ G=>∃ (v0:Option V) (ns:List Int),σ=[v0,some (.int z),some (.int r3)]∧ys=ns.map V.int∧ns.length=j∧Bds top ns∧G l=some (.lst ys)∧Same H5 G)
    ⟨none,[],rfl,rfl,rfl,fun n hn=>(nomatch hn),upd_same,same_upd hl _⟩ ?_ ?_
  · rintro j ys σ G hj hy ⟨v0,ns,rfl,rfl,hj',hb',h1,h2⟩
    refine ⟨_,rfl,(by show 4≤sizeLine; decide),fun p hp=>?_⟩
    obtain ⟨n4,hn4,hn4'⟩:=pick4s r3 r30 r31
    have np:l≠p:=ne_of_none h1 hp
    have j20:(j:Int)≤19:=by omega
    refine ⟨_,rfl,p,_,_,_,rfl,rfl,SqL.of upd_same,hn4,_,rfl,_,_,rfl,rfl,.inl ⟨by omega,by omega⟩,_,_,rfl,rfl,CNx.of (Nat.le_trans hmn (by decide)) hj hy (by rw [upd_ne np]; exact h1) ⟨_,ns++[z+n4 * (0+(j:Int))],rfl,by rw [List.map_append]; rfl,by rw [List.length_append,hj']; rfl,fun x hx=>?_,upd_same,fun e o y=>?_⟩⟩
    · rcases List.mem_append.mp hx with h | h
      · exact hb' x h
      · have ex:x=z+n4 * (0+(j:Int)):=by simpa using h
        subst ex
        rcases hn4' with rfl | rfl | rfl
        · exact ⟨by omega,by omega⟩
        · exact ⟨by omega,by omega⟩
        · exact ⟨by omega,by omega⟩
    · rw [upd_ne (ne_of_none y hl)]
      exact same_upd hp _ _ _ (h2 _ _ y)
  rintro ys σ G hy ⟨v0,ns,rfl,rfl,hj',hb',h1,h2⟩
  have B6:=B5.same h2
  have u6:SB b H G:=u5.trans (h2.sb b)
  have ln3:3≤ns.length:=by omega
  have ln20:ns.length≤20:=by omega
  dsimp only [gName]
  subst ee
  try dsimp only
  refine cpA (fun v G'=>∃ z a' c',v=.int z∧0≤z∧z≤top∧BoxAt G' b a' q c'∧c'≤c5+2∧SB b G G') (fun Q' k'=>?_) ?_
  · refine ⟨_,rfl,b,a5,q,c5,5,rfl,B6,by omega,by decide,by decide,fun r7 a7 c7 H7 r70 r71 B7 hc7 s7=>⟨rfl,_,rfl,ite_dec (fun _=>?_) (fun _=>?_)⟩⟩
    · refine ⟨_,rfl,_,_,rfl,rfl,⟨by omega,by omega⟩,?_⟩
      exact k' _ _ ⟨_,a7,c7,rfl,by rw [ht]; omega,by rw [ht]; omega,B7,by omega,s7⟩
    · refine ⟨_,rfl,_,rfl,_,_,rfl,rfl,⟨by omega,by omega⟩,_,_,rfl,rfl,b,a7,q,c7,_,rfl,B7,by omega,by rw [ht]; omega,by rw [ht]; omega,fun r8 a8 c8 H8 r80 r81 B8 hc8 s8=>?_⟩
      exact k' _ _ ⟨_,a8,c8,rfl,r80,by rw [ht] at r81; omega,B8,by omega,s7.trans s8⟩
  rintro _ H7 ⟨fr,a7,c7,rfl,fr0,fr1,B7,hc7,s7⟩
  have h7:=s7 _ _ nlb h1
  have u7:SB b H H7:=u6.trans s7
  refine cpI (fun σ G'=>∃ ns':List Int,σ=[some (.ref b),some (.int s),some (.int (3+r2)),some (.int r3),some (.int r4),some (.int z),some (.ref l),some (.int fr),none,none]∧G' l=some (.lst (ns'.map V.int))∧ns'.length=ns.length∧Bds top ns'∧BoxAt G' b a7 q c7∧SB b H G') (fun D' _ k'=>?_) ?_
  · refine cpIfS (fun _ G'=>G'=H7) (fun Q' k''=>?_) ?_
    · refine cpOr (fun _ G'=>G'=H7) (fun Q'' k3=>?_) ?_
      · exact ⟨_,rfl,rfl,_,rfl,ite_dec (fun _=>⟨_,rfl,_,rfl,l,_,rfl,.inl (SqL.of h7),rfl,ints_flat _,_,rfl,k3 _ _ rfl⟩) (fun _=>k3 _ _ rfl)⟩
      · rintro cb _ rfl
        cases cb with
        | true=>exact ifT rfl (k'' _ _ rfl)
        | false=>exact ifF rfl ⟨_,rfl,_,rfl,_,_,rfl,rfl,⟨by omega,by omega⟩,rfl,_,rfl,ite_dec (fun _=>⟨_,rfl,_,rfl,l,_,rfl,.inl (SqL.of h7),rfl,ints_flat _,_,rfl,k'' _ _ rfl⟩) (fun _=>k'' _ _ rfl)⟩
    · rintro cb _ rfl
      cases cb with
      | false=>exact ifF rfl (k' _ _ ⟨ns,rfl,h7,rfl,hb',B7,u7⟩)
      | true =>
        refine ifT rfl ⟨_,rfl,_,rfl,_,rfl,l,_,_,_,rfl,rfl,h7,ixN_last (by rw [List.length_map]; omega),k' _ _ ⟨ns.set (ns.length - 1) fr,rfl,?_,List.length_set,fun x hx=>?_,B7.sb (sb_upd l _ _) (Ne.symm nlb),fun e o n' y=>?_⟩⟩
        · rw [upd_same,List.length_map,set_ints]
        · rcases mem_set hx with h | h
          · exact hb' x h
          · subst h; exact ⟨fr0,fr1⟩
        · rw [upd_ne (ne_of_none y hlH)]; exact u7 _ _ n' y
  rintro _ H8 ⟨ns8,rfl,h8,l8,b8,B8,u8⟩
  refine ⟨_,rfl,_,_,rfl,rfl,_,rfl,by omega,by omega,for_range (lo:=0) (n:=(3+r2 - 1).toNat) (fun j σ G'=>∃ (ns':List Int) (v8 v9:Option V) (a' c':Int),σ=[some (.ref b),some (.int s),some (.int (3+r2)),some (.int r3),some (.int r4),some (.int z),some (.ref l),some (.int fr),v8,v9]∧G' l=some (.lst (ns'.map V.int))∧ns'.length=ns.length∧Bds top ns'∧BoxAt G' b a' q c'∧c'≤c7+(j:Int)∧SB b H G')
    ⟨ns8,_,_,a7,c7,rfl,h8,l8,b8,B8,by omega,u8⟩ ?_ ?_⟩
  · rintro j σ G' hj ⟨ns',v8,v9,a',c',rfl,h1',l',b',B',hc',u'⟩
    have j20:(j:Int)≤18:=by omega
    have jl:(j:Int)+1<3+r2:=by omega
    refine ⟨_,rfl,_,rfl,_,rfl,_,rfl,_,_,rfl,rfl,b,a',q,c',_,rfl,B',by omega,by omega,by omega,fun r9 a9 c9 H9 r90 r91 B9 hc9 s9=>⟨_,_,rfl,rfl,?_⟩⟩
    have h9:=s9 _ _ nlb h1'
    obtain ⟨x1,hx1,mx1⟩:=at_mem (ns:=ns') (k:=0+(j:Int)+r9) (by omega) (by omega)
    obtain ⟨x2,hx2,mx2⟩:=at_mem (ns:=ns') (k:=0+(j:Int)) (by omega) (by omega)
    refine ⟨_,rfl,_,rfl,l,_,_,_,rfl,rfl,SqL.of h9,hx1,_,rfl,_,rfl,l,_,_,_,rfl,rfl,SqL.of h9,hx2,(by show 2≤sizeLine; decide),fun t ht'=>?_⟩
    have nlt:l≠t:=ne_of_none h9 ht'
    refine ⟨t,_,rfl,SqT.of upd_same,rfl,_,_,rfl,_,rfl,_,rfl,l,_,_,_,rfl,rfl,(by rw [upd_ne nlt]; exact h9),ixN_ok (by omega) (by rw [List.length_map]; omega),?_⟩
    refine ⟨_,_,rfl,_,rfl,_,rfl,l,_,_,_,rfl,rfl,upd_same,ixN_ok (by omega) (by rw [List.length_set,List.length_map]; omega),rfl,?_⟩
    refine ⟨(ns'.set (0+(j:Int)).toNat x1).set (0+(j:Int)+r9).toNat x2,_,_,a9,c9,rfl,by rw [upd_same,set_ints,set_ints],by rw [List.length_set,List.length_set]; exact l',fun x hx=>?_,?_,by omega,fun e o n' y=>?_⟩
    · rcases mem_set hx with h | h
      · rcases mem_set h with h | h
        · exact b' x h
        · subst h; exact b' _ mx1
      · subst h; exact b' _ mx2
    · exact ((B9.same (same_upd ht' _)).sb (sb_upd l _ _) (Ne.symm nlb)).sb (sb_upd l _ _) (Ne.symm nlb)
    · have ne:e≠l:=ne_of_none y hlH
      rw [upd_ne ne,upd_ne ne]
      exact same_upd ht' _ _ _ (s9 _ _ n' (u' _ _ n' y))
  · rintro σ G' ⟨ns',v8,v9,a',c',rfl,h1',l',b',B',hc',u'⟩
    exact ⟨_,rfl,k l ns' a' c' G' hlH h1' (by omega) (by omega) b' B' (by omega) u'⟩
end
section
variable {P:Program} {w:World} {K:PySem.W.Frag} {mg:Str→Option Value} {base:Heap}
def spShape:Sp:=fun vs H Q _=>∃ (b:Addr) (a q c:Int),vs=[.ref b]∧BoxAt H b a q c∧c<500000000 ∧
  ∀ (p:Addr) (sh pl:Int) (r:Str) (a' c':Int) (H':Hp),H' p=some (.tup [.int sh,.int pl,.str r])→1≤sh→sh≤64→1≤pl→pl≤16→Rule r→BoxAt H' b a' q c'→c'≤c+5→SB b H H'→Q (.ref p) H'
theorem ok_shape {f:Addr} {fd:FuncData} (F:Fun K "_law_shape" "_law_shape" s_shape f fd) (T:Txt K mg) (D_take:Def P w K mg base "_law_take" 1 P_take spTake):FnOk P w K mg base CX0 2 f fd P_shape spShape:=by
  refine F.ok sc_shape (fun vs H Q E h=>?_) (fun cdv A outer st H vs Q E hr h=>?_)
  · obtain ⟨b,a,q,c,rfl,_⟩:=h
    rfl
  obtain ⟨b,a,q,c,rfl,B,hc,k⟩:=h
  have nd:=sc_shape.nd
  refine ⟨_,(pss_cons (pst 1 nd (pe_cmpR op_eq (pe_defN D_take hr.m rfl (pc (pv 0) (pc pe_int pa_nil))) pe_int (nomark _)))
      (pss_cons (pst 2 nd (pe_ifExp (pt_val (pv 1)) (pe_op op_add pe_int (pe_defN D_take hr.m rfl (pc (pv 0) (pc pe_int pa_nil)))) (pe_ix (ix_listK (K:=K) rfl) (pe_lst (pc pe_int (pc pe_int (pc pe_int (pc pe_int (pc pe_int pa_nil)))))) (pe_defN D_take hr.m rfl (pc (pv 0) (pc pe_int pa_nil))) (fun _ _=>rfl))))
      (pss_one (ps_ret (pe_tup (pc (pv 2) (pc (pe_op op_add pe_int (pe_defN D_take hr.m rfl (pc (pv 0) (pc (pe_ifExp (pt_val (pv 1)) pe_int pe_int) pa_nil)))) (pc (pe_ix (ix_listK (K:=K) rfl) (pe_lst (pc pe_str (pc pe_str (pc pe_str pa_nil)))) (pe_defN D_take hr.m rfl (pc (pv 0) (pc pe_int pa_nil))) (fun _ _=>rfl)) pa_nil)))))))),?_⟩
  refine ⟨_,rfl,b,a,q,c,6,rfl,B,by omega,by decide,by decide,fun r1 a1 c1 H1 r10 r11 B1 hc1 s1=>⟨rfl,?_⟩⟩
  generalize decide (V.int r1=V.int 0)=far
  dsimp only
  refine cpA (fun v G=>∃ z a' c',v=.int z∧1≤z∧z≤64∧BoxAt G b a' q c'∧c'≤c1+1∧SB b H G) (fun Q' k'=>?_) ?_
  · refine ⟨_,rfl,_,rfl,?_⟩
    cases far with
    | true=>exact ifT rfl ⟨_,rfl,b,a1,q,c1,64,rfl,B1,by omega,by decide,by decide,fun r2 a2 c2 H2 r20 r21 B2 hc2 s2=>⟨_,_,rfl,rfl,k' _ _ ⟨_,a2,c2,rfl,by omega,by omega,B2,by omega,s1.trans s2⟩⟩⟩
    | false =>
      refine ifF rfl ⟨(by show 5≤sizeLine; decide),fun p0 hp0=>⟨_,rfl,b,a1,q,c1,5,rfl,B1.same (same_upd hp0 _),by omega,by decide,by decide,fun r2 a2 c2 H2 r20 r21 B2 hc2 s2=>?_⟩⟩
      have q0:b≠p0:=ne_of_none B1.at' hp0
      obtain ⟨sh,hsh,sh0,sh1⟩:=pick5 r2 r20 r21
      exact ⟨p0,_,_,_,rfl,rfl,SqL.of (s2 _ _ (Ne.symm q0) upd_same),hsh,k' _ _ ⟨_,a2,c2,rfl,sh0,sh1,B2,by omega,s1.trans (((same_upd hp0 _).sb b).trans s2)⟩⟩
  rintro _ H2 ⟨sh,a2,c2,rfl,sh0,sh1,B2,hc2,u2⟩
  refine ⟨_,rfl,_,rfl,?_⟩
  refine cpE (te:=tIf _ _ _) (fun v G=>∃ z,v=.int z∧4≤z∧z≤16∧G=H2) (fun Q' k'=>?_) ?_
  · refine ⟨_,rfl,_,rfl,?_⟩
    cases far with
    | true=>exact ifT rfl (k' _ _ ⟨_,rfl,by decide,by decide,rfl⟩)
    | false=>exact ifF rfl (k' _ _ ⟨_,rfl,by decide,by decide,rfl⟩)
  rintro _ _ ⟨n,rfl,n0,n1,rfl⟩
  refine ⟨b,a2,q,c2,_,rfl,B2,by omega,by omega,by omega,fun r3 a3 c3 H3 r30 r31 B3 hc3 s3=>⟨_,_,rfl,rfl,(by show 3≤sizeLine; decide),fun p3 hp3=>⟨_,rfl,b,a3,q,c3,3,rfl,B3.same (same_upd hp3 _),by omega,by decide,by decide,fun r4 a4 c4 H4 r40 r41 B4 hc4 s4=>?_⟩⟩⟩
  have q3:b≠p3:=ne_of_none B3.at' hp3
  obtain ⟨ru,hru,iru⟩:=pickR r4 r40 r41
  refine ⟨p3,_,_,_,rfl,rfl,SqL.of (s4 _ _ (Ne.symm q3) upd_same),hru,(by show 3≤sizeLine; decide),fun pp hpp=>?_⟩
  exact k pp sh _ ru a4 c4 _ upd_same sh0 sh1 (by omega) (by omega) iru (B4.same (same_upd hpp _)) (by omega)
    (((u2.trans s3).trans (((same_upd hp3 _).sb b).trans s4)).trans ((same_upd hpp _).sb b))
def spAsked:Sp:=fun vs H Q _=>∃ (b:Addr) (a q c fw mt:Int),vs=[.ref b,.int fw,.int mt]∧BoxAt H b a q c∧c<400000000∧0≤fw∧fw≤mt∧mt≤400 ∧
  ∀ (l:Addr) (ns:List Int) (a' c':Int) (H':Hp),H l=none→H' l=some (.lst (ns.map V.int))→(ns.length:Int)≤mt→Bds 9999 ns→BoxAt H' b a' q c'→c'≤c+2000→SB b H H'→Q (.ref l) H'
theorem pickA (x0 x1 x2 x3 x4 r:Int) (h0:0≤r) (h1:r<5):∃ n:Int,atI [V.int x0,V.int x1,V.int x2,V.int x3,V.int x4] r=some (.int n)∧(n=x0∨n=x1∨n=x2∨n=x3∨n=x4):=by
  obtain ⟨x,hx,m⟩:=atI_some (xs:=[V.int x0,V.int x1,V.int x2,V.int x3,V.int x4]) h0 (by show r<((5:Nat):Int); omega)
  simp only [List.mem_cons,List.not_mem_nil,or_false] at m
  rcases m with rfl | rfl | rfl | rfl | rfl
  · exact ⟨_,hx,.inl rfl⟩
  · exact ⟨_,hx,.inr (.inl rfl)⟩
  · exact ⟨_,hx,.inr (.inr (.inl rfl))⟩
  · exact ⟨_,hx,.inr (.inr (.inr (.inl rfl)))⟩
  · exact ⟨_,hx,.inr (.inr (.inr (.inr rfl)))⟩
theorem min_if (x y:Int):(if y<x then y else x)≤x∧(if y<x then y else x)≤y∧((if y<x then y else x)=x∨(if y<x then y else x)=y):=by
  split <;> refine ⟨by omega,by omega,by omega⟩
theorem ok_asked {f:Addr} {fd:FuncData} (F:Fun K "_law_asked" "_law_asked" s_asked f fd) (T:Txt K mg) (D_take:Def P w K mg base "_law_take" 1 P_take spTake) (D_some_boards:Def P w K mg base "_law_some_boards" 2 P_some_boards spBoards):FnOk P w K mg base CX0 3 f fd P_asked spAsked:=by
  refine F.ok sc_asked (fun vs H Q E h=>?_) (fun cdv A outer st H vs Q E hr h=>?_)
  · obtain ⟨b,a,q,c,fw,mt,rfl,_⟩:=h
    rfl
  obtain ⟨b,a,q,c,fw,mt,rfl,B,hc,hf0,hfm,hm1,k⟩:=h
  have nd:=sc_asked.nd
  refine ⟨_,(pss_cons (pst 3 nd (pe_defN D_some_boards hr.m rfl (pc (pv 0) (pc pe_int pa_nil))))
      (pss_cons (pst 4 nd (pe_ifExp (pt_cmpR op_eq (pe_defN D_take hr.m rfl (pc (pv 0) (pc pe_int pa_nil))) pe_int (nomark _)) (pe_defN D_take hr.m rfl (pc (pv 0) (pc (pe_op op_add (pv 2) pe_int) pa_nil))) (pe_defN D_take hr.m rfl (pc (pv 0) (pc (pe_op op_add (pv 1) pe_int) pa_nil)))))
      (pss_cons (ps_par (i:=5) (j:=6) rfl nd rfl rfl (by decide) rfl rfl (pc (pe_defN D_take hr.m rfl (pc (pv 0) (pc pe_int pa_nil))) (pc (pe_lst pa_nil) pa_nil)) rfl)
      (pss_cons (ps_for PassesOwn.never rfl (pi_range1 rfl T.z_range (pc (pv 4) pa_nil)) (pgn 7 nd) (pss_cons (pst 8 nd (pe_ifExp (PW.pt (pw_or (pt_cmpR (op_in_seqK (K:=K) rfl) (pv 5) (pe_tup (pc pe_int (pc pe_int pa_nil))) rfl) (pw_or1 (PW.pt (pw_and (pt_cmpR op_eq (pv 5) pe_int (nomark _)) (pw_and1 (pt_cmpR op_eq (pe_op op_mod (pv 7) pe_int) pe_int (nomark _)))))))) (pe_ix (ix_listK (K:=K) rfl) (pv 3) (pe_defN D_take hr.m rfl (pc (pv 0) (pc (pe_callBN (call_len_seqK (K:=K) rfl) rfl T.z_len PySem.boot_len (pc (pv 3) pa_nil)) pa_nil))) (fun _ _=>rfl)) pe_int))
      (pss_cons (pst 9 nd (pe_op op_mod (pv 7) (pe_op op_sub (pe_op op_mul pe_int (pe_callBN (call_len_seqK (K:=K) rfl) rfl T.z_len PySem.boot_len (pc (pv 3) pa_nil))) pe_int)))
      (pss_cons (pst 10 nd (pe_ix (ix_listK (K:=K) rfl) (pv 3) (pe_callBN (call_min2 rfl) rfl T.z_min boot_min (pc (pv 9) (pc (pe_op op_sub (pe_op op_sub (pe_op op_mul pe_int (pe_callBN (call_len_seqK (K:=K) rfl) rfl T.z_len PySem.boot_len (pc (pv 3) pa_nil))) pe_int) (pv 9)) pa_nil))) (fun _ _=>rfl)))
      (pss_cons (pst 11 nd (pe_ifExp (pt_cmpR op_eq (pe_defN D_take hr.m rfl (pc (pv 0) (pc pe_int pa_nil))) pe_int (nomark _)) (pv 8) (pe_ix (ix_listK (K:=K) rfl) (pv 3) pe_int (fun _ _=>rfl))))
      (pss_one (ps_expr (pe_bmC (K:=K) rfl (pe_bm PySem.F.plainAttrs_list PySem.F.slot_list_append PySem.F.type_list_append mt_append (pv 6) (pc (pe_ix (ix_listK (K:=K) rfl) (pe_lst (pc (pv 8) (pc (pe_ix (ix_listK (K:=K) rfl) (pv 3) (pe_op op_mod (pv 7) (pe_callBN (call_len_seqK (K:=K) rfl) rfl T.z_len PySem.boot_len (pc (pv 3) pa_nil))) (fun _ _=>rfl)) (pc (pe_ifExp (pt_cmpR op_eq (pe_op op_mod (pv 7) pe_int) pe_int (nomark _)) (pv 8) (pe_ix (ix_listK (K:=K) rfl) (pv 3) (pe_op op_mod (pv 7) (pe_callBN (call_len_seqK (K:=K) rfl) rfl T.z_len PySem.boot_len (pc (pv 3) pa_nil))) (fun _ _=>rfl))) (pc (pv 10) (pc (pv 11) pa_nil)))))) (pv 5) (fun _ _=>rfl)) pa_nil))))))))))
      (pss_one (ps_ret (pv 6))))))),?_⟩
  refine ⟨_,rfl,b,a,q,c,1,rfl,B,by omega,by decide,by decide,fun l1 ns1 a1 c1 H1 hl1 e1 g3 g20 bd B1 hc1 s1=>?_⟩
  have bd':∀ n∈ns1,0≤n∧n≤9999:=bd
  have nl1:l1≠b:=fun e=>by rw [e,B.at'] at hl1; cases hl1
  dsimp only
  refine cpA (fun v G=>∃ z a' c',v=.int z∧0≤z∧z≤mt∧BoxAt G b a' q c'∧c'≤c1+2∧SB b H1 G) (fun Q' k'=>?_) ?_
  · refine ⟨_,rfl,b,a1,q,c1,8,rfl,B1,by omega,by decide,by decide,fun r2 a2 c2 H2 r20 r21 B2 hc2 s2=>⟨rfl,_,rfl,ite_dec (fun _=>?_) (fun _=>?_)⟩⟩
    · refine ⟨_,rfl,_,rfl,_,_,rfl,rfl,b,a2,q,c2,_,rfl,B2,by omega,by omega,by omega,fun r3 a3 c3 H3 r30 r31 B3 hc3 s3=>?_⟩
      exact k' _ _ ⟨_,a3,c3,rfl,r30,by omega,B3,by omega,s2.trans s3⟩
    · refine ⟨_,rfl,_,rfl,_,_,rfl,rfl,b,a2,q,c2,_,rfl,B2,by omega,by omega,by omega,fun r3 a3 c3 H3 r30 r31 B3 hc3 s3=>?_⟩
      exact k' _ _ ⟨_,a3,c3,rfl,r30,by omega,B3,by omega,s2.trans s3⟩
  rintro _ H3 ⟨sz,a3,c3,rfl,sz0,sz1,B3,hc3,s3⟩
  refine ⟨_,rfl,b,a3,q,c3,5,rfl,B3,by omega,by decide,by decide,fun wy a4 c4 H4 wy0 wy1 B4 hc4 s4=>⟨(by show 0≤sizeLine; decide),fun l hl=>⟨_,_,rfl,?_⟩⟩⟩
  have u4:SB b H H4:=s1.trans (s3.trans s4)
  have hlH:H l=none:=sb_fresh u4 B4.at' hl
  have nlb:l≠b:=Ne.symm (ne_of_none B4.at' hl)
  have e4:=s4 _ _ nl1 (s3 _ _ nl1 e1)
  have nll:l1≠l:=ne_of_none e4 hl
  have L0:(3:Int)≤ns1.length:=by omega
  have L1:(ns1.length:Int)≤20:=by omega
  refine ⟨_,rfl,_,rfl,by omega,by omega,for_range (lo:=0) (n:=sz.toNat) (fun j σ G=>∃ (v7 v8 v9 v10 v11:Option V) (ns:List Int) (a' c':Int),σ=[some (.ref b),some (.int fw),some (.int mt),some (.ref l1),some (.int sz),some (.int wy),some (.ref l),v7,v8,v9,v10,v11]∧G l=some (.lst (ns.map V.int))∧ns.length=j∧Bds 9999 ns∧G l1=some (.lst (ns1.map V.int))∧BoxAt G b a' q c'∧c'≤c4+2 * (j:Int)∧SB b H G)
    ⟨_,_,_,_,_,[],a4,c4,rfl,upd_same,rfl,fun n hn=>(nomatch hn),by rw [upd_ne nll]; exact e4,B4.same (same_upd hl _),by omega,u4.trans ((same_upd hl _).sb b)⟩ ?_ ?_⟩
  · rintro j σ G hj ⟨v7,v8,v9,v10,v11,ns,a',c',rfl,h1,h2,h3,h4,h5,h6,h7⟩
    have j400:(j:Int)<400:=by omega
    refine cpA (fun v G'=>∃ z a'' c'',v=.int z∧0≤z∧z≤9999∧BoxAt G' b a'' q c''∧c''≤c'+1∧SB b G G') (fun Q' k'=>?_) ?_
    · refine cpIf (fun _ G'=>Same G G') (fun Q'' k''=>?_) ?_
      · refine ⟨_,rfl,(by show 2≤sizeLine; decide),fun p hp=>⟨p,_,rfl,.inr (SqT.of upd_same),rfl,rfl,_,rfl,?_⟩⟩
        have sp:=same_upd hp (.tup [.int 0,.int 4])
        generalize (if false=true then !inV (V.int wy) [V.int 0,V.int 4] else inV (V.int wy) [V.int 0,V.int 4])=cw
        cases cw with
        | true=>exact ifT rfl (k'' _ _ sp)
        | false=>exact ifF rfl ⟨_,rfl,rfl,_,rfl,ite_dec (fun _=>⟨_,rfl,_,_,rfl,rfl,(by show (0:Int)<3; decide),rfl,_,rfl,k'' _ _ sp⟩) (fun _=>k'' _ _ sp)⟩
      · rintro cb G' sg
        have B':=h5.same sg
        have h4':=sg _ _ h4
        cases cb with
        | false=>exact ifF rfl (k' _ _ ⟨0,a',c',rfl,by decide,by decide,B',by omega,sg.sb b⟩)
        | true =>
          refine ifT rfl ⟨_,rfl,_,rfl,_,rfl,l1,_,rfl,.inl (SqL.of h4'),b,a',q,c',_,rfl,B',by omega,by rw [List.length_map]; omega,by rw [List.length_map]; omega,fun r8 a8 c8 H8 r80 r81 B8 hc8 s8=>?_⟩
          rw [List.length_map] at r81
          obtain ⟨x1,hx1,mx1⟩:=at_mem (ns:=ns1) r80 r81
          obtain ⟨y0,y1⟩:=bd' _ mx1
          exact ⟨l1,_,_,_,rfl,rfl,SqL.of (s8 _ _ nl1 h4'),hx1,k' _ _ ⟨_,a8,c8,rfl,y0,y1,B8,by omega,(sg.sb b).trans s8⟩⟩
    rintro _ G1 ⟨dr,a1',c1',rfl,dr0,dr1,B1',hc1',t1⟩
    have g4:=t1 _ _ nl1 h4
    have g1:=t1 _ _ nlb h1
    dsimp only [gName]
    refine hide fun uu ee=>?_
    have len1:(ns1.map V.int).length=ns1.length:=List.length_map ..
    refine ⟨_,rfl,_,rfl,l1,_,rfl,.inl (SqL.of g4),_,_,rfl,rfl,.inl ⟨by decide,by decide⟩,_,_,rfl,rfl,_,_,rfl,rfl,(by show (0:Int)<_; rw [len1]; omega),?_⟩
    dsimp only [gName]
    subst ee
    try dsimp only
    refine hide fun uu ee=>?_
    obtain ⟨x2,hx2,mx2⟩:∃ x2,atI (ns1.map V.int) (if 2 * (ns1.length:Int) - 2 - (0+(j:Int)) % (2 * (ns1.length:Int) - 2)<(0+(j:Int)) % (2 * (ns1.length:Int) - 2) then 2 * (ns1.length:Int) - 2 - (0+(j:Int)) % (2 * (ns1.length:Int) - 2) else (0+(j:Int)) % (2 * (ns1.length:Int) - 2))=some (.int x2)∧x2∈ns1:=by
      have bk0:0≤(0+(j:Int)) % (2 * (ns1.length:Int) - 2):=em0 _ (by omega)
      have bk1:(0+(j:Int)) % (2 * (ns1.length:Int) - 2)<2 * (ns1.length:Int) - 2:=em1 _ (by omega)
      generalize (0+(j:Int)) % (2 * (ns1.length:Int) - 2)=bk at *
      obtain ⟨mi1,mi2,mi3⟩:=min_if bk (2 * (ns1.length:Int) - 2 - bk)
      generalize (if 2 * (ns1.length:Int) - 2 - bk<bk then 2 * (ns1.length:Int) - 2 - bk else bk)=mi at *
      exact at_mem (by omega) (by omega)
    obtain ⟨tu0,tu1⟩:=bd' _ mx2
    refine ⟨_,rfl,_,rfl,_,rfl,l1,_,rfl,.inl (SqL.of g4),_,_,rfl,rfl,.inl ⟨by decide,by decide⟩,_,_,rfl,rfl,_,rfl,_,_,rfl,rfl,_,_,rfl,l1,_,_,_,rfl,rfl,SqL.of g4,(by rw [len1]; exact hx2),?_⟩
    dsimp only [gName]
    subst ee
    try dsimp only
    obtain ⟨x0,hx0,mx0⟩:=at_mem (ns:=ns1) (k:=0) (by decide) (by omega)
    obtain ⟨of0,of1⟩:=bd' _ mx0
    refine cpA (fun v G'=>∃ z a'' c'',v=.int z∧0≤z∧z≤9999∧BoxAt G' b a'' q c''∧c''≤c1'+1∧SB b G1 G') (fun Q' k'=>?_) ?_
    · refine ⟨_,rfl,b,a1',q,c1',2,rfl,B1',by omega,by decide,by decide,fun r9 a9 c9 H9 r90 r91 B9 hc9 s9=>⟨rfl,_,rfl,ite_dec (fun _=>⟨_,rfl,k' _ _ ⟨_,a9,c9,rfl,dr0,dr1,B9,by omega,s9⟩⟩) (fun _=>⟨_,rfl,l1,_,_,_,rfl,rfl,SqL.of (s9 _ _ nl1 g4),hx0,k' _ _ ⟨_,a9,c9,rfl,of0,of1,B9,by omega,s9⟩⟩)⟩⟩
    rintro _ G2 ⟨ft,a2',c2',rfl,ft0,ft1,B2',hc2',t2⟩
    have k4:=t2 _ _ nl1 g4
    have k1:=t2 _ _ nlb g1
    have md0:0≤(0+(j:Int)) % (ns1.length:Int):=em0 _ (by omega)
    have md1:(0+(j:Int)) % (ns1.length:Int)<ns1.length:=em1 _ (by omega)
    obtain ⟨x3,hx3,mx3⟩:=at_mem (ns:=ns1) md0 md1
    obtain ⟨y30,y31⟩:=bd' _ mx3
    refine ⟨_,rfl,.inl ⟨rfl,_,SqL.of k1⟩,_,rfl,_,rfl,_,rfl,_,rfl,l1,_,rfl,.inl (SqL.of k4),_,_,rfl,rfl,(by show (0:Int)<_; rw [len1]; omega),l1,_,_,_,rfl,rfl,SqL.of k4,(by rw [len1]; exact hx3),?_⟩
    refine cpE (te:=tIf _ _ _) (fun v G'=>∃ z,v=.int z∧0≤z∧z≤9999∧G'=G2) (fun Q' k'=>?_) ?_
    · refine ⟨_,rfl,_,_,rfl,rfl,(by show (0:Int)<3; decide),rfl,_,rfl,ite_dec (fun _=>⟨_,rfl,k' _ _ ⟨_,rfl,dr0,dr1,rfl⟩⟩) (fun _=>?_)⟩
      exact ⟨_,rfl,_,rfl,_,rfl,l1,_,rfl,.inl (SqL.of k4),_,_,rfl,rfl,(by show (0:Int)<_; rw [len1]; omega),l1,_,_,_,rfl,rfl,SqL.of k4,(by rw [len1]; exact hx3),k' _ _ ⟨_,rfl,y30,y31,rfl⟩⟩
    rintro _ _ ⟨mid,rfl,mid0,mid1,rfl⟩
    obtain ⟨pk,hpk,hpk'⟩:=pickA dr x3 mid x2 ft wy wy0 wy1
    refine ⟨_,rfl,_,rfl,(by show 5≤sizeLine; decide),fun p hp=>⟨_,rfl,p,_,_,_,rfl,rfl,SqL.of upd_same,hpk,l,_,_,rfl,rfl,(by rw [upd_ne (ne_of_none k1 hp)]; exact k1),small1000 (by rw [List.length_map]; omega),?_⟩⟩
    have pk0:0≤pk∧pk≤9999:=by rcases hpk' with rfl | rfl | rfl | rfl | rfl <;> exact ⟨by omega,by omega⟩
    refine ⟨_,_,_,_,_,ns++[pk],a2',c2',rfl,by rw [upd_same,List.map_append]; rfl,by rw [List.length_append,h2]; rfl,fun n hn=>?_,?_,(B2'.same (same_upd hp _)).sb (sb_upd l _ _) (Ne.symm nlb),by omega,fun e o n' y=>?_⟩
    · rcases List.mem_append.mp hn with h | h
      · exact h3 n h
      · have en:n=pk:=by simpa using h
        subst en; exact pk0
    · rw [upd_ne nll]; exact same_upd hp _ _ _ k4
    · rw [upd_ne (ne_of_none y hlH)]
      exact same_upd hp _ _ _ (t2 _ _ n' (t1 _ _ n' (h7 _ _ n' y)))
  · rintro σ G ⟨v7,v8,v9,v10,v11,ns,a',c',rfl,h1,h2,h3,h4,h5,h6,h7⟩
    exact ⟨_,rfl,k l ns a' c' G hlH h1 (by omega) h3 h5 (by omega) h7⟩
end
theorem gN {i:Nat} {v:V} {σ:St} {H:Hp} {Q:St→Hp→Prop} (h:Q (σ.set i (some v)) H):gName i v σ H Q:=h
theorem ite_dec' {b:Bool} {A B:Prop} (h1:b=true→A) (h2:¬ b=true→B):if b=true then A else B:=by
  by_cases h:b=true
  · rw [if_pos h]; exact h1 h
  · rw [if_neg h]; exact h2 h
theorem ints_at {ns:List Int} {i:Nat} {x:V} (h:(ns.map V.int)[i]?=some x):∃ z,ns[i]?=some z∧x=V.int z:=by
  rw [List.getElem?_map] at h
  cases e:ns[i]? with
  | none=>rw [e] at h; cases h
  | some z=>rw [e] at h; exact ⟨z,rfl,(Option.some.inj h).symm⟩
section
variable {P:Program} {w:World} {K:PySem.W.Frag} {mg:Str→Option Value} {base:Heap}
def spShelf:Sp:=fun vs H Q _=>∃ sh b:Int,vs=[.int sh,.int b]∧1≤sh∧Q (.int (b % sh)) H
theorem ok_shelf_of {f:Addr} {fd:FuncData} (F:Fun K "shelf_of" "shelf_of" s_shelf_of f fd) (T:Txt K mg):FnOk P w K mg base CX0 1 f fd P_shelf_of spShelf:=by
  refine F.ok sc_shelf_of (fun vs H Q E h=>?_) (fun cdv A outer st H vs Q E hr h=>?_)
  · obtain ⟨sh,b,rfl,_⟩:=h
    rfl
  obtain ⟨sh,b,rfl,h0,k⟩:=h
  have nd:=sc_shelf_of.nd
  refine ⟨_,(pss_one (ps_ret (pe_op op_mod (pv 1) (pv 0)))),?_⟩
  exact ⟨_,rfl,_,rfl,_,_,rfl,rfl,(by show 0<sh; omega),k⟩
end
theorem lex_irr:∀ a:List Int,HT.lexLt a a=false
  | []=>rfl
  | x :: xs=>by rw [HT.lexLt_cons,if_pos rfl]; exact lex_irr xs
theorem lex_trans:∀ {a b c:List Int},HT.lexLt a b=true→HT.lexLt b c=true→HT.lexLt a c=true
  | [],[],_,h,_=>by rw [HT.lexLt_nil_nil] at h; cases h
  | [],_ :: _,[],_,h=>by rw [HT.lexLt_cons_nil] at h; cases h
  | [],_ :: _,_ :: _,_,_=>rfl
  | _ :: _,[],_,h,_=>by rw [HT.lexLt_cons_nil] at h; cases h
  | _ :: _,_ :: _,[],_,h=>by rw [HT.lexLt_cons_nil] at h; cases h
  | x :: xs,y :: ys,z :: zs,h1,h2=>by
    rw [HT.lexLt_cons] at h1 h2 ⊢
    by_cases e1:x=y
    · subst e1
      rw [if_pos rfl] at h1
      by_cases e2:x=z
      · subst e2
        rw [if_pos rfl] at h2 ⊢
        exact lex_trans h1 h2
      · rw [if_neg e2] at h2 ⊢; exact h2
    · rw [if_neg e1] at h1
      have l1:=of_decide_eq_true h1
      by_cases e2:y=z
      · subst e2
        rw [if_neg e1]; exact h1
      · rw [if_neg e2] at h2
        have l2:=of_decide_eq_true h2
        rw [if_neg (by omega)]
        exact decide_eq_true (by omega)
theorem best_le (f:Nat→Nat→Bool):∀ k,argBest f k≤k
  | 0=>Nat.le_refl _
  | k+1=>by
    have:=best_le f k
    unfold argBest
    split <;> omega
def nxtD (d b:Int):Nat→List Int→Int
  | _,[]=>d
  | p,x :: xs=>if x=b then (p:Int) else nxtD d b (p+1) xs
theorem nxtD_step {d b:Int} {row:List Int} {p:Nat} {x:Int} (h:row[p]?=some x):nxtD d b p (row.drop p)=if x=b then (p:Int) else nxtD d b (p+1) (row.drop (p+1)):=by
  obtain ⟨hp,rfl⟩:=List.getElem?_eq_some_iff.mp h
  rw [List.drop_eq_getElem_cons hp]
  rfl
def agn (row:List Int) (p:Nat) (b:Int):Int:=nxtD row.length b p (row.drop p)
theorem agn_end {row:List Int} {p:Nat} {b:Int} (h:row.length≤p):agn row p b=row.length:=by
  unfold agn
  rw [List.drop_eq_nil_of_le h]
  rfl
theorem agn_step {row:List Int} {p:Nat} {b x:Int} (h:row[p]?=some x):agn row p b=if x=b then (p:Int) else agn row (p+1) b:=nxtD_step h
def againF (row:List Int):List Int:=(List.range row.length).map fun i=>agn row (i+1) (row.getD i 0)
def againD (row:List Int) (j:Nat):List Int:=(List.range j).map fun k=>agn row (row.length - k) (row.getD (row.length - 1 - k) 0)
theorem againD_rev (row:List Int):(againD row row.length).reverse=againF row:=by
  unfold againD againF
  apply List.ext_getElem?
  intro i
  by_cases h:i<row.length
  · rw [List.getElem?_reverse (by simpa using h)]
    simp only [List.length_map,List.length_range,List.getElem?_map]
    rw [List.getElem?_range (by omega),List.getElem?_range h]
    show some (agn row (row.length - (row.length - 1 - i)) (row.getD (row.length - 1 - (row.length - 1 - i)) 0))=some (agn row (i+1) (row.getD i 0))
    rw [show row.length - (row.length - 1 - i)=i+1 by omega,show row.length - 1 - (row.length - 1 - i)=i by omega]
  · rw [List.getElem?_eq_none (by simpa using h),List.getElem?_eq_none (by simpa using h)]
theorem againF_len (row:List Int):(againF row).length=row.length:=by unfold againF; simp
theorem againD_succ (row:List Int) (j:Nat):againD row (j+1)=againD row j++[agn row (row.length - j) (row.getD (row.length - 1 - j) 0)]:=by
  unfold againD
  rw [List.range_succ,List.map_append]
  rfl
section
variable {P:Program} {w:World} {K:PySem.W.Frag} {mg:Str→Option Value} {base:Heap}
def spAgain (K:PySem.W.Frag):Sp:=fun vs H Q _=>∃ (a:Addr) (row:List Int),vs=[.ref a]∧SqL K H a (row.map V.int)∧row.length≤400 ∧
  ∀ (l:Addr) (H':Hp),H l=none→Same H H'→H' l=some (.lst ((againF row).map V.int))→Q (.ref l) H'
theorem ok_asked_again {f:Addr} {fd:FuncData} (F:Fun K "asked_again" "asked_again" s_asked_again f fd) (T:Txt K mg):FnOk P w K mg base CX0 1 f fd P_asked_again (spAgain K):=by
  refine F.ok sc_asked_again (fun vs H Q E h=>?_) (fun cdv A outer st H vs Q E hr h=>?_)
  · obtain ⟨a,row,rfl,_⟩:=h
    rfl
  obtain ⟨a,row,rfl,hS,hl,k⟩:=h
  have nd:=sc_asked_again.nd
  have hu:=hu_of hr
  refine ⟨_,(pss_cons (pst 1 nd (pe_lst pa_nil))
      (pss_cons (pst 2 nd pe_dnewK)
      (pss_cons (ps_for PassesOwn.never rfl (pi_range3 rfl T.z_range (pc (pe_op op_sub (pe_callBN (call_len_seqK (K:=K) rfl) rfl T.z_len PySem.boot_len (pc (pv 0) pa_nil)) pe_int) (pc (pe_un un_neg pe_int) (pc (pe_un un_neg pe_int) pa_nil)))) (pgn 3 nd) (pss_cons (pst 4 nd (pe_ix (ix_listK (K:=K) rfl) (pv 0) (pv 3) (fun _ _=>rfl)))
      (pss_cons (ps_expr (pe_bmC (K:=K) rfl (pe_bm PySem.F.plainAttrs_list PySem.F.slot_list_append PySem.F.type_list_append mt_append (pv 1) (pc (pe_dget2 hu (pv 2) (pv 4) (pe_callBN (call_len_seqK (K:=K) rfl) rfl T.z_len PySem.boot_len (pc (pv 0) pa_nil)) ⟨rfl,rfl,rfl,rfl⟩) pa_nil))))
      (pss_one (ps_dput hu (pv 2) (pv 4) (pv 3) rfl)))))
      (pss_one (ps_ret (pe_slice3 (K:=K) rfl (pv 1) po_none po_none (po_some (pe_un un_neg pe_int)))))))),?_⟩
  have len:(row.map V.int).length=row.length:=List.length_map ..
  refine ⟨(by show 0≤sizeLine; decide),fun lt hlt=>fun ld hld=>?_⟩
  have s0:=(same_upd hlt (.lst [])).trans (same_upd hld (.dK []))
  have hdH:H ld=none:=(same_upd hlt (.lst [])).free hld
  have ntd:lt≠ld:=ne_of_none (upd_same (H:=H) (a:=lt) (o:=.lst [])) hld
  refine ⟨_,rfl,a,_,rfl,.inl (s0.seq hS),_,_,rfl,rfl,_,rfl,_,rfl,_,_,rfl,⟨by omega,by omega,by omega,by omega⟩,for_down (hi:=((row.map V.int).length:Int) - 1) (n:=(((row.map V.int).length:Int) - 1 - -1).toNat) (fun j σ G=>∃ (v3 v4:Option V) (kvs:List (Key×V)),σ=[some (.ref a),some (.ref lt),some (.ref ld),v3,v4]∧G lt=some (.lst ((againD row j).map V.int))∧G ld=some (.dK kvs)∧kvs.length≤j∧(∀ b,(valV kvs (Sum.inl b:Key)).getD (.int row.length)=.int (agn row (row.length - j) b))∧Same H G)
    ⟨none,none,[],rfl,by rw [upd_ne ntd]; exact upd_same,upd_same,Nat.le_refl _,fun b=>by rw [agn_end (by omega)]; rfl,s0⟩ ?_ ?_⟩
  · rintro j σ G hj ⟨v3,v4,kvs,rfl,h1,h2,hk,hv,s1⟩
    have hjn:j<row.length:=by omega
    have hlt':row.length - 1 - j<row.length:=by omega
    have hget:row[row.length - 1 - j]?=some row[row.length - 1 - j]:=List.getElem?_eq_getElem hlt'
    have hat:atI (row.map V.int) (((row.map V.int).length:Int) - 1 - (j:Int))=some (.int row[row.length - 1 - j]):=by
      have q:atI (row.map V.int) ((row.length - 1 - j:Nat):Int)=some (.int row[row.length - 1 - j]):=atI_nat (by rw [List.getElem?_map,hget]; rfl)
      rw [show ((row.length - 1 - j:Nat):Int)=((row.map V.int).length:Int) - 1 - (j:Int) by omega] at q
      exact q
    have eg:row.getD (row.length - 1 - j) 0=row[row.length - 1 - j]:=by rw [List.getD_eq_getElem?_getD,hget]; rfl
    have ea:=againD_succ row j
    rw [eg] at ea
    generalize row[row.length - 1 - j]=z at *
    refine ⟨_,rfl,_,rfl,a,_,_,_,rfl,rfl,s1.seq hS,hat,?_⟩
    refine ⟨_,rfl,.inl ⟨rfl,_,SqL.of h1⟩,_,rfl,ld,rfl,.inl ⟨_,.inl h2⟩,_,rfl,_,rfl,a,_,rfl,.inl (s1.seq hS),_,DGet.k (k:=Sum.inl z) h2,lt,_,_,rfl,rfl,h1,small1000 (by rw [List.length_map]; unfold againD; simp; omega),?_⟩
    rw [len,hv z]
    have h2':upd G lt (.lst ((againD row j).map V.int++[.int (agn row (row.length - j) z)])) ld=some (.dK kvs):=by rw [upd_ne (Ne.symm ntd)]; exact h2
    refine ⟨_,rfl,_,rfl,_,rfl,ld,_,rfl,DPut.k (k:=Sum.inl z) h2' (small1000 (by omega)),⟨_,_,_,rfl,?_,upd_same,?_,fun b=>?_,?_⟩⟩
    · rw [upd_ne ntd,upd_same,ea,List.map_append]; rfl
    · exact Nat.le_trans (length_putK ..) (by omega)
    · rw [valV_put,show row.length - (j+1)=row.length - 1 - j by omega,agn_step hget]
      by_cases e:z=b
      · subst e
        rw [if_pos rfl,if_pos rfl]
        show V.int _=V.int _
        congr 1
        omega
      · rw [if_neg (fun q=>e (Sum.inl.inj q).symm),if_neg e,hv b,show row.length - 1 - j+1=row.length - j by omega]
    · intro e o y
      rw [upd_ne (ne_of_none y hdH),upd_ne (ne_of_none y hlt)]
      exact s1 _ _ y
  · rintro σ G ⟨v3,v4,kvs,rfl,h1,h2,hk,hv,s1⟩
    rw [show (((row.map V.int).length:Int) - 1 - -1).toNat=row.length by omega] at h1
    refine ⟨_,rfl,1,rfl,_,rfl,lt,_,rfl,SqL.of h1,by decide,?_,fun p hp=>?_⟩
    · rw [pickV_rev,List.length_reverse,List.length_map]; unfold againD; simp; exact Nat.le_of_lt (small1000 (by omega))
    · rw [pickV_rev,← List.map_reverse,againD_rev]
      exact k p _ (s1.free hp) (s1.trans (same_upd hp _)) upd_same
end
theorem nd_leG {α:Type} [BEq α] [LawfulBEq α]:∀ {a b:List α},a.Nodup→(∀ x∈a,x∈b)→a.length≤b.length
  | [],_,_,_=>Nat.zero_le _
  | x :: a,b,h,m=>by
    obtain ⟨h1,h2⟩:=List.nodup_cons.mp h
    have q:=nd_leG (b:=b.erase x) h2 fun y hy=>(List.mem_erase_of_ne (fun z:y=x=>h1 (by rw [← z]; exact hy))).mpr (m y (List.mem_cons_of_mem _ hy))
    rw [List.length_erase_of_mem (m x List.mem_cons_self)] at q
    have:=List.length_pos_of_mem (m x List.mem_cons_self)
    rw [List.length_cons]
    omega
theorem nd_mapG {α β:Type} {f:α→β}:∀ {l:List α},l.Nodup→(∀ x∈l,∀ y∈l,f x=f y→x=y)→(l.map f).Nodup
  | [],_,_=>List.nodup_nil
  | x :: l,h,i=>by
    obtain ⟨h1,h2⟩:=List.nodup_cons.mp h
    refine List.nodup_cons.mpr ⟨fun z=>?_,nd_mapG h2 fun a ha b hb=>i a (List.mem_cons_of_mem _ ha) b (List.mem_cons_of_mem _ hb)⟩
    obtain ⟨y,hy,e⟩:=List.mem_map.mp z
    exact h1 (by rw [← i y (List.mem_cons_of_mem _ hy) x List.mem_cons_self e]; exact hy)
theorem cnt_map {α:Type} [BEq α] [LawfulBEq α] {n:Nat} {p:Nat→Bool} {b:List α} (f:Nat→α) (h:∀ i,i<n→p i=true→f i∈b) (inj:∀ i j,i<n→j<n→p i=true→p j=true→f i=f j→i=j):(List.range n).countP p≤b.length:=by
  rw [List.countP_eq_length_filter]
  have nd:((List.range n).filter p).Nodup:=List.nodup_range.sublist List.filter_sublist
  have at':∀ x∈(List.range n).filter p,x<n∧p x=true:=fun x hx=>⟨List.mem_range.mp (List.mem_filter.mp hx).1,(List.mem_filter.mp hx).2⟩
  have:=nd_leG (a:=((List.range n).filter p).map f) (b:=b) (nd_mapG nd fun x hx y hy e=>inj x y (at' x hx).1 (at' y hy).1 (at' x hx).2 (at' y hy).2 e) fun y hy=>by
    obtain ⟨x,hx,rfl⟩:=List.mem_map.mp hy
    exact h x (at' x hx).1 (at' x hx).2
  rwa [List.length_map] at this
theorem cnt_inj {n:Nat} {p q:Nat→Bool} (f:Nat→Nat) (h:∀ i,i<n→p i=true→f i<n∧q (f i)=true) (inj:∀ i j,i<n→j<n→p i=true→p j=true→f i=f j→i=j):(List.range n).countP p≤(List.range n).countP q:=by
  rw [List.countP_eq_length_filter (p:=q)]
  exact cnt_map f (fun i hi hp=>List.mem_filter.mpr ⟨List.mem_range.mpr (h i hi hp).1,(h i hi hp).2⟩) inj
def prv (row:List Int) (b:Int):Nat→Option Nat
  | 0=>none
  | j+1=>if row.getD j 0=b then some j else prv row b j
theorem prv_some {row:List Int} {b:Int}:∀ {j i:Nat},prv row b j=some i→i<j∧row.getD i 0=b∧∀ k,i<k→k<j→row.getD k 0≠b
  | 0,i,h=>nomatch h
  | j+1,i,h=>by
    unfold prv at h
    split at h
    · rename_i c
      cases h
      exact ⟨Nat.lt_succ_self _,c,fun k h1 h2=>by omega⟩
    · rename_i c
      obtain ⟨h1,h2,h3⟩:=prv_some h
      refine ⟨by omega,h2,fun k k1 k2=>?_⟩
      by_cases e:k=j
      · subst e; exact c
      · exact h3 k k1 (by omega)
theorem prv_none {row:List Int} {b:Int}:∀ {j:Nat},prv row b j=none→∀ k,k<j→row.getD k 0≠b
  | 0,_,k,h=>by omega
  | j+1,h,k,hk=>by
    unfold prv at h
    split at h
    · cases h
    · rename_i c
      by_cases e:k=j
      · subst e; exact c
      · exact prv_none h k (by omega)
theorem prv_of {row:List Int} {b:Int} {j i:Nat} (h1:i<j) (h2:row.getD i 0=b) (h3:∀ k,i<k→k<j→row.getD k 0≠b):prv row b j=some i:=by
  cases e:prv row b j with
  | none=>exact absurd h2 (prv_none e i h1)
  | some k =>
    obtain ⟨k1,k2,k3⟩:=prv_some e
    congr 1
    by_cases c:k<i
    · exact absurd h2 (k3 i c h1)
    · by_cases c2:i<k
      · exact absurd k2 (h3 k c2 k1)
      · omega
theorem agn_ok {row:List Int} {b:Int}:∀ (d p:Nat),p+d=row.length→(agn row p b=row.length∧∀ k,p≤k→k<row.length→row.getD k 0≠b)∨∃ j:Nat,p≤j∧j<row.length∧agn row p b=(j:Int)∧row.getD j 0=b∧∀ k,p≤k→k<j→row.getD k 0≠b
  | 0,p,h=>.inl ⟨agn_end (by omega),fun k h1 h2=>by omega⟩
  | d+1,p,h=>by
    have hx:row[p]?=some (row.getD p 0):=by rw [List.getD_eq_getElem?_getD,List.getElem?_eq_getElem (by omega)]; rfl
    rw [agn_step hx]
    by_cases c:row.getD p 0=b
    · rw [if_pos c]
      exact .inr ⟨p,Nat.le_refl _,by omega,rfl,c,fun k h1 h2=>by omega⟩
    · rw [if_neg c]
      rcases agn_ok (row:=row) (b:=b) d (p+1) (by omega) with ⟨h1,h2⟩ | ⟨j,h1,h2,h3,h4,h5⟩
      · refine .inl ⟨h1,fun k k1 k2=>?_⟩
        by_cases e:k=p
        · subst e; exact c
        · exact h2 k (by omega) k2
      · refine .inr ⟨j,by omega,h2,h3,h4,fun k k1 k2=>?_⟩
        by_cases e:k=p
        · subst e; exact c
        · exact h5 k (by omega) k2
def nxP (row:List Int) (i:Nat):Int:=agn row (i+1) (row.getD i 0)
def crs (sh:Int) (row:List Int) (i j m:Nat):Bool:=(decide (i<m) && decide (m<j)) && decide (row.getD m 0 % sh=row.getD i 0 % sh)
def mkd (sh:Int) (row:List Int) (ms:List Nat) (i j:Nat):Bool:=ms.any (crs sh row i j)
def frI (sh:Int) (row:List Int) (ms:List Nat) (i:Nat):Bool:=decide (nxP row i<row.length) && !mkd sh row ms i (nxP row i).toNat
def spn (row:List Int) (f:Nat→Nat→Bool) (j:Nat):Bool:=match prv row (row.getD j 0) j with
  | some i=>f i j
  | none=>false
def frJ (sh:Int) (row:List Int) (ms:List Nat) (j:Nat):Bool:=spn row (fun i j=>!mkd sh row ms i j) j
theorem nxP_ok {row:List Int} {i:Nat} (hi:i<row.length) (h:nxP row i<row.length):∃ j:Nat,nxP row i=(j:Int)∧i<j∧j<row.length∧row.getD j 0=row.getD i 0∧prv row (row.getD j 0) j=some i:=by
  rcases agn_ok (row:=row) (b:=row.getD i 0) (row.length - (i+1)) (i+1) (by omega) with ⟨h1,_⟩ | ⟨j,h1,h2,h3,h4,h5⟩
  · unfold nxP at h; omega
  · exact ⟨j,h3,by omega,h2,h4,by rw [h4]; exact prv_of (by omega) rfl fun k k1 k2=>h5 k (by omega) k2⟩
theorem nxP_of {row:List Int} {i j:Nat} (hj:j<row.length) (h:prv row (row.getD j 0) j=some i):nxP row i=(j:Int):=by
  obtain ⟨h1,h2,h3⟩:=prv_some h
  rcases agn_ok (row:=row) (b:=row.getD i 0) (row.length - (i+1)) (i+1) (by omega) with ⟨_,k2⟩ | ⟨k,k1,k2,k3,k4,k5⟩
  · exact absurd h2.symm (k2 j (by omega) hj)
  · unfold nxP
    rw [k3]
    congr 1
    by_cases c:k<j
    · exact absurd (k4.trans h2) (h3 k (by omega) c)
    · by_cases c2:j<k
      · exact absurd h2.symm (k5 j (by omega) c2)
      · omega
theorem ret_eq (row:List Int) (f:Nat→Nat→Bool):(List.range row.length).countP (fun i=>decide (nxP row i<row.length) && f i (nxP row i).toNat)=(List.range row.length).countP (spn row f):=by
  apply Nat.le_antisymm
  · refine cnt_inj (fun i=>(nxP row i).toNat) (fun i hi hp=>?_) (fun i j hi hj hp hq e=>?_)
    · obtain ⟨h1,h2⟩:=(Bool.and_eq_true _ _).mp hp
      obtain ⟨j,e,h3,h4,h5,h6⟩:=nxP_ok hi (of_decide_eq_true h1)
      rw [e] at h2 ⊢
      refine ⟨h4,?_⟩
      unfold spn
      rw [show ((j:Int)).toNat=j from rfl,h6]
      exact h2
    · obtain ⟨h1,_⟩:=(Bool.and_eq_true _ _).mp hp
      obtain ⟨h2,_⟩:=(Bool.and_eq_true _ _).mp hq
      obtain ⟨x,e1,_,_,_,q1⟩:=nxP_ok hi (of_decide_eq_true h1)
      obtain ⟨y,e2,_,_,_,q2⟩:=nxP_ok hj (of_decide_eq_true h2)
      rw [e1,e2] at e
      have exy:x=y:=e
      rw [exy,q2] at q1
      exact (Option.some.inj q1).symm
  · refine cnt_inj (fun j=>(prv row (row.getD j 0) j).getD 0) (fun j hj hp=>?_) (fun i j hi hj hp hq e=>?_)
    · unfold spn at hp
      cases e:prv row (row.getD j 0) j with
      | none=>rw [e] at hp; cases hp
      | some i =>
        rw [e] at hp
        have:=prv_some e
        have n:=nxP_of hj e
        refine ⟨by show i<_; omega,?_⟩
        show (decide (nxP row i<row.length) && f i (nxP row i).toNat)=true
        rw [n,decide_eq_true (by omega)]
        exact hp
    · unfold spn at hp hq
      cases e1:prv row (row.getD i 0) i with
      | none=>rw [e1] at hp; cases hp
      | some x =>
        cases e2:prv row (row.getD j 0) j with
        | none=>rw [e2] at hq; cases hq
        | some y =>
          rw [e1,e2] at e
          have exy:x=y:=e
          have n1:=nxP_of hi e1
          have n2:=nxP_of hj e2
          rw [exy,n2] at n1
          omega
def bndF (sh pl:Int) (row:List Int) (ms:List Nat):Int:=(pl - 1) * ms.length+((List.range row.length).countP (frI sh row ms):Nat)
theorem bnd_J (sh pl:Int) (row:List Int) (ms:List Nat):bndF sh pl row ms=(pl - 1) * ms.length+((List.range row.length).countP (frJ sh row ms):Nat):=by
  unfold bndF frJ
  rw [← ret_eq]
  rfl
def mV (ms:List Nat):List V:=ms.map fun m:Nat=>V.int (m:Int)
def rets (row:List Int):List Nat:=(List.range row.length).filter fun i=>decide (nxP row i<row.length)
theorem againF_get (row:List Int) {i:Nat} (hi:i<row.length):(againF row)[i]?=some (nxP row i):=by
  unfold againF
  rw [List.getElem?_map,List.getElem?_range hi]
  rfl
section
variable {P:Program} {w:World} {K:PySem.W.Frag} {mg:Str→Option Value} {base:Heap}
def RetsAt (G:Hp) (l:Addr) (row:List Int) (ns:List Nat):Prop:=∃ ads:List Addr,G l=some (.lst (ads.map V.ref))∧ads.length=ns.length∧∀ (k:Nat) (ad:Addr) (i:Nat),ads[k]?=some ad→ns[k]?=some i→G ad=some (.tup [.int (i:Int),.int (nxP row i)])
def spRets (K:PySem.W.Frag):Sp:=fun vs H Q _=>∃ (a:Addr) (row:List Int),vs=[.ref a]∧SqL K H a (row.map V.int)∧row.length≤400 ∧
  ∀ (l:Addr) (H':Hp),H l=none→Same H H'→RetsAt H' l row (rets row)→Q (.ref l) H'
theorem ok_returns_of {f:Addr} {fd:FuncData} (F:Fun K "returns_of" "returns_of" s_returns_of f fd) (T:Txt K mg) (D_asked_again:Def P w K mg base "asked_again" 1 P_asked_again (spAgain K)):FnOk P w K mg base CX0 2 f fd P_returns_of (spRets K):=by
  refine F.ok sc_returns_of (fun vs H Q E h=>?_) (fun cdv A outer st H vs Q E hr h=>?_)
  · obtain ⟨a,row,rfl,_⟩:=h
    rfl
  obtain ⟨a,row,rfl,hS,hl,k⟩:=h
  have nd:=sc_returns_of.nd
  refine ⟨_,(pss_one (ps_ret (pe_comp1 (compOk_of (osc:=(defScope s_returns_of)) (oN:=N_returns_of) (N:=["first", "last", "row"]) (own:=2) (js:=[0]) (by decide +kernel) rfl rfl) rfl (pi_enum rfl T.z_enumerate (pc (pe_defN D_asked_again hr.m rfl (pc (pv 0) pa_nil)) pa_nil)) (fun _ _ _ _ _ _=>(pg_tupK (K:=K) (n:=2) rfl rfl (pgs_cons (pgn 0 (show List.Nodup (["first", "last", "row"]:List Str) by decide +kernel)) (pgs_cons (pgn 1 (show List.Nodup (["first", "last", "row"]:List Str) by decide +kernel)) pgs_nil)))) (fun _ _ _ _ _ _=>(pt_cmpR op_lt (pv 1) (pe_callBN (call_len_seqK (K:=K) rfl) rfl T.z_len PySem.boot_len (pc (pv 2) pa_nil)) (nomark _))) (fun _ _ _ _ _ _=>(pe_tup (pc (pv 0) (pc (pv 1) pa_nil))))))),?_⟩
  refine ⟨_,rfl,a,row,rfl,hS,hl,fun lg H1 hlg s1 e1=>⟨lg,rfl,⟨_,SqL.of e1⟩,fun l hl'=>?_⟩⟩
  have la:((againF row).map V.int).length=row.length:=by rw [List.length_map,againF_len]
  refine comp_enum (K:=K) (a:=lg) (xs:=(againF row).map V.int) (l:=l) (fun j ys σ' G'=>∃ (v0 v1:Option V),σ'=[v0,v1,some (.ref a)]∧G' l=some (.lst ys)∧RetsAt G' l row ((List.range j).filter fun i=>decide (nxP row i<row.length))∧Same H1 G')
    ⟨none,none,rfl,upd_same,⟨[],upd_same,rfl,fun k ad i h _=>by simp at h⟩,same_upd hl' _⟩ (fun j ys σ' G' _ ⟨_,_,_,_,_,s⟩=>SqL.of (s _ _ e1)) ?_ ?_
  · rintro j x t ys σ' G' hj hxj hys ⟨v0,v1,rfl,el,⟨ads,r1,r2,r3⟩,sg⟩ ht
    have hj':j<row.length:=by omega
    rw [List.getElem?_map,againF_get row hj'] at hxj
    cases hxj
    have nlt:l≠t:=ne_of_none el ht
    have hx:((List.range (j+1)).filter fun i=>decide (nxP row i<row.length))=((List.range j).filter fun i=>decide (nxP row i<row.length))++(if nxP row j<row.length then [j] else []):=by
      rw [List.range_succ,List.filter_append,List.filter_cons,List.filter_nil]
      simp only [decide_eq_true_eq]
    have sx:=same_upd (H:=G') ht (.tup [V.int (j:Int),V.int (nxP row j)])
    refine ⟨t,_,rfl,SqT.of upd_same,rfl,_,_,rfl,_,_,rfl,rfl,?_⟩
    refine ⟨_,rfl,_,rfl,a,_,rfl,.inl ((s1.trans (sg.trans sx)).seq hS),_,_,rfl,rfl,_,rfl,?_⟩
    generalize upd G' t (.tup [V.int (j:Int),V.int (nxP row j)])=G1 at *
    have el1:=sx _ _ el
    rw [List.length_map]
    refine ite_dec (fun c=>?_) (fun c=>?_)
    · rw [if_pos c] at hx
      refine ⟨_,rfl,_,rfl,(by show 2≤sizeLine; decide),fun q hq=>?_⟩
      have sq:=same_upd (H:=G1) hq (.tup [V.int (j:Int),V.int (nxP row j)])
      have eq:=upd_same (H:=G1) (a:=q) (o:=.tup [V.int (j:Int),V.int (nxP row j)])
      have nlq:l≠q:=ne_of_none el1 hq
      dsimp only
      have sG:=sx.trans sq
      generalize upd G1 q (.tup [V.int (j:Int),V.int (nxP row j)])=G2 at *
      have ey:ys=ads.map V.ref:=by rw [el] at r1; cases r1; rfl
      subst ey
      refine CNx.of (by rw [la]; exact Nat.le_of_lt (small1000 (by omega))) hj hys (sG _ _ el) ⟨_,_,rfl,upd_same,⟨ads++[q],by rw [upd_same,List.map_append]; rfl,by rw [hx,List.length_append,List.length_append,r2]; rfl,fun k ad i h1 h2=>?_⟩,fun x o e=>by rw [upd_ne (ne_of_none e hl')]; exact sG _ _ (sg _ _ e)⟩
      rw [hx] at h2
      by_cases ck:k<ads.length
      · rw [List.getElem?_append_left ck] at h1
        rw [List.getElem?_append_left (by rw [← r2]; exact ck)] at h2
        have q3:=r3 k ad i h1 h2
        rw [upd_ne (fun z=>by rw [z,el] at q3; cases q3)]
        exact sG _ _ q3
      · rw [List.getElem?_append_right (by omega)] at h1
        rw [List.getElem?_append_right (by rw [← r2]; omega),← r2] at h2
        cases ek:k - ads.length with
        | zero =>
          rw [ek] at h1 h2
          cases h1; cases h2
          rw [upd_ne (Ne.symm nlq)]
          exact eq
        | succ n=>rw [ek] at h1; simp at h1
    · rw [if_neg c,List.append_nil] at hx
      refine CNo.of hj hys ⟨_,_,rfl,el1,⟨ads,sx _ _ r1,by rw [hx]; exact r2,fun k ad i h1 h2=>sx _ _ (r3 k ad i h1 (by rw [hx] at h2; exact h2))⟩,sg.trans sx⟩
  · rintro ys σ' G' _ ⟨v0,v1,rfl,el,rr,sg⟩
    rw [la] at rr
    exact k l G' (s1.free hl') (s1.trans sg) rr
def spMk (K:PySem.W.Frag):Sp:=fun vs H Q _=>∃ (sh:Int) (a lm:Addr) (row:List Int) (ms:List Nat) (i j:Nat),vs=[.int sh,.ref a,.ref lm,.int (i:Int),.int (j:Int)]∧SqL K H a (row.map V.int)∧SqL K H lm (mV ms)∧1≤sh∧i<row.length∧(∀ x∈ms,x<row.length)∧ms.length≤900 ∧
  ∀ H',Same H H'→Q (.bl (mkd sh row ms i j)) H'
theorem ok_is_marked {f:Addr} {fd:FuncData} (F:Fun K "is_marked" "is_marked" s_is_marked f fd) (T:Txt K mg) (D_shelf_of:Def P w K mg base "shelf_of" 1 P_shelf_of spShelf):FnOk P w K mg base CX0 2 f fd P_is_marked (spMk K):=by
  refine F.ok sc_is_marked (fun vs H Q E h=>?_) (fun cdv A outer st H vs Q E hr h=>?_)
  · obtain ⟨sh,a,lm,row,ms,i,j,rfl,_⟩:=h
    rfl
  obtain ⟨sh,a,lm,row,ms,i,j,rfl,hS,hM,hs0,hi,hm,hl,k⟩:=h
  have nd:=sc_is_marked.nd
  refine ⟨_,(pss_cons (pst 5 nd (pe_defN D_shelf_of hr.m rfl (pc (pv 0) (pc (pe_ix (ix_listK (K:=K) rfl) (pv 1) (pv 3) (fun _ _=>rfl)) pa_nil))))
      (pss_one (ps_ret (pe_callBN (call_anyL rfl) rfl T.z_any boot_any (pc (pe_comp0 (compOk_of (osc:=(defScope s_is_marked)) (oN:=N_is_marked) (N:=["mark", "first", "last", "shelf", "shelves", "row"]) (own:=1) (js:=[3,4,5,0,1]) (by decide +kernel) rfl rfl) rfl (pi_listK (K:=K) rfl (pv 2)) (fun _ _ _ _ _ _=>(pgn 0 (show List.Nodup (["mark", "first", "last", "shelf", "shelves", "row"]:List Str) by decide +kernel))) (fun _ _ _ _ _ _=>(pe_and (pe_chain op_lt op_lt (pv 1) (pv 0) (pv 2)) (pe_one (pe_cmpR op_eq (pe_defN D_shelf_of hr.m rfl (pc (pv 4) (pc (pe_ix (ix_listK (K:=K) rfl) (pv 5) (pv 0) (fun _ _=>rfl)) pa_nil))) (pv 3) (nomark _)))))) pa_nil))))),?_⟩
  have at':∀ x,x<row.length→atI (row.map V.int) (x:Int)=some (.int (row.getD x 0)):=fun x hx=>atI_nat (by rw [List.getElem?_map,List.getD_eq_getElem?_getD,List.getElem?_eq_getElem hx]; rfl)
  refine ⟨_,rfl,_,rfl,_,rfl,a,_,_,_,rfl,rfl,hS,at' i hi,sh,_,rfl,hs0,gN ?_⟩
  refine ⟨_,rfl,lm,rfl,⟨_,hM⟩,fun l hl'=>?_⟩
  have lV:(mV ms).length=ms.length:=List.length_map ..
  refine comp_list (K:=K) (a:=lm) (xs:=mV ms) (l:=l) (fun n ys σ' G'=>∃ (v0:Option V),σ'=[v0,some (.int (i:Int)),some (.int (j:Int)),some (.int (row.getD i 0 % sh)),some (.int sh),some (.ref a)]∧ys=((ms.take n).map (crs sh row i j)).map V.bl∧G' l=some (.lst ys)∧Same H G')
    ⟨none,rfl,rfl,upd_same,same_upd hl' _⟩ (fun n ys σ' G' _ ⟨_,_,_,_,s⟩=>s.seq hM) ?_ ?_
  · rintro n x ys σ' G' hn hxn hys ⟨v0,rfl,rfl,el,sg⟩
    have hn':n<ms.length:=by omega
    have em:ms[n]?=some ms[n]:=List.getElem?_eq_getElem hn'
    have ex:x=.int (ms[n]:Int):=by
      unfold mV at hxn
      rw [List.getElem?_map,em] at hxn
      exact (Option.some.inj hxn).symm
    subst ex
    have mr:=hm _ (List.mem_of_getElem? em)
    have tk:ms.take (n+1)=ms.take n++[ms[n]]:=by rw [List.take_succ,em]; rfl
    generalize ms[n]=z at *
    have fin:∀ {b:Bool},b=crs sh row i j z→CNx (mV ms).length l (fun n ys σ' G'=>∃ (v0:Option V),σ'=[v0,some (.int (i:Int)),some (.int (j:Int)),some (.int (row.getD i 0 % sh)),some (.int sh),some (.ref a)]∧ys=((ms.take n).map (crs sh row i j)).map V.bl∧G' l=some (.lst ys)∧Same H G') n (((ms.take n).map (crs sh row i j)).map V.bl) [some (.int (z:Int)),some (.int (i:Int)),some (.int (j:Int)),some (.int (row.getD i 0 % sh)),some (.int sh),some (.ref a)] (.bl b) G':=fun {b} e =>
      CNx.of (by rw [lV]; exact Nat.le_of_lt (small1000 (by omega))) hn hys el ⟨_,rfl,by rw [tk,e,List.map_append,List.map_append]; rfl,upd_same,fun x o e=>by rw [upd_ne (ne_of_none e hl')]; exact sg _ _ e⟩
    refine ⟨_,rfl,_,rfl,_,_,rfl,rfl,_,rfl,?_⟩
    by_cases c1:i<z
    · refine ifT (decide_eq_true (by omega)) ⟨_,rfl,_,_,rfl,rfl,_,rfl,?_⟩
      by_cases c2:z<j
      · refine ifT (decide_eq_true (by omega)) ⟨_,rfl,_,rfl,_,rfl,a,_,_,_,rfl,rfl,sg.seq hS,at' z mr,sh,_,rfl,hs0,_,rfl,rfl,fin ?_⟩
        unfold crs
        rw [decide_eq_true c1,decide_eq_true c2]
        simp
      · refine ifF (decide_eq_false (by omega)) (fin ?_)
        unfold crs
        rw [decide_eq_false c2,Bool.and_false,Bool.false_and]
    · refine ifF (decide_eq_false (by omega)) ⟨_,rfl,ifF rfl (fin ?_)⟩
      unfold crs
      rw [decide_eq_false c1,Bool.false_and,Bool.false_and]
  · rintro ys σ' G' _ ⟨v0,rfl,rfl,el,sg⟩
    rw [lV,List.take_length] at el
    refine ⟨l,_,rfl,SqL.of el,?_⟩
    rw [List.any_map]
    exact k G' sg
def spBnd (K:PySem.W.Frag):Sp:=fun vs H Q _=>∃ (sh pl:Int) (a lm:Addr) (row:List Int) (ms:List Nat),vs=[.int sh,.int pl,.ref a,.ref lm]∧SqL K H a (row.map V.int)∧SqL K H lm (mV ms)∧1≤sh∧row.length≤400∧(∀ x∈ms,x<row.length)∧ms.length≤900 ∧
  ∀ H',Same H H'→Q (.int (bndF sh pl row ms)) H'
theorem nxP_ge {row:List Int} {i:Nat}:0≤nxP row i:=by
  unfold nxP
  by_cases c:i+1≤row.length
  · rcases agn_ok (row:=row) (b:=row.getD i 0) (row.length - (i+1)) (i+1) (by omega) with ⟨h1,_⟩ | ⟨j,_,_,h3,_⟩ <;> omega
  · rw [agn_end (by omega)]; omega
theorem ok_bound {f:Addr} {fd:FuncData} (F:Fun K "bound" "bound" s_bound f fd) (T:Txt K mg) (D_returns_of:Def P w K mg base "returns_of" 2 P_returns_of (spRets K)) (D_is_marked:Def P w K mg base "is_marked" 2 P_is_marked (spMk K)):FnOk P w K mg base CX0 3 f fd P_bound (spBnd K):=by
  refine F.ok sc_bound (fun vs H Q E h=>?_) (fun cdv A outer st H vs Q E hr h=>?_)
  · obtain ⟨sh,pl,a,lm,row,ms,rfl,_⟩:=h
    rfl
  obtain ⟨sh,pl,a,lm,row,ms,rfl,hS,hM,hs0,hl,hm,hml,k⟩:=h
  have nd:=sc_bound.nd
  refine ⟨_,(pss_cons (ps_comp1 4 (compOk_of (osc:=(defScope s_bound)) (oN:=N_bound) (N:=["first", "last", "shelves", "row", "marks"]) (own:=2) (js:=[0,2,3]) (by decide +kernel) rfl rfl) rfl nd rfl rfl (pi_listK (K:=K) rfl (pe_defN D_returns_of hr.m rfl (pc (pv 2) pa_nil))) (fun _ _ _ _ _ _=>(pg_tupK (K:=K) (n:=2) rfl rfl (pgs_cons (pgn 0 (show List.Nodup (["first", "last", "shelves", "row", "marks"]:List Str) by decide +kernel)) (pgs_cons (pgn 1 (show List.Nodup (["first", "last", "shelves", "row", "marks"]:List Str) by decide +kernel)) pgs_nil)))) (fun _ _ _ _ _ _=>(pt_not (pt_val (pe_defN D_is_marked hr.m rfl (pc (pv 2) (pc (pv 3) (pc (pv 4) (pc (pv 0) (pc (pv 1) pa_nil))))))))) (fun _ _ _ _ _ _=>(pv 0)))
      (pss_one (ps_ret (pe_op op_add (pe_op op_mul (pe_op op_sub (pv 1) pe_int) (pe_callBN (call_len_seqK (K:=K) rfl) rfl T.z_len PySem.boot_len (pc (pv 3) pa_nil))) (pe_callBN (call_len_seqK (K:=K) rfl) rfl T.z_len PySem.boot_len (pc (pv 4) pa_nil)))))),?_⟩
  refine ⟨_,rfl,a,row,rfl,hS,hl,fun lr H1 hlr s1 rr=>?_⟩
  obtain ⟨ads,r1,r2,r3⟩:=rr
  refine ⟨lr,rfl,⟨_,SqL.of r1⟩,fun l hl'=>?_⟩
  have lV:(ads.map V.ref).length=(rets row).length:=by rw [List.length_map,r2]
  have lr4:(rets row).length≤row.length:=by
    have:=List.length_filter_le (fun i=>decide (nxP row i<row.length)) (List.range row.length)
    rw [List.length_range] at this
    exact this
  refine comp_list (K:=K) (a:=lr) (xs:=ads.map V.ref) (l:=l) (fun n ys σ' G'=>∃ (v0 v1:Option V),σ'=[v0,v1,some (.int sh),some (.ref a),some (.ref lm)]∧ys.length=((rets row).take n).countP (fun i=>!mkd sh row ms i (nxP row i).toNat)∧G' l=some (.lst ys)∧Same H1 G')
    ⟨none,none,rfl,rfl,upd_same,same_upd hl' _⟩ (fun n ys σ' G' _ ⟨_,_,_,_,_,s⟩=>SqL.of (s _ _ r1)) ?_ ?_
  · rintro n x ys σ' G' hn hxn hys ⟨v0,v1,rfl,hy,el,sg⟩
    have hn':n<ads.length:=by rw [List.length_map] at hn; exact hn
    rw [List.getElem?_map,List.getElem?_eq_getElem hn'] at hxn
    cases hxn
    have ei:(rets row)[n]?=some (rets row)[n]:=List.getElem?_eq_getElem (by omega)
    have q3:=r3 n _ _ (List.getElem?_eq_getElem hn') ei
    have tk:(rets row).take (n+1)=(rets row).take n++[(rets row)[n]]:=by rw [List.take_succ,ei]; rfl
    obtain ⟨i1,i2⟩:=List.mem_filter.mp (List.mem_of_getElem? ei)
    have i1:=List.mem_range.mp i1
    generalize (rets row)[n]=i at *
    have ge:=nxP_ge (row:=row) (i:=i)
    refine ⟨_,_,rfl,SqT.of (sg _ _ q3),rfl,_,_,rfl,_,_,rfl,rfl,?_⟩
    refine ⟨_,rfl,_,rfl,_,rfl,_,rfl,_,rfl,sh,a,lm,row,ms,i,(nxP row i).toNat,by rw [Int.toNat_of_nonneg ge]; rfl,(s1.trans sg).seq hS,(s1.trans sg).seq hM,hs0,i1,hm,hml,fun G2 s2=>?_⟩
    refine ⟨_,rfl,?_⟩
    have el2:=s2 _ _ el
    cases cb:mkd sh row ms i (nxP row i).toNat with
    | false =>
      refine ifT rfl ⟨_,rfl,CNx.of (by rw [lV]; exact Nat.le_of_lt (small1000 (by omega))) hn hys el2 ⟨_,_,rfl,?_,upd_same,fun x o e=>by rw [upd_ne (ne_of_none e hl')]; exact s2 _ _ (sg _ _ e)⟩⟩
      rw [tk,List.countP_append,List.countP_singleton,List.length_append,hy,if_pos (by rw [cb]; rfl)]
      rfl
    | true =>
      refine ifF rfl (CNo.of hn hys ⟨_,_,rfl,?_,el2,sg.trans s2⟩)
      rw [tk,List.countP_append,List.countP_singleton,hy,if_neg (by rw [cb]; exact Bool.false_ne_true)]
      rfl
  · rintro ys σ' G' _ ⟨v0,v1,rfl,hy,el,sg⟩
    rw [lV,List.take_length] at hy
    have sG:=s1.trans sg
    have e:(rets row).countP (fun i=>!mkd sh row ms i (nxP row i).toNat)=(List.range row.length).countP (frI sh row ms):=by
      unfold rets
      rw [List.countP_filter]
      refine List.countP_congr fun i _=>?_
      unfold frI
      rw [Bool.and_comm]
    rw [e] at hy
    have lM:(mV ms).length=ms.length:=List.length_map ..
    refine gN ⟨_,rfl,_,_,rfl,rfl,_,rfl,lm,_,rfl,.inl (sG.seq hM),_,_,rfl,rfl,.inr (by rw [lM]; omega),_,rfl,l,_,rfl,.inl (SqL.of el),_,_,rfl,rfl,?_⟩
    rw [lM,hy]
    exact k G' sG
end
def ksF (sh:Int) (row:List Int):List Int:=row.foldl (fun ks b=>if b % sh∈ks then ks else ks++[b % sh]) []
theorem ksF_snoc (sh:Int) (row:List Int) (b:Int):ksF sh (row++[b])=if b % sh∈ksF sh row then ksF sh row else ksF sh row++[b % sh]:=by
  unfold ksF
  rw [List.foldl_append]
  rfl
theorem ksF_ok (sh:Int) (row:List Int):∀ n,n≤row.length→(ksF sh (row.take n)).Nodup∧(∀ s,s∈ksF sh (row.take n)↔∃ i,i<n∧row.getD i 0 % sh=s)∧(ksF sh (row.take n)).length≤n
  | 0,_=>⟨List.nodup_nil,fun s=>⟨fun h=>(nomatch h),fun ⟨i,h,_⟩=>by omega⟩,Nat.le_refl _⟩
  | n+1,hn=>by
    obtain ⟨h1,h2,h3⟩:=ksF_ok sh row n (by omega)
    have et:row.take (n+1)=row.take n++[row.getD n 0]:=by rw [List.take_succ,List.getD_eq_getElem?_getD,List.getElem?_eq_getElem (by omega:n<row.length)]; rfl
    rw [et,ksF_snoc]
    have ex:∀ s,(∃ i,i<n+1∧row.getD i 0 % sh=s)↔(∃ i,i<n∧row.getD i 0 % sh=s)∨row.getD n 0 % sh=s:=fun s=>by
      constructor
      · rintro ⟨i,h,e⟩
        by_cases c:i=n
        · subst c; exact .inr e
        · exact .inl ⟨i,by omega,e⟩
      · rintro (⟨i,h,e⟩ | e)
        · exact ⟨i,by omega,e⟩
        · exact ⟨n,by omega,e⟩
    by_cases c:row.getD n 0 % sh∈ksF sh (row.take n)
    · rw [if_pos c]
      refine ⟨h1,fun s=>?_,by omega⟩
      rw [ex,h2]
      exact ⟨.inl,fun z=>z.elim id fun e=>(h2 s).mp (e ▸ c)⟩
    · rw [if_neg c]
      refine ⟨nd_snoc h1 c,fun s=>?_,by rw [List.length_append]; show _+1≤_; omega⟩
      rw [ex,List.mem_append,List.mem_singleton,h2]
      exact ⟨fun z=>z.imp id Eq.symm,fun z=>z.imp id Eq.symm⟩
def spU (sh:Int) (row:List Int) (n:Nat) (s:Int):List Nat:=(List.range n).filter fun i=>decide (row.getD i 0 % sh=s)
theorem spU_succ (sh:Int) (row:List Int) (n:Nat) (s:Int):spU sh row (n+1) s=spU sh row n s++(if row.getD n 0 % sh=s then [n] else []):=by
  unfold spU
  rw [List.range_succ,List.filter_append,List.filter_cons,List.filter_nil]
  simp only [decide_eq_true_eq]
theorem mV_app (a b:List Nat):mV (a++b)=mV a++mV b:=List.map_append ..
theorem spU_len (sh:Int) (row:List Int) (n:Nat) (s:Int):(mV (spU sh row n s)).length≤n:=by
  unfold mV spU
  rw [List.length_map]
  have:=List.length_filter_le (fun i=>decide (row.getD i 0 % sh=s)) (List.range n)
  rwa [List.length_range] at this
def pbV (p:Int×Addr):Key×V:=(Sum.inl p.1,V.ref p.2)
structure PbAt (G:Hp) (d:Addr) (sh:Int) (row:List Int) (n:Nat) (L:List (Int×Addr)):Prop where
  top:G d=some (.dK (L.map pbV))
  ks:L.map (·.1)=ksF sh (row.take n)
  nd:(L.map (·.2)).Nodup
  at':∀ p∈L,G p.2=some (.lst (mV (spU sh row n p.1)))
theorem pb_val:∀ (L:List (Int×Addr)) (s:Int),(∃ ad,(s,ad)∈L∧valV (L.map pbV) (Sum.inl s)=some (.ref ad))∨(s∉L.map (·.1)∧valV (L.map pbV) (Sum.inl s)=none)
  | [],s=>.inr ⟨fun h=>(nomatch h),rfl⟩
  | (x,ad) :: L,s=>by
    by_cases c:x=s
    · subst c
      exact .inl ⟨ad,List.mem_cons_self,valV_pos (p:=pbV (x,ad)) rfl⟩
    · have e:valV ((pbV (x,ad)) :: L.map pbV) (Sum.inl s)=valV (L.map pbV) (Sum.inl s):=valV_neg fun z=>c (Sum.inl.inj z)
      rw [List.map_cons,e]
      rcases pb_val L s with ⟨a,h1,h2⟩ | ⟨h1,h2⟩
      · exact .inl ⟨a,List.mem_cons_of_mem _ h1,h2⟩
      · exact .inr ⟨fun z=>(List.mem_cons.mp z).elim (fun z=>c z.symm) h1,h2⟩
theorem fst_inj {α β:Type}:∀ {L:List (α×β)},(L.map (·.1)).Nodup→∀ {p q:α×β},p∈L→q∈L→p.1=q.1→p=q
  | [],_,_,_,h,_,_=>nomatch h
  | x :: L,nd,p,q,hp,hq,e=>by
    obtain ⟨n1,n2⟩:=List.nodup_cons.mp nd
    rcases List.mem_cons.mp hp with h1 | h1 <;> rcases List.mem_cons.mp hq with h2 | h2
    · rw [h1,h2]
    · exact absurd (List.mem_map.mpr ⟨q,h2,by rw [← e,h1]⟩) n1
    · exact absurd (List.mem_map.mpr ⟨p,h1,by rw [e,h2]⟩) n1
    · exact fst_inj n2 h1 h2 e
theorem snd_inj {α β:Type} {L:List (α×β)} (nd:(L.map (·.2)).Nodup) {p q:α×β} (hp:p∈L) (hq:q∈L) (e:p.2=q.2):p=q:=by
  have h:=fst_inj (L:=L.map fun x=>(x.2,x.1)) (by rw [List.map_map]; exact nd) (p:=(p.2,p.1)) (q:=(q.2,q.1)) (List.mem_map.mpr ⟨p,hp,rfl⟩) (List.mem_map.mpr ⟨q,hq,rfl⟩) e
  obtain ⟨a,b⟩:=p
  obtain ⟨c,d⟩:=q
  cases h; rfl
section
variable {P:Program} {w:World} {K:PySem.W.Frag} {mg:Str→Option Value} {base:Heap}
def spPb (K:PySem.W.Frag):Sp:=fun vs H Q _=>∃ (sh:Int) (a:Addr) (row:List Int),vs=[.int sh,.ref a]∧SqL K H a (row.map V.int)∧1≤sh∧row.length≤400 ∧
  ∀ (d:Addr) (H':Hp) (L:List (Int×Addr)),H d=none→Same H H'→PbAt H' d sh row row.length L→(∀ p∈L,H p.2=none)→Q (.ref d) H'
theorem ok_places_by_shelf {f:Addr} {fd:FuncData} (F:Fun K "places_by_shelf" "places_by_shelf" s_places_by_shelf f fd) (T:Txt K mg) (D_shelf_of:Def P w K mg base "shelf_of" 1 P_shelf_of spShelf):FnOk P w K mg base CX0 2 f fd P_places_by_shelf (spPb K):=by
  refine F.ok sc_places_by_shelf (fun vs H Q E h=>?_) (fun cdv A outer st H vs Q E hr h=>?_)
  · obtain ⟨sh,a,row,rfl,_⟩:=h
    rfl
  obtain ⟨sh,a,row,rfl,hS,hs0,hl,k⟩:=h
  have nd:=sc_places_by_shelf.nd
  refine ⟨_,(pss_cons (pst 2 nd pe_dnewK)
      (pss_cons (ps_for PassesOwn.never rfl (pi_enum rfl T.z_enumerate (pc (pv 1) pa_nil)) (pg_tupK (K:=K) (n:=2) rfl rfl (pgs_cons (pgn 3 nd) (pgs_cons (pgn 4 nd) pgs_nil))) (pss_one (ps_expr (pe_bmC (K:=K) rfl (pe_bm PySem.F.plainAttrs_list PySem.F.slot_list_append PySem.F.type_list_append mt_append (pe_dsetd (pv 2) (pe_defN D_shelf_of hr.m rfl (pc (pv 0) (pc (pv 4) pa_nil))) (pe_lst pa_nil) ⟨rfl,rfl,rfl,rfl⟩) (pc (pv 3) pa_nil))))))
      (pss_one (ps_ret (pv 2))))),?_⟩
  refine fun d hd=>⟨_,rfl,a,rfl,⟨_,(same_upd hd _).seq hS⟩,for_enum (K:=K) (a:=a) (xs:=row.map V.int) (fun i σ G=>∃ (v3 v4:Option V) (L:List (Int×Addr)),σ=[some (.int sh),some (.ref a),some (.ref d),v3,v4]∧PbAt G d sh row i L∧(∀ p∈L,H p.2=none)∧Same H G)
    ⟨none,none,[],rfl,⟨upd_same,rfl,List.nodup_nil,fun p h=>(nomatch h)⟩,fun p h=>(nomatch h),same_upd hd _⟩ (fun i σ G _ ⟨_,_,_,_,_,_,s⟩=>s.seq hS) ?_ ?_⟩
  · rintro i x t σ G hx ⟨v3,v4,L,rfl,B,nw,sg⟩ ht
    obtain ⟨z,hz,rfl⟩:=ints_at hx
    have hi:i<row.length:=(List.getElem?_eq_some_iff.mp hz).1
    have eg:row.getD i 0=z:=by rw [List.getD_eq_getElem?_getD,hz]; rfl
    have et:row.take (i+1)=row.take i++[z]:=by rw [List.take_succ,hz]; rfl
    obtain ⟨k1,k2,k3⟩:=ksF_ok sh row i (by omega)
    have lL:L.length≤i:=by have:=congrArg List.length B.ks; rw [List.length_map] at this; omega
    refine ⟨t,_,rfl,SqT.of upd_same,rfl,_,_,rfl,gN ⟨_,_,rfl,gN ⟨rfl,?_⟩⟩⟩
    have s1:=same_upd (H:=G) ht (.tup [V.int (i:Int),V.int z])
    generalize upd G t (.tup [V.int (i:Int),V.int z])=G1 at *
    have top1:=s1 _ _ B.top
    refine ⟨_,rfl,d,rfl,.inl ⟨_,.inl top1⟩,_,rfl,_,rfl,sh,z,rfl,hs0,(by show 0≤sizeLine; decide),fun q hq=>?_⟩
    have s2:=same_upd (H:=G1) hq (.lst [])
    have e2:upd G1 q (.lst []) q=some (.lst []):=upd_same
    have qH:H q=none:=(sg.trans s1).free hq
    have nqd:q≠d:=fun z=>by rw [z,top1] at hq; cases hq
    have sG:=s1.trans s2
    have nqL:∀ p∈L,p.2≠q:=fun p hp z=>by
      have h:=s1 _ _ (B.at' p hp)
      rw [z,hq] at h; cases h
    generalize upd G1 q (.lst [])=G2 at *
    have topG:=s2 _ _ top1
    have ndL:∀ p∈L,p.2≠d:=fun p hp z=>by
      have h:=sG _ _ (B.at' p hp)
      rw [z,topG] at h; cases h
    clear top1 hq s1 s2
    have snc:ksF sh (row.take (i+1))=if z % sh∈ksF sh (row.take i) then ksF sh (row.take i) else ksF sh (row.take i)++[z % sh]:=by rw [et]; exact ksF_snoc ..
    refine ⟨_,Sum.inl (z % sh),topG,rfl,small1000 (by rw [List.length_map]; omega),fun v hv=>?_,fun hn=>?_⟩
    · rcases pb_val L (z % sh) with ⟨ad,h1,h2⟩ | ⟨h1,h2⟩
      · rw [hv] at h2
        cases h2
        have ea:=sG _ _ (B.at' _ h1)
        refine ⟨.inl ⟨rfl,_,SqL.of ea⟩,_,rfl,ad,_,_,rfl,rfl,ea,small1000 (Nat.le_trans (spU_len sh row i (z % sh)) (by omega)),⟨_,_,L,rfl,⟨by rw [upd_ne (Ne.symm (ndL _ h1))]; exact topG,?_,B.nd,fun p hp=>?_⟩,nw,fun x o e=>by rw [upd_ne (ne_of_none e (nw _ h1))]; exact sG _ _ (sg _ _ e)⟩⟩
        · rw [B.ks,snc,if_pos]
          rw [← B.ks]
          exact List.mem_map.mpr ⟨_,h1,rfl⟩
        · rw [spU_succ,eg]
          by_cases c:p.2=ad
          · have ep:p=(z % sh,ad):=snd_inj B.nd hp h1 c
            subst ep
            rw [upd_same,if_pos rfl,mV_app]
            rfl
          · rw [upd_ne c,if_neg,List.append_nil]
            · exact sG _ _ (B.at' p hp)
            · intro w
              have ep:p=(z % sh,ad):=fst_inj (by rw [B.ks]; exact k1) hp h1 w.symm
              exact c (by rw [ep])
      · rw [hv] at h2; cases h2
    · rcases pb_val L (z % sh) with ⟨ad,h1,h2⟩ | ⟨h1,h2⟩
      · rw [hn] at h2; cases h2
      · rw [putK_new _ h2]
        have eq:upd G2 d (.dK (L.map pbV++[(Sum.inl (z % sh),V.ref q)])) q=some (.lst []):=by rw [upd_ne nqd]; exact e2
        refine ⟨.inl ⟨rfl,_,SqL.of eq⟩,_,rfl,q,_,_,rfl,rfl,eq,small1000 (by show 0≤1000; omega),⟨_,_,L++[(z % sh,q)],rfl,⟨by rw [upd_ne (Ne.symm nqd),upd_same,List.map_append]; rfl,?_,?_,fun p hp=>?_⟩,fun p hp=>?_,fun x o e=>by rw [upd_ne (ne_of_none e qH),upd_ne (ne_of_none e hd)]; exact sG _ _ (sg _ _ e)⟩⟩
        · rw [List.map_append,B.ks,snc,if_neg]
          · rfl
          · rw [← B.ks]; exact h1
        · rw [List.map_append]
          refine nd_snoc B.nd fun w=>?_
          obtain ⟨p,hp,e⟩:=List.mem_map.mp w
          exact nqL p hp e
        · rw [spU_succ,eg]
          rcases List.mem_append.mp hp with hp | hp
          · rw [upd_ne (nqL p hp),upd_ne (ndL p hp),if_neg,List.append_nil]
            · exact sG _ _ (B.at' p hp)
            · exact fun w=>h1 (List.mem_map.mpr ⟨p,hp,w.symm⟩)
          · have ep:p=(z % sh,q):=by simpa using hp
            subst ep
            have e0:spU sh row i (z % sh)=[]:=by
              unfold spU
              rw [List.filter_eq_nil_iff]
              intro x hx w
              refine h1 ?_
              rw [B.ks,k2]
              exact ⟨x,List.mem_range.mp hx,of_decide_eq_true w⟩
            rw [upd_same,e0,if_pos rfl]
            rfl
        · rcases List.mem_append.mp hp with hp | hp
          · exact nw p hp
          · have ep:p=(z % sh,q):=by simpa using hp
            subst ep
            exact qH
  · rintro σ G ⟨v3,v4,L,rfl,B,nw,sg⟩
    rw [List.length_map] at B
    exact ⟨_,rfl,k d G L hd sg B nw⟩
end
def wiF (again:List Int) (n k:Nat):Nat:=(List.range k).countP fun d=>decide (again.getD (n - 1 - d) 0≤(n:Int))
theorem wiF_succ (again:List Int) (n k:Nat):wiF again n (k+1)=wiF again n k+(if again.getD (n - 1 - k) 0≤(n:Int) then 1 else 0):=by
  unfold wiF
  rw [List.range_succ,List.countP_append,List.countP_singleton]
  simp only [decide_eq_true_eq]
def chD (again costs:List Int) (n d:Nat):Int×Int:=(costs.getD (n - 1 - d) 0+(wiF again n (d+1):Int),((n - 1 - d:Nat):Int))
def chA (again costs:List Int) (n:Nat):List (Int×Int):=(List.range n).map (chD again costs n)++[((wiF again n n:Int),-1)]
def prL (p:Int×Int):List Int:=[p.1,p.2]
def bstF (l:List (Int×Int)):Nat:=argBest (fun i j=>HT.lexLt ((l.map prL).getD i []) ((l.map prL).getD j [])) (l.length - 1)
def chF (again costs:List Int) (n:Nat):Int×Int:=(chA again costs n).getD (bstF (chA again costs n)) (0,-1)
theorem chA_len (again costs:List Int) (n:Nat):(chA again costs n).length=n+1:=by unfold chA; simp
theorem bst_lt {l:List (Int×Int)} (h:0<l.length):bstF l<l.length:=by
  have:=best_le (fun i j=>HT.lexLt ((l.map prL).getD i []) ((l.map prL).getD j [])) (l.length - 1)
  unfold bstF
  omega
theorem chF_mem (again costs:List Int) (n:Nat):(chA again costs n)[bstF (chA again costs n)]?=some (chF again costs n):=by
  have h:=bst_lt (l:=chA again costs n) (by rw [chA_len]; omega)
  unfold chF
  rw [List.getD_eq_getElem?_getD,List.getElem?_eq_getElem h]
  rfl
theorem chF_ahead (again costs:List Int) (n:Nat) : -1≤(chF again costs n).2∧(chF again costs n).2<n:=by
  have m:=List.mem_of_getElem? (chF_mem again costs n)
  generalize chF again costs n=c at *
  unfold chA at m
  rcases List.mem_append.mp m with m | m
  · obtain ⟨d,hd,rfl⟩:=List.mem_map.mp m
    have:=List.mem_range.mp hd
    unfold chD
    dsimp only
    omega
  · rw [List.mem_singleton.mp m]
    dsimp only
    omega
def dpF (again:List Int) (fee:Int):Nat→List Int×List Int
  | 0=>([],[])
  | n+1=>((dpF again fee n).1++[(chF again (dpF again fee n).1 n).1+fee],(dpF again fee n).2++[(chF again (dpF again fee n).1 n).2])
theorem dp_fst (again:List Int) (fee:Int) (n:Nat):(dpF again fee (n+1)).1=(dpF again fee n).1++[(chF again (dpF again fee n).1 n).1+fee]:=rfl
theorem dp_snd (again:List Int) (fee:Int) (n:Nat):(dpF again fee (n+1)).2=(dpF again fee n).2++[(chF again (dpF again fee n).1 n).2]:=rfl
theorem dp_len (again:List Int) (fee:Int):∀ n,(dpF again fee n).1.length=n∧(dpF again fee n).2.length=n
  | 0=>⟨rfl,rfl⟩
  | n+1=>by
    obtain ⟨h1,h2⟩:=dp_len again fee n
    unfold dpF
    rw [List.length_append,List.length_append,h1,h2]
    exact ⟨rfl,rfl⟩
theorem dp_ahead (again:List Int) (fee:Int):∀ n i,i<n → -1≤(dpF again fee n).2.getD i (-1)∧(dpF again fee n).2.getD i (-1)<i
  | 0,i,h=>by omega
  | n+1,i,h=>by
    have l:=(dp_len again fee n).2
    unfold dpF
    dsimp only
    rw [List.getD_eq_getElem?_getD]
    by_cases c:i<n
    · rw [List.getElem?_append_left (by omega),← List.getD_eq_getElem?_getD]
      exact dp_ahead again fee n i c
    · have e:i=n:=by omega
      subst e
      rw [List.getElem?_append_right (by omega),l,Nat.sub_self]
      exact chF_ahead ..
def bkF (as:List Int):Nat→Int→List Nat
  | 0,_=>[]
  | f+1,m=>if 0≤m then m.toNat :: bkF as f (as.getD m.toNat (-1)) else []
theorem bk_succ (as:List Int) (f:Nat) (m:Int):bkF as (f+1) m=if 0≤m then m.toNat :: bkF as f (as.getD m.toNat (-1)) else []:=rfl
def mk0 (as:List Int):Int:=as.getLast?.getD (-1)
def lmF (fee:Int) (row:List Int):List Nat:=(bkF (dpF (againF row) fee row.length).2 row.length (mk0 (dpF (againF row) fee row.length).2)).reverse
theorem mk0_lt (again:List Int) (fee:Int) (n:Nat) : -1≤mk0 (dpF again fee n).2∧mk0 (dpF again fee n).2<n:=by
  unfold mk0
  cases n with
  | zero=>exact ⟨Int.le_refl _,(by show (-1:Int)<0; decide)⟩
  | succ n =>
    unfold dpF
    rw [List.getLast?_append]
    have:=chF_ahead again (dpF again fee n).1 n
    show -1≤(chF again (dpF again fee n).1 n).2∧(chF again (dpF again fee n).1 n).2<((n+1:Nat):Int)
    omega
theorem bk_lt {as:List Int} {n:Nat} (h:∀ i,i<n→as.getD i (-1)<(i:Int)):∀ (f:Nat) (m:Int),m<n→∀ x∈bkF as f m,(x:Int)≤m
  | 0,_,_,x,hx=>nomatch hx
  | f+1,m,hm,x,hx=>by
    unfold bkF at hx
    by_cases c:0≤m
    · rw [if_pos c] at hx
      rcases List.mem_cons.mp hx with e | hx
      · omega
      · have q:=h m.toNat (by omega)
        have:=bk_lt h f _ (by omega) x hx
        omega
    · rw [if_neg c] at hx; cases hx
theorem lm_lt (fee:Int) (row:List Int):∀ x∈lmF fee row,x<row.length:=fun x hx=>by
  unfold lmF at hx
  have q:=mk0_lt (againF row) fee row.length
  have:=bk_lt (fun i hi=>(dp_ahead (againF row) fee row.length i hi).2) _ _ q.2 x (List.mem_reverse.mp hx)
  omega
theorem bk_len (as:List Int):∀ (f:Nat) (m:Int),(bkF as f m).length≤f
  | 0,_=>Nat.le_refl _
  | f+1,m=>by
    unfold bkF
    split
    · rw [List.length_cons]; have:=bk_len as f (as.getD m.toNat (-1)); omega
    · exact Nat.zero_le _
theorem lm_len (fee:Int) (row:List Int):(lmF fee row).length≤row.length:=by
  unfold lmF
  rw [List.length_reverse]
  exact bk_len ..
section
variable {P:Program} {w:World} {K:PySem.W.Frag} {mg:Str→Option Value} {base:Heap}
def spCh (K:PySem.W.Frag):Sp:=fun vs H Q _=>∃ (ag co:Addr) (again costs:List Int) (n:Nat),vs=[.ref ag,.ref co,.int (n:Int)]∧H ag=some (.lst (again.map V.int))∧H co=some (.lst (costs.map V.int))∧n≤again.length∧n≤costs.length∧n≤400 ∧
  ∀ (p:Addr) (H':Hp),Same H H'→H' p=some (.tup [.int (chF again costs n).1,.int (chF again costs n).2])→Q (.ref p) H'
def ChAt (G:Hp) (l:Addr) (ps:List (Int×Int)):Prop:=∃ ads:List Addr,G l=some (.lst (ads.map V.ref))∧ads.length=ps.length∧∀ (k:Nat) (ad:Addr) (p:Int×Int),ads[k]?=some ad→ps[k]?=some p→G ad=some (.tup [.int p.1,.int p.2])
theorem ChAt.push {G:Hp} {l q:Addr} {ps:List (Int×Int)} {p:Int×Int} (h:ChAt G l ps) (hq:G q=some (.tup [.int p.1,.int p.2])) {ads:List Addr} (e:G l=some (.lst (ads.map V.ref))):ChAt (upd G l (.lst (ads.map V.ref++[.ref q]))) l (ps++[p]):=by
  obtain ⟨as,r1,r2,r3⟩:=h
  have ea:ads.map V.ref=as.map V.ref:=by rw [r1] at e; exact (HO.lst.inj (Option.some.inj e)).symm
  refine ⟨as++[q],by rw [upd_same,ea,List.map_append]; rfl,by rw [List.length_append,List.length_append,r2]; rfl,fun k ad p' h1 h2=>?_⟩
  by_cases ck:k<as.length
  · rw [List.getElem?_append_left ck] at h1
    rw [List.getElem?_append_left (by omega)] at h2
    have q3:=r3 k ad p' h1 h2
    rw [upd_ne (fun z=>by rw [z,r1] at q3; cases q3)]
    exact q3
  · rw [List.getElem?_append_right (by omega)] at h1
    rw [List.getElem?_append_right (by omega),← r2] at h2
    cases ek:k - as.length with
    | zero =>
      rw [ek] at h1 h2
      cases h1; cases h2
      rw [upd_ne (fun z=>by rw [z,r1] at hq; cases hq)]
      exact hq
    | succ n=>rw [ek] at h1; simp at h1
theorem ChAt.same {G G':Hp} {l:Addr} {ps:List (Int×Int)} (h:ChAt G l ps) (s:Same G G'):ChAt G' l ps:=by
  obtain ⟨as,r1,r2,r3⟩:=h
  exact ⟨as,s _ _ r1,r2,fun k ad p h1 h2=>s _ _ (r3 k ad p h1 h2)⟩
theorem ok_cheapest_ahead {f:Addr} {fd:FuncData} (F:Fun K "cheapest_ahead" "cheapest_ahead" s_cheapest_ahead f fd) (T:Txt K mg):FnOk P w K mg base CX0 1 f fd P_cheapest_ahead (spCh K):=by
  refine F.ok sc_cheapest_ahead (fun vs H Q E h=>?_) (fun cdv A outer st H vs Q E hr h=>?_)
  · obtain ⟨ag,co,again,costs,n,rfl,_⟩:=h
    rfl
  obtain ⟨ag,co,again,costs,n,rfl,hA,hC,l1,l2,hn,k⟩:=h
  have nd:=sc_cheapest_ahead.nd
  have hu:=hu_of hr
  refine ⟨_,(pss_cons (pst 3 nd pe_int)
      (pss_cons (pst 4 nd (pe_lst pa_nil))
      (pss_cons (ps_for PassesOwn.never rfl (pi_range3 rfl T.z_range (pc (pe_op op_sub (pv 2) pe_int) (pc (pe_un un_neg pe_int) (pc (pe_un un_neg pe_int) pa_nil)))) (pgn 5 nd) (pss_cons (ps_if (pt_cmpR op_le (pe_ix (ix_listK (K:=K) rfl) (pv 0) (pv 5) (fun _ _=>rfl)) (pv 2) (nomark _)) (pss_one (ps_aug (i:=3) nd rfl (by first | exact Or.inl rfl | exact Or.inr rfl) pe_int ip_add)) pss_nil)
      (pss_one (ps_expr (pe_bmC (K:=K) rfl (pe_bm PySem.F.plainAttrs_list PySem.F.slot_list_append PySem.F.type_list_append mt_append (pv 4) (pc (pe_tup (pc (pe_op op_add (pe_ix (ix_listK (K:=K) rfl) (pv 1) (pv 5) (fun _ _=>rfl)) (pv 3)) (pc (pv 5) pa_nil))) pa_nil)))))))
      (pss_cons (ps_expr (pe_bmC (K:=K) rfl (pe_bm PySem.F.plainAttrs_list PySem.F.slot_list_append PySem.F.type_list_append mt_append (pv 4) (pc (pe_tup (pc (pv 3) (pc (pe_un un_neg pe_int) pa_nil))) pa_nil))))
      (pss_one (ps_ret (pe_callBN (call_minT rfl hu rfl) rfl T.z_min boot_min (pc (pv 4) pa_nil)))))))),?_⟩
  refine gN ⟨(by show 0≤sizeLine; decide),fun lc hlc=>gN ?_⟩
  have s0:=same_upd (H:=H) hlc (.lst [])
  have atA:∀ i,i<again.length→atI (again.map V.int) (i:Int)=some (.int (again.getD i 0)):=fun i hi=>atI_nat (by rw [List.getElem?_map,List.getD_eq_getElem?_getD,List.getElem?_eq_getElem hi]; rfl)
  have atC:∀ i,i<costs.length→atI (costs.map V.int) (i:Int)=some (.int (costs.getD i 0)):=fun i hi=>atI_nat (by rw [List.getElem?_map,List.getD_eq_getElem?_getD,List.getElem?_eq_getElem hi]; rfl)
  refine ⟨_,rfl,_,_,rfl,rfl,_,rfl,_,rfl,_,_,rfl,⟨by omega,by omega,by omega,by omega⟩,for_down (hi:=(n:Int) - 1) (n:=((n:Int) - 1 - -1).toNat) (fun j σ G=>∃ (v5:Option V),σ=[some (.ref ag),some (.ref co),some (.int (n:Int)),some (.int (wiF again n j:Int)),some (.ref lc),v5]∧ChAt G lc ((List.range j).map (chD again costs n))∧Same H G)
    ⟨none,rfl,⟨[],upd_same,rfl,fun k ad p h _=>by simp at h⟩,s0⟩ ?_ ?_⟩
  · rintro j σ G hj ⟨v5,rfl,C,sg⟩
    have hj':j<n:=by omega
    have hz:(n:Int) - 1 - (j:Int)=((n - 1 - j:Nat):Int):=by omega
    rw [hz]
    refine gN ?_
    refine cpI (fun σ G'=>σ=[some (.ref ag),some (.ref co),some (.int (n:Int)),some (.int (wiF again n (j+1):Int)),some (.ref lc),some (.int ((n - 1 - j:Nat):Int))]∧G'=G) (fun D' _ k'=>?_) ?_
    · refine ⟨_,rfl,_,rfl,ag,_,_,_,rfl,rfl,SqL.of (sg _ _ hA),atA _ (by omega),_,rfl,_,_,rfl,rfl,_,rfl,?_⟩
      have ws:=wiF_succ again n j
      refine ite_dec (fun c=>?_) (fun c=>?_)
      · rw [if_pos c] at ws
        refine ⟨_,rfl,_,_,rfl,rfl,k' _ _ ⟨?_,rfl⟩⟩
        rw [ws]; rfl
      · rw [if_neg c] at ws
        exact k' _ _ ⟨by rw [ws]; rfl,rfl⟩
    rintro _ G' ⟨rfl,rfl⟩
    obtain ⟨as,r1,r2,r3⟩:=id C
    refine ⟨_,rfl,.inl ⟨rfl,_,SqL.of r1⟩,_,rfl,_,rfl,co,_,_,_,rfl,rfl,SqL.of (sg _ _ hC),atC _ (by omega),_,rfl,_,_,rfl,rfl,_,rfl,(by show 2≤sizeLine; decide),fun q hq=>?_⟩
    have sq:=same_upd (H:=G') hq (.tup [V.int (costs.getD (n - 1 - j) 0+(wiF again n (j+1):Int)),V.int ((n - 1 - j:Nat):Int)])
    have eq:=upd_same (H:=G') (a:=q) (o:=.tup [V.int (costs.getD (n - 1 - j) 0+(wiF again n (j+1):Int)),V.int ((n - 1 - j:Nat):Int)])
    generalize upd G' q (.tup [V.int (costs.getD (n - 1 - j) 0+(wiF again n (j+1):Int)),V.int ((n - 1 - j:Nat):Int)])=G2 at *
    have la:(as.map V.ref).length≤1000:=by rw [List.length_map,r2,List.length_map,List.length_range]; omega
    refine ⟨lc,_,_,rfl,rfl,sq _ _ r1,small1000 la,⟨_,rfl,?_,fun x o e=>by rw [upd_ne (ne_of_none e hlc)]; exact sq _ _ (sg _ _ e)⟩⟩
    rw [List.range_succ,List.map_append]
    exact (C.same sq).push (p:=chD again costs n j) eq (sq _ _ r1)
  · rintro σ G ⟨v5,rfl,C,sg⟩
    rw [show ((n:Int) - 1 - -1).toNat=n by omega] at C ⊢
    obtain ⟨as,r1,r2,r3⟩:=id C
    have la:(as.map V.ref).length≤1000:=by rw [List.length_map,r2,List.length_map,List.length_range]; omega
    refine ⟨_,rfl,.inl ⟨rfl,_,SqL.of r1⟩,_,rfl,_,rfl,(by show 2≤sizeLine; decide),fun q hq=>?_⟩
    have sq:=same_upd (H:=G) hq (.tup [V.int (wiF again n n:Int),V.int (-1)])
    have eq:=upd_same (H:=G) (a:=q) (o:=.tup [V.int (wiF again n n:Int),V.int (-1)])
    generalize upd G q (.tup [V.int (wiF again n n:Int),V.int (-1)])=G2 at *
    have P:=(C.same sq).push (p:=((wiF again n n:Int),-1)) eq (sq _ _ r1)
    have sH:Same H (upd G2 lc (.lst (as.map V.ref++[.ref q]))):=fun x o e=>by rw [upd_ne (ne_of_none e hlc)]; exact sq _ _ (sg _ _ e)
    have eP:(List.range n).map (chD again costs n)++[((wiF again n n:Int),-1)]=chA again costs n:=rfl
    rw [eP] at P
    refine ⟨lc,_,_,rfl,rfl,sq _ _ r1,small1000 la,?_⟩
    generalize upd G2 lc (.lst (as.map V.ref++[.ref q]))=G3 at *
    obtain ⟨bs,p1,p2,p3⟩:=P
    refine ⟨_,rfl,lc,bs,(chA again costs n).map prL,rfl,SqL.of p1,fun z=>?_,by rw [p2,List.length_map],fun i a ns h1 h2=>?_,fun m a hm ha=>?_⟩
    · rw [z,chA_len] at p2; cases p2
    · rw [List.getElem?_map] at h2
      cases e:(chA again costs n)[i]? with
      | none=>rw [e] at h2; cases h2
      | some p =>
        rw [e] at h2
        cases h2
        exact SqT.of (p3 i a p h1 e)
    · have em:m=bstF (chA again costs n):=by rw [hm,p2]; rfl
      exact k a G3 sH (p3 m a _ ha (by rw [em]; exact chF_mem ..))
def spLm (K:PySem.W.Frag):Sp:=fun vs H Q _=>∃ (fee:Int) (a:Addr) (row:List Int),vs=[.int fee,.ref a]∧SqL K H a (row.map V.int)∧row.length≤400 ∧
  ∀ (l:Addr) (H':Hp),H l=none→Same H H'→H' l=some (.lst (mV (lmF fee row)))→Q (.ref l) H'
theorem ok_least_marks {f:Addr} {fd:FuncData} (F:Fun K "least_marks" "least_marks" s_least_marks f fd) (T:Txt K mg) (D_asked_again:Def P w K mg base "asked_again" 1 P_asked_again (spAgain K)) (D_cheapest_ahead:Def P w K mg base "cheapest_ahead" 1 P_cheapest_ahead (spCh K)):FnOk P w K mg base CX0 2 f fd P_least_marks (spLm K):=by
  refine F.ok sc_least_marks (fun vs H Q E h=>?_) (fun cdv A outer st H vs Q E hr h=>?_)
  · obtain ⟨fee,a,row,rfl,_⟩:=h
    rfl
  obtain ⟨fee,a,row,rfl,hS,hl,k⟩:=h
  have nd:=sc_least_marks.nd
  have hu:=hu_of hr
  refine ⟨_,(pss_cons (pst 2 nd (pe_defN D_asked_again hr.m rfl (pc (pv 1) pa_nil)))
      (pss_cons (pst 3 nd (pe_lst pa_nil))
      (pss_cons (pst 4 nd (pe_lst pa_nil))
      (pss_cons (ps_for PassesOwn.never rfl (pi_range1 rfl T.z_range (pc (pe_callBN (call_len_seqK (K:=K) rfl) rfl T.z_len PySem.boot_len (pc (pv 1) pa_nil)) pa_nil)) (pgn 5 nd) (pss_cons (ps_asg (pe_defN D_cheapest_ahead hr.m rfl (pc (pv 2) (pc (pv 3) (pc (pv 5) pa_nil)))) (pg_tupK (K:=K) (n:=2) rfl rfl (pgs_cons (pgn 6 nd) (pgs_cons (pgn 7 nd) pgs_nil))))
      (pss_cons (ps_expr (pe_bmC (K:=K) rfl (pe_bm PySem.F.plainAttrs_list PySem.F.slot_list_append PySem.F.type_list_append mt_append (pv 3) (pc (pe_op op_add (pv 6) (pv 0)) pa_nil))))
      (pss_one (ps_expr (pe_bmC (K:=K) rfl (pe_bm PySem.F.plainAttrs_list PySem.F.slot_list_append PySem.F.type_list_append mt_append (pv 4) (pc (pv 7) pa_nil))))))))
      (pss_cons (pst 8 nd (pe_lst pa_nil))
      (pss_cons (pst 9 nd (pe_ifExp (pt_truth (pv 4) (fun _=>rfl)) (pe_ix (ix_listK (K:=K) rfl) (pv 4) (pe_un un_neg pe_int) (fun _ _=>rfl)) (pe_un un_neg pe_int)))
      (pss_cons (ps_while PassesOwn.never (pt_cmpR op_ge (pv 9) pe_int (nomark _)) (pss_cons (ps_expr (pe_bmC (K:=K) rfl (pe_bm PySem.F.plainAttrs_list PySem.F.slot_list_append PySem.F.type_list_append mt_append (pv 8) (pc (pv 9) pa_nil))))
      (pss_one (pst 9 nd (pe_ix (ix_listK (K:=K) rfl) (pv 4) (pv 9) (fun _ _=>rfl))))))
      (pss_one (ps_ret (pe_slice3 (K:=K) rfl (pv 8) po_none po_none (po_some (pe_un un_neg pe_int)))))))))))),?_⟩
  refine ⟨_,rfl,a,row,rfl,hS,hl,fun lg H1 hlg s1 e1=>gN ⟨(by show 0≤sizeLine; decide),fun lc hlc=>gN ⟨(by show 0≤sizeLine; decide),fun la hla=>gN ?_⟩⟩⟩
  have s2:=(same_upd (H:=H1) hlc (.lst [])).trans (same_upd hla (.lst []))
  have ec:upd (upd H1 lc (.lst [])) la (.lst []) lc=some (.lst []):=same_upd hla _ _ _ upd_same
  have ea:upd (upd H1 lc (.lst [])) la (.lst []) la=some (.lst []):=upd_same
  have hla1:H1 la=none:=(same_upd (H:=H1) hlc (.lst [])).free hla
  have nca:lc≠la:=ne_of_none (upd_same (H:=H1) (a:=lc) (o:=.lst [])) hla
  generalize upd (upd H1 lc (.lst [])) la (.lst [])=H2 at *
  have lA:=againF_len row
  have lR:(row.map V.int).length=row.length:=List.length_map ..
  refine ⟨_,rfl,a,_,rfl,.inl ((s1.trans s2).seq hS),_,rfl,by omega,by omega,for_range (lo:=0) (n:=(((row.map V.int).length:Nat):Int).toNat) (fun i σ G=>∃ (v5 v6 v7:Option V),σ=[some (.int fee),some (.ref a),some (.ref lg),some (.ref lc),some (.ref la),v5,v6,v7,none,none]∧G lc=some (.lst ((dpF (againF row) fee i).1.map V.int))∧G la=some (.lst ((dpF (againF row) fee i).2.map V.int))∧Same H1 G)
    ⟨none,none,none,rfl,ec,ea,s2⟩ ?_ ?_⟩
  · rintro i σ G hi ⟨v5,v6,v7,rfl,g1,g2,sg⟩
    have hi':i<row.length:=by rw [lR] at hi; omega
    obtain ⟨d1,d2⟩:=dp_len (againF row) fee i
    rw [Int.zero_add]
    refine gN ⟨_,rfl,_,rfl,_,rfl,lg,lc,againF row,(dpF (againF row) fee i).1,i,rfl,sg _ _ e1,g1,by omega,by omega,by omega,fun p G1 t1 ep=>⟨p,_,rfl,SqT.of ep,rfl,_,_,rfl,gN ⟨_,_,rfl,gN ⟨rfl,?_⟩⟩⟩⟩
    have g1':=t1 _ _ g1
    have g2':=t1 _ _ g2
    refine ⟨_,rfl,.inl ⟨rfl,_,SqL.of g1'⟩,_,rfl,_,rfl,_,_,rfl,rfl,lc,_,_,rfl,rfl,g1',small1000 (by rw [List.length_map,d1]; omega),?_⟩
    have g2'':upd G1 lc (.lst ((dpF (againF row) fee i).1.map V.int++[V.int ((chF (againF row) (dpF (againF row) fee i).1 i).1+fee)])) la=some (.lst ((dpF (againF row) fee i).2.map V.int)):=by rw [upd_ne (Ne.symm nca)]; exact g2'
    refine ⟨_,rfl,.inl ⟨rfl,_,SqL.of g2''⟩,_,rfl,la,_,_,rfl,rfl,g2'',small1000 (by rw [List.length_map,d2]; omega),⟨_,_,_,rfl,?_,?_,fun x o e=>?_⟩⟩
    · rw [upd_ne nca,upd_same,dp_fst,List.map_append]; rfl
    · rw [upd_same,dp_snd,List.map_append]; rfl
    · rw [upd_ne (ne_of_none e hla1),upd_ne (ne_of_none e hlc)]
      exact t1 _ _ (sg _ _ e)
  · rintro σ G ⟨v5,v6,v7,rfl,g1,g2,sg⟩
    rw [show (((row.map V.int).length:Nat):Int).toNat=row.length by rw [lR]; rfl] at g1 g2
    have dl:=(dp_len (againF row) fee row.length).2
    have da:=dp_ahead (againF row) fee row.length
    have dm:=mk0_lt (againF row) fee row.length
    have hlm:(bkF (dpF (againF row) fee row.length).2 row.length (mk0 (dpF (againF row) fee row.length).2)).reverse=lmF fee row:=rfl
    generalize (dpF (againF row) fee row.length).2=as at *
    refine ⟨(by show 0≤sizeLine; decide),fun lm hlm'=>gN ?_⟩
    have s3:=same_upd (H:=G) hlm' (.lst [])
    have e3:upd G lm (.lst []) lm=some (.lst []):=upd_same
    have hlmH1:H1 lm=none:=sg.free hlm'
    generalize upd G lm (.lst [])=G1 at *
    have g2':=s3 _ _ g2
    have s13:=sg.trans s3
    have nla:lm≠la:=fun z=>by rw [z,g2] at hlm'; cases hlm'
    clear g1 g2 s3 hlm' sg
    dsimp only
    refine cpA (fun v G=>v=.int (mk0 as)∧G=G1) (fun Q' k'=>?_) ?_
    · refine ⟨_,rfl,_,.inl ⟨_,SqL.of g2',rfl⟩,?_⟩
      by_cases c:as=[]
      · subst c
        exact ifF rfl ⟨_,rfl,k' _ _ ⟨rfl,rfl⟩⟩
      · have ea:as=as.dropLast++[as.getLast c]:=(List.dropLast_concat_getLast c).symm
        have em:mk0 as=as.getLast c:=by unfold mk0; rw [List.getLast?_eq_some_getLast c]; rfl
        refine ifT (by cases as with | nil=>exact absurd rfl c | cons _ _=>rfl) ⟨_,rfl,_,rfl,la,_,_,_,rfl,rfl,SqL.of g2',?_,k' _ _ ⟨by rw [em],rfl⟩⟩
        conv=>lhs; rw [ea,List.map_append]
        exact atI_last _ _
    rintro _ G2 ⟨rfl,rfl⟩
    have tl:=bk_len as row.length (mk0 as)
    generalize hTT:bkF as row.length (mk0 as)=TT at *
    refine gN ⟨fun m σ G=>∃ (mark:Int) (dn:List Nat) (fu:Nat),m=(mark+1).toNat∧σ=[some (.int fee),some (.ref a),some (.ref lg),some (.ref lc),some (.ref la),v5,v6,v7,some (.ref lm),some (.int mark)] ∧ -1≤mark∧mark<fu∧mark<row.length∧dn++bkF as fu mark=TT∧G lm=some (.lst (mV dn))∧G la=some (.lst (as.map V.int))∧Same H1 G,⟨_,mk0 as,[],row.length,rfl,rfl,dm.1,dm.2,dm.2,hTT,e3,g2',s13⟩,?_⟩
    rintro m σ G ⟨mark,dn,fu,rfl,rfl,m1,m2,m3,hT,el,ela,sG⟩
    have ld:dn.length≤row.length:=by
      have:=congrArg List.length hT
      rw [List.length_append] at this
      omega
    refine ⟨_,rfl,_,_,rfl,rfl,_,rfl,?_⟩
    by_cases c:0≤mark
    · refine ifT (decide_eq_true c) ⟨fun σ G=>∃ (mark':Int) (dn:List Nat) (fu:Nat),mark'<mark∧σ=[some (.int fee),some (.ref a),some (.ref lg),some (.ref lc),some (.ref la),v5,v6,v7,some (.ref lm),some (.int mark')] ∧ -1≤mark'∧mark'<fu∧mark'<row.length∧dn++bkF as fu mark'=TT∧G lm=some (.lst (mV dn))∧G la=some (.lst (as.map V.int))∧Same H1 G,fun σ' G' ⟨mark',dn,fu,q1,q2,q3,q4⟩=>⟨(mark'+1).toNat,by omega,mark',dn,fu,rfl,q2,q3,q4⟩,?_⟩
      obtain ⟨f',rfl⟩:∃ f',fu=f'+1:=⟨fu - 1,by omega⟩
      have hat:atI (as.map V.int) mark=some (.int (as.getD mark.toNat (-1))):=by
        have q:atI (as.map V.int) ((mark.toNat:Nat):Int)=some (.int (as.getD mark.toNat (-1))):=atI_nat (by rw [List.getElem?_map,List.getD_eq_getElem?_getD,List.getElem?_eq_getElem (by omega)]; rfl)
        rwa [Int.toNat_of_nonneg c] at q
      have dd:=da mark.toNat (by omega)
      refine ⟨_,rfl,.inl ⟨rfl,_,SqL.of el⟩,_,rfl,lm,_,_,rfl,rfl,el,small1000 (by unfold mV; rw [List.length_map]; omega),?_⟩
      have ela':upd G lm (.lst (mV dn++[V.int mark])) la=some (.lst (as.map V.int)):=by rw [upd_ne (Ne.symm nla)]; exact ela
      refine ⟨_,rfl,_,rfl,la,_,_,_,rfl,rfl,SqL.of ela',hat,gN ⟨_,dn++[mark.toNat],f',by omega,rfl,dd.1,by omega,by omega,?_,?_,ela',fun x o e=>by rw [upd_ne (ne_of_none e hlmH1)]; exact sG _ _ e⟩⟩
      · rw [← hT,List.append_assoc]
        congr 1
        rw [bk_succ,if_pos c]; rfl
      · rw [upd_same,mV_app]
        show _=some (HO.lst (mV dn++[V.int ((mark.toNat:Nat):Int)]))
        rw [Int.toNat_of_nonneg c]
    · refine ifF (decide_eq_false c) ?_
      have e0:bkF as fu mark=[]:=by
        cases fu with
        | zero=>rfl
        | succ f=>unfold bkF; rw [if_neg c]
      rw [e0,List.append_nil] at hT
      subst hT
      refine ⟨_,rfl,1,rfl,_,rfl,lm,_,rfl,SqL.of el,by decide,?_,fun p hp=>?_⟩
      · rw [pickV_rev,List.length_reverse]; unfold mV; rw [List.length_map]; exact Nat.le_of_lt (small1000 (by omega))
      · rw [pickV_rev]
        have e5:(mV dn).reverse=mV (lmF fee row):=by rw [← hlm]; unfold mV; rw [List.map_reverse]
        rw [e5]
        exact k p _ (s1.free (sG.free hp)) ((s1.trans sG).trans (same_upd hp _)) upd_same
end
def askF (sh:Int) (row:List Int) (s:Int):List Int:=(spU sh row row.length s).map fun i=>row.getD i 0
def mkS (sh pl:Int) (row:List Int) (s:Int):List Nat:=(lmF (pl - 1) (askF sh row s)).map fun x=>(spU sh row row.length s).getD x 0
def catF (sh pl:Int) (row:List Int):List Nat:=(ksF sh row).flatMap (mkS sh pl row)
theorem mkS_mem {sh pl:Int} {row:List Int} {s:Int} {x:Nat} (h:x∈mkS sh pl row s):x<row.length∧row.getD x 0 % sh=s:=by
  obtain ⟨y,hy,rfl⟩:=List.mem_map.mp h
  have l:=lm_lt _ _ y hy
  unfold askF at l
  rw [List.length_map] at l
  have m:(spU sh row row.length s).getD y 0∈spU sh row row.length s:=by rw [List.getD_eq_getElem?_getD,List.getElem?_eq_getElem l]; exact List.getElem_mem l
  obtain ⟨h1,h2⟩:=List.mem_filter.mp m
  exact ⟨List.mem_range.mp h1,of_decide_eq_true h2⟩
theorem sum_spU (sh:Int) (row:List Int):∀ (ks:List Int),ks.Nodup→∀ n,(ks.map fun s=>(spU sh row n s).length).sum≤n
  | ks,nd,0=>by
    have:(ks.map fun s=>(spU sh row 0 s).length).sum=0:=by
      induction ks with
      | nil=>rfl
      | cons s ks ih=>rw [List.map_cons,List.sum_cons,ih (List.nodup_cons.mp nd).2]; rfl
    omega
  | ks,nd,n+1=>by
    have ih:=sum_spU sh row ks nd n
    have key:∀ ks:List Int,ks.Nodup→(ks.map fun s=>(spU sh row (n+1) s).length).sum≤(ks.map fun s=>(spU sh row n s).length).sum+(if row.getD n 0 % sh∈ks then 1 else 0):=by
      intro ks
      induction ks with
      | nil=>intro _; exact Nat.zero_le _
      | cons s ks ih =>
        intro nd
        obtain ⟨n1,n2⟩:=List.nodup_cons.mp nd
        have:=ih n2
        rw [List.map_cons,List.map_cons,List.sum_cons,List.sum_cons,spU_succ,List.length_append]
        by_cases c:row.getD n 0 % sh=s
        · rw [if_pos c,if_pos (by rw [c]; exact List.mem_cons_self)]
          rw [if_neg (by rw [c]; exact n1)] at this
          show _+1+_≤_
          omega
        · rw [if_neg c]
          by_cases c2:row.getD n 0 % sh∈ks
          · rw [if_pos c2] at this; rw [if_pos (List.mem_cons_of_mem _ c2)]
            show _+0+_≤_
            omega
          · rw [if_neg c2] at this
            show _+0+_≤_
            omega
    have:=key ks nd
    split at this <;> omega
theorem cat_len {sh pl:Int} {row:List Int} (ks:List Int) (nd:ks.Nodup):(ks.flatMap (mkS sh pl row)).length≤row.length:=by
  refine Nat.le_trans ?_ (sum_spU sh row ks nd row.length)
  clear nd
  induction ks with
  | nil=>exact Nat.le_refl _
  | cons s ks ih =>
    rw [List.flatMap_cons,List.length_append,List.map_cons,List.sum_cons]
    have:(mkS sh pl row s).length≤(spU sh row row.length s).length:=by
      unfold mkS
      rw [List.length_map]
      refine Nat.le_trans (lm_len ..) ?_
      unfold askF
      rw [List.length_map]
      exact Nat.le_refl _
    omega
theorem ints_nat:∀ {os:List Int} {ns:List Nat},os.Perm (ns.map fun m:Nat=>(m:Int))→os=(os.map Int.toNat).map fun m:Nat=>(m:Int):=fun {os ns} h=>by
  rw [List.map_map]
  conv=>lhs; rw [← List.map_id os]
  refine List.map_congr_left fun x hx=>?_
  obtain ⟨m,_,e⟩:=List.mem_map.mp (h.mem_iff.mp hx)
  show x=((x.toNat:Nat):Int)
  omega
section
variable {P:Program} {w:World} {K:PySem.W.Frag} {mg:Str→Option Value} {base:Heap}
def spMks (K:PySem.W.Frag):Sp:=fun vs H Q _=>∃ (sh pl:Int) (a:Addr) (row:List Int),vs=[.int sh,.int pl,.ref a]∧SqL K H a (row.map V.int)∧1≤sh∧row.length≤400 ∧
  ∀ (l:Addr) (H':Hp) (os:List Nat),H l=none→Same H H'→H' l=some (.lst (mV os))→os.Perm (catF sh pl row)→os.Pairwise (·≤·)→Q (.ref l) H'
theorem ok_marks_of {f:Addr} {fd:FuncData} (F:Fun K "marks_of" "marks_of" s_marks_of f fd) (T:Txt K mg) (D_places_by_shelf:Def P w K mg base "places_by_shelf" 2 P_places_by_shelf (spPb K)) (D_least_marks:Def P w K mg base "least_marks" 2 P_least_marks (spLm K)):FnOk P w K mg base CX0 3 f fd P_marks_of (spMks K):=by
  refine F.ok sc_marks_of (fun vs H Q E h=>?_) (fun cdv A outer st H vs Q E hr h=>?_)
  · obtain ⟨sh,pl,a,row,rfl,_⟩:=h
    rfl
  obtain ⟨sh,pl,a,row,rfl,hS,hs0,hl,k⟩:=h
  have nd:=sc_marks_of.nd
  refine ⟨_,(pss_cons (pst 3 nd (pe_lst pa_nil))
      (pss_cons (ps_for PassesOwn.never rfl (pi_dvals (pe_defN D_places_by_shelf hr.m rfl (pc (pv 0) (pc (pv 2) pa_nil)))) (pgn 4 nd) (pss_cons (ps_comp0 5 (compOk_of (osc:=(defScope s_marks_of)) (oN:=N_marks_of) (N:=["spot", "row"]) (own:=1) (js:=[2]) (by decide +kernel) rfl rfl) rfl nd rfl rfl (pi_listK (K:=K) rfl (pv 4)) (fun _ _ _ _ _ _=>(pgn 0 (show List.Nodup (["spot", "row"]:List Str) by decide +kernel))) (fun _ _ _ _ _ _=>(pe_ix (ix_listK (K:=K) rfl) (pv 1) (pv 0) (fun _ _=>rfl))))
      (pss_one (ps_aug (i:=3) nd rfl (by first | exact Or.inl rfl | exact Or.inr rfl) (pe_comp0 (compOk_of (osc:=(defScope s_marks_of)) (oN:=N_marks_of) (N:=["at", "spots"]) (own:=1) (js:=[4]) (by decide +kernel) rfl rfl) rfl (pi_listK (K:=K) rfl (pe_defN D_least_marks hr.m rfl (pc (pe_op op_sub (pv 1) pe_int) (pc (pv 5) pa_nil)))) (fun _ _ _ _ _ _=>(pgn 0 (show List.Nodup (["at", "spots"]:List Str) by decide +kernel))) (fun _ _ _ _ _ _=>(pe_ix (ix_listK (K:=K) rfl) (pv 1) (pv 0) (fun _ _=>rfl)))) ip_ext))))
      (pss_one (ps_ret (pe_callBN (call_sortedA (K:=K) rfl) rfl T.z_sorted PyProof.Rows.boot_sorted (pc (pv 3) pa_nil)))))),?_⟩
  refine ⟨(by show 0≤sizeLine; decide),fun lm hlm=>gN ?_⟩
  have s0:=same_upd (H:=H) hlm (.lst [])
  have e0:upd H lm (.lst []) lm=some (.lst []):=upd_same
  generalize upd H lm (.lst [])=H0 at *
  refine ⟨_,rfl,_,rfl,sh,a,row,rfl,s0.seq hS,hs0,hl,fun d H1 L hd s1 B nw=>⟨d,_,rfl,B.top,fun o=>?_⟩⟩
  obtain ⟨k1,k2,k3⟩:=ksF_ok sh row row.length (Nat.le_refl _)
  rw [List.take_length] at k1 k2 k3
  have bk:=B.ks
  rw [List.take_length] at bk
  have fz:∀ x o',H1 x=some o'→x≠d→upd H1 d (.frz o (.dK (L.map pbV))) x=some o':=fun x o' e n=>by rw [upd_ne n]; exact e
  have sF:Same H (upd H1 d (.frz o (.dK (L.map pbV)))):=fun x o' e=>fz x o' (s1 _ _ (s0 _ _ e)) (ne_of_none (s0 _ _ e) hd)
  have nmd:lm≠d:=ne_of_none e0 hd
  have em:upd H1 d (.frz o (.dK (L.map pbV))) lm=some (.lst []):=fz _ _ (s1 _ _ e0) nmd
  have el:∀ p∈L,upd H1 d (.frz o (.dK (L.map pbV))) p.2=some (.lst (mV (spU sh row row.length p.1))):=fun p hp=>fz _ _ (B.at' p hp) fun z=>by
    have h:=B.at' p hp
    rw [z,B.top] at h; cases h
  have ed:upd H1 d (.frz o (.dK (L.map pbV))) d=some (.frz o (.dK (L.map pbV))):=upd_same
  have nlm:∀ p∈L,p.2≠lm:=fun p hp z=>by
    have h:=nw p hp
    rw [z,e0] at h; cases h
  generalize upd H1 d (.frz o (.dK (L.map pbV)))=H2 at *
  refine for_dvals (d:=d) (o:=o) (kvs:=L.map pbV) (fun i σ G=>∃ (v4 v5:Option V),σ=[some (.int sh),some (.int pl),some (.ref a),some (.ref lm),v4,v5]∧G lm=some (.lst (mV (((ksF sh row).take i).flatMap (mkS sh pl row))))∧∀ x o',H2 x=some o'→x≠lm→G x=some o')
    ⟨none,none,rfl,em,fun x o' e _=>e⟩ (fun i σ G _ ⟨_,_,_,_,s⟩=>s _ _ ed (Ne.symm nmd)) ?_ ?_
  · rintro i k' v σ G hkv ⟨v4,v5,rfl,gm,sg⟩
    rw [List.getElem?_map] at hkv
    cases eL:L[i]? with
    | none=>rw [eL] at hkv; cases hkv
    | some p =>
      rw [eL] at hkv
      cases hkv
      have hp:=List.mem_of_getElem? eL
      have ei:(ksF sh row)[i]?=some p.1:=by rw [← bk,List.getElem?_map,eL]; rfl
      have gp:=sg _ _ (el p hp) (nlm p hp)
      have sHG:Same H G:=fun x o' e=>sg _ _ (sF _ _ e) (ne_of_none e hlm)
      obtain ⟨s,ad⟩:=p
      dsimp only [pbV] at *
      refine gN ⟨_,rfl,ad,rfl,⟨_,SqL.of gp⟩,fun la hla=>?_⟩
      have spM:∀ x∈spU sh row row.length s,x<row.length:=fun x hx=>List.mem_range.mp (List.mem_filter.mp hx).1
      have lsp:(spU sh row row.length s).length≤row.length:=by have:=spU_len sh row row.length s; unfold mV at this; rwa [List.length_map] at this
      have at':∀ x,x<row.length→atI (row.map V.int) (x:Int)=some (.int (row.getD x 0)):=fun x hx=>atI_nat (by rw [List.getElem?_map,List.getD_eq_getElem?_getD,List.getElem?_eq_getElem hx]; rfl)
      have ask:askF sh row s=(spU sh row row.length s).map fun i=>row.getD i 0:=rfl
      have mks:mkS sh pl row s=(lmF (pl - 1) (askF sh row s)).map fun x=>(spU sh row row.length s).getD x 0:=rfl
      have lmk:=lm_lt (pl - 1) (askF sh row s)
      have lmn:=lm_len (pl - 1) (askF sh row s)
      have lak:(askF sh row s).length=(spU sh row row.length s).length:=by rw [ask,List.length_map]
      have tkk:(ksF sh row).take (i+1)=(ksF sh row).take i++[s]:=by rw [List.take_succ,ei]; rfl
      have clen:=cat_len (sh:=sh) (pl:=pl) (row:=row) ((ksF sh row).take (i+1)) (k1.sublist (List.take_sublist ..))
      rw [tkk,List.flatMap_append,List.length_append] at clen
      have fone:[s].flatMap (mkS sh pl row)=mkS sh pl row s:=by simp
      rw [fone] at clen
      generalize spU sh row row.length s=sp at *
      have lV:(mV sp).length=sp.length:=List.length_map ..
      have mat:∀ {j:Nat} {x:V},(mV sp)[j]?=some x→∃ y,sp[j]?=some y∧x=.int (y:Int):=fun {j x} h=>by
        unfold mV at h
        rw [List.getElem?_map] at h
        cases e:sp[j]? with
        | none=>rw [e] at h; cases h
        | some y=>rw [e] at h; exact ⟨y,rfl,(Option.some.inj h).symm⟩
      refine comp_list (K:=K) (a:=ad) (xs:=mV sp) (l:=la) (fun j ys σ' G'=>∃ (v0:Option V),σ'=[v0,some (.ref a)]∧ys=((sp.take j).map fun i=>row.getD i 0).map V.int∧G'=upd G la (.lst ys))
        ⟨none,rfl,rfl,rfl⟩ (fun j ys σ' G' _ ⟨_,_,_,q⟩=>SqL.of (by rw [q,upd_ne (ne_of_none gp hla)]; exact gp)) ?_ ?_
      · rintro j x ys σ' G' hj hxj hys ⟨v0,rfl,rfl,rfl⟩
        obtain ⟨y,ey,rfl⟩:=mat hxj
        refine ⟨_,rfl,_,rfl,a,_,_,_,rfl,rfl,(sHG.trans (same_upd hla _)).seq hS,at' y (spM y (List.mem_of_getElem? ey)),CNx.of (by rw [lV]; exact Nat.le_of_lt (small1000 (by omega))) hj hys upd_same ⟨_,rfl,?_,upd_upd⟩⟩
        rw [List.take_succ,ey]
        simp
      rintro ys σ' G' _ ⟨v0,rfl,rfl,rfl⟩
      rw [lV,List.take_length,← ask]
      have s2:=same_upd (H:=G) hla (.lst ((askF sh row s).map V.int))
      have ea:upd G la (.lst ((askF sh row s).map V.int)) la=some (.lst ((askF sh row s).map V.int)):=upd_same
      generalize upd G la (.lst ((askF sh row s).map V.int))=G1 at *
      have gm1:=s2 _ _ gm
      refine gN ⟨_,rfl,_,rfl,_,_,rfl,rfl,_,rfl,pl - 1,la,askF sh row s,rfl,SqL.of ea,by omega,fun lb G2 hlb t2 eb=>⟨lb,rfl,⟨_,SqL.of eb⟩,fun lz hlz=>?_⟩⟩
      have lW:(mV (lmF (pl - 1) (askF sh row s))).length=(lmF (pl - 1) (askF sh row s)).length:=List.length_map ..
      generalize lmF (pl - 1) (askF sh row s)=bs at *
      have mab:∀ {j:Nat} {x:V},(mV bs)[j]?=some x→∃ y,bs[j]?=some y∧x=.int (y:Int):=fun {j x} h=>by
        unfold mV at h
        rw [List.getElem?_map] at h
        cases e:bs[j]? with
        | none=>rw [e] at h; cases h
        | some y=>rw [e] at h; exact ⟨y,rfl,(Option.some.inj h).symm⟩
      have gp2:=t2 _ _ (s2 _ _ gp)
      refine comp_list (K:=K) (a:=lb) (xs:=mV bs) (l:=lz) (fun j ys σ' G'=>∃ (v0:Option V),σ'=[v0,some (.ref ad)]∧ys=mV ((bs.take j).map fun x=>sp.getD x 0)∧G'=upd G2 lz (.lst ys))
        ⟨none,rfl,rfl,rfl⟩ (fun j ys σ' G' _ ⟨_,_,_,q⟩=>SqL.of (by rw [q,upd_ne (ne_of_none eb hlz)]; exact eb)) ?_ ?_
      · rintro j x ys σ' G' hj hxj hys ⟨v0,rfl,rfl,rfl⟩
        obtain ⟨y,ey,rfl⟩:=mab hxj
        have ly:y<sp.length:=by rw [← lak]; exact lmk y (List.mem_of_getElem? ey)
        refine ⟨_,rfl,_,rfl,ad,_,_,_,rfl,rfl,SqL.of (same_upd hlz _ _ _ gp2),atI_nat (xs:=mV sp) (v:=.int ((sp.getD y 0:Nat):Int)) (by unfold mV; rw [List.getElem?_map,List.getD_eq_getElem?_getD,List.getElem?_eq_getElem ly]; rfl),CNx.of (by rw [lW]; exact Nat.le_of_lt (small1000 (by omega))) hj hys upd_same ⟨_,rfl,?_,upd_upd⟩⟩
        rw [List.take_succ,ey,List.map_append,mV_app]
        rfl
      rintro ys σ' G' _ ⟨v0,rfl,rfl,rfl⟩
      rw [lW,List.take_length,← mks]
      have s3:=same_upd (H:=G2) hlz (.lst (mV (mkS sh pl row s)))
      have ez:upd G2 lz (.lst (mV (mkS sh pl row s))) lz=some (.lst (mV (mkS sh pl row s))):=upd_same
      have hzm:lm≠lz:=ne_of_none (t2 _ _ gm1) hlz
      generalize upd G2 lz (.lst (mV (mkS sh pl row s)))=G3 at *
      have gm3:=s3 _ _ (t2 _ _ gm1)
      refine ⟨lm,lz,_,_,rfl,rfl,gm3,ez,?_,⟨_,_,rfl,?_,fun x o' e n=>?_⟩⟩
      · unfold mV
        rw [List.length_map,List.length_map]
        exact Nat.le_of_lt (small1000 (by omega))
      · rw [upd_same,tkk,List.flatMap_append,fone,mV_app]
      · rw [upd_ne n]
        exact s3 _ _ (t2 _ _ (s2 _ _ (sg _ _ e n)))
  · rintro σ G ⟨v4,v5,rfl,gm,sg⟩
    have lL:(L.map pbV).length=(ksF sh row).length:=by rw [List.length_map,← bk,List.length_map]
    rw [lL,List.take_length] at gm
    have cl:=cat_len (sh:=sh) (pl:=pl) (row:=row) (ksF sh row) k1
    have e9:(ksF sh row).flatMap (mkS sh pl row)=catF sh pl row:=rfl
    rw [e9] at gm cl
    have sHG:Same H G:=fun x o' e=>sg _ _ (sF _ _ e) (ne_of_none e hlm)
    have gm':G lm=some (.lst (((catF sh pl row).map fun m:Nat=>(m:Int)).map V.int)):=by rw [gm,List.map_map]; rfl
    refine ⟨_,rfl,lm,_,rfl,SqL.of gm',by rw [List.length_map]; omega,fun D os hD hp hw=>?_⟩
    have eo:=ints_nat hp
    have hp2:(os.map Int.toNat).Perm (catF sh pl row):=by
      have q:=hp.map Int.toNat
      rw [List.map_map] at q
      refine q.trans (List.Perm.of_eq ?_)
      conv=>rhs; rw [← List.map_id (catF sh pl row)]
      exact List.map_congr_left fun x _=>rfl
    refine k D _ (os.map Int.toNat) (sHG.free hD) (sHG.trans (same_upd hD _)) ?_ hp2 ?_
    · rw [upd_same]
      conv=>lhs; rw [eo]
      rw [List.map_map]
      rfl
    · rw [List.pairwise_map]
      exact hw.imp fun {a b} h=>by omega
end
theorem best_min (f:Nat→List Int):∀ k,argBest (fun i j=>HT.lexLt (f i) (f j)) k≤k∧∀ j,j≤k→HT.lexLt (f j) (f (argBest (fun i j=>HT.lexLt (f i) (f j)) k))=false
  | 0=>⟨Nat.le_refl _,fun j hj=>by
      have:j=0:=by omega
      subst this; exact lex_irr _⟩
  | k+1=>by
    obtain ⟨h1,h2⟩:=best_min f k
    unfold argBest
    by_cases c:HT.lexLt (f (k+1)) (f (argBest (fun i j=>HT.lexLt (f i) (f j)) k))=true
    · rw [if_pos c]
      refine ⟨Nat.le_refl _,fun j hj=>?_⟩
      by_cases e:j=k+1
      · subst e; exact lex_irr _
      · cases q:HT.lexLt (f j) (f (k+1)) with
        | false=>rfl
        | true =>
          have:=lex_trans q c
          rw [h2 j (by omega)] at this; cases this
    · rw [if_neg c]
      refine ⟨by omega,fun j hj=>?_⟩
      by_cases e:j=k+1
      · subst e; simpa using c
      · exact h2 j (by omega)
theorem chF_min {again costs:List Int} {n:Nat} {p:Int×Int} (h:p∈chA again costs n):(chF again costs n).1≤p.1:=by
  obtain ⟨j,hj,rfl⟩:=List.getElem_of_mem h
  have hm:=chF_mem again costs n
  have bl:=bst_lt (l:=chA again costs n) (by rw [chA_len]; omega)
  have at':∀ i (h:i<(chA again costs n).length),((chA again costs n).map prL).getD i []=prL (chA again costs n)[i]:=fun i h=>by
    rw [List.getD_eq_getElem?_getD,List.getElem?_map,List.getElem?_eq_getElem h]; rfl
  have q:=(best_min (fun i=>((chA again costs n).map prL).getD i []) ((chA again costs n).length - 1)).2 j (by omega)
  have e:argBest (fun i j=>HT.lexLt (((chA again costs n).map prL).getD i []) (((chA again costs n).map prL).getD j [])) ((chA again costs n).length - 1)=bstF (chA again costs n):=rfl
  rw [e,at' j hj,at' _ bl] at q
  rw [List.getElem?_eq_getElem bl] at hm
  rw [Option.some.inj hm] at q
  unfold prL at q
  rw [HT.lexLt_cons] at q
  by_cases c:(chA again costs n)[j].1=(chF again costs n).1
  · omega
  · rw [if_neg c] at q
    have:=of_decide_eq_false q
    omega
def Mn (again:List Int) (fee:Int) (i:Nat):Int:=(chF again (dpF again fee i).1 i).1
def An (again:List Int) (fee:Int) (i:Nat):Int:=(chF again (dpF again fee i).1 i).2
theorem dp_at (again:List Int) (fee:Int):∀ n i,i<n→(dpF again fee n).1.getD i 0=Mn again fee i+fee∧(dpF again fee n).2.getD i (-1)=An again fee i
  | 0,i,h=>by omega
  | n+1,i,h=>by
    obtain ⟨l1,l2⟩:=dp_len again fee n
    rw [dp_fst,dp_snd,List.getD_eq_getElem?_getD,List.getD_eq_getElem?_getD]
    by_cases c:i<n
    · rw [List.getElem?_append_left (by omega),List.getElem?_append_left (by omega),← List.getD_eq_getElem?_getD,← List.getD_eq_getElem?_getD]
      exact dp_at again fee n i c
    · have e:i=n:=by omega
      subst e
      rw [List.getElem?_append_right (by omega),List.getElem?_append_right (by omega),l1,l2,Nat.sub_self]
      exact ⟨rfl,rfl⟩
def gapC (again:List Int) (fee:Int):List Nat→Nat→Int
  | [],n=>(wiF again n n:Int)
  | x :: l,n=>(wiF again n (n - x):Int)+fee+gapC again fee l x
def Dsc:List Nat→Nat→Prop
  | [],_=>True
  | x :: l,n=>x<n∧Dsc l x
theorem ch_x {again:List Int} {fee:Int} {n x:Nat} (h:x<n):((Mn again fee x+fee+(wiF again n (n - x):Int)),(x:Int))∈chA again (dpF again fee n).1 n:=by
  unfold chA
  refine List.mem_append_left _ (List.mem_map.mpr ⟨n - 1 - x,List.mem_range.mpr (by omega),?_⟩)
  unfold chD
  rw [show n - 1 - (n - 1 - x)=x by omega,show n - 1 - x+1=n - x by omega,(dp_at again fee n x h).1]
theorem gap_min {again:List Int} {fee:Int}:∀ (l:List Nat) (n:Nat),Dsc l n→Mn again fee n≤gapC again fee l n
  | [],n,_=>chF_min (p:=((wiF again n n:Int),-1)) (List.mem_append_right _ (List.mem_singleton.mpr rfl))
  | x :: l,n,⟨h1,h2⟩=>by
    have a:=gap_min l x h2 (again:=again) (fee:=fee)
    have b:Mn again fee n≤_:=chF_min (ch_x (again:=again) (fee:=fee) h1)
    unfold gapC
    dsimp only at b
    omega
theorem gap_bk {again:List Int} {fee:Int} {N:Nat}:∀ (n:Nat),n<N→∀ f,n≤f→Mn again fee n=gapC again fee (bkF (dpF again fee N).2 f (An again fee n)) n∧Dsc (bkF (dpF again fee N).2 f (An again fee n)) n:=by
  intro n
  induction n using Nat.strongRecOn with
  | ind n ih =>
    intro hN f hf
    have hm:=List.mem_of_getElem? (chF_mem again (dpF again fee n).1 n)
    have hA:=chF_ahead again (dpF again fee n).1 n
    have eM:Mn again fee n=(chF again (dpF again fee n).1 n).1:=rfl
    have eA:An again fee n=(chF again (dpF again fee n).1 n).2:=rfl
    generalize chF again (dpF again fee n).1 n=p at *
    unfold chA at hm
    rcases List.mem_append.mp hm with hm | hm
    · obtain ⟨d,hd,rfl⟩:=List.mem_map.mp hm
      have hd:=List.mem_range.mp hd
      unfold chD at eM eA
      dsimp only at eM eA
      obtain ⟨x,ex⟩:∃ x,x=n - 1 - d:=⟨_,rfl⟩
      rw [← ex] at eM eA
      have hx:x<n:=by omega
      rw [eA]
      obtain ⟨f',rfl⟩:∃ f',f=f'+1:=⟨f - 1,by omega⟩
      rw [bk_succ,if_pos (by omega),show ((x:Int)).toNat=x from rfl,(dp_at again fee N x (by omega)).2]
      obtain ⟨i1,i2⟩:=ih x hx (by omega) f' (by omega)
      refine ⟨?_,hx,i2⟩
      unfold gapC
      rw [eM,(dp_at again fee n x hx).1,show d+1=n - x by omega,← i1]
      omega
    · rw [List.mem_singleton.mp hm] at eM eA
      rw [eA,eM]
      have e0:bkF (dpF again fee N).2 f (-1)=[]:=by
        cases f with
        | zero=>rfl
        | succ f=>rw [bk_succ,if_neg (by decide)]
      rw [e0]
      exact ⟨rfl,trivial⟩
theorem thr {q:Nat→Bool}:∀ {n t:Nat},t<n→(List.range n).countP (fun i=>decide (t≤i) && q i)=(List.range n).countP (fun i=>decide (t+1≤i) && q i)+(if q t=true then 1 else 0)
  | 0,t,h=>by omega
  | n+1,t,h=>by
    rw [List.range_succ,List.countP_append,List.countP_append,List.countP_singleton,List.countP_singleton]
    by_cases c:t<n
    · rw [thr c,decide_eq_true (by omega:t≤n),decide_eq_true (by omega:t+1≤n)]
      omega
    · have e:t=n:=by omega
      subst e
      have z:∀ p:Nat→Bool,(∀ i,i<t→p i=false)→(List.range t).countP p=0:=fun p hp=>by
        rw [List.countP_eq_zero]
        intro i hi w
        rw [hp i (List.mem_range.mp hi)] at w; cases w
      rw [z _ fun i hi=>by rw [decide_eq_false (by omega:¬ t≤i),Bool.false_and],z _ fun i hi=>by rw [decide_eq_false (by omega:¬ t+1≤i),Bool.false_and],decide_eq_true (Nat.le_refl t),decide_eq_false (by omega:¬ t+1≤t)]
      simp
theorem cut {p:Nat→Bool} {x:Nat}:∀ {n:Nat},x≤n→(List.range n).countP p=(List.range x).countP p+(List.range n).countP (fun i=>decide (x≤i) && p i)
  | 0,h=>by
    have:x=0:=by omega
    subst this; rfl
  | n+1,h=>by
    by_cases c:x≤n
    · rw [List.range_succ,List.countP_append,List.countP_append,cut c,List.countP_singleton,List.countP_singleton,decide_eq_true c,Bool.true_and]
      omega
    · have e:x=n+1:=by omega
      subst e
      have:(List.range (n+1)).countP (fun i=>decide (n+1≤i) && p i)=0:=by
        rw [List.countP_eq_zero]
        intro i hi w
        have:=List.mem_range.mp hi
        rw [decide_eq_false (by omega:¬ n+1≤i)] at w; cases w
      omega
theorem wi_eq {row:List Int} {n:Nat} (hn:n≤row.length):∀ k,k≤n→wiF (againF row) n k=(List.range n).countP fun i=>decide (n - k≤i) && decide (nxP row i≤(n:Int))
  | 0,_=>by
    have:(List.range n).countP (fun i=>decide (n - 0≤i) && decide (nxP row i≤(n:Int)))=0:=by
      rw [List.countP_eq_zero]
      intro i hi w
      have:=List.mem_range.mp hi
      rw [decide_eq_false (by omega:¬ n - 0≤i)] at w; cases w
    rw [this]; rfl
  | k+1,h=>by
    have ag:(againF row).getD (n - 1 - k) 0=nxP row (n - 1 - k):=by rw [List.getD_eq_getElem?_getD,againF_get row (by omega)]; rfl
    rw [wiF_succ,wi_eq hn k (by omega),ag,show n - (k+1)=n - 1 - k by omega,thr (t:=n - 1 - k) (by omega),show n - 1 - k+1=n - k by omega]
    simp only [decide_eq_true_eq]
def cI (row:List Int) (l:List Nat) (n:Nat):Nat:=(List.range n).countP fun i=>decide (nxP row i≤(n:Int)) && !mkd 1 row l i (nxP row i).toNat
theorem crs1 (row:List Int) (i j m:Nat):crs 1 row i j m=(decide (i<m) && decide (m<j)):=by
  unfold crs
  rw [Int.emod_one,Int.emod_one,decide_eq_true rfl,Bool.and_true]
theorem gap_cnt {row:List Int} {fee:Int}:∀ (l:List Nat) (n:Nat),n≤row.length→Dsc l n→gapC (againF row) fee l n=fee * l.length+(cI row l n:Int)
  | [],n,hn,_=>by
    unfold gapC cI
    rw [wi_eq hn n (Nat.le_refl _)]
    show _=fee * ((0:Nat):Int)+_
    rw [show (((0:Nat):Int))=0 from rfl,Int.mul_zero,Int.zero_add]
    congr 2
    funext i
    rw [decide_eq_true (by omega:n - n≤i),Bool.true_and]
    show _=(_ && !(List.any [] _))
    simp
  | x :: l,n,hn,⟨h1,h2⟩=>by
    have ih:=gap_cnt (row:=row) (fee:=fee) l x (by omega) h2
    have lt:∀ {l:List Nat} {n:Nat},Dsc l n→∀ y∈l,y<n:=by
      intro l
      induction l with
      | nil=>exact fun _ y hy=>nomatch hy
      | cons z l ih =>
        intro n ⟨d1,d2⟩ y hy
        rcases List.mem_cons.mp hy with rfl | hy
        · exact d1
        · have:=ih d2 y hy; omega
    have e:cI row (x :: l) n=cI row l x+wiF (againF row) n (n - x):=by
      unfold cI
      rw [cut (x:=x) (by omega),wi_eq hn (n - x) (by omega),show n - (n - x)=x by omega]
      congr 1
      · refine List.countP_congr fun i hi=>?_
        have hi:=List.mem_range.mp hi
        have ge:=nxP_ge (row:=row) (i:=i)
        have em:mkd 1 row (x :: l) i (nxP row i).toNat=(crs 1 row i (nxP row i).toNat x || mkd 1 row l i (nxP row i).toNat):=rfl
        rw [em,crs1,decide_eq_true hi,Bool.true_and]
        by_cases c:nxP row i≤(x:Int)
        · rw [decide_eq_true c,decide_eq_true (by omega:nxP row i≤(n:Int)),decide_eq_false (by omega:¬ x<(nxP row i).toNat)]
          simp
        · rw [decide_eq_false c,decide_eq_true (by omega:x<(nxP row i).toNat)]
          simp
      · refine List.countP_congr fun i hi=>?_
        by_cases c:x≤i
        · have em:mkd 1 row (x :: l) i (nxP row i).toNat=false:=by
            unfold mkd
            rw [List.any_eq_false]
            intro y hy w
            have:y≤x:=(List.mem_cons.mp hy).elim (fun z=>by omega) fun z=>by have:=lt h2 y z; omega
            rw [crs1,decide_eq_false (by omega:¬ i<y)] at w; cases w
          rw [em]; simp
        · rw [decide_eq_false c]; simp
    unfold gapC
    rw [ih,e,List.length_cons,Int.natCast_succ,Int.mul_add,Int.mul_one]
    omega
theorem bnd_rev (sh pl:Int) (row:List Int) (l:List Nat):bndF sh pl row l.reverse=bndF sh pl row l:=by
  unfold bndF
  rw [List.length_reverse]
  congr 3
  funext i
  unfold frI mkd
  rw [List.any_reverse]
theorem bnd_gap {row:List Int} {fee:Int} {l:List Nat} {n:Nat} (hn:row.length=n+1) (h:Dsc l n):bndF 1 (fee+1) row l=gapC (againF row) fee l n:=by
  rw [gap_cnt l n (by omega) h]
  unfold bndF cI
  rw [show fee+1 - 1=fee by omega]
  congr 2
  rw [hn,List.range_succ,List.countP_append,List.countP_singleton]
  have e:frI 1 row l n=false:=by
    unfold frI
    have:nxP row n=(row.length:Int):=by unfold nxP; exact agn_end (by omega)
    rw [decide_eq_false (by omega),Bool.false_and]
  rw [e,if_neg Bool.false_ne_true,Nat.add_zero]
  refine List.countP_congr fun i _=>?_
  unfold frI
  rw [show decide (nxP row i<(row.length:Int))=decide (nxP row i≤(n:Int)) from decide_eq_decide.mpr (by omega)]
theorem dsc_filter {p:Nat→Bool}:∀ n,Dsc ((List.range n).filter p).reverse n
  | 0=>trivial
  | n+1=>by
    rw [List.range_succ,List.filter_append,List.reverse_append,List.filter_cons,List.filter_nil]
    have up:∀ {l:List Nat} {a b:Nat},a≤b→Dsc l a→Dsc l b:=fun {l a b} h d=>by
      cases l with
      | nil=>trivial
      | cons x l=>exact ⟨Nat.lt_of_lt_of_le d.1 h,d.2⟩
    split
    · exact ⟨Nat.lt_succ_self _,dsc_filter n⟩
    · exact up (Nat.le_succ _) (dsc_filter n)
theorem lm_least {row:List Int} {fee:Int} (hf:0≤fee) (xs:List Nat):bndF 1 (fee+1) row (lmF fee row)≤bndF 1 (fee+1) row xs:=by
  cases hn:row.length with
  | zero =>
    have e0:∀ l,bndF 1 (fee+1) row l=fee * l.length:=fun l=>by
      unfold bndF
      rw [hn,show fee+1 - 1=fee by omega]
      simp
    have:(lmF fee row).length=0:=by have:=lm_len fee row; omega
    rw [e0,e0,this]
    show fee * ((0:Nat):Int)≤_
    rw [show (((0:Nat):Int))=0 from rfl,Int.mul_zero]
    exact Int.mul_nonneg hf (by omega)
  | succ n =>
    have h1:bndF 1 (fee+1) row (lmF fee row)=Mn (againF row) fee n:=by
      unfold lmF
      rw [bnd_rev]
      have em:mk0 (dpF (againF row) fee row.length).2=An (againF row) fee n:=by
        unfold mk0
        rw [hn,dp_snd,List.getLast?_append]
        rfl
      obtain ⟨g1,g2⟩:=gap_bk (again:=againF row) (fee:=fee) (N:=row.length) n (by omega) row.length (by omega)
      rw [em,bnd_gap hn g2,← g1]
    have h2:=gap_min (again:=againF row) (fee:=fee) _ n (dsc_filter (p:=fun i=>decide (i∈xs)) n)
    rw [← bnd_gap hn (dsc_filter n)] at h2
    rw [h1]
    refine Int.le_trans h2 ?_
    rw [bnd_rev]
    unfold bndF
    have hl:((List.range n).filter fun i=>decide (i∈xs)).length≤xs.length:=nd_leG (List.nodup_range.sublist List.filter_sublist) fun x hx=>of_decide_eq_true (List.mem_filter.mp hx).2
    have hm:fee * ((((List.range n).filter fun i=>decide (i∈xs)).length:Nat):Int)≤fee * (xs.length:Int):=Int.mul_le_mul_of_nonneg_left (by omega) hf
    have hc:(List.range row.length).countP (frI 1 row ((List.range n).filter fun i=>decide (i∈xs)))=(List.range row.length).countP (frI 1 row xs):=by
      refine List.countP_congr fun i hi=>?_
      unfold frI
      by_cases c:nxP row i<(row.length:Int)
      · have ge:=nxP_ge (row:=row) (i:=i)
        have:mkd 1 row ((List.range n).filter fun i=>decide (i∈xs)) i (nxP row i).toNat=mkd 1 row xs i (nxP row i).toNat:=by
          unfold mkd
          rw [Bool.eq_iff_iff,List.any_eq_true,List.any_eq_true]
          constructor
          · rintro ⟨x,hx,h⟩
            exact ⟨x,of_decide_eq_true (List.mem_filter.mp hx).2,h⟩
          · rintro ⟨x,hx,h⟩
            have h':=h
            rw [crs1] at h'
            obtain ⟨_,h3⟩:=(Bool.and_eq_true _ _).mp h'
            have:=of_decide_eq_true h3
            exact ⟨x,List.mem_filter.mpr ⟨List.mem_range.mpr (by omega),decide_eq_true hx⟩,h⟩
        rw [this]
      · rw [decide_eq_false c]; simp
    rw [hc,show fee+1 - 1=fee by omega]
    omega
theorem sum_one {t:Int} {a:Int→Nat} {c:Nat}:∀ {ks:List Int},ks.Nodup→t∈ks→(ks.map fun s=>a s+(if t=s then c else 0)).sum=(ks.map a).sum+c
  | [],_,h=>nomatch h
  | s :: ks,nd,h=>by
    obtain ⟨n1,n2⟩:=List.nodup_cons.mp nd
    rw [List.map_cons,List.map_cons,List.sum_cons,List.sum_cons]
    by_cases e:t=s
    · have:(ks.map fun s=>a s+(if t=s then c else 0))=ks.map a:=List.map_congr_left fun u hu=>by rw [if_neg (fun z=>n1 (by rw [← e,z]; exact hu)),Nat.add_zero]
      rw [this,if_pos e]; omega
    · have:=sum_one (a:=a) (c:=c) n2 ((List.mem_cons.mp h).resolve_left e)
      rw [this,if_neg e]; omega
theorem part {sh:Int} {row:List Int} {ks:List Int} (nd:ks.Nodup) (f:Nat→Bool):∀ n,(∀ i,i<n→row.getD i 0 % sh∈ks)→(List.range n).countP f=(ks.map fun s=>(spU sh row n s).countP f).sum
  | 0,_=>by
    have:∀ ks:List Int,(ks.map fun s=>(spU sh row 0 s).countP f).sum=0:=fun ks=>by
      induction ks with
      | nil=>rfl
      | cons s ks ih=>rw [List.map_cons,List.sum_cons,ih]; rfl
    rw [this]; rfl
  | n+1,h=>by
    rw [List.range_succ,List.countP_append,part nd f n fun i hi=>h i (by omega),List.countP_singleton,← sum_one nd (h n (by omega))]
    congr 1
    refine List.map_congr_left fun s _=>?_
    rw [spU_succ,List.countP_append]
    by_cases c:row.getD n 0 % sh=s
    · rw [if_pos c,if_pos c,List.countP_singleton]
    · rw [if_neg c,if_neg c]; rfl
theorem cnt_idx (l:List Nat) (f:Nat→Bool):l.countP f=(List.range l.length).countP fun x=>f (l.getD x 0):=by
  have e:l=(List.range l.length).map fun x=>l.getD x 0:=by
    apply List.ext_getElem?
    intro i
    by_cases h:i<l.length
    · rw [List.getElem?_map,List.getElem?_range h,List.getElem?_eq_getElem h,Option.map_some,List.getD_eq_getElem?_getD,List.getElem?_eq_getElem h]; rfl
    · rw [List.getElem?_eq_none (by omega),List.getElem?_eq_none (by rw [List.length_map,List.length_range]; omega)]
  conv=>lhs; rw [e,List.countP_map]
  rfl
section
variable {sh:Int} {row:List Int} {s:Int}
theorem sp_at {x:Nat} (h:x<(spU sh row row.length s).length):(spU sh row row.length s).getD x 0<row.length∧row.getD ((spU sh row row.length s).getD x 0) 0 % sh=s:=by
  have m:(spU sh row row.length s).getD x 0∈spU sh row row.length s:=by rw [List.getD_eq_getElem?_getD,List.getElem?_eq_getElem h]; exact List.getElem_mem h
  obtain ⟨h1,h2⟩:=List.mem_filter.mp m
  exact ⟨List.mem_range.mp h1,of_decide_eq_true h2⟩
theorem sp_lt {x y:Nat} (h:y<(spU sh row row.length s).length) (hxy:x<y):(spU sh row row.length s).getD x 0<(spU sh row row.length s).getD y 0:=by
  have pw:(spU sh row row.length s).Pairwise (·<·):=List.Pairwise.sublist List.filter_sublist List.pairwise_lt_range
  have:=List.pairwise_iff_getElem.mp pw x y (by omega) h hxy
  rw [List.getD_eq_getElem?_getD,List.getD_eq_getElem?_getD,List.getElem?_eq_getElem h,List.getElem?_eq_getElem (by omega:x<_)]
  exact this
theorem sp_ix {p:Nat} (h:p<row.length) (e:row.getD p 0 % sh=s):∃ x,x<(spU sh row row.length s).length∧(spU sh row row.length s).getD x 0=p:=by
  have m:p∈spU sh row row.length s:=List.mem_filter.mpr ⟨List.mem_range.mpr h,decide_eq_true e⟩
  obtain ⟨x,hx,q⟩:=List.getElem_of_mem m
  exact ⟨x,hx,by rw [List.getD_eq_getElem?_getD,List.getElem?_eq_getElem hx]; exact q⟩
theorem ask_at {x:Nat} (h:x<(spU sh row row.length s).length):(askF sh row s).getD x 0=row.getD ((spU sh row row.length s).getD x 0) 0:=by
  have e:(spU sh row row.length s).getD x 0=(spU sh row row.length s)[x]:=by rw [List.getD_eq_getElem?_getD,List.getElem?_eq_getElem h]; rfl
  rw [e]
  unfold askF
  rw [List.getD_eq_getElem?_getD,List.getElem?_map,List.getElem?_eq_getElem h]
  rfl
theorem nxP_char {row:List Int} {i j:Nat} (h1:i<j) (h2:j<row.length) (h3:row.getD j 0=row.getD i 0) (h4:∀ k,i<k→k<j→row.getD k 0≠row.getD i 0):nxP row i=(j:Int) :=
  nxP_of h2 (prv_of h1 h3.symm fun k k1 k2=>by rw [h3]; exact h4 k k1 k2)
theorem nxP_none {row:List Int} {i:Nat} (hi:i<row.length) (h:∀ k,i<k→k<row.length→row.getD k 0≠row.getD i 0):nxP row i=(row.length:Int):=by
  rcases agn_ok (row:=row) (b:=row.getD i 0) (row.length - (i+1)) (i+1) (by omega) with ⟨h1,_⟩ | ⟨j,h1,h2,h3,h4,h5⟩
  · exact h1
  · exact absurd h4 (h j (by omega) h2)
theorem fr_eq {ms js:List Nat} (hm:∀ z,z<(spU sh row row.length s).length→(z∈js↔(spU sh row row.length s).getD z 0∈ms)) (hj:∀ z∈js,z<(spU sh row row.length s).length) (hr:∀ z∈ms,z<row.length) {x:Nat} (hx:x<(spU sh row row.length s).length):frI sh row ms ((spU sh row row.length s).getD x 0)=frI 1 (askF sh row s) js x:=by
  have la:(askF sh row s).length=(spU sh row row.length s).length:=by unfold askF; rw [List.length_map]
  have hp:=sp_at hx
  unfold frI
  by_cases c:nxP (askF sh row s) x<((askF sh row s).length:Int)
  · obtain ⟨y,e1,h1,h2,h3,h4⟩:=nxP_ok (by omega) c
    rw [la] at h2
    obtain ⟨_,_,h5⟩:=prv_some h4
    rw [ask_at h2,ask_at hx] at h3
    have e2:nxP row ((spU sh row row.length s).getD x 0)=((spU sh row row.length s).getD y 0:Nat):=nxP_char (sp_lt h2 h1) (sp_at h2).1 h3 fun k k1 k2 e=>by
      obtain ⟨z,hz,ez⟩:=sp_ix (sh:=sh) (row:=row) (s:=s) (p:=k) (by have:=(sp_at h2).1; omega) (by rw [e]; exact hp.2)
      have z1:x<z:=by
        rcases Nat.lt_trichotomy x z with h | h | h
        · exact h
        · rw [h,ez] at k1; omega
        · have:=sp_lt hx h; rw [ez] at this; omega
      have z2:z<y:=by
        rcases Nat.lt_trichotomy z y with h | h | h
        · exact h
        · rw [← h,ez] at k2; omega
        · have:=sp_lt hz h; rw [ez] at this; omega
      refine h5 z z1 z2 ?_
      rw [ask_at hz,ez,ask_at h2,h3]
      exact e
    have q1:=(sp_at h2).1
    rw [e1,e2,decide_eq_true (by omega:(((spU sh row row.length s).getD y 0:Nat):Int)<(row.length:Int)),decide_eq_true (by omega:(y:Int)<((askF sh row s).length:Int))]
    congr 2
    show mkd sh row ms _ ((spU sh row row.length s).getD y 0)=mkd 1 (askF sh row s) js x y
    unfold mkd
    rw [Bool.eq_iff_iff,List.any_eq_true,List.any_eq_true]
    constructor
    · rintro ⟨m,hmm,w⟩
      obtain ⟨w1,w3⟩:=(Bool.and_eq_true _ _).mp w
      obtain ⟨w1,w2⟩:=(Bool.and_eq_true _ _).mp w1
      have w1:=of_decide_eq_true w1
      have w2:=of_decide_eq_true w2
      have w3:=of_decide_eq_true w3
      obtain ⟨z,hz,ez⟩:=sp_ix (s:=s) (hr m hmm) (by rw [w3]; exact hp.2)
      refine ⟨z,(hm z hz).mpr (by rw [ez]; exact hmm),?_⟩
      rw [crs1]
      have z1:x<z:=by
        rcases Nat.lt_trichotomy x z with h | h | h
        · exact h
        · rw [h,ez] at w1; omega
        · have:=sp_lt hx h; rw [ez] at this; omega
      have z2:z<y:=by
        rcases Nat.lt_trichotomy z y with h | h | h
        · exact h
        · rw [← h,ez] at w2; omega
        · have:=sp_lt hz h; rw [ez] at this; omega
      rw [decide_eq_true z1,decide_eq_true z2]; rfl
    · rintro ⟨z,hz,w⟩
      rw [crs1] at w
      obtain ⟨w1,w2⟩:=(Bool.and_eq_true _ _).mp w
      have w1:=of_decide_eq_true w1
      have w2:=of_decide_eq_true w2
      have zl:=hj z hz
      refine ⟨_,(hm z zl).mp hz,?_⟩
      unfold crs
      rw [decide_eq_true (sp_lt zl w1),decide_eq_true (sp_lt h2 w2),(sp_at zl).2,hp.2]
      simp
  · have e2:nxP row ((spU sh row row.length s).getD x 0)=(row.length:Int):=nxP_none hp.1 fun k k1 k2 e=>by
      obtain ⟨z,hz,ez⟩:=sp_ix (s:=s) (p:=k) k2 (by rw [e]; exact hp.2)
      have z1:x<z:=by
        rcases Nat.lt_trichotomy x z with h | h | h
        · exact h
        · rw [h,ez] at k1; omega
        · have:=sp_lt hx h; rw [ez] at this; omega
      rcases agn_ok (row:=askF sh row s) (b:=(askF sh row s).getD x 0) ((askF sh row s).length - (x+1)) (x+1) (by omega) with ⟨_,q⟩ | ⟨j,_,j2,j3,_⟩
      · refine q z (by omega) (by omega) ?_
        rw [ask_at hz,ask_at hx,ez,e]
      · unfold nxP at c
        omega
    rw [decide_eq_false c,e2,decide_eq_false (by omega:¬ (row.length:Int)<row.length)]
    rfl
end
theorem sum_leI {a b:Int→Int}:∀ {ks:List Int},(∀ s∈ks,a s≤b s)→(ks.map a).sum≤(ks.map b).sum
  | [],_=>Int.le_refl _
  | s :: ks,h=>by
    rw [List.map_cons,List.map_cons,List.sum_cons,List.sum_cons]
    have:=h s List.mem_cons_self
    have:=sum_leI fun t ht=>h t (List.mem_cons_of_mem _ ht)
    omega
theorem sum_lin {fee:Int} {l c:Int→Nat}:∀ ks:List Int,(ks.map fun s=>fee * (l s:Int)+(c s:Int)).sum=fee * (((ks.map l).sum:Nat):Int)+(((ks.map c).sum:Nat):Int)
  | []=>by simp
  | s :: ks=>by
    rw [List.map_cons,List.map_cons,List.map_cons,List.sum_cons,List.sum_cons,List.sum_cons,sum_lin ks,Int.natCast_add,Int.natCast_add,Int.mul_add]
    omega
theorem cnt_shelves {sh:Int} {row:List Int} {ms:List Nat} (J:Int→List Nat) (hr:∀ z∈ms,z<row.length) (hj:∀ s∈ksF sh row,(∀ z∈J s,z<(spU sh row row.length s).length)∧∀ z,z<(spU sh row row.length s).length→(z∈J s↔(spU sh row row.length s).getD z 0∈ms)) :
    (List.range row.length).countP (frI sh row ms)=((ksF sh row).map fun s=>(List.range (askF sh row s).length).countP (frI 1 (askF sh row s) (J s))).sum:=by
  obtain ⟨k1,k2,_⟩:=ksF_ok sh row row.length (Nat.le_refl _)
  rw [List.take_length] at k1 k2
  rw [part k1 _ row.length fun i hi=>(k2 _).mpr ⟨i,hi,rfl⟩]
  congr 1
  refine List.map_congr_left fun s hs=>?_
  rw [cnt_idx]
  have la:(askF sh row s).length=(spU sh row row.length s).length:=by unfold askF; rw [List.length_map]
  rw [la]
  refine List.countP_congr fun x hx=>?_
  rw [fr_eq (hj s hs).2 (hj s hs).1 hr (List.mem_range.mp hx)]
theorem mk_least {sh pl:Int} {row:List Int} {os ms:List Nat} (hp:1≤pl) (ho:os.Perm (catF sh pl row)) (hr:∀ z∈ms,z<row.length):bndF sh pl row os≤bndF sh pl row ms:=by
  have so:∀ z∈os,z<row.length:=fun z hz=>by
    obtain ⟨s,_,hs⟩:=List.mem_flatMap.mp (ho.mem_iff.mp hz)
    exact (mkS_mem hs).1
  obtain ⟨k1,k2,_⟩:=ksF_ok sh row row.length (Nat.le_refl _)
  rw [List.take_length] at k1 k2
  have la:∀ s,(askF sh row s).length=(spU sh row row.length s).length:=fun s=>by unfold askF; rw [List.length_map]
  have c1:=cnt_shelves (sh:=sh) (row:=row) (ms:=os) (fun s=>lmF (pl - 1) (askF sh row s)) so fun s hs=>by
    refine ⟨fun z hz=>by rw [← la]; exact lm_lt _ _ z hz,fun z hz=>?_⟩
    rw [ho.mem_iff]
    constructor
    · exact fun h=>List.mem_flatMap.mpr ⟨s,hs,List.mem_map.mpr ⟨z,h,rfl⟩⟩
    · intro h
      obtain ⟨t,ht,h⟩:=List.mem_flatMap.mp h
      have et:t=s:=by rw [← (mkS_mem h).2,(sp_at hz).2]
      subst et
      obtain ⟨y,hy,e⟩:=List.mem_map.mp h
      have ly:y<(spU sh row row.length t).length:=by rw [← la]; exact lm_lt _ _ y hy
      have:y=z:=by
        rcases Nat.lt_trichotomy y z with q | q | q
        · have:=sp_lt hz q; omega
        · exact q
        · have:=sp_lt ly q; omega
      rw [← this]; exact hy
  have c2:=cnt_shelves (sh:=sh) (row:=row) (ms:=ms) (fun s=>(List.range (spU sh row row.length s).length).filter fun z=>decide ((spU sh row row.length s).getD z 0∈ms)) hr fun s hs=>by
    refine ⟨fun z hz=>List.mem_range.mp (List.mem_filter.mp hz).1,fun z hz=>?_⟩
    rw [List.mem_filter]
    exact ⟨fun h=>of_decide_eq_true h.2,fun h=>⟨List.mem_range.mpr hz,decide_eq_true h⟩⟩
  have l1:os.length=((ksF sh row).map fun s=>(lmF (pl - 1) (askF sh row s)).length).sum:=by
    rw [ho.length_eq]
    unfold catF
    rw [List.length_flatMap]
    congr 1
    refine List.map_congr_left fun s _=>?_
    unfold mkS
    rw [List.length_map]
  have l2:((ksF sh row).map fun s=>((List.range (spU sh row row.length s).length).filter fun z=>decide ((spU sh row row.length s).getD z 0∈ms)).length).sum≤ms.length:=by
    have e:((ksF sh row).map fun s=>((List.range (spU sh row row.length s).length).filter fun z=>decide ((spU sh row row.length s).getD z 0∈ms)).length).sum=(List.range row.length).countP fun i=>decide (i∈ms):=by
      rw [part k1 _ row.length fun i hi=>(k2 _).mpr ⟨i,hi,rfl⟩]
      congr 1
      refine List.map_congr_left fun s _=>?_
      rw [cnt_idx (spU sh row row.length s),List.countP_eq_length_filter]
    rw [e]
    exact cnt_map (f:=id) (fun i _ h=>of_decide_eq_true h) fun i j _ _ _ _ e=>e
  have f0:0≤pl - 1:=by omega
  have main:=sum_leI (ks:=ksF sh row) (a:=fun s=>bndF 1 (pl - 1+1) (askF sh row s) (lmF (pl - 1) (askF sh row s))) (b:=fun s=>bndF 1 (pl - 1+1) (askF sh row s) ((List.range (spU sh row row.length s).length).filter fun z=>decide ((spU sh row row.length s).getD z 0∈ms))) fun s _=>lm_least f0 _
  unfold bndF at main ⊢
  rw [show pl - 1+1 - 1=pl - 1 by omega] at main
  rw [sum_lin,sum_lin,← c1,← c2,← l1] at main
  have:=Int.mul_le_mul_of_nonneg_left (Int.ofNat_le.mpr l2) f0
  have e3:((ms.length:Nat):Int)=Int.ofNat ms.length:=rfl
  refine Int.le_trans main ?_
  have e4:(pl - 1) * ((((ksF sh row).map fun s=>((List.range (spU sh row row.length s).length).filter fun z=>decide ((spU sh row row.length s).getD z 0∈ms)).length).sum:Nat):Int)≤(pl - 1) * (ms.length:Int):=this
  omega
theorem prv_last (row:List Int) (b:Int):∀ j,((List.range j).filter fun i=>decide (row.getD i 0=b)).getLast?=prv row b j
  | 0=>rfl
  | j+1=>by
    rw [List.range_succ,List.filter_append,List.filter_cons,List.filter_nil]
    unfold prv
    by_cases c:row.getD j 0=b
    · rw [if_pos (decide_eq_true c),if_pos c,List.getLast?_append]; rfl
    · rw [if_neg (by simpa using c),if_neg c,List.append_nil]
      exact prv_last row b j
theorem mV_ints (ms:List Nat):mV ms=(ms.map fun m:Nat=>(m:Int)).map V.int:=by unfold mV; rw [List.map_map]; rfl
section
variable {P:Program} {w:World} {K:PySem.W.Frag} {mg:Str→Option Value} {base:Heap}
theorem ok_l_bound {f:Addr} {fd:FuncData} (F:Fun K "_law_bound" "_law_bound" s_l_bound f fd) (T:Txt K mg):FnOk P w K mg base CX0 1 f fd P_l_bound (spBnd K):=by
  refine F.ok sc_l_bound (fun vs H Q E h=>?_) (fun cdv A outer st H vs Q E hr h=>?_)
  · obtain ⟨sh,pl,a,lm,row,ms,rfl,_⟩:=h
    rfl
  obtain ⟨sh,pl,a,lm,row,ms,rfl,hS,hM,hs0,hl,hm,hml,k⟩:=h
  have nd:=sc_l_bound.nd
  have hu:=hu_of hr
  refine ⟨_,(pss_cons (pst 4 nd (pe_op op_mul (pe_op op_sub (pv 1) pe_int) (pe_callBN (call_len_seqK (K:=K) rfl) rfl T.z_len PySem.boot_len (pc (pv 3) pa_nil))))
      (pss_cons (ps_for PassesOwn.never rfl (pi_enum rfl T.z_enumerate (pc (pv 2) pa_nil)) (pg_tupK (K:=K) (n:=2) rfl rfl (pgs_cons (pgn 5 nd) (pgs_cons (pgn 6 nd) pgs_nil))) (pss_cons (pst 7 nd (pe_comp1 (compOk_of (osc:=(defScope s_l_bound)) (oN:=N_l_bound) (N:=["_law_i", "_law_board", "_law_row"]) (own:=1) (js:=[6,2]) (by decide +kernel) rfl rfl) rfl (pi_range1 rfl T.z_range (pc (pv 5) pa_nil)) (fun _ _ _ _ _ _=>(pgn 0 (show List.Nodup (["_law_i", "_law_board", "_law_row"]:List Str) by decide +kernel))) (fun _ _ _ _ _ _=>(pt_cmpR op_eq (pe_ix (ix_listK (K:=K) rfl) (pv 2) (pv 0) (fun _ _=>rfl)) (pv 1) (nomark _))) (fun _ _ _ _ _ _=>(pv 0))))
      (pss_one (ps_if (pt_cmpR (op_neL (K:=K) (Nat.lt_of_succ_lt hu) rfl) (pv 7) (pe_lst pa_nil) (nomark _)) (pss_cons (ps_comp1 8 (compOk_of (osc:=(defScope s_l_bound)) (oN:=N_l_bound) (N:=["_law_mark", "_law_j", "_law_behind", "_law_shelves", "_law_board", "_law_row"]) (own:=1) (js:=[5,7,0,6,2]) (by decide +kernel) rfl rfl) rfl nd rfl rfl (pi_listK (K:=K) rfl (pv 3)) (fun _ _ _ _ _ _=>(pgn 0 (show List.Nodup (["_law_mark", "_law_j", "_law_behind", "_law_shelves", "_law_board", "_law_row"]:List Str) by decide +kernel))) (fun _ _ _ _ _ _=>(PW.pt (pw_and (pt_chain op_lt op_lt (pe_ix (ix_listK (K:=K) rfl) (pv 2) (pe_un un_neg pe_int) (fun _ _=>rfl)) (pv 0) (pv 1)) (pw_and1 (pt_cmpR op_eq (pe_op op_mod (pe_ix (ix_listK (K:=K) rfl) (pv 5) (pv 0) (fun _ _=>rfl)) (pv 3)) (pe_op op_mod (pv 4) (pv 3)) (nomark _)))))) (fun _ _ _ _ _ _=>(pv 0)))
      (pss_one (pst 4 nd (pe_op op_add (pv 4) (pe_callTyN call_int1 rfl T.z_int boot_intT (pc (pe_cmpR (op_eqL (K:=K) (Nat.lt_of_succ_lt hu) rfl) (pv 8) (pe_lst pa_nil) (nomark _)) pa_nil)))))) pss_nil))))
      (pss_one (ps_ret (pv 4))))),?_⟩
  have lM:(mV ms).length=ms.length:=List.length_map ..
  have at':∀ x,x<row.length→atI (row.map V.int) (x:Int)=some (.int (row.getD x 0)):=fun x hx=>atI_nat (by rw [List.getElem?_map,List.getD_eq_getElem?_getD,List.getElem?_eq_getElem hx]; rfl)
  refine ⟨_,rfl,_,_,rfl,rfl,_,rfl,lm,_,rfl,.inl hM,_,_,rfl,rfl,.inr (by rw [lM]; omega),gN ?_⟩
  rw [lM]
  refine ⟨_,rfl,a,rfl,⟨_,hS⟩,for_enum (K:=K) (a:=a) (xs:=row.map V.int) (fun j σ G=>∃ (v5 v6 v7 v8:Option V),σ=[some (.int sh),some (.int pl),some (.ref a),some (.ref lm),some (.int ((pl - 1) * (ms.length:Int)+((List.range j).countP (frJ sh row ms):Nat))),v5,v6,v7,v8]∧Same H G)
    ⟨none,none,none,none,?_,Same.refl _⟩ (fun i σ G _ ⟨_,_,_,_,_,s⟩=>s.seq hS) ?_ ?_⟩
  · show _=[_,_,_,_,some (V.int ((pl - 1) * (ms.length:Int)+((0:Nat):Int))),_,_,_,_]
    rw [show (((0:Nat):Int))=0 from rfl,Int.add_zero]
    rfl
  · rintro j x t σ G hx ⟨v5,v6,v7,v8,rfl,sg⟩ ht
    obtain ⟨z,hz,rfl⟩:=ints_at hx
    have hj:j<row.length:=(List.getElem?_eq_some_iff.mp hz).1
    have eg:row.getD j 0=z:=by rw [List.getD_eq_getElem?_getD,hz]; rfl
    refine ⟨t,_,rfl,SqT.of upd_same,rfl,_,_,rfl,gN ⟨_,_,rfl,gN ⟨rfl,?_⟩⟩⟩
    have s1:=sg.trans (same_upd (H:=G) ht (.tup [V.int (j:Int),V.int z]))
    generalize upd G t (.tup [V.int (j:Int),V.int z])=G1 at *
    have ec:(List.range (j+1)).countP (frJ sh row ms)=(List.range j).countP (frJ sh row ms)+(if frJ sh row ms j=true then 1 else 0):=by rw [List.range_succ,List.countP_append,List.countP_singleton]
    generalize hW:(pl - 1) * (ms.length:Int)+((List.range j).countP (frJ sh row ms):Nat)=W at *
    refine hide fun u1 ee=>?_
    refine ⟨_,rfl,_,rfl,by omega,by omega,fun lb hlb=>?_⟩
    refine comp_range (lo:=0) (n:=((j:Nat):Int).toNat) (l:=lb) (fun i ys σ' G'=>∃ (v0:Option V),σ'=[v0,some (.int z),some (.ref a)]∧ys=mV ((List.range i).filter fun i=>decide (row.getD i 0=z))∧G'=upd G1 lb (.lst ys))
      ⟨none,rfl,rfl,rfl⟩ ?_ ?_
    · rintro i ys σ' G' hi hys ⟨v0,rfl,rfl,rfl⟩
      have hi':i<j:=by omega
      rw [Int.zero_add]
      have er:((List.range (i+1)).filter fun i=>decide (row.getD i 0=z))=((List.range i).filter fun i=>decide (row.getD i 0=z))++(if row.getD i 0=z then [i] else []):=by
        rw [List.range_succ,List.filter_append,List.filter_cons,List.filter_nil]
        simp only [decide_eq_true_eq]
      refine ⟨_,rfl,_,rfl,a,_,_,_,rfl,rfl,(s1.trans (same_upd hlb _)).seq hS,at' i (by omega),_,rfl,rfl,_,rfl,?_⟩
      by_cases c:row.getD i 0=z
      · rw [if_pos c] at er
        refine ifT (by rw [c]; simp) ⟨_,rfl,CNx.of (by show j≤sizeLine; exact Nat.le_of_lt (small1000 (by omega))) hi hys upd_same ⟨_,rfl,by rw [er,mV_app]; rfl,upd_upd⟩⟩
      · rw [if_neg c,List.append_nil] at er
        refine ifF (by simpa using c) (CNo.of hi hys ⟨_,rfl,by rw [er],rfl⟩)
    subst ee
    rintro ys σ' G' _ ⟨v0,rfl,rfl,rfl⟩
    rw [show ((j:Nat):Int).toNat=j from rfl]
    have pl':=prv_last row z j
    have lB:((List.range j).filter fun i=>decide (row.getD i 0=z)).length≤j:=by
      have:=List.length_filter_le (fun i=>decide (row.getD i 0=z)) (List.range j)
      rwa [List.length_range] at this
    generalize ((List.range j).filter fun i=>decide (row.getD i 0=z))=B at *
    have s2:=s1.trans (same_upd (H:=G1) hlb (.lst (mV B)))
    have eb:upd G1 lb (.lst (mV B)) lb=some (.lst (mV B)):=upd_same
    generalize upd G1 lb (.lst (mV B))=G2 at *
    refine gN ?_
    dsimp only
    have fin:∀ (v7 v8:Option V) (W':Int) (G':Hp),W'=W+(if frJ sh row ms j=true then 1 else 0)→Same H G'→∃ (v5 v6 v7' v8':Option V),([some (.int sh),some (.int pl),some (.ref a),some (.ref lm),some (.int W'),some (.int (j:Int)),some (.int z),v7,v8]:St)=[some (.int sh),some (.int pl),some (.ref a),some (.ref lm),some (.int ((pl - 1) * (ms.length:Int)+((List.range (j+1)).countP (frJ sh row ms):Nat))),v5,v6,v7',v8']∧Same H G':=fun v7 v8 W' G' e s=>⟨some (.int (j:Int)),some (.int z),v7,v8,by rw [show W'=(pl - 1) * (ms.length:Int)+((List.range (j+1)).countP (frJ sh row ms):Nat) by rw [e,ec,← hW]; split <;> omega],s⟩
    have eB:=eb
    rw [mV_ints] at eB
    refine ⟨_,rfl,(by show 0≤sizeLine; decide),fun l0 hl0=>?_⟩
    have s3:=s2.trans (same_upd (H:=G2) hl0 (.lst []))
    have eb3:=same_upd (H:=G2) hl0 (.lst []) _ _ eb
    have eB3:=same_upd (H:=G2) hl0 (.lst []) _ _ eB
    have e03:upd G2 l0 (.lst []) l0=some (.lst (([]:List Int).map V.int)):=upd_same
    generalize upd G2 l0 (.lst [])=G3 at *
    refine ⟨lb,l0,_,[],rfl,rfl,SqL.of eB3,SqL.of e03,_,rfl,?_⟩
    have efr:frJ sh row ms j=match prv row z j with | some i=>!mkd sh row ms i j | none=>false:=by unfold frJ spn; rw [eg] <;> rfl
    by_cases c:B=[]
    · subst c
      refine ifF rfl (fin _ _ _ _ ?_ s3)
      rw [efr,← pl']
      simp
    · refine ifT (by cases B with | nil=>exact absurd rfl c | cons _ _=>simp) ?_
      have ea:B=B.dropLast++[B.getLast c]:=(List.dropLast_concat_getLast c).symm
      have em:prv row z j=some (B.getLast c):=by rw [← pl',List.getLast?_eq_some_getLast c]
      have hat:atI (mV B) (-1)=some (.int ((B.getLast c:Nat):Int)):=by
        conv=>lhs; rw [ea,mV_app]
        exact atI_last _ _
      generalize B.getLast c=i at *
      obtain ⟨q1,q2,q3⟩:=prv_some em
      rw [em] at efr
      have hr':∀ x,crs sh row i j x=((decide (i<x) && decide (x<j)) && decide (row.getD x 0 % sh=z % sh)):=fun x=>by unfold crs; rw [q2]
      refine hide fun u1 ee=>?_
      refine ⟨_,rfl,lm,rfl,⟨_,s3.seq hM⟩,fun lo hlo=>?_⟩
      refine comp_list (K:=K) (a:=lm) (xs:=mV ms) (l:=lo) (fun n ys σ' G'=>∃ (v0:Option V),σ'=[v0,some (.int (j:Int)),some (.ref lb),some (.int sh),some (.int z),some (.ref a)]∧ys=mV ((ms.take n).filter (crs sh row i j))∧G'=upd G3 lo (.lst ys))
        ⟨none,rfl,rfl,rfl⟩ (fun n ys σ' G' _ ⟨_,_,_,q⟩=>by rw [q]; exact (s3.trans (same_upd hlo _)).seq hM) ?_ ?_
      · rintro n x ys σ' G' hn hxn hys ⟨v0,rfl,rfl,rfl⟩
        have hn':n<ms.length:=by omega
        have em':ms[n]?=some ms[n]:=List.getElem?_eq_getElem hn'
        have ex:x=.int (ms[n]:Int):=by
          unfold mV at hxn
          rw [List.getElem?_map,em'] at hxn
          exact (Option.some.inj hxn).symm
        subst ex
        have mr:=hm _ (List.mem_of_getElem? em')
        have tk:(ms.take (n+1)).filter (crs sh row i j)=(ms.take n).filter (crs sh row i j)++(if crs sh row i j ms[n]=true then [ms[n]] else []):=by rw [List.take_succ,em',List.filter_append]; show _++List.filter _ [_]=_; rw [List.filter_cons,List.filter_nil]
        generalize ms[n]=y at *
        have big:(mV ms).length≤sizeLine:=by rw [lM]; exact Nat.le_of_lt (small1000 (by omega))
        have no:crs sh row i j y=false→CNo (mV ms).length (fun n ys σ' G'=>∃ (v0:Option V),σ'=[v0,some (.int (j:Int)),some (.ref lb),some (.int sh),some (.int z),some (.ref a)]∧ys=mV ((ms.take n).filter (crs sh row i j))∧G'=upd G3 lo (.lst ys)) n (mV ((ms.take n).filter (crs sh row i j))) [some (.int (y:Int)),some (.int (j:Int)),some (.ref lb),some (.int sh),some (.int z),some (.ref a)] (upd G3 lo (.lst (mV ((ms.take n).filter (crs sh row i j))))):=fun e=>CNo.of hn hys ⟨_,rfl,by rw [tk,e]; simp,rfl⟩
        refine ⟨_,rfl,_,rfl,lb,_,_,_,rfl,rfl,SqL.of (same_upd hlo _ _ _ eb3),hat,_,rfl,_,_,rfl,rfl,_,rfl,?_⟩
        by_cases c1:i<y
        · refine ifT (decide_eq_true (by omega)) ⟨_,rfl,_,_,rfl,rfl,_,rfl,?_⟩
          by_cases c2:y<j
          · refine ifT (decide_eq_true (by omega)) ⟨_,rfl,_,rfl,a,_,_,_,rfl,rfl,(s3.trans (same_upd hlo _)).seq hS,at' y mr,_,rfl,_,_,rfl,rfl,by omega,_,rfl,_,rfl,_,_,rfl,rfl,by omega,rfl,_,rfl,?_⟩
            by_cases c3:row.getD y 0 % sh=z % sh
            · have e:crs sh row i j y=true:=by rw [hr',decide_eq_true c1,decide_eq_true c2,decide_eq_true c3]; rfl
              rw [if_pos e] at tk
              exact ifT (decide_eq_true (by show V.int _=V.int _; rw [c3])) ⟨_,rfl,CNx.of big hn hys upd_same ⟨_,rfl,by rw [tk,mV_app]; rfl,upd_upd⟩⟩
            · exact ifF (decide_eq_false fun z'=>c3 (V.int.inj z')) (no (by rw [hr',decide_eq_false c3,Bool.and_false]))
          · exact ifF (decide_eq_false (by omega)) (ifF rfl (no (by rw [hr',decide_eq_false c2,Bool.and_false,Bool.false_and])))
        · exact ifF (decide_eq_false (by omega)) ⟨_,rfl,ifF rfl (ifF rfl (no (by rw [hr',decide_eq_false c1,Bool.false_and,Bool.false_and])))⟩
      subst ee
      rintro ys σ' G' _ ⟨v0,rfl,rfl,rfl⟩
      rw [lM,List.take_length]
      have s4:=s3.trans (same_upd (H:=G3) hlo (.lst (mV (ms.filter (crs sh row i j)))))
      have eo:upd G3 lo (.lst (mV (ms.filter (crs sh row i j)))) lo=some (.lst (((ms.filter (crs sh row i j)).map fun m:Nat=>(m:Int)).map V.int)):=by rw [upd_same,mV_ints]
      generalize upd G3 lo (.lst (mV (ms.filter (crs sh row i j))))=G4 at *
      refine gN ⟨_,rfl,_,rfl,(by show 0≤sizeLine; decide),fun l5 hl5=>⟨lo,l5,_,[],rfl,rfl,SqL.of (same_upd hl5 _ _ _ eo),SqL.of upd_same,?_⟩⟩
      refine .inr ⟨_,rfl,_,_,rfl,rfl,gN (fin _ _ _ _ ?_ (s4.trans (same_upd hl5 _)))⟩
      have efr':frJ sh row ms j=!ms.any (crs sh row i j):=efr
      rw [efr']
      by_cases ce:ms.filter (crs sh row i j)=[]
      · rw [ce]
        have:ms.any (crs sh row i j)=false:=by
          rw [List.any_eq_false]
          exact fun x hx=>List.filter_eq_nil_iff.mp ce x hx
        rw [this]
        simp
      · have:ms.any (crs sh row i j)=true:=by
          obtain ⟨x,hx⟩:=List.exists_mem_of_ne_nil _ ce
          exact List.any_eq_true.mpr ⟨x,(List.mem_filter.mp hx).1,(List.mem_filter.mp hx).2⟩
        rw [this]
        simp [ce]
  · rintro σ G ⟨v5,v6,v7,v8,rfl,sg⟩
    rw [List.length_map]
    have q:=k G sg
    rw [bnd_J] at q
    exact ⟨_,rfl,q⟩
end
section
variable {P:Program} {w:World} {K:PySem.W.Frag} {mg:Str→Option Value} {base:Heap}
def spSm (K:PySem.W.Frag):Sp:=fun vs H Q _=>∃ (b lr:Addr) (a q c:Int) (row:List Int),vs=[.ref b,.ref lr]∧BoxAt H b a q c∧c<310000000∧H lr=some (.lst (row.map V.int))∧lr≠b∧row.length≤400 ∧
  ∀ (D:Addr) (H':Hp) (ms:List Nat) (a' c':Int),H D=none→H' D=some (.lst (mV ms))→(∀ x∈ms,x<row.length)→ms.Pairwise (·<·)→ms.length≤row.length→BoxAt H' b a' q c'→c'≤c+1+row.length→SB b H H'→Q (.ref D) H'
theorem ok_some_marks {f:Addr} {fd:FuncData} (F:Fun K "_law_some_marks" "_law_some_marks" s_some_marks f fd) (T:Txt K mg) (D_take:Def P w K mg base "_law_take" 1 P_take spTake):FnOk P w K mg base CX0 2 f fd P_some_marks (spSm K):=by
  refine F.ok sc_some_marks (fun vs H Q E h=>?_) (fun cdv A outer st H vs Q E hr h=>?_)
  · obtain ⟨b,lr,a,q,c,row,rfl,_⟩:=h
    rfl
  obtain ⟨b,lr,a,q,c,row,rfl,B,hc,hR,nlb,hl,k⟩:=h
  have nd:=sc_some_marks.nd
  refine ⟨_,(pss_cons (ps_par (i:=2) (j:=3) rfl nd rfl rfl (by decide) rfl rfl (pc (pe_defN D_take hr.m rfl (pc (pv 0) (pc pe_int pa_nil))) (pc (pe_lst pa_nil) pa_nil)) rfl)
      (pss_cons (ps_for PassesOwn.never rfl (pi_range1 rfl T.z_range (pc (pe_callBN (call_len_seqK (K:=K) rfl) rfl T.z_len PySem.boot_len (pc (pv 1) pa_nil)) pa_nil)) (pgn 4 nd) (pss_one (ps_if (PW.pt (pw_or (pt_cmpR op_eq (pv 2) pe_int (nomark _)) (pw_or1 (PW.pt (pw_and (pt_cmpR op_gt (pv 2) pe_int (nomark _)) (pw_and1 (pt_cmpR op_eq (pe_defN D_take hr.m rfl (pc (pv 0) (pc (pe_ix (ix_listK (K:=K) rfl) (pe_lst (pc pe_int (pc pe_int pa_nil))) (pe_op op_sub (pv 2) pe_int) (fun _ _=>rfl)) pa_nil))) pe_int (nomark _)))))))) (pss_one (ps_expr (pe_bmC (K:=K) rfl (pe_bm PySem.F.plainAttrs_list PySem.F.slot_list_append PySem.F.type_list_append mt_append (pv 3) (pc (pv 4) pa_nil))))) pss_nil)))
      (pss_one (ps_ret (pv 3))))),?_⟩
  refine ⟨_,rfl,b,a,q,c,4,rfl,B,by omega,by decide,by decide,fun wy a1 c1 H1 w0 w1 B1 hc1 s1=>⟨(by show 0≤sizeLine; decide),fun lf hlf=>⟨_,_,rfl,?_⟩⟩⟩
  try dsimp only
  have s2:=same_upd (H:=H1) hlf (.lst [])
  have ef:upd H1 lf (.lst []) lf=some (.lst []):=upd_same
  have nbf:b≠lf:=ne_of_none B1.at' hlf
  have B2:=B1.same s2
  have hlfH:H lf=none:=sb_fresh s1 B1.at' hlf
  have u2:SB b H (upd H1 lf (.lst [])):=s1.trans (s2.sb b)
  generalize upd H1 lf (.lst [])=H2 at *
  have lR:(row.map V.int).length=row.length:=List.length_map ..
  refine ⟨_,rfl,lr,_,rfl,.inl (SqL.of (u2 _ _ nlb hR)),_,rfl,by omega,by omega,for_range (lo:=0) (n:=(((row.map V.int).length:Nat):Int).toNat) (fun i σ G=>∃ (v4:Option V) (ms:List Nat) (a' c':Int),σ=[some (.ref b),some (.ref lr),some (.int wy),some (.ref lf),v4]∧G lf=some (.lst (mV ms))∧(∀ x∈ms,x<i)∧ms.Pairwise (·<·)∧ms.length≤i∧BoxAt G b a' q c'∧c'≤c+1+i∧SB b H G)
    ⟨none,[],a1,c1,rfl,ef,fun x h=>(nomatch h),List.Pairwise.nil,Nat.le_refl _,B2,by omega,u2⟩ ?_ ?_⟩
  · rintro i σ G hi ⟨v4,ms,a',c',rfl,gf,m1,m2,m3,Bg,hcg,sb⟩
    have hi':i<row.length:=by rw [lR] at hi; omega
    rw [Int.zero_add]
    refine gN ?_
    have mm1:∀ x∈ms++[i],x<i+1:=fun x hx=>by
      rcases List.mem_append.mp hx with h | h
      · have:=m1 x h; omega
      · have e:x=i:=by simpa using h
        omega
    have mm2:(ms++[i]).Pairwise (·<·):=by
      rw [List.pairwise_append]
      refine ⟨m2,by simp,fun x hx y hy=>?_⟩
      have e:y=i:=by simpa using hy
      have:=m1 x hx
      omega
    have yes:∀ {a2 c2:Int} {G':Hp},G' lf=some (.lst (mV ms))→BoxAt G' b a2 q c2→c2≤c+1+((i+1:Nat):Int)→SB b H G'→∃ (v4:Option V) (ms':List Nat) (a' c':Int),([some (.ref b),some (.ref lr),some (.int wy),some (.ref lf),some (.int (i:Int))]:St)=[some (.ref b),some (.ref lr),some (.int wy),some (.ref lf),v4]∧upd G' lf (.lst (mV ms++[V.int (i:Int)])) lf=some (.lst (mV ms'))∧(∀ x∈ms',x<i+1)∧ms'.Pairwise (·<·)∧ms'.length≤i+1∧BoxAt (upd G' lf (.lst (mV ms++[V.int (i:Int)]))) b a' q c'∧c'≤c+1+((i+1:Nat):Int)∧SB b H (upd G' lf (.lst (mV ms++[V.int (i:Int)]))):=fun {a2 c2 G'} g1 g2 g3 g4 =>
      ⟨_,ms++[i],a2,c2,rfl,by rw [upd_same,mV_app]; rfl,mm1,mm2,by rw [List.length_append]; show _+1≤_; omega,⟨by rw [upd_ne nbf]; exact g2.at',g2.a0,g2.q0,g2.q1,g2.c0⟩,g3,fun x o nx e=>by rw [upd_ne (ne_of_none e hlfH)]; exact g4 _ _ nx e⟩
    refine cpIfS (fun _ G'=>∃ a2 c2:Int,G' lf=some (.lst (mV ms))∧BoxAt G' b a2 q c2∧c2≤c+1+((i+1:Nat):Int)∧SB b H G') (fun Q' k'=>?_) ?_
    · refine ⟨_,rfl,rfl,_,rfl,?_⟩
      have k0:=fun v=>k' v G ⟨a',c',gf,Bg,by omega,sb⟩
      by_cases e1:wy=1
      · exact ifT (by rw [e1]; simp) (k0 _)
      · refine ifF (by simpa using e1) ⟨_,rfl,_,_,rfl,rfl,_,rfl,?_⟩
        by_cases e2:1<wy
        · refine ifT (decide_eq_true e2) ⟨_,rfl,(by show 2≤sizeLine; decide),fun p0 hp0=>?_⟩
          have q0:b≠p0:=ne_of_none Bg.at' hp0
          have s5:=same_upd (H:=G) hp0 (.lst [V.int 2,V.int 5])
          obtain ⟨n,hn,n0,n1⟩:∃ n:Int,atI [V.int 2,V.int 5] (wy - 2)=some (.int n)∧0<n∧n≤5:=by
            have:wy=2∨wy=3:=by omega
            rcases this with rfl | rfl
            · exact ⟨2,rfl,by decide,by decide⟩
            · exact ⟨5,rfl,by decide,by decide⟩
          refine ⟨_,rfl,_,_,rfl,rfl,p0,_,_,_,rfl,rfl,SqL.of upd_same,hn,b,a',q,c',n,rfl,Bg.same s5,by omega,by omega,by omega,fun r a2 c2 G2 r0 r1 B2 hc2 t2=>⟨rfl,_,rfl,k' _ _ ⟨a2,c2,t2 _ _ (Ne.symm nbf) (s5 _ _ gf),B2,by omega,(sb.trans (s5.sb b)).trans t2⟩⟩⟩
        · exact ifF (decide_eq_false e2) (k0 _)
    · rintro cc G' ⟨a2,c2,g1,g2,g3,g4⟩
      cases cc with
      | true=>exact ifT rfl ⟨_,rfl,.inl ⟨rfl,_,SqL.of g1⟩,_,rfl,lf,_,_,rfl,rfl,g1,small1000 (by unfold mV; rw [List.length_map]; omega),yes g1 g2 g3 g4⟩
      | false=>exact ifF rfl ⟨_,ms,a2,c2,rfl,g1,fun x hx=>Nat.lt_succ_of_lt (m1 x hx),m2,by omega,g2,g3,g4⟩
  · rintro σ G ⟨v4,ms,a',c',rfl,gf,m1,m2,m3,Bg,hcg,sb⟩
    rw [show (((row.map V.int).length:Nat):Int).toNat=row.length by rw [lR]; rfl] at m1 m3 hcg
    exact ⟨_,rfl,k lf G ms a' c' hlfH gf m1 m2 m3 Bg hcg sb⟩
end
theorem bk_desc {as:List Int} {n:Nat} (h:∀ i,i<n→as.getD i (-1)<(i:Int)):∀ (f:Nat) (m:Int),m<n→(bkF as f m).Pairwise (· > ·)
  | 0,_,_=>List.Pairwise.nil
  | f+1,m,hm=>by
    rw [bk_succ]
    by_cases c:0≤m
    · rw [if_pos c]
      have q:=h m.toNat (by omega)
      refine List.pairwise_cons.mpr ⟨fun x hx=>?_,bk_desc h f _ (by omega)⟩
      have:=bk_lt h f _ (by omega) x hx
      omega
    · rw [if_neg c]; exact List.Pairwise.nil
theorem lm_asc (fee:Int) (row:List Int):(lmF fee row).Pairwise (·<·):=by
  unfold lmF
  rw [List.pairwise_reverse]
  exact bk_desc (fun i hi=>(dp_ahead (againF row) fee row.length i hi).2) _ _ (mk0_lt (againF row) fee row.length).2
theorem mkS_asc (sh pl:Int) (row:List Int) (s:Int):(mkS sh pl row s).Pairwise (·<·):=by
  unfold mkS
  rw [List.pairwise_map]
  refine List.Pairwise.imp_of_mem (fun {a b} ha hb h=>?_) (lm_asc (pl - 1) (askF sh row s))
  refine sp_lt ?_ h
  have:=lm_lt _ _ b hb
  unfold askF at this
  rwa [List.length_map] at this
theorem cat_nd {sh pl:Int} {row:List Int}:∀ {ks:List Int},ks.Nodup→(ks.flatMap (mkS sh pl row)).Nodup
  | [],_=>List.nodup_nil
  | s :: ks,nd=>by
    obtain ⟨n1,n2⟩:=List.nodup_cons.mp nd
    rw [List.flatMap_cons,List.nodup_append]
    refine ⟨(mkS_asc sh pl row s).imp fun {a b} h=>Nat.ne_of_lt h,cat_nd n2,fun x hx y hy e=>?_⟩
    obtain ⟨t,ht,hy⟩:=List.mem_flatMap.mp hy
    subst e
    have:t=s:=by rw [← (mkS_mem hy).2,(mkS_mem hx).2]
    exact n1 (this ▸ ht)
theorem mk_asc {sh pl:Int} {row:List Int} {os:List Nat} (ho:os.Perm (catF sh pl row)) (hp:os.Pairwise (·≤·)):os.Pairwise (·<·):=by
  have k1:=(ksF_ok sh row row.length (Nat.le_refl _)).1
  rw [List.take_length] at k1
  have nd:os.Nodup:=ho.nodup_iff.mpr (cat_nd k1)
  have:os.Pairwise fun a b=>a≤b∧a≠b:=List.Pairwise.and hp nd
  exact this.imp fun {a b} h=>by omega
theorem mk_in {sh pl:Int} {row:List Int} {os:List Nat} (ho:os.Perm (catF sh pl row)):(∀ x∈os,x<row.length)∧os.length≤row.length:=by
  refine ⟨fun x hx=>?_,?_⟩
  · obtain ⟨s,_,hs⟩:=List.mem_flatMap.mp (ho.mem_iff.mp hx)
    exact (mkS_mem hs).1
  · rw [ho.length_eq]
    have:=cat_len (sh:=sh) (pl:=pl) (row:=row) (ksF sh row) (by have:=(ksF_ok sh row row.length (Nat.le_refl _)).1; rwa [List.take_length] at this)
    exact this
theorem asc_uniq:∀ {a b:List Nat},a.Pairwise (·<·)→b.Pairwise (·<·)→a.Perm b→a=b
  | [],b,_,_,h=>(List.nil_perm.mp h).symm
  | x :: a,[],_,_,h=>absurd h.symm (by intro z; exact absurd (List.nil_perm.mp z) (by simp))
  | x :: a,y :: b,h1,h2,h=>by
    obtain ⟨a1,a2⟩:=List.pairwise_cons.mp h1
    obtain ⟨b1,b2⟩:=List.pairwise_cons.mp h2
    have e:x=y:=by
      rcases List.mem_cons.mp (h.mem_iff.mp List.mem_cons_self) with q | q
      · exact q
      · rcases List.mem_cons.mp (h.symm.mem_iff.mp List.mem_cons_self) with p | p
        · exact p.symm
        · have:=b1 x q
          have:=a1 y p
          omega
    subst e
    rw [asc_uniq a2 b2 ((List.perm_cons x).mp h)]
theorem cut_tail (ns:List Int):cutV (ns.map V.int) (some 1) none=(ns.drop 1).map V.int:=by
  rw [cut_map,HT.sIx_none]
  have e:HT.sIx ns.length 0 (some 1)=min 1 ns.length:=HT.sIx_nat (n:=ns.length) (d:=0) 1
  rw [e]
  congr 1
  by_cases c:1≤ns.length
  · rw [Nat.min_eq_left c,List.take_of_length_le (by rw [List.length_drop]; omega)]
  · have:ns=[]:=List.length_eq_zero_iff.mp (by omega)
    rw [this]; rfl
section
variable {P:Program} {w:World} {K:PySem.W.Frag} {mg:Str→Option Value} {base:Heap}
def spFew (K:PySem.W.Frag):Sp:=fun vs H Q _=>∃ (b:Addr) (a q c:Int),vs=[.ref b]∧BoxAt H b a q c∧c<310000000 ∧
  ∀ (l:Addr) (ns:List Int) (a' c':Int) (H':Hp),H l=none→H' l=some (.lst (ns.map V.int))→ns.length≤9→BoxAt H' b a' q c'→c'≤c+20→SB b H H'→Q (.ref l) H'
theorem ok_few_asked {f:Addr} {fd:FuncData} (F:Fun K "_law_few_asked" "_law_few_asked" s_few_asked f fd) (T:Txt K mg) (D_take:Def P w K mg base "_law_take" 1 P_take spTake):FnOk P w K mg base CX0 2 f fd P_few_asked (spFew K):=by
  refine F.ok sc_few_asked (fun vs H Q E h=>?_) (fun cdv A outer st H vs Q E hr h=>?_)
  · obtain ⟨b,a,q,c,rfl,_⟩:=h
    rfl
  obtain ⟨b,a,q,c,rfl,B,hc,k⟩:=h
  have nd:=sc_few_asked.nd
  refine ⟨_,(pss_cons (pst 1 nd (pe_slice (sl_listK (K:=K) rfl) (pe_lst (pc (pe_defN D_take hr.m rfl (pc (pv 0) (pc pe_int pa_nil))) (pc pe_int (pc pe_int (pc pe_int (pc pe_int (pc pe_int pa_nil))))))) po_none (po_some (pe_op op_add pe_int (pe_defN D_take hr.m rfl (pc (pv 0) (pc pe_int pa_nil)))))))
      (pss_one (ps_ret (pe_comp0 (compOk_of (osc:=(defScope s_few_asked)) (oN:=N_few_asked) (N:=["_law_k", "_law_some", "_law_box_here"]) (own:=1) (js:=[1,0]) (by decide +kernel) rfl rfl) rfl (pi_range1 rfl T.z_range (pc (pe_defN D_take hr.m rfl (pc (pv 0) (pc pe_int pa_nil))) pa_nil)) (fun _ _ _ _ _ _=>(pgn 0 (show List.Nodup (["_law_k", "_law_some", "_law_box_here"]:List Str) by decide +kernel))) (fun _ _ _ _ _ _=>(pe_ix (ix_listK (K:=K) rfl) (pv 1) (pe_defN D_take hr.m rfl (pc (pv 2) (pc (pe_callBN (call_len_seqK (K:=K) rfl) rfl T.z_len PySem.boot_len (pc (pv 1) pa_nil)) pa_nil))) (fun _ _=>rfl))))))),?_⟩
  refine ⟨_,rfl,b,a,q,c,3,rfl,B,by omega,by decide,by decide,fun r1 a1 c1 H1 r10 r11 B1 hc1 s1=>⟨(by show 6≤sizeLine; decide),fun l0 hl0=>?_⟩⟩
  have s2:=same_upd (H:=H1) hl0 (.lst ([r1,3,4,5,9,14].map V.int))
  have e0:upd H1 l0 (.lst ([r1,3,4,5,9,14].map V.int)) l0=some (.lst ([r1,3,4,5,9,14].map V.int)):=upd_same
  have n0b:l0≠b:=Ne.symm (ne_of_none B1.at' hl0)
  have B2:=B1.same s2
  have u2:SB b H _:=s1.trans (s2.sb b)
  refine ⟨_,rfl,b,a1,q,c1,5,rfl,B2,by omega,by decide,by decide,fun r2 a2 c2 H2 r20 r21 B3 hc2 t2=>⟨_,_,rfl,rfl,_,rfl,?_⟩⟩
  refine ⟨l0,_,rfl,SqL.of (t2 _ _ n0b e0),fun l1 hl1=>gN ?_⟩
  obtain ⟨ns0,ens,n1,n2⟩:∃ ns0:List Int,cutV ([r1,3,4,5,9,14].map V.int) none (some (2+r2))=ns0.map V.int∧0<ns0.length∧ns0.length≤6:=by
    have:r2=0∨r2=1∨r2=2∨r2=3∨r2=4:=by omega
    rcases this with rfl | rfl | rfl | rfl | rfl
    · exact ⟨[r1,3],rfl,by simp,by simp⟩
    · exact ⟨[r1,3,4],rfl,by simp,by simp⟩
    · exact ⟨[r1,3,4,5],rfl,by simp,by simp⟩
    · exact ⟨[r1,3,4,5,9],rfl,by simp,by simp⟩
    · exact ⟨[r1,3,4,5,9,14],rfl,by simp,by simp⟩
  rw [ens]
  have s3:=same_upd (H:=H2) hl1 (.lst (ns0.map V.int))
  have e1:upd H2 l1 (.lst (ns0.map V.int)) l1=some (.lst (ns0.map V.int)):=upd_same
  have n1b:l1≠b:=Ne.symm (ne_of_none B3.at' hl1)
  have B4:=B3.same s3
  have u3:SB b H (upd H2 l1 (.lst (ns0.map V.int))):=(u2.trans t2).trans (s3.sb b)
  generalize upd H2 l1 (.lst (ns0.map V.int))=H3 at *
  refine ⟨_,rfl,b,a2,q,c2,10,rfl,B4,by omega,by decide,by decide,fun r3 a3 c3 H4 r30 r31 B5 hc3 t3=>⟨_,rfl,by omega,by omega,fun l2 hl2=>?_⟩⟩
  have n2b:l2≠b:=Ne.symm (ne_of_none B5.at' hl2)
  have hl2H:H l2=none:=sb_fresh (u3.trans t3) B5.at' hl2
  refine comp_range (lo:=0) (n:=r3.toNat) (l:=l2) (fun j ys σ G=>∃ (v0:Option V) (ns:List Int) (a' c':Int),σ=[v0,some (.ref l1),some (.ref b)]∧ys=ns.map V.int∧ns.length=j∧G l2=some (.lst ys)∧BoxAt G b a' q c'∧c'≤c3+j∧SB b H4 G)
    ⟨none,[],a3,c3,rfl,rfl,rfl,upd_same,B5.same (same_upd hl2 _),by omega,(same_upd hl2 _).sb b⟩ ?_ ?_
  · rintro j ys σ G hj hys ⟨v0,ns,a',c',rfl,rfl,hnl,gl,Bg,hcg,sb⟩
    have g1:=sb _ _ n1b (t3 _ _ n1b e1)
    refine ⟨_,rfl,_,rfl,_,rfl,l1,_,rfl,.inl (SqL.of g1),b,a',q,c',_,rfl,Bg,by omega,by rw [List.length_map]; omega,by rw [List.length_map]; omega,fun r a4 c4 G2 r0 r1' B6 hc4 t4=>?_⟩
    rw [List.length_map] at r1'
    obtain ⟨g,hg,_⟩:=at_mem r0 r1'
    refine ⟨l1,_,_,_,rfl,rfl,SqL.of (t4 _ _ n1b g1),hg,CNx.of (Nat.le_of_lt (small1000 (by omega))) hj hys (t4 _ _ n2b gl) ⟨_,ns++[g],a4,c4,rfl,by rw [List.map_append]; rfl,by rw [List.length_append,hnl]; rfl,upd_same,⟨by rw [upd_ne (Ne.symm n2b)]; exact B6.at',B6.a0,B6.q0,B6.q1,B6.c0⟩,by omega,fun x o nx e=>by rw [upd_ne (ne_of_none e hl2)]; exact t4 _ _ nx (sb _ _ nx e)⟩⟩
  · rintro ys σ G _ ⟨v0,ns,a',c',rfl,rfl,hnl,gl,Bg,hcg,sb⟩
    exact k l2 ns a' c' G hl2H gl (by omega) Bg (by omega) ((u3.trans t3).trans sb)
def spSmall (K:PySem.W.Frag):Sp:=fun vs H Q _=>∃ (b:Addr) (a q c:Int),vs=[.ref b]∧BoxAt H b a q c∧c<300000000 ∧
  ∀ (p l:Addr) (sh pl:Int) (ns:List Int) (a' c':Int) (H':Hp),H' p=some (.tup [.int sh,.int pl,.ref l])→H l=none→H' l=some (.lst (ns.map V.int))→1≤sh→sh≤3→1≤pl→pl≤4→ns.length≤9→BoxAt H' b a' q c'→c'≤c+30→SB b H H'→Q (.ref p) H'
theorem ok_small {f:Addr} {fd:FuncData} (F:Fun K "_law_small" "_law_small" s_small f fd) (T:Txt K mg) (D_take:Def P w K mg base "_law_take" 1 P_take spTake) (D_few_asked:Def P w K mg base "_law_few_asked" 2 P_few_asked (spFew K)):FnOk P w K mg base CX0 3 f fd P_small (spSmall K):=by
  refine F.ok sc_small (fun vs H Q E h=>?_) (fun cdv A outer st H vs Q E hr h=>?_)
  · obtain ⟨b,a,q,c,rfl,_⟩:=h
    rfl
  obtain ⟨b,a,q,c,rfl,B,hc,k⟩:=h
  have nd:=sc_small.nd
  refine ⟨_,(pss_cons (ps_par (i:=1) (j:=2) rfl nd rfl rfl (by decide) rfl rfl (pc (pe_op op_add pe_int (pe_defN D_take hr.m rfl (pc (pv 0) (pc pe_int pa_nil)))) (pc (pe_op op_add pe_int (pe_defN D_take hr.m rfl (pc (pv 0) (pc pe_int pa_nil)))) pa_nil)) rfl)
      (pss_one (ps_ret (pe_tup (pc (pv 1) (pc (pv 2) (pc (pe_defN D_few_asked hr.m rfl (pc (pv 0) pa_nil)) pa_nil))))))),?_⟩
  refine ⟨_,rfl,b,a,q,c,3,rfl,B,by omega,by decide,by decide,fun r1 a1 c1 H1 r10 r11 B1 hc1 s1=>⟨_,_,rfl,rfl,_,rfl,b,a1,q,c1,4,rfl,B1,by omega,by decide,by decide,fun r2 a2 c2 H2 r20 r21 B2 hc2 s2=>⟨_,_,rfl,rfl,_,_,rfl,?_⟩⟩⟩
  refine ⟨_,rfl,_,rfl,_,rfl,b,a2,q,c2,rfl,B2,by omega,fun l ns a3 c3 H3 hl el ln B3 hc3 s3=>⟨(by show 3≤sizeLine; decide),fun p hp=>?_⟩⟩
  have u2:=s1.trans s2
  exact k p l _ _ ns a3 c3 _ upd_same (sb_fresh u2 B2.at' hl) (same_upd hp _ _ _ el) (by omega) (by omega) (by omega) (by omega) ln (B3.same (same_upd hp _)) (by omega) ((u2.trans s3).trans ((same_upd hp _).sb b))
def spAre (K:PySem.W.Frag):Sp:=fun vs H Q _=>∃ (a lm:Addr) (row:List Int) (ms:List Nat),vs=[.ref a,.ref lm]∧SqL K H a (row.map V.int)∧H lm=some (.lst (mV ms))∧(∀ x∈ms,x<row.length)∧ms.Pairwise (·<·)∧ms.length≤900∧∀ H',Same H H'→Q (.bl true) H'
theorem ok_are_marks {f:Addr} {fd:FuncData} (F:Fun K "_law_are_marks" "_law_are_marks" s_are_marks f fd) (T:Txt K mg):FnOk P w K mg base CX0 1 f fd P_are_marks (spAre K):=by
  refine F.ok sc_are_marks (fun vs H Q E h=>?_) (fun cdv A outer st H vs Q E hr h=>?_)
  · obtain ⟨a,lm,row,ms,rfl,_⟩:=h
    rfl
  obtain ⟨a,lm,row,ms,rfl,hS,hM,hm,hp,hl,k⟩:=h
  have nd:=sc_are_marks.nd
  refine ⟨_,(pss_cons (ps_if (PW.pt (pw_or (pt_not (pt_val (pe_callBN call_isi rfl T.z_isinstance boot_isi (pc (pv 1) (pc (pe_bltn (v:=.ty "list") rfl T.z_list boot_listT rfl) pa_nil))))) (pw_or1 (pt_not (pt_val (pe_callBN (call_allL rfl) rfl T.z_all boot_all (pc (pe_comp0 (compOk_of (osc:=(defScope s_are_marks)) (oN:=N_are_marks) (N:=["_law_one"]) (own:=1) (js:=[]) (by decide +kernel) rfl rfl) rfl (pi_listK (K:=K) rfl (pv 1)) (fun _ _ _ _ _ _=>(pgn 0 (show List.Nodup (["_law_one"]:List Str) by decide +kernel))) (fun _ _ _ _ _ _=>(pe_and (pe_callBN call_isi rfl T.z_isinstance boot_isi (pc (pv 0) (pc (pe_bltn (v:=.ty "int") rfl T.z_int boot_intT rfl) pa_nil))) (pe_one (pe_not (pe_callBN call_isi rfl T.z_isinstance boot_isi (pc (pv 0) (pc (pe_bltn (v:=.ty "bool") rfl T.z_bool boot_boolT rfl) pa_nil)))))))) pa_nil))))))) (pss_one (ps_ret pe_bl)) pss_nil)
      (pss_one (ps_ret (pe_and (pe_callBN (call_allL rfl) rfl T.z_all boot_all (pc (pe_comp0 (compOk_of (osc:=(defScope s_are_marks)) (oN:=N_are_marks) (N:=["_law_one", "_law_row"]) (own:=1) (js:=[0]) (by decide +kernel) rfl rfl) rfl (pi_listK (K:=K) rfl (pv 1)) (fun _ _ _ _ _ _=>(pgn 0 (show List.Nodup (["_law_one", "_law_row"]:List Str) by decide +kernel))) (fun _ _ _ _ _ _=>(pe_chain op_le op_lt pe_int (pv 0) (pe_callBN (call_len_seqK (K:=K) rfl) rfl T.z_len PySem.boot_len (pc (pv 1) pa_nil))))) pa_nil)) (pe_one (pe_callBN (call_allL rfl) rfl T.z_all boot_all (pc (pe_comp0 (compOk_of (osc:=(defScope s_are_marks)) (oN:=N_are_marks) (N:=["_law_one", "_law_other"]) (own:=2) (js:=[]) (by decide +kernel) rfl rfl) rfl (pi_zip rfl T.z_zip (pc (pv 1) (pc (pe_slice (sl_listK (K:=K) rfl) (pv 1) (po_some pe_int) po_none) pa_nil))) (fun _ _ _ _ _ _=>(pg_tupK (K:=K) (n:=2) rfl rfl (pgs_cons (pgn 0 (show List.Nodup (["_law_one", "_law_other"]:List Str) by decide +kernel)) (pgs_cons (pgn 1 (show List.Nodup (["_law_one", "_law_other"]:List Str) by decide +kernel)) pgs_nil)))) (fun _ _ _ _ _ _=>(pe_cmpR op_lt (pv 0) (pv 1) (nomark _)))) pa_nil))))))),?_⟩
  have lV:(mV ms).length=ms.length:=List.length_map ..
  have big:(mV ms).length≤sizeLine:=by rw [lV]; exact Nat.le_of_lt (small1000 (by omega))
  have mat:∀ {j:Nat} {x:V},(mV ms)[j]?=some x→∃ y,ms[j]?=some y∧x=.int (y:Int):=fun {j x} h=>by
    unfold mV at h
    rw [List.getElem?_map] at h
    cases e:ms[j]? with
    | none=>rw [e] at h; cases h
    | some y=>rw [e] at h; exact ⟨y,rfl,(Option.some.inj h).symm⟩
  have dn:∀ n,((List.replicate n true).all id)=true:=fun n=>by rw [List.all_eq_true]; intro z hz; rw [(List.mem_replicate.mp hz).2]; rfl
  have cat':∀ n,(List.replicate n true).map V.bl++[V.bl true]=(List.replicate (n+1) true).map V.bl:=fun n=>by rw [List.replicate_succ',List.map_append]; rfl
  refine cpI (fun σ G=>σ=[some (.ref a),some (.ref lm)]∧Same H G) (fun D' _ k'=>?_) ?_
  · refine ⟨_,rfl,_,_,_,rfl,(by simp only [tyN,hM]:tyN H (.ref lm)=some "list"),by decide,_,rfl,ifF (by decide) ⟨_,rfl,lm,rfl,⟨_,SqL.of hM⟩,fun l hl'=>?_⟩⟩
    refine comp_list (K:=K) (a:=lm) (xs:=mV ms) (l:=l) (fun j ys σ G=>∃ v0:Option V,σ=[v0]∧ys=(List.replicate j true).map V.bl∧G=upd H l (.lst ys)) ⟨none,rfl,rfl,rfl⟩ (fun j ys σ G _ ⟨_,_,_,q⟩=>SqL.of (by rw [q,upd_ne (ne_of_none hM hl')]; exact hM)) ?_ ?_
    · rintro j x ys σ G hj hxj hys ⟨v0,rfl,rfl,rfl⟩
      obtain ⟨y,ey,rfl⟩:=mat hxj
      exact ⟨_,rfl,_,_,_,rfl,rfl,by decide,_,rfl,ifT (by decide) ⟨_,rfl,_,_,_,rfl,rfl,by decide,_,rfl,CNx.of big hj hys upd_same ⟨_,rfl,cat' j,upd_upd⟩⟩⟩
    · rintro ys σ G _ ⟨v0,rfl,rfl,rfl⟩
      refine ⟨l,_,rfl,SqL.of upd_same,_,rfl,?_⟩
      rw [dn]
      exact ifF rfl (k' _ _ ⟨rfl,same_upd hl' _⟩)
  rintro _ G1 ⟨rfl,s1⟩
  have hM1:=s1 _ _ hM
  refine ⟨_,rfl,lm,rfl,⟨_,SqL.of hM1⟩,fun l hl'=>?_⟩
  refine comp_list (K:=K) (a:=lm) (xs:=mV ms) (l:=l) (fun j ys σ G=>∃ v0:Option V,σ=[v0,some (.ref a)]∧ys=(List.replicate j true).map V.bl∧G=upd G1 l (.lst ys)) ⟨none,rfl,rfl,rfl⟩ (fun j ys σ G _ ⟨_,_,_,q⟩=>SqL.of (by rw [q,upd_ne (ne_of_none hM1 hl')]; exact hM1)) ?_ ?_
  · rintro j x ys σ G hj hxj hys ⟨v0,rfl,rfl,rfl⟩
    obtain ⟨y,ey,rfl⟩:=mat hxj
    have yl:=hm y (List.mem_of_getElem? ey)
    refine ⟨_,rfl,_,_,rfl,rfl,_,rfl,ifT (decide_eq_true (by omega)) ⟨_,rfl,a,_,rfl,.inl ((s1.trans (same_upd hl' _)).seq hS),_,_,rfl,rfl,?_⟩⟩
    rw [List.length_map]
    dsimp only
    rw [decide_eq_true (by omega:(y:Int)<(row.length:Int))]
    exact CNx.of big hj hys upd_same ⟨_,rfl,cat' j,upd_upd⟩
  rintro ys σ G _ ⟨v0,rfl,rfl,rfl⟩
  have s2:=s1.trans (same_upd (H:=G1) hl' (.lst ((List.replicate (mV ms).length true).map V.bl)))
  refine ⟨l,_,rfl,SqL.of upd_same,_,rfl,?_⟩
  rw [dn]
  refine ifT rfl ?_
  generalize upd G1 l (.lst ((List.replicate (mV ms).length true).map V.bl))=G2 at *
  have hM2:=s2 _ _ hM
  refine ⟨_,rfl,_,rfl,_,rfl,lm,_,rfl,SqL.of hM2,fun l3 hl3=>?_⟩
  have ec:cutV (mV ms) (some 1) none=mV (ms.drop 1):=by rw [mV_ints,mV_ints,cut_tail]; simp only [List.map_drop]
  rw [ec]
  have hM3:=same_upd (H:=G2) hl3 (.lst (mV (ms.drop 1))) _ _ hM2
  have e3:upd G2 l3 (.lst (mV (ms.drop 1))) l3=some (.lst (mV (ms.drop 1))):=upd_same
  have s3:=s2.trans (same_upd (H:=G2) hl3 (.lst (mV (ms.drop 1))))
  generalize upd G2 l3 (.lst (mV (ms.drop 1)))=G3 at *
  refine ⟨lm,l3,rfl,⟨_,SqL.of hM3⟩,⟨_,SqL.of e3⟩,fun lz hlz=>?_⟩
  have lD:(mV (ms.drop 1)).length=ms.length - 1:=by unfold mV; rw [List.length_map,List.length_drop]
  refine comp_zipN (K:=K) (a:=lm) (b:=l3) (xs:=mV ms) (zs:=mV (ms.drop 1)) (l:=lz) (ms.length - 1) (by rw [lV,lD]; omega) (fun j ys σ' G'=>∃ v0 v1:Option V,σ'=[v0,v1]∧ys=(List.replicate j true).map V.bl∧G' lz=some (.lst ys)∧Same G3 G')
    ⟨none,none,rfl,rfl,upd_same,same_upd hlz _⟩ (fun j ys σ' G' _ ⟨_,_,_,_,_,q⟩=>⟨SqL.of (q _ _ hM3),SqL.of (q _ _ e3)⟩) ?_ ?_
  · rintro j x z t ys σ' G' hj hx hz hys ⟨v0,v1,rfl,rfl,q1,q2⟩ ht
    obtain ⟨y,ey,rfl⟩:=mat hx
    have ez:∃ y',ms[j+1]?=some y'∧z=.int (y':Int):=by
      unfold mV at hz
      rw [List.getElem?_map,List.getElem?_drop,Nat.add_comm] at hz
      cases e:ms[j+1]? with
      | none=>rw [e] at hz; cases hz
      | some y'=>rw [e] at hz; exact ⟨y',rfl,(Option.some.inj hz).symm⟩
    obtain ⟨y',ey',rfl⟩:=ez
    have lt:y<y':=by
      obtain ⟨i1,e1⟩:=List.getElem?_eq_some_iff.mp ey
      obtain ⟨i2,e2⟩:=List.getElem?_eq_some_iff.mp ey'
      have:=List.pairwise_iff_getElem.mp hp j (j+1) i1 i2 (by omega)
      rw [e1,e2] at this
      exact this
    refine ⟨t,_,rfl,SqT.of upd_same,rfl,_,_,rfl,_,_,rfl,rfl,?_⟩
    refine ⟨_,rfl,_,rfl,_,_,rfl,rfl,?_⟩
    dsimp only
    rw [decide_eq_true (by omega:(y:Int)<(y':Int))]
    refine CNx.of (Nat.le_of_lt (small1000 (by omega))) hj hys (by rw [upd_ne (ne_of_none q1 ht)]; exact q1) ⟨_,_,rfl,cat' j,upd_same,fun e o y=>?_⟩
    rw [upd_ne (ne_of_none y hlz)]
    exact same_upd ht _ _ _ (q2 _ _ y)
  · rintro ys σ' G' _ ⟨v0,v1,rfl,rfl,q1,q2⟩
    refine ⟨lz,_,rfl,SqL.of q1,?_⟩
    rw [dn]
    exact k G' (s3.trans q2)
def MsAt (n:Nat) (G:Hp) (d:Addr):Prop:=∃ ms:List Nat,G d=some (.lst (mV ms))∧(∀ x∈ms,x<n)∧ms.length≤n
theorem MsAt.same {n:Nat} {G G':Hp} {d:Addr} (h:MsAt n G d) (s:Same G G'):MsAt n G' d:=let ⟨ms,h1,h2⟩:=h; ⟨ms,s _ _ h1,h2⟩
theorem MsAt.up {n m:Nat} {G:Hp} {d:Addr} (h:MsAt n G d) (l:n≤m):MsAt m G d:=let ⟨ms,h1,h2,h3⟩:=h; ⟨ms,h1,fun x hx=>Nat.lt_of_lt_of_le (h2 x hx) l,Nat.le_trans h3 l⟩
def spSets (K:PySem.W.Frag):Sp:=fun vs H Q _=>∃ (a:Addr) (row:List Int),vs=[.ref a]∧SqL K H a (row.map V.int)∧row.length≤9 ∧
  ∀ (l:Addr) (ds:List Addr) (H':Hp),H' l=some (.lst (ds.map V.ref))→ds.length≤512→(∀ d∈ds,MsAt row.length H' d)→Same H H'→Q (.ref l) H'
theorem ok_sets {f:Addr} {fd:FuncData} (F:Fun K "_law_sets" "_law_sets" s_sets f fd) (T:Txt K mg):FnOk P w K mg base CX0 1 f fd P_sets (spSets K):=by
  refine F.ok sc_sets (fun vs H Q E h=>?_) (fun cdv A outer st H vs Q E hr h=>?_)
  · obtain ⟨a,row,rfl,_⟩:=h
    rfl
  obtain ⟨a,row,rfl,hS,hl,k⟩:=h
  have nd:=sc_sets.nd
  refine ⟨_,(pss_cons (pst 1 nd (pe_lst (pc (pe_lst pa_nil) pa_nil)))
      (pss_cons (ps_for PassesOwn.never rfl (pi_range1 rfl T.z_range (pc (pe_callBN (call_len_seqK (K:=K) rfl) rfl T.z_len PySem.boot_len (pc (pv 0) pa_nil)) pa_nil)) (pgn 2 nd) (pss_one (pst 1 nd (pe_op op_cat (pv 1) (pe_comp0 (compOk_of (osc:=(defScope s_sets)) (oN:=N_sets) (N:=["_law_some", "_law_place"]) (own:=1) (js:=[2]) (by decide +kernel) rfl rfl) rfl (pi_listK (K:=K) rfl (pv 1)) (fun _ _ _ _ _ _=>(pgn 0 (show List.Nodup (["_law_some", "_law_place"]:List Str) by decide +kernel))) (fun _ _ _ _ _ _=>(pe_op op_cat (pv 0) (pe_lst (pc (pv 1) pa_nil)))))))))
      (pss_one (ps_ret (pv 1))))),?_⟩
  refine ⟨(by show 0≤sizeLine; decide),fun le hle=>⟨(by show 1≤sizeLine; decide),fun l0 hl0=>gN ?_⟩⟩
  have s0:=(same_upd (H:=H) hle (.lst [])).trans (same_upd hl0 (.lst [V.ref le]))
  have e0:upd (upd H le (.lst [])) l0 (.lst [V.ref le]) l0=some (.lst ([le].map V.ref)):=upd_same
  have m0:MsAt 0 (upd (upd H le (.lst [])) l0 (.lst [V.ref le])) le:=⟨[],same_upd hl0 _ _ _ upd_same,fun x h=>(nomatch h),Nat.le_refl _⟩
  generalize upd (upd H le (.lst [])) l0 (.lst [V.ref le])=H0 at *
  have lR:(row.map V.int).length=row.length:=List.length_map ..
  have p2:∀ i,i≤9→2 ^ i≤512:=fun i hi=>Nat.pow_le_pow_right (by decide) hi
  refine ⟨_,rfl,a,_,rfl,.inl (s0.seq hS),_,rfl,by omega,by omega,for_range (lo:=0) (n:=(((row.map V.int).length:Nat):Int).toNat) (fun i σ G=>∃ (v2:Option V) (lf:Addr) (ds:List Addr),σ=[some (.ref a),some (.ref lf),v2]∧G lf=some (.lst (ds.map V.ref))∧ds.length=2 ^ i∧(∀ d∈ds,MsAt i G d)∧Same H G)
    ⟨none,l0,[le],rfl,e0,rfl,fun d hd=>by rw [List.mem_singleton.mp hd]; exact m0,s0⟩ ?_ ?_⟩
  · rintro i σ G hi ⟨v2,lf,ds,rfl,gf,hd,hm,sg⟩
    have hi':i<row.length:=by rw [lR] at hi; omega
    have pi:=p2 (i+1) (by omega)
    rw [Nat.pow_succ] at pi
    rw [Int.zero_add]
    refine gN ⟨_,rfl,_,rfl,lf,rfl,⟨_,SqL.of gf⟩,fun lc hlc=>?_⟩
    have lds:(ds.map V.ref).length=ds.length:=List.length_map ..
    refine comp_list (K:=K) (a:=lf) (xs:=ds.map V.ref) (l:=lc) (fun j ys σ' G'=>∃ (v0:Option V) (es:List Addr),σ'=[v0,some (.int (i:Int))]∧ys=es.map V.ref∧es.length=j∧G' lc=some (.lst ys)∧(∀ d∈es,MsAt (i+1) G' d∧d≠lc)∧Same G G')
      ⟨none,[],rfl,rfl,rfl,upd_same,fun d h=>(nomatch h),same_upd hlc _⟩ (fun j ys σ' G' _ ⟨_,_,_,_,_,_,_,q⟩=>SqL.of (q _ _ gf)) ?_ ?_
    · rintro j x ys σ' G' hj hxj hys ⟨v0,es,rfl,rfl,hes,gc,hme,sG⟩
      rw [List.getElem?_map] at hxj
      cases ed:ds[j]? with
      | none=>rw [ed] at hxj; cases hxj
      | some d =>
        rw [ed] at hxj
        cases hxj
        obtain ⟨ms,h1,h2,h3⟩:=hm d (List.mem_of_getElem? ed)
        have h1:=sG _ _ h1
        refine ⟨_,rfl,_,rfl,(by show 1≤sizeLine; decide),fun l1 hl1=>⟨d,l1,_,_,rfl,rfl,same_upd hl1 _ _ _ h1,upd_same,Nat.le_of_lt (small1000 (by unfold mV; rw [List.length_map]; show _+1≤1000; omega)),fun l2 hl2=>?_⟩⟩
        have s2:=(same_upd (H:=G') hl1 (.lst [V.int (i:Int)])).trans (same_upd hl2 (.lst (mV ms++[V.int (i:Int)])))
        have e2:upd (upd G' l1 (.lst [V.int (i:Int)])) l2 (.lst (mV ms++[V.int (i:Int)])) l2=some (.lst (mV (ms++[i]))):=by rw [upd_same,mV_app]; rfl
        have n2:l2≠lc:=Ne.symm (ne_of_none (same_upd (H:=G') hl1 (.lst [V.int (i:Int)]) _ _ gc) hl2)
        generalize upd (upd G' l1 (.lst [V.int (i:Int)])) l2 (.lst (mV ms++[V.int (i:Int)]))=G2 at *
        refine CNx.of (by rw [lds]; exact Nat.le_of_lt (small1000 (by omega))) hj hys (s2 _ _ gc) ⟨_,es++[l2],rfl,by rw [List.map_append]; rfl,by rw [List.length_append,hes]; rfl,upd_same,fun d' hd'=>?_,fun x o e=>by rw [upd_ne (ne_of_none e hlc)]; exact s2 _ _ (sG _ _ e)⟩
        rcases List.mem_append.mp hd' with hd' | hd'
        · obtain ⟨⟨ms',q1,q2⟩,q3⟩:=hme d' hd'
          exact ⟨⟨ms',by rw [upd_ne q3]; exact s2 _ _ q1,q2⟩,q3⟩
        · have e:d'=l2:=by simpa using hd'
          subst e
          refine ⟨⟨ms++[i],by rw [upd_ne n2]; exact e2,fun x hx=>?_,by rw [List.length_append]; show _+1≤_; omega⟩,n2⟩
          rcases List.mem_append.mp hx with hx | hx
          · have:=h2 x hx; omega
          · have e:x=i:=by simpa using hx
            omega
    · rintro ys σ' G' _ ⟨v0,es,rfl,rfl,hes,gc,hme,sG⟩
      rw [lds] at hes
      refine ⟨lf,lc,_,_,rfl,rfl,sG _ _ gf,gc,Nat.le_of_lt (small1000 (by rw [List.length_map,List.length_map]; omega)),fun l3 hl3=>gN ?_⟩
      have s3:=same_upd (H:=G') hl3 (.lst (ds.map V.ref++es.map V.ref))
      refine ⟨_,l3,ds++es,rfl,by rw [upd_same,List.map_append],by rw [List.length_append,hes,hd,Nat.pow_succ]; omega,fun d hd'=>?_,(sg.trans sG).trans s3⟩
      rcases List.mem_append.mp hd' with hd' | hd'
      · exact ((hm d hd').up (Nat.le_succ _)).same (sG.trans s3)
      · exact (hme d hd').1.same s3
  · rintro σ G ⟨v2,lf,ds,rfl,gf,hd,hm,sg⟩
    rw [show (((row.map V.int).length:Nat):Int).toNat=row.length by rw [lR]; rfl] at hd hm
    exact ⟨_,rfl,k lf ds G gf (by rw [hd]; exact p2 _ hl) hm sg⟩
end
section
variable {P:Program} {w:World} {K:PySem.W.Frag} {mg:Str→Option Value} {base:Heap}
def spRight (K:PySem.W.Frag):Sp:=fun vs H Q _=>∃ (b:Addr) (a q c:Int),vs=[.ref b]∧BoxAt H b a q c∧c<200000000∧∀ H',SB b H H'→Q (.bl true) H'
def MkAt (row:List Int) (G:Hp) (d:Addr):Prop:=∃ ms:List Nat,G d=some (.lst (mV ms))∧(∀ x∈ms,x<row.length)∧ms.length≤900
theorem anyF (n:Nat):((List.replicate n false).any id)=false:=by
  rw [List.any_eq_false]
  intro z hz
  rw [(List.mem_replicate.mp hz).2]
  exact Bool.false_ne_true
theorem reS {t:TS} {D:Ends} {σ:St} {H:Hp} (σ':St) (e:σ=σ') (h:t D σ' H):t D σ H:=e ▸ h
theorem ok_right {f:Addr} {fd:FuncData} (F:Fun K "_law_right" "_law_right" s_right f fd) (T:Txt K mg) (D_take:Def P w K mg base "_law_take" 1 P_take spTake) (D_small:Def P w K mg base "_law_small" 3 P_small (spSmall K)) (D_shape:Def P w K mg base "_law_shape" 2 P_shape spShape) (D_asked:Def P w K mg base "_law_asked" 3 P_asked spAsked) (D_marks_of:Def P w K mg base "marks_of" 3 P_marks_of (spMks K)) (D_are_marks:Def P w K mg base "_law_are_marks" 1 P_are_marks (spAre K)) (D_l_bound:Def P w K mg base "_law_bound" 1 P_l_bound (spBnd K)) (D_sets:Def P w K mg base "_law_sets" 1 P_sets (spSets K)) (D_bound:Def P w K mg base "bound" 3 P_bound (spBnd K)) (D_some_marks:Def P w K mg base "_law_some_marks" 2 P_some_marks (spSm K)):FnOk P w K mg base CX0 9 f fd P_right (spRight K):=by
  refine F.ok sc_right (fun vs H Q E h=>?_) (fun cdv A outer st H vs Q E hr h=>?_)
  · obtain ⟨b,a,q,c,rfl,_⟩:=h
    rfl
  obtain ⟨b,a,q,c,rfl,B,hc,k⟩:=h
  have nd:=sc_right.nd
  have hu:=hu_of hr
  refine ⟨_,(pss_cons (ps_asg (pe_defN D_small hr.m rfl (pc (pv 0) pa_nil)) (pg_tupK (K:=K) (n:=3) rfl rfl (pgs_cons (pgn 1 nd) (pgs_cons (pgn 2 nd) (pgs_cons (pgn 3 nd) pgs_nil)))))
      (pss_cons (pst 4 nd (pe_defN D_marks_of hr.m rfl (pc (pv 1) (pc (pv 2) (pc (pv 3) pa_nil)))))
      (pss_cons (ps_if (pt_not (pt_val (pe_defN D_are_marks hr.m rfl (pc (pv 3) (pc (pv 4) pa_nil))))) (pss_one (ps_ret pe_bl)) pss_nil)
      (pss_cons (pst 5 nd (pe_defN D_l_bound hr.m rfl (pc (pv 1) (pc (pv 2) (pc (pv 3) (pc (pv 4) pa_nil))))))
      (pss_cons (ps_if (pt_val (pe_callBN (call_anyL rfl) rfl T.z_any boot_any (pc (pe_comp0 (compOk_of (osc:=(defScope s_right)) (oN:=N_right) (N:=["_law_some", "_law_least", "_law_shelves", "_law_places", "_law_row"]) (own:=1) (js:=[5,1,2,3]) (by decide +kernel) rfl rfl) rfl (pi_listK (K:=K) rfl (pe_defN D_sets hr.m rfl (pc (pv 3) pa_nil))) (fun _ _ _ _ _ _=>(pgn 0 (show List.Nodup (["_law_some", "_law_least", "_law_shelves", "_law_places", "_law_row"]:List Str) by decide +kernel))) (fun _ _ _ _ _ _=>(pe_cmpR op_lt (pe_defN D_l_bound hr.m rfl (pc (pv 2) (pc (pv 3) (pc (pv 4) (pc (pv 0) pa_nil))))) (pv 1) (nomark _)))) pa_nil))) (pss_one (ps_ret pe_bl)) pss_nil)
      (pss_cons (ps_asg (pe_defN D_shape hr.m rfl (pc (pv 0) pa_nil)) (pg_tupK (K:=K) (n:=3) rfl rfl (pgs_cons (pgn 1 nd) (pgs_cons (pgn 2 nd) (pgs_cons (pgn 6 nd) pgs_nil)))))
      (pss_cons (pst 3 nd (pe_defN D_asked hr.m rfl (pc (pv 0) (pc pe_int (pc pe_int pa_nil)))))
      (pss_cons (pst 7 nd (pe_callTyN (call_list_ofK (K:=K) rfl) rfl T.z_list boot_listT (pc (pv 3) pa_nil)))
      (pss_cons (pst 4 nd (pe_defN D_marks_of hr.m rfl (pc (pv 1) (pc (pv 2) (pc (pv 3) pa_nil)))))
      (pss_cons (ps_asg (pe_tup (pc (pe_callTyN (call_list_ofK (K:=K) rfl) rfl T.z_list boot_listT (pc (pv 4) pa_nil)) (pc (pe_defN D_bound hr.m rfl (pc (pv 1) (pc (pv 2) (pc (pv 3) (pc (pv 4) pa_nil))))) pa_nil))) (pg_tupK (K:=K) (n:=2) rfl rfl (pgs_cons (pgn 8 nd) (pgs_cons (pgn 5 nd) pgs_nil))))
      (pss_cons (ps_if (pt_not (pt_val (pe_defN D_are_marks hr.m rfl (pc (pv 3) (pc (pv 4) pa_nil))))) (pss_one (ps_ret pe_bl)) pss_nil)
      (pss_cons (ps_comp0 9 (compOk_of (osc:=(defScope s_right)) (oN:=N_right) (N:=["_law_turn", "_law_box_here", "_law_row"]) (own:=1) (js:=[0,3]) (by decide +kernel) rfl rfl) rfl nd rfl rfl (pi_range1 rfl T.z_range (pc pe_int pa_nil)) (fun _ _ _ _ _ _=>(pgn 0 (show List.Nodup (["_law_turn", "_law_box_here", "_law_row"]:List Str) by decide +kernel))) (fun _ _ _ _ _ _=>(pe_defN D_some_marks hr.m rfl (pc (pv 1) (pc (pv 2) pa_nil)))))
      (pss_cons (ps_for PassesOwn.never rfl (pi_range1 rfl T.z_range (pc pe_int pa_nil)) (pgn 10 nd) (pss_cons (pst 11 nd (pe_defN D_take hr.m rfl (pc (pv 0) (pc (pe_callBN (call_max2 rfl) rfl T.z_max boot_max (pc pe_int (pc (pe_callBN (call_len_seqK (K:=K) rfl) rfl T.z_len PySem.boot_len (pc (pv 3) pa_nil)) pa_nil))) pa_nil))))
      (pss_cons (ps_expr (pe_bmC (K:=K) rfl (pe_bm PySem.F.plainAttrs_list PySem.F.slot_list_append PySem.F.type_list_append mt_append (pv 9) (pc (pe_comp1 (compOk_of (osc:=(defScope s_right)) (oN:=N_right) (N:=["_law_one", "_law_at"]) (own:=1) (js:=[11]) (by decide +kernel) rfl rfl) rfl (pi_listK (K:=K) rfl (pv 4)) (fun _ _ _ _ _ _=>(pgn 0 (show List.Nodup (["_law_one", "_law_at"]:List Str) by decide +kernel))) (fun _ _ _ _ _ _=>(pt_cmpR op_ne (pv 0) (pv 1) (nomark _))) (fun _ _ _ _ _ _=>(pv 0))) pa_nil))))
      (pss_one (ps_expr (pe_bmC (K:=K) rfl (pe_bm PySem.F.plainAttrs_list PySem.F.slot_list_append PySem.F.type_list_append mt_append (pv 9) (pc (pe_ifExp (pt_cmpR (op_neL (K:=K) (Nat.lt_of_succ_lt hu) rfl) (pv 3) (pe_lst pa_nil) (nomark _)) (pe_callBN (call_sortedA (K:=K) rfl) rfl T.z_sorted PyProof.Rows.boot_sorted (pc (pe_op op_cat (pe_ix (ix_listK (K:=K) rfl) (pv 9) (pe_un un_neg pe_int) (fun _ _=>rfl)) (pe_lst (pc (pv 11) pa_nil))) pa_nil)) (pe_lst pa_nil)) pa_nil))))))))
      (pss_cons (ps_expr (pe_bmC (K:=K) rfl (pe_bm PySem.F.plainAttrs_list PySem.F.slot_list_append PySem.F.type_list_append mt_append (pv 4) (pc pe_int pa_nil))))
      (pss_cons (ps_if (pt_cmpR (op_neL (K:=K) (Nat.lt_of_succ_lt hu) rfl) (pe_defN D_marks_of hr.m rfl (pc (pv 1) (pc (pv 2) (pc (pv 3) pa_nil)))) (pv 8) (nomark _)) (pss_one (ps_ret pe_bl)) pss_nil)
      (pss_cons (ps_if (pt_cmpR (op_neL (K:=K) (Nat.lt_of_succ_lt hu) rfl) (pv 3) (pv 7) (nomark _)) (pss_one (ps_ret pe_bl)) pss_nil)
      (pss_one (ps_ret (pe_not (pe_callBN (call_anyL rfl) rfl T.z_any boot_any (pc (pe_comp0 (compOk_of (osc:=(defScope s_right)) (oN:=N_right) (N:=["_law_some", "_law_least", "_law_shelves", "_law_places", "_law_row"]) (own:=1) (js:=[5,1,2,3]) (by decide +kernel) rfl rfl) rfl (pi_listK (K:=K) rfl (pv 9)) (fun _ _ _ _ _ _=>(pgn 0 (show List.Nodup (["_law_some", "_law_least", "_law_shelves", "_law_places", "_law_row"]:List Str) by decide +kernel))) (fun _ _ _ _ _ _=>(pe_cmpR op_lt (pe_defN D_bound hr.m rfl (pc (pv 2) (pc (pv 3) (pc (pv 4) (pc (pv 0) pa_nil))))) (pv 1) (nomark _)))) pa_nil))))))))))))))))))))),?_⟩
  refine hide fun u1 ee=>?_
  refine ⟨_,rfl,b,a,q,c,rfl,B,by omega,fun p lr sh pl row a1 c1 H1 e1 hlr er sh0 sh1 pl0 pl1 len B1 hc1 s1=>⟨p,_,rfl,SqT.of e1,rfl,_,_,rfl,gN ⟨_,_,rfl,gN ⟨_,_,rfl,gN ⟨rfl,?_⟩⟩⟩⟩⟩
  subst ee
  try dsimp only
  refine hide fun u1 ee=>?_
  refine ⟨_,rfl,_,rfl,_,rfl,sh,pl,lr,row,rfl,SqL.of er,sh0,by omega,fun lm H2 os hlm s2 em ho hp=>gN ?_⟩
  have ha:=mk_asc ho hp
  obtain ⟨hi,hl⟩:=mk_in ho
  subst ee
  try dsimp only
  refine hide fun u1 ee=>?_
  have er2:=s2 _ _ er
  refine ⟨_,rfl,_,rfl,lr,lm,row,os,rfl,SqL.of er2,em,hi,ha,by omega,fun H3 s3=>⟨_,rfl,ifF rfl ?_⟩⟩
  subst ee
  dsimp only [tNext]
  have er3:=s3 _ _ er2
  have em3:=s3 _ _ em
  refine hide fun u1 ee=>?_
  refine ⟨_,rfl,_,rfl,_,rfl,_,rfl,sh,pl,lr,lm,row,os,rfl,SqL.of er3,SqL.of (by exact em3),sh0,by omega,hi,by omega,fun H4 s4=>gN ?_⟩
  subst ee
  try dsimp only
  have er4:=s4 _ _ er3
  refine hide fun u1 ee=>?_
  refine ⟨_,rfl,lr,row,rfl,SqL.of er4,len,fun ls ds H5 es hds hms s5=>⟨ls,rfl,⟨_,SqL.of es⟩,fun lc hlc=>?_⟩⟩
  have lds:(ds.map V.ref).length=ds.length:=List.length_map ..
  refine comp_list (K:=K) (a:=ls) (xs:=ds.map V.ref) (l:=lc) (fun j ys σ' G'=>∃ (v0:Option V),σ'=[v0,some (.int (bndF sh pl row os)),some (.int sh),some (.int pl),some (.ref lr)]∧ys=(List.replicate j false).map V.bl∧G' lc=some (.lst ys)∧Same H5 G')
    ⟨none,rfl,rfl,upd_same,same_upd hlc _⟩ (fun j ys σ' G' _ ⟨_,_,_,_,q⟩=>SqL.of (q _ _ es)) ?_ ?_
  · rintro j x ys σ' G' hj hxj hys ⟨v0,rfl,rfl,gc,sG⟩
    rw [List.getElem?_map] at hxj
    cases ed:ds[j]? with
    | none=>rw [ed] at hxj; cases hxj
    | some d =>
      rw [ed] at hxj
      cases hxj
      obtain ⟨ms,h1,h2,h3⟩:=hms d (List.mem_of_getElem? ed)
      refine ⟨_,rfl,_,rfl,_,rfl,_,rfl,sh,pl,lr,d,row,ms,rfl,SqL.of (sG _ _ (s5 _ _ er4)),SqL.of (sG _ _ h1),sh0,by omega,h2,by omega,fun G2 t2=>⟨_,rfl,_,_,rfl,rfl,?_⟩⟩
      have le:=mk_least (sh:=sh) pl0 ho h2
      dsimp only
      rw [decide_eq_false (by omega:¬ bndF sh pl row ms<bndF sh pl row os)]
      exact CNx.of (by rw [lds]; exact Nat.le_of_lt (small1000 (by omega))) hj hys (t2 _ _ gc) ⟨_,rfl,by rw [List.replicate_succ',List.map_append]; rfl,upd_same,fun x o e=>by rw [upd_ne (ne_of_none e hlc)]; exact t2 _ _ (sG _ _ e)⟩
  rintro ys σ' H6 _ ⟨v0,rfl,rfl,gc,sG⟩
  refine ⟨lc,_,rfl,SqL.of gc,_,rfl,ifF (anyF _) ?_⟩
  subst ee
  dsimp only [tNext]
  have u6:SB b H H6:=s1.trans ((((((s2.trans s3).trans s4).trans s5).trans sG)).sb b)
  have B6:=B1.same ((((s2.trans s3).trans s4).trans s5).trans sG)
  clear s1 s2 s3 s4 s5 sG er er2 er3 er4 em em3 gc es hms e1 hlr hlm B B1 hi hl ha ho hp
  generalize bndF sh pl row os=z5
  refine reS [some (.ref b),some (.int sh),some (.int pl),some (.ref lr),some (.ref lm),some (.int z5),none,none,none,none,none,none] rfl ?_
  refine hide fun u1 ee=>?_
  refine ⟨_,rfl,b,a1,q,c1,rfl,B6,by omega,fun p sh pl ru a2 c2 H7 e7 sh0 sh1 pl0 pl1 hru B7 hc2 s7=>⟨p,_,rfl,SqT.of e7,rfl,_,_,rfl,gN ⟨_,_,rfl,gN ⟨_,_,rfl,gN ⟨rfl,?_⟩⟩⟩⟩⟩
  subst ee
  try dsimp only
  refine hide fun u1 ee=>?_
  refine ⟨_,rfl,b,a2,q,c2,40,120,rfl,B7,by omega,by decide,by decide,by decide,fun lr row a3 c3 H8 hlr e8 len8 bd B8 hc3 s8=>gN ?_⟩
  have u8:=(u6.trans s7).trans s8
  have nlr:lr≠b:=Ne.symm (ne_of_none B7.at' hlr)
  subst ee
  try dsimp only
  refine hide fun u1 ee=>?_
  refine ⟨_,rfl,lr,_,rfl,.inl (SqL.of e8),fun lk hlk=>gN ?_⟩
  have s9:=same_upd (H:=H8) hlk (.lst (row.map V.int))
  have e9:upd H8 lk (.lst (row.map V.int)) lk=some (.lst (row.map V.int)):=upd_same
  have nlk:lk≠b:=Ne.symm (ne_of_none B8.at' hlk)
  generalize upd H8 lk (.lst (row.map V.int))=H9 at *
  have er:=s9 _ _ e8
  have B9:=B8.same s9
  have u9:SB b H H9:=u8.trans (s9.sb b)
  clear s7 s8 u8 B6 B7 B8 u6 e7 hlr e8 hlk s9
  subst ee
  try dsimp only
  refine hide fun u1 ee=>?_
  refine ⟨_,rfl,_,rfl,_,rfl,sh,pl,lr,row,rfl,SqL.of er,sh0,by omega,fun lm H10 os hlm s10 em ho hp=>gN ?_⟩
  have ha:=mk_asc ho hp
  obtain ⟨hi,hl⟩:=mk_in ho
  have nmb:lm≠b:=Ne.symm (ne_of_none B9.at' hlm)
  have nmr:lm≠lr:=Ne.symm (ne_of_none er hlm)
  have nmk:lm≠lk:=Ne.symm (ne_of_none e9 hlm)
  have hlmH:H lm=none:=sb_fresh u9 B9.at' hlm
  subst ee
  try dsimp only
  refine hide fun u1 ee=>?_
  refine ⟨_,rfl,lm,_,rfl,.inl (SqL.of em),fun lq hlq=>?_⟩
  have s11:=s10.trans (same_upd (H:=H10) hlq (.lst (mV os)))
  have eq:upd H10 lq (.lst (mV os)) lq=some (.lst (mV os)):=upd_same
  have em:=same_upd (H:=H10) hlq (.lst (mV os)) _ _ em
  have nqb:lq≠b:=Ne.symm (ne_of_none (s10 _ _ B9.at') hlq)
  have nqm:lq≠lm:=Ne.symm (ne_of_none (by assumption) hlq)
  generalize upd H10 lq (.lst (mV os))=H11 at *
  have er:=s11 _ _ er
  have e9:=s11 _ _ e9
  have B11:=B9.same s11
  have u11:SB b H H11:=u9.trans (s11.sb b)
  clear s11 s10 B9 u9 hlq hlm
  refine ⟨_,rfl,_,rfl,_,rfl,_,rfl,sh,pl,lr,lm,row,os,rfl,SqL.of er,SqL.of em,sh0,by omega,hi,by omega,fun H12 s12=>⟨(by show 2≤sizeLine; decide),fun pt hpt=>⟨pt,_,rfl,SqT.of upd_same,rfl,_,_,rfl,gN ⟨_,_,rfl,gN ⟨rfl,?_⟩⟩⟩⟩⟩
  have s12:=s12.trans (same_upd (H:=H12) hpt (.tup [V.ref lq,V.int (bndF sh pl row os)]))
  generalize upd H12 pt (.tup [V.ref lq,V.int (bndF sh pl row os)])=H12 at *
  subst ee
  try dsimp only
  refine hide fun u1 ee=>?_
  refine ⟨_,rfl,_,rfl,lr,lm,row,os,rfl,SqL.of (s12 _ _ er),s12 _ _ em,hi,ha,by omega,fun H13 s13=>⟨_,rfl,ifF rfl ?_⟩⟩
  subst ee
  dsimp only [tNext]
  have s13:=s12.trans s13
  have er:=s13 _ _ er
  have e9:=s13 _ _ e9
  have em:=s13 _ _ em
  have eq:=s13 _ _ eq
  have B13:=B11.same s13
  have u13:SB b H H13:=u11.trans (s13.sb b)
  clear s12 s13 B11 u11
  have hmin:∀ ms:List Nat,(∀ x∈ms,x<row.length)→bndF sh pl row os≤bndF sh pl row ms:=fun ms hm=>mk_least pl0 ho hm
  generalize bndF sh pl row os=least at *
  refine reS [some (.ref b),some (.int sh),some (.int pl),some (.ref lr),some (.ref lm),some (.int least),some (.str ru),some (.ref lk),some (.ref lq),none,none,none] rfl ?_
  refine hide fun u1 ee=>?_
  refine ⟨_,rfl,by decide,by decide,fun l4 hl4=>?_⟩
  have n4b:l4≠b:=Ne.symm (ne_of_none B13.at' hl4)
  have n4m:l4≠lm:=Ne.symm (ne_of_none em hl4)
  have n4r:l4≠lr:=Ne.symm (ne_of_none er hl4)
  have n4k:l4≠lk:=Ne.symm (ne_of_none e9 hl4)
  have n4q:l4≠lq:=Ne.symm (ne_of_none eq hl4)
  have hl4H:H l4=none:=sb_fresh u13 B13.at' hl4
  refine comp_range (lo:=0) (n:=(3:Int).toNat) (l:=l4) (fun j ys σ G=>∃ (v0:Option V) (ds:List Addr) (a' c':Int),σ=[v0,some (.ref b),some (.ref lr)]∧ys=ds.map V.ref∧ds.length=j∧G l4=some (.lst ys)∧(∀ d∈ds,MkAt row G d∧d≠b∧d≠l4∧d≠lm)∧BoxAt G b a' q c'∧c'≤c3+200 * (j:Int)∧SB b H13 G)
    ⟨none,[],a3,c3,rfl,rfl,rfl,upd_same,fun d h=>(nomatch h),B13.same (same_upd hl4 _),by omega,(same_upd hl4 _).sb b⟩ ?_ ?_
  · rintro j ys σ G hj hys ⟨v0,ds,a6,c6,rfl,rfl,hdl',gl,hds,Bg,hcg',sb⟩
    have hj4:j<3:=hj
    refine ⟨_,rfl,_,rfl,b,lr,a6,q,c6,row,rfl,Bg,by omega,sb _ _ nlr er,nlr,by omega,fun D G2 ms a3 c3 hD eD lD fit lms B3 hc3 t3=>?_⟩
    have nDb:D≠b:=Ne.symm (ne_of_none Bg.at' hD)
    have nD2:D≠l4:=Ne.symm (ne_of_none gl hD)
    have nDm:D≠lm:=Ne.symm (ne_of_none (sb _ _ nmb em) hD)
    refine CNx.of (by show 3≤sizeLine; decide) hj hys (t3 _ _ n4b gl) ⟨_,ds++[D],a3,c3,rfl,by rw [List.map_append]; rfl,by rw [List.length_append,hdl']; rfl,upd_same,fun d hd=>?_,⟨by rw [upd_ne (Ne.symm n4b)]; exact B3.at',B3.a0,B3.q0,B3.q1,B3.c0⟩,by omega,fun x o nx e=>by rw [upd_ne (ne_of_none e hl4)]; exact t3 _ _ nx (sb _ _ nx e)⟩
    rcases List.mem_append.mp hd with hd | hd
    · obtain ⟨⟨ms',h1,h2⟩,h3,h4,h5⟩:=hds d hd
      exact ⟨⟨ms',by rw [upd_ne h4]; exact t3 _ _ h3 h1,h2⟩,h3,h4,h5⟩
    · have e:d=D:=by simpa using hd
      subst e
      exact ⟨⟨ms,by rw [upd_ne nD2]; exact eD,lD,by omega⟩,nDb,nD2,nDm⟩
  rintro ys σ H14 _ ⟨v0,ds,a4,c4,rfl,rfl,hdl,gl,hds,B14,hc4,sb⟩
  have er:=sb _ _ nlr er
  have e9:=sb _ _ nlk e9
  have em:=sb _ _ nmb em
  have eq:=sb _ _ nqb eq
  have u14:SB b H H14:=u13.trans sb
  clear sb u13 B13 hl4
  subst ee
  refine gN ?_
  dsimp only
  refine reS [some (.ref b),some (.int sh),some (.int pl),some (.ref lr),some (.ref lm),some (.int least),some (.str ru),some (.ref lk),some (.ref lq),some (.ref l4),none,none] rfl ?_
  refine hide fun u1 ee=>?_
  refine ⟨_,rfl,by decide,by decide,for_range (lo:=0) (n:=(4:Int).toNat) (fun i σ G=>∃ (v10 v11:Option V) (ds:List Addr) (a' c':Int),σ=[some (.ref b),some (.int sh),some (.int pl),some (.ref lr),some (.ref lm),some (.int least),some (.str ru),some (.ref lk),some (.ref lq),some (.ref l4),v10,v11]∧G l4=some (.lst (ds.map V.ref))∧ds.length=3+2 * i∧(∀ d∈ds,MkAt row G d∧d≠b∧d≠l4∧d≠lm)∧BoxAt G b a' q c'∧c'≤c4+i∧∀ x o,H14 x=some o→x≠b→x≠l4→G x=some o)
    ⟨none,none,ds,a4,c4,rfl,gl,hdl,hds,B14,by omega,fun x o e _ _=>e⟩ ?_ ?_⟩
  · rintro i σ G hi0 ⟨v10,v11,ds,a5,c5,rfl,gG,hnl,hW,Bg,hcg,sG⟩
    have hi4:i<4:=hi0
    have er:=sG _ _ er nlr (Ne.symm n4r)
    have em:=sG _ _ em nmb (Ne.symm n4m)
    refine gN ?_
    dsimp only
    refine hide fun u2 e2=>?_
    refine ⟨_,rfl,_,rfl,lr,_,rfl,.inl (SqL.of er),_,_,rfl,b,a5,q,c5,_,rfl,Bg,by omega,by split <;> omega,by rw [List.length_map]; split <;> omega,fun r a6 c6 G1 r0 r1 B6 hc6 t6=>gN ?_⟩
    rw [List.length_map] at r1
    have hrr:row≠[]→r.toNat<row.length:=fun hne=>by
      have:0<row.length:=List.length_pos_iff.mpr hne
      split at r1 <;> omega
    clear r1
    subst e2
    try dsimp only
    have er:=t6 _ _ nlr er
    have em:=t6 _ _ nmb em
    have gG:=t6 _ _ n4b gG
    have hW:∀ d∈ds,MkAt row G1 d∧d≠b∧d≠l4∧d≠lm:=fun d hd=>by
      obtain ⟨⟨ms,h1,h2⟩,h3,h4⟩:=hW d hd
      exact ⟨⟨ms,t6 _ _ h3 h1,h2⟩,h3,h4⟩
    have sG:∀ x o,H14 x=some o→x≠b→x≠l4→G1 x=some o:=fun x o e n1 n2=>t6 _ _ n1 (sG x o e n1 n2)
    clear t6 Bg
    refine reS [some (.ref b),some (.int sh),some (.int pl),some (.ref lr),some (.ref lm),some (.int least),some (.str ru),some (.ref lk),some (.ref lq),some (.ref l4),some (.int (0+(i:Int))),some (.int r)] rfl ?_
    refine hide fun u2 e2=>?_
    refine ⟨_,rfl,.inl ⟨rfl,_,SqL.of gG⟩,_,rfl,lm,rfl,⟨_,SqL.of em⟩,fun lc hlc=>?_⟩
    have lV:(mV os).length=os.length:=List.length_map ..
    refine comp_list (K:=K) (a:=lm) (xs:=mV os) (l:=lc) (fun j ys σ' G'=>∃ (v0:Option V),σ'=[v0,some (.int r)]∧ys=mV ((os.take j).filter fun m:Nat=>!decide (V.int (m:Int)=V.int r))∧G'=upd G1 lc (.lst ys))
      ⟨none,rfl,rfl,rfl⟩ (fun j ys σ' G' _ ⟨_,_,_,q⟩=>SqL.of (by rw [q,upd_ne (ne_of_none em hlc)]; exact em)) ?_ ?_
    · rintro j x ys σ' G' hj hxj hys ⟨v0,rfl,rfl,rfl⟩
      have hj':j<os.length:=by omega
      have ej:os[j]?=some os[j]:=List.getElem?_eq_getElem hj'
      have ex:x=.int (os[j]:Int):=by
        unfold mV at hxj
        rw [List.getElem?_map,ej] at hxj
        exact (Option.some.inj hxj).symm
      subst ex
      have tk:(os.take (j+1)).filter (fun m:Nat=>!decide (V.int (m:Int)=V.int r))=(os.take j).filter (fun m:Nat=>!decide (V.int (m:Int)=V.int r))++(if (!decide (V.int (os[j]:Int)=V.int r))=true then [os[j]] else []):=by rw [List.take_succ,ej,List.filter_append]; show _++List.filter _ [_]=_; rw [List.filter_cons,List.filter_nil]
      generalize os[j]=y at *
      refine ⟨_,rfl,_,rfl,rfl,_,rfl,?_⟩
      refine ite_dec' (fun cc=>?_) (fun cc=>?_)
      · rw [if_pos cc] at tk
        exact ⟨_,rfl,CNx.of (by rw [lV]; exact Nat.le_of_lt (small1000 (by omega))) hj hys upd_same ⟨_,rfl,by rw [tk,mV_app]; rfl,upd_upd⟩⟩
      · rw [if_neg cc,List.append_nil] at tk
        exact CNo.of hj hys ⟨_,rfl,by rw [tk],rfl⟩
    rintro ys σ' G' _ ⟨v0,rfl,rfl,rfl⟩
    rw [lV,List.take_length]
    have hfm:∀ x∈os.filter (fun m:Nat=>!decide (V.int (m:Int)=V.int r)),x<row.length:=fun x hx=>hi x (List.mem_filter.mp hx).1
    have hfl:(os.filter (fun m:Nat=>!decide (V.int (m:Int)=V.int r))).length≤os.length:=List.length_filter_le ..
    generalize os.filter (fun m:Nat=>!decide (V.int (m:Int)=V.int r))=fs at *
    have s2:=same_upd (H:=G1) hlc (.lst (mV fs))
    have ec:upd G1 lc (.lst (mV fs)) lc=some (.lst (mV fs)):=upd_same
    have ncb:lc≠b:=Ne.symm (ne_of_none B6.at' hlc)
    have nc4:lc≠l4:=Ne.symm (ne_of_none gG hlc)
    have ncm:lc≠lm:=Ne.symm (ne_of_none em hlc)
    generalize upd G1 lc (.lst (mV fs))=G2 at *
    refine ⟨l4,_,_,rfl,rfl,s2 _ _ gG,small1000 (by rw [List.length_map]; omega),?_⟩
    have gG3:upd G2 l4 (.lst (ds.map V.ref++[V.ref lc])) l4=some (.lst ((ds++[lc]).map V.ref)):=by rw [upd_same,List.map_append]; rfl
    have hW3:∀ d∈ds++[lc],MkAt row (upd G2 l4 (.lst (ds.map V.ref++[V.ref lc]))) d∧d≠b∧d≠l4∧d≠lm:=fun d hd=>by
      rcases List.mem_append.mp hd with hd | hd
      · obtain ⟨⟨ms,h1,h2⟩,h3,h4,h5⟩:=hW d hd
        exact ⟨⟨ms,by rw [upd_ne h4]; exact s2 _ _ h1,h2⟩,h3,h4,h5⟩
      · have e:d=lc:=by simpa using hd
        subst e
        exact ⟨⟨fs,by rw [upd_ne nc4]; exact ec,hfm,by omega⟩,ncb,nc4,ncm⟩
    have sG3:∀ x o,H14 x=some o→x≠b→x≠l4→upd G2 l4 (.lst (ds.map V.ref++[V.ref lc])) x=some o:=fun x o e n1 n2=>by rw [upd_ne n2]; exact s2 _ _ (sG x o e n1 n2)
    have B3:BoxAt (upd G2 l4 (.lst (ds.map V.ref++[V.ref lc]))) b a6 q c6:=⟨by rw [upd_ne (Ne.symm n4b)]; exact s2 _ _ B6.at',B6.a0,B6.q0,B6.q1,B6.c0⟩
    have er3:upd G2 l4 (.lst (ds.map V.ref++[V.ref lc])) lr=some (.lst (row.map V.int)):=by rw [upd_ne (Ne.symm n4r)]; exact s2 _ _ er
    have em3:upd G2 l4 (.lst (ds.map V.ref++[V.ref lc])) lm=some (.lst (mV os)):=by rw [upd_ne (Ne.symm n4m)]; exact s2 _ _ em
    have ec3:upd G2 l4 (.lst (ds.map V.ref++[V.ref lc])) lc=some (.lst (mV fs)):=by rw [upd_ne nc4]; exact ec
    generalize upd G2 l4 (.lst (ds.map V.ref++[V.ref lc]))=G3 at *
    clear s2 ec hlc gG hW sG B6 er em
    subst e2
    try dsimp only
    have fin:∀ {G5:Hp} {D:Addr},Same G3 G5→G3 D=none→MkAt row G5 D→∃ (v10 v11:Option V) (ds':List Addr) (a' c':Int),([some (.ref b),some (.int sh),some (.int pl),some (.ref lr),some (.ref lm),some (.int least),some (.str ru),some (.ref lk),some (.ref lq),some (.ref l4),some (.int (0+(i:Int))),some (.int r)]:St)=[some (.ref b),some (.int sh),some (.int pl),some (.ref lr),some (.ref lm),some (.int least),some (.str ru),some (.ref lk),some (.ref lq),some (.ref l4),v10,v11]∧upd G5 l4 (.lst ((ds++[lc]).map V.ref++[V.ref D])) l4=some (.lst (ds'.map V.ref))∧ds'.length=3+2 * (i+1)∧(∀ d∈ds',MkAt row (upd G5 l4 (.lst ((ds++[lc]).map V.ref++[V.ref D]))) d∧d≠b∧d≠l4∧d≠lm)∧BoxAt (upd G5 l4 (.lst ((ds++[lc]).map V.ref++[V.ref D]))) b a' q c'∧c'≤c4+((i+1:Nat):Int)∧∀ x o,H14 x=some o→x≠b→x≠l4→upd G5 l4 (.lst ((ds++[lc]).map V.ref++[V.ref D])) x=some o:=fun {G5 D} s5 hD mD=>by
      have nDb:D≠b:=Ne.symm (ne_of_none B3.at' hD)
      have nD4:D≠l4:=Ne.symm (ne_of_none gG3 hD)
      have nDm:D≠lm:=Ne.symm (ne_of_none em3 hD)
      refine ⟨_,_,ds++[lc]++[D],a6,c6,rfl,by rw [upd_same,List.map_append (l₁:=ds++[lc])]; rfl,by rw [List.length_append,List.length_append,hnl]; show _+1+1=_; omega,fun d hd=>?_,⟨by rw [upd_ne (Ne.symm n4b)]; exact s5 _ _ B3.at',B3.a0,B3.q0,B3.q1,B3.c0⟩,by omega,fun x o e n1 n2=>by rw [upd_ne n2]; exact s5 _ _ (sG3 x o e n1 n2)⟩
      rcases List.mem_append.mp hd with hd | hd
      · obtain ⟨⟨ms,h1,h2⟩,h3,h4,h5⟩:=hW3 d hd
        exact ⟨⟨ms,by rw [upd_ne h4]; exact s5 _ _ h1,h2⟩,h3,h4,h5⟩
      · have e:d=D:=by simpa using hd
        subst e
        obtain ⟨ms,h1,h2⟩:=mD
        exact ⟨⟨ms,by rw [upd_ne nD4]; exact h1,h2⟩,nDb,nD4,nDm⟩
    have lds3:((ds++[lc]).map V.ref).length≤1000:=by rw [List.length_map,List.length_append,hnl]; show _+1≤_; omega
    refine ⟨_,rfl,.inl ⟨rfl,_,SqL.of gG3⟩,_,rfl,(by show 0≤sizeLine; decide),fun le hle=>?_⟩
    have s4:=same_upd (H:=G3) hle (.lst [])
    refine ⟨lr,le,row,[],rfl,rfl,SqL.of (s4 _ _ er3),SqL.of upd_same,_,rfl,?_⟩
    generalize upd G3 le (.lst [])=G4 at *
    by_cases hne:row=[]
    · refine ifF (by rw [hne]; rfl) ⟨(by show 0≤sizeLine; decide),fun ln hln=>⟨l4,_,_,rfl,rfl,same_upd hln _ _ _ (s4 _ _ gG3),small1000 lds3,fin (s4.trans (same_upd hln _)) (s4.free hln) ⟨[],upd_same,fun x h=>(nomatch h),Nat.zero_le _⟩⟩⟩
    · have hat:atI ((ds++[lc]).map V.ref) (-1)=some (.ref lc):=by rw [List.map_append]; exact atI_last _ _
      refine ifT (by simp [hne]) ⟨_,rfl,_,rfl,l4,_,_,_,rfl,rfl,SqL.of (s4 _ _ gG3),hat,_,rfl,(by show 1≤sizeLine; decide),fun l1 hl1=>⟨lc,l1,_,_,rfl,rfl,same_upd hl1 _ _ _ (s4 _ _ ec3),upd_same,Nat.le_of_lt (small1000 (by unfold mV; rw [List.length_map]; show _+1≤1000; omega)),fun l2 hl2=>?_⟩⟩
      have s5:=(s4.trans (same_upd (H:=G4) hl1 (.lst [V.int r]))).trans (same_upd hl2 (.lst (mV fs++[V.int r])))
      have e5:upd (upd G4 l1 (.lst [V.int r])) l2 (.lst (mV fs++[V.int r])) l2=some (.lst (((fs++[r.toNat]).map fun m:Nat=>(m:Int)).map V.int)):=by
        rw [upd_same,List.map_append,List.map_append,← mV_ints]
        show _=some (HO.lst (mV fs++[V.int ((r.toNat:Nat):Int)]))
        rw [Int.toNat_of_nonneg r0]
      generalize upd (upd G4 l1 (.lst [V.int r])) l2 (.lst (mV fs++[V.int r]))=G5 at *
      refine ⟨l2,_,rfl,SqL.of e5,by rw [List.length_map,List.length_append]; show _+1≤_; omega,fun D os' hD hper _=>?_⟩
      have eo:=ints_nat hper
      refine ⟨l4,_,_,rfl,rfl,same_upd hD _ _ _ (s5 _ _ gG3),small1000 lds3,fin (s5.trans (same_upd hD _)) (s5.free hD) ⟨os'.map Int.toNat,?_,fun x hx=>?_,?_⟩⟩
      · rw [upd_same,mV_ints,← eo]
      · obtain ⟨y,hy,rfl⟩:=List.mem_map.mp hx
        obtain ⟨m,hm,rfl⟩:=List.mem_map.mp (hper.mem_iff.mp hy)
        show m<row.length
        rcases List.mem_append.mp hm with hm | hm
        · exact hfm m hm
        · rw [List.mem_singleton.mp hm]; exact hrr hne
      · rw [List.length_map,hper.length_eq,List.length_map,List.length_append]
        show _+1≤_
        omega
  rintro σ G ⟨v10,v11,ds,a5,c5,rfl,gG,hnl,hW,Bg,hcg,sG⟩
  have er:=sG _ _ er nlr (Ne.symm n4r)
  have e9:=sG _ _ e9 nlk (Ne.symm n4k)
  have em:=sG _ _ em nmb (Ne.symm n4m)
  have eq:=sG _ _ eq nqb (Ne.symm n4q)
  have uG:SB b H G:=fun x o nx e=>sG _ _ (u14 _ _ nx e) nx (ne_of_none e hl4H)
  subst ee
  try dsimp only
  refine hide fun u1 ee=>?_
  have lV:(mV os).length=os.length:=List.length_map ..
  refine ⟨_,rfl,.inl ⟨rfl,_,SqL.of em⟩,lm,_,_,rfl,rfl,em,small1000 (by omega),?_⟩
  have er:upd G lm (.lst (mV os++[V.int 0])) lr=some (.lst (row.map V.int)):=by rw [upd_ne (Ne.symm nmr)]; exact er
  have e9:upd G lm (.lst (mV os++[V.int 0])) lk=some (.lst (row.map V.int)):=by rw [upd_ne (Ne.symm nmk)]; exact e9
  have eq:upd G lm (.lst (mV os++[V.int 0])) lq=some (.lst (mV os)):=by rw [upd_ne nqm]; exact eq
  have gG:upd G lm (.lst (mV os++[V.int 0])) l4=some (.lst (ds.map V.ref)):=by rw [upd_ne n4m]; exact gG
  have hW:∀ d∈ds,MkAt row (upd G lm (.lst (mV os++[V.int 0]))) d:=fun d hd=>by
    obtain ⟨⟨ms,h1,h2⟩,_,_,h5⟩:=hW d hd
    exact ⟨ms,by rw [upd_ne h5]; exact h1,h2⟩
  have uG:SB b H (upd G lm (.lst (mV os++[V.int 0]))):=fun x o nx e=>by rw [upd_ne (ne_of_none e hlmH)]; exact uG _ _ nx e
  generalize upd G lm (.lst (mV os++[V.int 0]))=G at *
  clear sG u14 em B14 hds gl Bg
  subst ee
  try dsimp only
  refine hide fun u1 ee=>?_
  refine ⟨_,rfl,_,rfl,_,rfl,sh,pl,lr,row,rfl,SqL.of er,sh0,by omega,fun lz G2 oz hlz s2 ez hoz hpz=>?_⟩
  obtain rfl:=asc_uniq (mk_asc hoz hpz) (mk_asc ho hp) (hoz.trans ho.symm)
  have eq2:=s2 _ _ eq
  rw [mV_ints] at ez eq2
  refine ⟨_,rfl,lz,lq,_,_,rfl,rfl,SqL.of ez,SqL.of eq2,_,rfl,ifF (by simp) ?_⟩
  subst ee
  dsimp only [tNext]
  refine hide fun u1 ee=>?_
  refine ⟨_,rfl,_,rfl,lr,lk,row,row,rfl,rfl,SqL.of (s2 _ _ er),SqL.of (s2 _ _ e9),_,rfl,ifF (by simp) ?_⟩
  subst ee
  dsimp only [tNext]
  refine ⟨_,rfl,l4,rfl,⟨_,SqL.of (s2 _ _ gG)⟩,fun lc hlc=>?_⟩
  have lds:(ds.map V.ref).length=ds.length:=List.length_map ..
  refine comp_list (K:=K) (a:=l4) (xs:=ds.map V.ref) (l:=lc) (fun j ys σ' G'=>∃ (v0:Option V),σ'=[v0,some (.int least),some (.int sh),some (.int pl),some (.ref lr)]∧ys=(List.replicate j false).map V.bl∧G' lc=some (.lst ys)∧Same G2 G')
    ⟨none,rfl,rfl,upd_same,same_upd hlc _⟩ (fun j ys σ' G' _ ⟨_,_,_,_,q⟩=>SqL.of (q _ _ (s2 _ _ gG))) ?_ ?_
  · rintro j x ys σ' G' hj hxj hys ⟨v0,rfl,rfl,gc,sG⟩
    rw [List.getElem?_map] at hxj
    cases ed:ds[j]? with
    | none=>rw [ed] at hxj; cases hxj
    | some d =>
      rw [ed] at hxj
      cases hxj
      obtain ⟨ms,h1,h2,h3⟩:=hW d (List.mem_of_getElem? ed)
      refine ⟨_,rfl,_,rfl,_,rfl,_,rfl,sh,pl,lr,d,row,ms,rfl,SqL.of (sG _ _ (s2 _ _ er)),SqL.of (sG _ _ (s2 _ _ h1)),sh0,by omega,h2,by omega,fun G2 t2=>⟨_,rfl,_,_,rfl,rfl,?_⟩⟩
      have le:=hmin ms h2
      dsimp only
      rw [decide_eq_false (by omega:¬ bndF sh pl row ms<least)]
      exact CNx.of (by rw [lds]; exact Nat.le_of_lt (small1000 (by omega))) hj hys (t2 _ _ gc) ⟨_,rfl,by rw [List.replicate_succ',List.map_append]; rfl,upd_same,fun x o e=>by rw [upd_ne (ne_of_none e hlc)]; exact t2 _ _ (sG _ _ e)⟩
  rintro ys σ' H6 _ ⟨v0,rfl,rfl,gc,sG⟩
  refine ⟨lc,_,rfl,SqL.of gc,_,rfl,?_⟩
  rw [anyF]
  exact k _ (uG.trans ((s2.trans sG).sb b))
end
section
variable {P:Program} {w:World} {K:PySem.W.Frag} {mg:Str→Option Value} {base:Heap}
def spLaw (K:PySem.W.Frag):Sp:=fun vs H Q _=>∃ (a:Addr) (ns:List Int),vs=[.ref a]∧SqL K H a (ns.map V.int)∧ns.length≤63∧∀ H',Q (.bl true) H'
theorem ok_law {f:Addr} {fd:FuncData} (F:Fun K "law" "law" s_law f fd) (T:Txt K mg) (D_box:Def P w K mg base "_law_box" 1 P_box (spBox K)) (D_folded:Def P w K mg base "_law_folded" 1 P_folded (spFolded K)) (D_right:Def P w K mg base "_law_right" 9 P_right (spRight K)):FnOk P w K mg base CX0 10 f fd P_law (spLaw K):=by
  refine F.ok sc_law (fun vs H Q E h=>?_) (fun cdv A outer st H vs Q E hr h=>?_)
  · obtain ⟨a,ns,rfl,_⟩:=h
    rfl
  obtain ⟨a,ns,rfl,hS,h63,k⟩:=h
  have nd:=sc_law.nd
  have hu:=hu_of hr
  refine ⟨_,(pss_cons (pst 1 nd (pe_defN D_folded hr.m rfl (pc (pv 0) (pc pe_int pa_nil))))
      (pss_one (ps_ret (pe_callBN (call_allL rfl) rfl T.z_all boot_all (pc (pe_comp0 (compOk_of (osc:=(defScope s_law)) (oN:=N_law) (N:=["_law_k", "_law_cells"]) (own:=1) (js:=[1]) (by decide +kernel) rfl rfl) rfl (pi_range1 rfl T.z_range (pc (pe_callBN (call_max2 rfl) rfl T.z_max boot_max (pc pe_int (pc (pe_callBN (call_len_seqK (K:=K) rfl) rfl T.z_len PySem.boot_len (pc (pv 1) pa_nil)) pa_nil))) pa_nil)) (fun _ _ _ _ _ _=>(pgn 0 (show List.Nodup (["_law_k", "_law_cells"]:List Str) by decide +kernel))) (fun _ _ _ _ _ _=>(pe_defN D_right hr.m rfl (pc (pe_defN D_box hr.m rfl (pc (pv 1) (pc (pv 0) pa_nil))) pa_nil)))) pa_nil))))),?_⟩
  refine ⟨_,rfl,a,ns,8,rfl,hS,h63,by decide,by decide,fun r ms H1 hr' s1 e1 lm=>?_⟩
  have lc:(if ((ms.map V.int).length:Int) > 2 then ((ms.map V.int).length:Int) else 2)≤63:=by rw [List.length_map]; split <;> omega
  refine ⟨_,rfl,r,_,rfl,.inl (SqL.of e1),_,_,rfl,_,rfl,?_,?_,fun l hl'=>?_⟩
  · split <;> omega
  · omega
  generalize (if ((ms.map V.int).length:Int) > 2 then ((ms.map V.int).length:Int) else 2)=n at *
  have n63:n.toNat≤63:=by omega
  have nrl:r≠l:=ne_of_none e1 hl'
  refine comp_range (lo:=0) (n:=n.toNat) (l:=l) (fun j ys σ G=>∃ v0:Option V,σ=[v0,some (.ref r)]∧ys=(List.replicate j true).map V.bl∧G l=some (.lst ys)∧G r=some (.lst (ms.map V.int)))
    ⟨none,rfl,rfl,upd_same,by rw [upd_ne nrl]; exact e1⟩ ?_ ?_
  · rintro j ys σ G hj hy ⟨v0,rfl,rfl,g1,g2⟩
    refine ⟨_,rfl,_,rfl,r,ms,_,rfl,SqL.of g2,by omega,by omega,fun b ba bq G1 hb t1 B1=>?_⟩
    refine ⟨b,ba,bq,0,rfl,B1,by decide,fun G2 t2=>?_⟩
    have nlb:l≠b:=ne_of_none g1 hb
    have nrb:r≠b:=ne_of_none g2 hb
    refine CNx.of (Nat.le_trans n63 (by decide)) hj hy (t2 _ _ nlb (t1 _ _ g1)) ⟨_,rfl,by rw [List.replicate_succ',List.map_append]; rfl,upd_same,?_⟩
    rw [upd_ne nrl]
    exact t2 _ _ nrb (t1 _ _ g2)
  · rintro ys σ G hy ⟨v0,rfl,rfl,g1,g2⟩
    refine ⟨l,_,rfl,SqL.of g1,?_⟩
    rw [show (List.replicate n.toNat true).all id=true by rw [List.all_eq_true]; intro z hz; rw [(List.mem_replicate.mp hz).2]; rfl]
    exact k G
end
theorem ln1 {fn:FuncData} {ps:List Str} {us:List Value} (hl:us.length=1) (h:∀ v0,bindArgs fn ⟨[v0],[]⟩=pure (ps.zip [v0])):bindArgs fn ⟨us,[]⟩=pure (ps.zip us):=match us,hl with | [v0],_=>(h v0)
theorem ln2 {fn:FuncData} {ps:List Str} {us:List Value} (hl:us.length=2) (h:∀ v0 v1,bindArgs fn ⟨[v0,v1],[]⟩=pure (ps.zip [v0,v1])):bindArgs fn ⟨us,[]⟩=pure (ps.zip us):=match us,hl with | [v0,v1],_=>(h v0 v1)
theorem ln3 {fn:FuncData} {ps:List Str} {us:List Value} (hl:us.length=3) (h:∀ v0 v1 v2,bindArgs fn ⟨[v0,v1,v2],[]⟩=pure (ps.zip [v0,v1,v2])):bindArgs fn ⟨us,[]⟩=pure (ps.zip us):=match us,hl with | [v0,v1,v2],_=>(h v0 v1 v2)
theorem ln4 {fn:FuncData} {ps:List Str} {us:List Value} (hl:us.length=4) (h:∀ v0 v1 v2 v3,bindArgs fn ⟨[v0,v1,v2,v3],[]⟩=pure (ps.zip [v0,v1,v2,v3])):bindArgs fn ⟨us,[]⟩=pure (ps.zip us):=match us,hl with | [v0,v1,v2,v3],_=>(h v0 v1 v2 v3)
theorem ln5 {fn:FuncData} {ps:List Str} {us:List Value} (hl:us.length=5) (h:∀ v0 v1 v2 v3 v4,bindArgs fn ⟨[v0,v1,v2,v3,v4],[]⟩=pure (ps.zip [v0,v1,v2,v3,v4])):bindArgs fn ⟨us,[]⟩=pure (ps.zip us):=match us,hl with | [v0,v1,v2,v3,v4],_=>(h v0 v1 v2 v3 v4)
theorem all_mk {l:PySem.W.OpenLaw} {w:World} {K:PySem.W.Frag} {h:Heap} {mg:Str→Option Value} {fa:Addr} (X:K.In h) (G:h.Ns mainGlobals mg) (hfa:mg "law" = some (.ref fa))
    {f0:Addr} {od0 an0:Option Addr} {sl0:Array (Option Value)} {oc0 kV0 dc0 pm0 cd0 ct0:Value}
    (a0:PySem.W.nsIn K mainGlobals "_law_take" = some (some (.ref f0))) (l0:K.lookup f0=some ⟨oc0,od0,.func (PySem.W.fnOf "_law_take" "_law_take" (defArgs s_take) (defBody s_take) (defScope s_take) .none kV0 dc0 pm0 an0 cd0 ct0),sl0⟩) (c0:PySem.W.codeIn K cd0 "_law_take" = true) (k0:PySem.W.keepIn K (.ref f0)=true)
    {f1:Addr} {od1 an1:Option Addr} {sl1:Array (Option Value)} {oc1 kV1 dc1 pm1 cd1 ct1:Value}
    (a1:PySem.W.nsIn K mainGlobals "_law_box" = some (some (.ref f1))) (l1:K.lookup f1=some ⟨oc1,od1,.func (PySem.W.fnOf "_law_box" "_law_box" (defArgs s_box) (defBody s_box) (defScope s_box) .none kV1 dc1 pm1 an1 cd1 ct1),sl1⟩) (c1:PySem.W.codeIn K cd1 "_law_box" = true) (k1:PySem.W.keepIn K (.ref f1)=true)
    {f2:Addr} {od2 an2:Option Addr} {sl2:Array (Option Value)} {oc2 kV2 dc2 pm2 cd2 ct2:Value}
    (a2:PySem.W.nsIn K mainGlobals "_law_folded" = some (some (.ref f2))) (l2:K.lookup f2=some ⟨oc2,od2,.func (PySem.W.fnOf "_law_folded" "_law_folded" (defArgs s_folded) (defBody s_folded) (defScope s_folded) .none kV2 dc2 pm2 an2 cd2 ct2),sl2⟩) (c2:PySem.W.codeIn K cd2 "_law_folded" = true) (k2:PySem.W.keepIn K (.ref f2)=true)
    {f3:Addr} {od3 an3:Option Addr} {sl3:Array (Option Value)} {oc3 kV3 dc3 pm3 cd3 ct3:Value}
    (a3:PySem.W.nsIn K mainGlobals "_law_some_boards" = some (some (.ref f3))) (l3:K.lookup f3=some ⟨oc3,od3,.func (PySem.W.fnOf "_law_some_boards" "_law_some_boards" (defArgs s_some_boards) (defBody s_some_boards) (defScope s_some_boards) .none kV3 dc3 pm3 an3 cd3 ct3),sl3⟩) (c3:PySem.W.codeIn K cd3 "_law_some_boards" = true) (k3:PySem.W.keepIn K (.ref f3)=true)
    {f4:Addr} {od4 an4:Option Addr} {sl4:Array (Option Value)} {oc4 kV4 dc4 pm4 cd4 ct4:Value}
    (a4:PySem.W.nsIn K mainGlobals "_law_shape" = some (some (.ref f4))) (l4:K.lookup f4=some ⟨oc4,od4,.func (PySem.W.fnOf "_law_shape" "_law_shape" (defArgs s_shape) (defBody s_shape) (defScope s_shape) .none kV4 dc4 pm4 an4 cd4 ct4),sl4⟩) (c4:PySem.W.codeIn K cd4 "_law_shape" = true) (k4:PySem.W.keepIn K (.ref f4)=true)
    {f5:Addr} {od5 an5:Option Addr} {sl5:Array (Option Value)} {oc5 kV5 dc5 pm5 cd5 ct5:Value}
    (a5:PySem.W.nsIn K mainGlobals "_law_asked" = some (some (.ref f5))) (l5:K.lookup f5=some ⟨oc5,od5,.func (PySem.W.fnOf "_law_asked" "_law_asked" (defArgs s_asked) (defBody s_asked) (defScope s_asked) .none kV5 dc5 pm5 an5 cd5 ct5),sl5⟩) (c5:PySem.W.codeIn K cd5 "_law_asked" = true) (k5:PySem.W.keepIn K (.ref f5)=true)
    {f6:Addr} {od6 an6:Option Addr} {sl6:Array (Option Value)} {oc6 kV6 dc6 pm6 cd6 ct6:Value}
    (a6:PySem.W.nsIn K mainGlobals "shelf_of" = some (some (.ref f6))) (l6:K.lookup f6=some ⟨oc6,od6,.func (PySem.W.fnOf "shelf_of" "shelf_of" (defArgs s_shelf_of) (defBody s_shelf_of) (defScope s_shelf_of) .none kV6 dc6 pm6 an6 cd6 ct6),sl6⟩) (c6:PySem.W.codeIn K cd6 "shelf_of" = true) (k6:PySem.W.keepIn K (.ref f6)=true)
    {f7:Addr} {od7 an7:Option Addr} {sl7:Array (Option Value)} {oc7 kV7 dc7 pm7 cd7 ct7:Value}
    (a7:PySem.W.nsIn K mainGlobals "asked_again" = some (some (.ref f7))) (l7:K.lookup f7=some ⟨oc7,od7,.func (PySem.W.fnOf "asked_again" "asked_again" (defArgs s_asked_again) (defBody s_asked_again) (defScope s_asked_again) .none kV7 dc7 pm7 an7 cd7 ct7),sl7⟩) (c7:PySem.W.codeIn K cd7 "asked_again" = true) (k7:PySem.W.keepIn K (.ref f7)=true)
    {f8:Addr} {od8 an8:Option Addr} {sl8:Array (Option Value)} {oc8 kV8 dc8 pm8 cd8 ct8:Value}
    (a8:PySem.W.nsIn K mainGlobals "returns_of" = some (some (.ref f8))) (l8:K.lookup f8=some ⟨oc8,od8,.func (PySem.W.fnOf "returns_of" "returns_of" (defArgs s_returns_of) (defBody s_returns_of) (defScope s_returns_of) .none kV8 dc8 pm8 an8 cd8 ct8),sl8⟩) (c8:PySem.W.codeIn K cd8 "returns_of" = true) (k8:PySem.W.keepIn K (.ref f8)=true)
    {f9:Addr} {od9 an9:Option Addr} {sl9:Array (Option Value)} {oc9 kV9 dc9 pm9 cd9 ct9:Value}
    (a9:PySem.W.nsIn K mainGlobals "is_marked" = some (some (.ref f9))) (l9:K.lookup f9=some ⟨oc9,od9,.func (PySem.W.fnOf "is_marked" "is_marked" (defArgs s_is_marked) (defBody s_is_marked) (defScope s_is_marked) .none kV9 dc9 pm9 an9 cd9 ct9),sl9⟩) (c9:PySem.W.codeIn K cd9 "is_marked" = true) (k9:PySem.W.keepIn K (.ref f9)=true)
    {f10:Addr} {od10 an10:Option Addr} {sl10:Array (Option Value)} {oc10 kV10 dc10 pm10 cd10 ct10:Value}
    (a10:PySem.W.nsIn K mainGlobals "bound" = some (some (.ref f10))) (l10:K.lookup f10=some ⟨oc10,od10,.func (PySem.W.fnOf "bound" "bound" (defArgs s_bound) (defBody s_bound) (defScope s_bound) .none kV10 dc10 pm10 an10 cd10 ct10),sl10⟩) (c10:PySem.W.codeIn K cd10 "bound" = true) (k10:PySem.W.keepIn K (.ref f10)=true)
    {f11:Addr} {od11 an11:Option Addr} {sl11:Array (Option Value)} {oc11 kV11 dc11 pm11 cd11 ct11:Value}
    (a11:PySem.W.nsIn K mainGlobals "places_by_shelf" = some (some (.ref f11))) (l11:K.lookup f11=some ⟨oc11,od11,.func (PySem.W.fnOf "places_by_shelf" "places_by_shelf" (defArgs s_places_by_shelf) (defBody s_places_by_shelf) (defScope s_places_by_shelf) .none kV11 dc11 pm11 an11 cd11 ct11),sl11⟩) (c11:PySem.W.codeIn K cd11 "places_by_shelf" = true) (k11:PySem.W.keepIn K (.ref f11)=true)
    {f12:Addr} {od12 an12:Option Addr} {sl12:Array (Option Value)} {oc12 kV12 dc12 pm12 cd12 ct12:Value}
    (a12:PySem.W.nsIn K mainGlobals "cheapest_ahead" = some (some (.ref f12))) (l12:K.lookup f12=some ⟨oc12,od12,.func (PySem.W.fnOf "cheapest_ahead" "cheapest_ahead" (defArgs s_cheapest_ahead) (defBody s_cheapest_ahead) (defScope s_cheapest_ahead) .none kV12 dc12 pm12 an12 cd12 ct12),sl12⟩) (c12:PySem.W.codeIn K cd12 "cheapest_ahead" = true) (k12:PySem.W.keepIn K (.ref f12)=true)
    {f13:Addr} {od13 an13:Option Addr} {sl13:Array (Option Value)} {oc13 kV13 dc13 pm13 cd13 ct13:Value}
    (a13:PySem.W.nsIn K mainGlobals "least_marks" = some (some (.ref f13))) (l13:K.lookup f13=some ⟨oc13,od13,.func (PySem.W.fnOf "least_marks" "least_marks" (defArgs s_least_marks) (defBody s_least_marks) (defScope s_least_marks) .none kV13 dc13 pm13 an13 cd13 ct13),sl13⟩) (c13:PySem.W.codeIn K cd13 "least_marks" = true) (k13:PySem.W.keepIn K (.ref f13)=true)
    {f14:Addr} {od14 an14:Option Addr} {sl14:Array (Option Value)} {oc14 kV14 dc14 pm14 cd14 ct14:Value}
    (a14:PySem.W.nsIn K mainGlobals "marks_of" = some (some (.ref f14))) (l14:K.lookup f14=some ⟨oc14,od14,.func (PySem.W.fnOf "marks_of" "marks_of" (defArgs s_marks_of) (defBody s_marks_of) (defScope s_marks_of) .none kV14 dc14 pm14 an14 cd14 ct14),sl14⟩) (c14:PySem.W.codeIn K cd14 "marks_of" = true) (k14:PySem.W.keepIn K (.ref f14)=true)
    {f15:Addr} {od15 an15:Option Addr} {sl15:Array (Option Value)} {oc15 kV15 dc15 pm15 cd15 ct15:Value}
    (a15:PySem.W.nsIn K mainGlobals "_law_bound" = some (some (.ref f15))) (l15:K.lookup f15=some ⟨oc15,od15,.func (PySem.W.fnOf "_law_bound" "_law_bound" (defArgs s_l_bound) (defBody s_l_bound) (defScope s_l_bound) .none kV15 dc15 pm15 an15 cd15 ct15),sl15⟩) (c15:PySem.W.codeIn K cd15 "_law_bound" = true) (k15:PySem.W.keepIn K (.ref f15)=true)
    {f16:Addr} {od16 an16:Option Addr} {sl16:Array (Option Value)} {oc16 kV16 dc16 pm16 cd16 ct16:Value}
    (a16:PySem.W.nsIn K mainGlobals "_law_some_marks" = some (some (.ref f16))) (l16:K.lookup f16=some ⟨oc16,od16,.func (PySem.W.fnOf "_law_some_marks" "_law_some_marks" (defArgs s_some_marks) (defBody s_some_marks) (defScope s_some_marks) .none kV16 dc16 pm16 an16 cd16 ct16),sl16⟩) (c16:PySem.W.codeIn K cd16 "_law_some_marks" = true) (k16:PySem.W.keepIn K (.ref f16)=true)
    {f17:Addr} {od17 an17:Option Addr} {sl17:Array (Option Value)} {oc17 kV17 dc17 pm17 cd17 ct17:Value}
    (a17:PySem.W.nsIn K mainGlobals "_law_few_asked" = some (some (.ref f17))) (l17:K.lookup f17=some ⟨oc17,od17,.func (PySem.W.fnOf "_law_few_asked" "_law_few_asked" (defArgs s_few_asked) (defBody s_few_asked) (defScope s_few_asked) .none kV17 dc17 pm17 an17 cd17 ct17),sl17⟩) (c17:PySem.W.codeIn K cd17 "_law_few_asked" = true) (k17:PySem.W.keepIn K (.ref f17)=true)
    {f18:Addr} {od18 an18:Option Addr} {sl18:Array (Option Value)} {oc18 kV18 dc18 pm18 cd18 ct18:Value}
    (a18:PySem.W.nsIn K mainGlobals "_law_small" = some (some (.ref f18))) (l18:K.lookup f18=some ⟨oc18,od18,.func (PySem.W.fnOf "_law_small" "_law_small" (defArgs s_small) (defBody s_small) (defScope s_small) .none kV18 dc18 pm18 an18 cd18 ct18),sl18⟩) (c18:PySem.W.codeIn K cd18 "_law_small" = true) (k18:PySem.W.keepIn K (.ref f18)=true)
    {f19:Addr} {od19 an19:Option Addr} {sl19:Array (Option Value)} {oc19 kV19 dc19 pm19 cd19 ct19:Value}
    (a19:PySem.W.nsIn K mainGlobals "_law_are_marks" = some (some (.ref f19))) (l19:K.lookup f19=some ⟨oc19,od19,.func (PySem.W.fnOf "_law_are_marks" "_law_are_marks" (defArgs s_are_marks) (defBody s_are_marks) (defScope s_are_marks) .none kV19 dc19 pm19 an19 cd19 ct19),sl19⟩) (c19:PySem.W.codeIn K cd19 "_law_are_marks" = true) (k19:PySem.W.keepIn K (.ref f19)=true)
    {f20:Addr} {od20 an20:Option Addr} {sl20:Array (Option Value)} {oc20 kV20 dc20 pm20 cd20 ct20:Value}
    (a20:PySem.W.nsIn K mainGlobals "_law_sets" = some (some (.ref f20))) (l20:K.lookup f20=some ⟨oc20,od20,.func (PySem.W.fnOf "_law_sets" "_law_sets" (defArgs s_sets) (defBody s_sets) (defScope s_sets) .none kV20 dc20 pm20 an20 cd20 ct20),sl20⟩) (c20:PySem.W.codeIn K cd20 "_law_sets" = true) (k20:PySem.W.keepIn K (.ref f20)=true)
    {f21:Addr} {od21 an21:Option Addr} {sl21:Array (Option Value)} {oc21 kV21 dc21 pm21 cd21 ct21:Value}
    (a21:PySem.W.nsIn K mainGlobals "_law_right" = some (some (.ref f21))) (l21:K.lookup f21=some ⟨oc21,od21,.func (PySem.W.fnOf "_law_right" "_law_right" (defArgs s_right) (defBody s_right) (defScope s_right) .none kV21 dc21 pm21 an21 cd21 ct21),sl21⟩) (c21:PySem.W.codeIn K cd21 "_law_right" = true) (k21:PySem.W.keepIn K (.ref f21)=true)
    {f22:Addr} {od22 an22:Option Addr} {sl22:Array (Option Value)} {oc22 kV22 dc22 pm22 cd22 ct22:Value}
    (a22:PySem.W.nsIn K mainGlobals "law" = some (some (.ref f22))) (l22:K.lookup f22=some ⟨oc22,od22,.func (PySem.W.fnOf "law" "law" (defArgs s_law) (defBody s_law) (defScope s_law) .none kV22 dc22 pm22 an22 cd22 ct22),sl22⟩) (c22:PySem.W.codeIn K cd22 "law" = true) (k22:PySem.W.keepIn K (.ref f22)=true)
    (z_abs:PySem.W.nsIn K mainGlobals "abs" = some none)
    (z_all:PySem.W.nsIn K mainGlobals "all" = some none)
    (z_any:PySem.W.nsIn K mainGlobals "any" = some none)
    (z_bool:PySem.W.nsIn K mainGlobals "bool" = some none)
    (z_divmod:PySem.W.nsIn K mainGlobals "divmod" = some none)
    (z_enumerate:PySem.W.nsIn K mainGlobals "enumerate" = some none)
    (z_int:PySem.W.nsIn K mainGlobals "int" = some none)
    (z_isinstance:PySem.W.nsIn K mainGlobals "isinstance" = some none)
    (z_len:PySem.W.nsIn K mainGlobals "len" = some none)
    (z_list:PySem.W.nsIn K mainGlobals "list" = some none)
    (z_max:PySem.W.nsIn K mainGlobals "max" = some none)
    (z_min:PySem.W.nsIn K mainGlobals "min" = some none)
    (z_range:PySem.W.nsIn K mainGlobals "range" = some none)
    (z_sorted:PySem.W.nsIn K mainGlobals "sorted" = some none)
    (z_zip:PySem.W.nsIn K mainGlobals "zip" = some none)
    : ∃ fd:FuncData,(∀ (s:Shared) (v:Value),BindsTo s fd ⟨[v],[]⟩ [("_law_script",v)])∧∀ base:Heap,K.In base→base.Ns mainGlobals mg→FnOk l.prog w K mg base CX0 10 fa fd P_law (spLaw K):=by
  have e:=hfa.symm.trans (PySem.W.mg_of X G a22)
  cases e
  have T:Txt K mg:=⟨PySem.W.mg_none_of X G z_abs,PySem.W.mg_none_of X G z_all,PySem.W.mg_none_of X G z_any,PySem.W.mg_none_of X G z_bool,PySem.W.mg_none_of X G z_divmod,PySem.W.mg_none_of X G z_enumerate,PySem.W.mg_none_of X G z_int,PySem.W.mg_none_of X G z_isinstance,PySem.W.mg_none_of X G z_len,PySem.W.mg_none_of X G z_list,PySem.W.mg_none_of X G z_max,PySem.W.mg_none_of X G z_min,PySem.W.mg_none_of X G z_range,PySem.W.mg_none_of X G z_sorted,PySem.W.mg_none_of X G z_zip⟩
  have F0:=fun_mk (st:=s_take) l0 c0 k0
  have b1000:=F0.binds (ps:=P_take) fun _ _ _ _ _ _ us hl=>ln2 hl fun _ _=>rfl
  have F1:=fun_mk (st:=s_box) l1 c1 k1
  have b1001:=F1.binds (ps:=P_box) fun _ _ _ _ _ _ us hl=>ln2 hl fun _ _=>rfl
  have F2:=fun_mk (st:=s_folded) l2 c2 k2
  have b1002:=F2.binds (ps:=P_folded) fun _ _ _ _ _ _ us hl=>ln2 hl fun _ _=>rfl
  have F3:=fun_mk (st:=s_some_boards) l3 c3 k3
  have b1003:=F3.binds (ps:=P_some_boards) fun _ _ _ _ _ _ us hl=>ln2 hl fun _ _=>rfl
  have F4:=fun_mk (st:=s_shape) l4 c4 k4
  have b1004:=F4.binds (ps:=P_shape) fun _ _ _ _ _ _ us hl=>ln1 hl fun _=>rfl
  have F5:=fun_mk (st:=s_asked) l5 c5 k5
  have b1005:=F5.binds (ps:=P_asked) fun _ _ _ _ _ _ us hl=>ln3 hl fun _ _ _=>rfl
  have F6:=fun_mk (st:=s_shelf_of) l6 c6 k6
  have b1006:=F6.binds (ps:=P_shelf_of) fun _ _ _ _ _ _ us hl=>ln2 hl fun _ _=>rfl
  have F7:=fun_mk (st:=s_asked_again) l7 c7 k7
  have b1007:=F7.binds (ps:=P_asked_again) fun _ _ _ _ _ _ us hl=>ln1 hl fun _=>rfl
  have F8:=fun_mk (st:=s_returns_of) l8 c8 k8
  have b1008:=F8.binds (ps:=P_returns_of) fun _ _ _ _ _ _ us hl=>ln1 hl fun _=>rfl
  have F9:=fun_mk (st:=s_is_marked) l9 c9 k9
  have b1009:=F9.binds (ps:=P_is_marked) fun _ _ _ _ _ _ us hl=>ln5 hl fun _ _ _ _ _=>rfl
  have F10:=fun_mk (st:=s_bound) l10 c10 k10
  have b1010:=F10.binds (ps:=P_bound) fun _ _ _ _ _ _ us hl=>ln4 hl fun _ _ _ _=>rfl
  have F11:=fun_mk (st:=s_places_by_shelf) l11 c11 k11
  have b1011:=F11.binds (ps:=P_places_by_shelf) fun _ _ _ _ _ _ us hl=>ln2 hl fun _ _=>rfl
  have F12:=fun_mk (st:=s_cheapest_ahead) l12 c12 k12
  have b1012:=F12.binds (ps:=P_cheapest_ahead) fun _ _ _ _ _ _ us hl=>ln3 hl fun _ _ _=>rfl
  have F13:=fun_mk (st:=s_least_marks) l13 c13 k13
  have b1013:=F13.binds (ps:=P_least_marks) fun _ _ _ _ _ _ us hl=>ln2 hl fun _ _=>rfl
  have F14:=fun_mk (st:=s_marks_of) l14 c14 k14
  have b1014:=F14.binds (ps:=P_marks_of) fun _ _ _ _ _ _ us hl=>ln3 hl fun _ _ _=>rfl
  have F15:=fun_mk (st:=s_l_bound) l15 c15 k15
  have b1015:=F15.binds (ps:=P_l_bound) fun _ _ _ _ _ _ us hl=>ln4 hl fun _ _ _ _=>rfl
  have F16:=fun_mk (st:=s_some_marks) l16 c16 k16
  have b1016:=F16.binds (ps:=P_some_marks) fun _ _ _ _ _ _ us hl=>ln2 hl fun _ _=>rfl
  have F17:=fun_mk (st:=s_few_asked) l17 c17 k17
  have b1017:=F17.binds (ps:=P_few_asked) fun _ _ _ _ _ _ us hl=>ln1 hl fun _=>rfl
  have F18:=fun_mk (st:=s_small) l18 c18 k18
  have b1018:=F18.binds (ps:=P_small) fun _ _ _ _ _ _ us hl=>ln1 hl fun _=>rfl
  have F19:=fun_mk (st:=s_are_marks) l19 c19 k19
  have b1019:=F19.binds (ps:=P_are_marks) fun _ _ _ _ _ _ us hl=>ln2 hl fun _ _=>rfl
  have F20:=fun_mk (st:=s_sets) l20 c20 k20
  have b1020:=F20.binds (ps:=P_sets) fun _ _ _ _ _ _ us hl=>ln1 hl fun _=>rfl
  have F21:=fun_mk (st:=s_right) l21 c21 k21
  have b1021:=F21.binds (ps:=P_right) fun _ _ _ _ _ _ us hl=>ln1 hl fun _=>rfl
  have F22:=fun_mk (st:=s_law) l22 c22 k22
  have b1022:=F22.binds (ps:=P_law) fun _ _ _ _ _ _ us hl=>ln1 hl fun _=>rfl
  refine ⟨PySem.W.fnOf "law" "law" (defArgs s_law) (defBody s_law) (defScope s_law) .none kV22 dc22 pm22 an22 cd22 ct22,fun s v=>.of_eq rfl,fun base _ _=>?_⟩
  have D_take:Def l.prog w K mg base "_law_take" 1 P_take spTake:=⟨_,_,ok_take F0 T ,PySem.W.mg_of X G a0,F0.kp,b1000⟩
  have D_box:Def l.prog w K mg base "_law_box" 1 P_box (spBox K):=⟨_,_,ok_box F1 T ,PySem.W.mg_of X G a1,F1.kp,b1001⟩
  have D_folded:Def l.prog w K mg base "_law_folded" 1 P_folded (spFolded K):=⟨_,_,ok_folded F2 T ,PySem.W.mg_of X G a2,F2.kp,b1002⟩
  have D_some_boards:Def l.prog w K mg base "_law_some_boards" 2 P_some_boards spBoards:=⟨_,_,ok_some_boards F3 T D_take,PySem.W.mg_of X G a3,F3.kp,b1003⟩
  have D_shape:Def l.prog w K mg base "_law_shape" 2 P_shape spShape:=⟨_,_,ok_shape F4 T D_take,PySem.W.mg_of X G a4,F4.kp,b1004⟩
  have D_asked:Def l.prog w K mg base "_law_asked" 3 P_asked spAsked:=⟨_,_,ok_asked F5 T D_take D_some_boards,PySem.W.mg_of X G a5,F5.kp,b1005⟩
  have D_shelf_of:Def l.prog w K mg base "shelf_of" 1 P_shelf_of spShelf:=⟨_,_,ok_shelf_of F6 T ,PySem.W.mg_of X G a6,F6.kp,b1006⟩
  have D_asked_again:Def l.prog w K mg base "asked_again" 1 P_asked_again (spAgain K):=⟨_,_,ok_asked_again F7 T ,PySem.W.mg_of X G a7,F7.kp,b1007⟩
  have D_returns_of:Def l.prog w K mg base "returns_of" 2 P_returns_of (spRets K):=⟨_,_,ok_returns_of F8 T D_asked_again,PySem.W.mg_of X G a8,F8.kp,b1008⟩
  have D_is_marked:Def l.prog w K mg base "is_marked" 2 P_is_marked (spMk K):=⟨_,_,ok_is_marked F9 T D_shelf_of,PySem.W.mg_of X G a9,F9.kp,b1009⟩
  have D_bound:Def l.prog w K mg base "bound" 3 P_bound (spBnd K):=⟨_,_,ok_bound F10 T D_returns_of D_is_marked,PySem.W.mg_of X G a10,F10.kp,b1010⟩
  have D_places_by_shelf:Def l.prog w K mg base "places_by_shelf" 2 P_places_by_shelf (spPb K):=⟨_,_,ok_places_by_shelf F11 T D_shelf_of,PySem.W.mg_of X G a11,F11.kp,b1011⟩
  have D_cheapest_ahead:Def l.prog w K mg base "cheapest_ahead" 1 P_cheapest_ahead (spCh K):=⟨_,_,ok_cheapest_ahead F12 T ,PySem.W.mg_of X G a12,F12.kp,b1012⟩
  have D_least_marks:Def l.prog w K mg base "least_marks" 2 P_least_marks (spLm K):=⟨_,_,ok_least_marks F13 T D_asked_again D_cheapest_ahead,PySem.W.mg_of X G a13,F13.kp,b1013⟩
  have D_marks_of:Def l.prog w K mg base "marks_of" 3 P_marks_of (spMks K):=⟨_,_,ok_marks_of F14 T D_places_by_shelf D_least_marks,PySem.W.mg_of X G a14,F14.kp,b1014⟩
  have D_l_bound:Def l.prog w K mg base "_law_bound" 1 P_l_bound (spBnd K):=⟨_,_,ok_l_bound F15 T ,PySem.W.mg_of X G a15,F15.kp,b1015⟩
  have D_some_marks:Def l.prog w K mg base "_law_some_marks" 2 P_some_marks (spSm K):=⟨_,_,ok_some_marks F16 T D_take,PySem.W.mg_of X G a16,F16.kp,b1016⟩
  have D_few_asked:Def l.prog w K mg base "_law_few_asked" 2 P_few_asked (spFew K):=⟨_,_,ok_few_asked F17 T D_take,PySem.W.mg_of X G a17,F17.kp,b1017⟩
  have D_small:Def l.prog w K mg base "_law_small" 3 P_small (spSmall K):=⟨_,_,ok_small F18 T D_take D_few_asked,PySem.W.mg_of X G a18,F18.kp,b1018⟩
  have D_are_marks:Def l.prog w K mg base "_law_are_marks" 1 P_are_marks (spAre K):=⟨_,_,ok_are_marks F19 T ,PySem.W.mg_of X G a19,F19.kp,b1019⟩
  have D_sets:Def l.prog w K mg base "_law_sets" 1 P_sets (spSets K):=⟨_,_,ok_sets F20 T ,PySem.W.mg_of X G a20,F20.kp,b1020⟩
  have D_right:Def l.prog w K mg base "_law_right" 9 P_right (spRight K):=⟨_,_,ok_right F21 T D_take D_small D_shape D_asked D_marks_of D_are_marks D_l_bound D_sets D_bound D_some_marks,PySem.W.mg_of X G a21,F21.kp,b1021⟩
  exact ok_law F22 T D_box D_folded D_right
theorem walk {l:PySem.W.OpenLaw} {q:Program} {loose:List Str} {XP:(Str→Option Value)→Heap→Prop} {YP:World→Heap→Prop} {d:DefRec} {K:Params→PySem.W.Frag} (hn:l.most=some 63) (hdf:d.params.defaults=[])
    (hY:∀ (w:World) (h:Heap),YP w h→(K w.params).In h)
    (F:∀ (w:World) (mg:Str→Option Value) (fa:Addr) (h:Heap),(K w.params).In h→h.Ns mainGlobals mg→mg d.name=some (.ref fa) →
      ∃ fd:FuncData,(∀ (s:Shared) (u:Value),BindsTo s fd ⟨[u],[]⟩ [("_law_script",u)])∧∀ base:Heap,(K w.params).In base→base.Ns mainGlobals mg→FnOk l.prog w (K w.params) mg base CX0 10 fa fd P_law (spLaw (K w.params))) :
    PySem.W.WalkO q loose XP YP l.row.toRowW d [] (fun f vs=>PySem.call f vs) :=
  L2.walk_of (n:=63) (k:=10) (x := "_law_script") (CX:=fun _=>CX0) (sp:=fun w=>spLaw (K w.params)) hn (by decide) hdf ⟨rfl,by decide,by decide,rfl⟩ hY F (fun _ _ a ns hl _ hS=>⟨a,ns,rfl,hS,hl,fun _=>rfl⟩) fun _ _ _ _ _ z=>z
end Mine
namespace PySem.W.Fast
abbrev Q:=Nat
def tw10235419991066058521:=Q
def tw10416079113736550841:=Q
def tw10418772451394341215:=Q
def tw10466034552293788858:=Q
def tw10559865263580430350:=Q
def tw10728068403199665064:=Q
def tw10858909104639594753:=Q
def tw11085156310421557790:=Q
def tw11209562762593378238:=Q
def tw11240204160930824063:=Q
def tw11326133648072608542:=Q
def tw11453927358155861589:=Q
def tw11478913601027044853:=Q
def tw1152776647776967392:=Q
def tw11560585342678338851:=Q
def tw11644597853950339995:=Q
def tw11763744942919809117:=Q
def tw11950130345652089766:=Q
def tw1199842310499741745:=Q
def tw1214261357411555217:=Q
def tw12188635616704162295:=Q
def tw12236573705506201575:=Q
def tw12283671775347069290:=Q
def tw12299828272411458700:=Q
def tw12313411745177453098:=Q
def tw12318585973388874590:=Q
def tw12342743766786750175:=Q
def tw12453097712488709365:=Q
def tw12499277162858177692:=Q
def tw12530432100404239799:=Q
def tw12536782785436660672:=Q
def tw12691656669529283267:=Q
def tw12964217871266393894:=Q
def tw13025022037426764901:=Q
def tw13057578278410678796:=Q
def tw13120859043480561056:=Q
def tw13188198600301829446:=Q
def tw13196171018821992615:=Q
def tw13233453621608617696:=Q
def tw13302403756042244130:=Q
def tw13352331780949695925:=Q
def tw1354463886392784651:=Q
def tw13747493688786567294:=Q
def tw13777746361913695169:=Q
def tw14019641372694134714:=Q
def tw14146337728193701416:=Q
def tw14226953435198028188:=Q
def tw14375385053201266881:=Q
def tw1450254836928119185:=Q
def tw14942850580337753400:=Q
def tw14953350363732937924:=Q
def tw1501575216844094330:=Q
def tw1501855575028267662:=Q
def tw15088593921956803244:=Q
def tw15093304873853275878:=Q
def tw1516404325349586528:=Q
def tw15181431719261956157:=Q
def tw15372369091186738582:=Q
def tw1546116657100215402:=Q
def tw15779808136293913787:=Q
def tw15785090707108291856:=Q
def tw15975435648183567270:=Q
def tw1606436913539254102:=Q
def tw16181907622369292662:=Q
def tw16191282167380863805:=Q
def tw16297105445818903296:=Q
def tw16477339349629717349:=Q
def tw1659373526783161495:=Q
def tw16661060401040029891:=Q
def tw16679293503485081506:=Q
def tw16750026792348849851:=Q
def tw16780904544345537899:=Q
def tw17185730109537984375:=Q
def tw1719439566176748755:=Q
def tw17310543207467142375:=Q
def tw17320030993323047952:=Q
def tw17330630383361463014:=Q
def tw17428093501229817939:=Q
def tw17752473934183658320:=Q
def tw17997474892740881403:=Q
def tw18012605264377269217:=Q
def tw1801758741349529295:=Q
def tw18032246296420552504:=Q
def tw18096961572183086205:=Q
def tw18118569010479537811:=Q
def tw18125019964038010456:=Q
def tw18131483569694496875:=Q
def tw18151985453624496730:=Q
def tw1852484551931988204:=Q
def tw2003432862770906885:=Q
def tw2036779605820913134:=Q
def tw2073356013350457326:=Q
def tw22559223439897919:=Q
def tw2393414714021463325:=Q
def tw2503016390472413794:=Q
def tw268659759047474827:=Q
def tw3005874089105812967:=Q
def tw3015602926576649159:=Q
def tw3035948209538404351:=Q
def tw334633831971081199:=Q
def tw335675219970578640:=Q
def tw3420029994523329942:=Q
def tw3515994259956004630:=Q
def tw3596898015342629078:=Q
def tw4019893161760728881:=Q
def tw4124732106373585405:=Q
def tw4244016541182024350:=Q
def tw4612881011839593290:=Q
def tw4703154489216330860:=Q
def tw4738798621899245833:=Q
def tw4749667304007656228:=Q
def tw4764648858351167281:=Q
def tw5030054240336489176:=Q
def tw5067286177577957906:=Q
def tw5137314605339954512:=Q
def tw5233251491607876245:=Q
def tw5277717756411588391:=Q
def tw5389880166792915687:=Q
def tw5390232185033199229:=Q
def tw5464082750031221763:=Q
def tw5850641778424354332:=Q
def tw5886368108557546926:=Q
def tw598679819440359926:=Q
def tw6044596622485362715:=Q
def tw6117791671714236837:=Q
def tw6296571166783018579:=Q
def tw6418514837426989763:=Q
def tw6452068300754719150:=Q
def tw6501343941565486090:=Q
def tw661266682585069335:=Q
def tw6629445429244805092:=Q
def tw6787418453781854619:=Q
def tw6788283653305941470:=Q
def tw6837557653751444370:=Q
def tw6894604196103525397:=Q
def tw6931338864406587241:=Q
def tw6959661198820066988:=Q
def tw7052801605303421520:=Q
def tw7456008980521781855:=Q
def tw7480160055743930509:=Q
def tw7597353313706182288:=Q
def tw7619549214846482358:=Q
def tw8036108048728722666:=Q
def tw8249442963699341062:=Q
def tw8309864291320108865:=Q
def tw8435419169546874695:=Q
def tw8813874365370295251:=Q
def tw8948952670686298275:=Q
def tw9034651145356156731:=Q
def tw9150996619792437571:=Q
def tw923692101224595192:=Q
def tw9656868057255142768:=Q
def tw9729588630082358164:=Q
def tw982721083059605200:=Q
def tw9904337747824097362:=Q
def tw9953540398302002581:=Q
def tw9981641959708176523:=Q
def tw9997188440047120901:=Q
end PySem.W.Fast
open PySem PySem.W PyProof.Rows
set_option maxRecDepth 100000 in
set_option maxHeartbeats 0 in
theorem PySem.Challenge.cw_nearstairs_k21_marks_of_the_least_bound_holds : PySem.Challenge.rw_nearstairs_k21_marks_of_the_least_bound.Holds := by
  w_on; o_law; k_head; (case hw=>w_witness2)
  k_fill
  refine Mine.walk (l:=PySem.Challenge.rw_nearstairs_k21_marks_of_the_least_bound) rfl rfl (fun w h Y=>PySem.W.kIn_of Y) ?F
  case F =>
    intro w mg fa h KX G hmg
    refine' Mine.all_mk KX G hmg ?_ ?_ ?_ ?_ ?_ ?_ ?_ ?_ ?_ ?_ ?_ ?_ ?_ ?_ ?_ ?_ ?_ ?_ ?_ ?_ ?_ ?_ ?_ ?_ ?_ ?_ ?_ ?_ ?_ ?_ ?_ ?_ ?_ ?_ ?_ ?_ ?_ ?_ ?_ ?_ ?_ ?_ ?_ ?_ ?_ ?_ ?_ ?_ ?_ ?_ ?_ ?_ ?_ ?_ ?_ ?_ ?_ ?_ ?_ ?_ ?_ ?_ ?_ ?_ ?_ ?_ ?_ ?_ ?_ ?_ ?_ ?_ ?_ ?_ ?_ ?_ ?_ ?_ ?_ ?_ ?_ ?_ ?_ ?_ ?_ ?_ ?_ ?_ ?_ ?_ ?_ ?_ ?_ ?_ ?_ ?_ ?_ ?_ ?_ ?_ ?_ ?_ ?_ ?_ ?_ ?_ ?_
    all_goals try k_is
    all_goals kernel_rfl
