import PyProof.Rows.All
import Wide.All
import OpenK.AllK
import Wide.FinOn
import Lean
import PyProof.EqAt
import PyProof.EqKinds
import PyProof.TupleCall
import KE.KDictSum
import KE.KTryDeep
import KE.KTryMore
import PyProof.NsDelKeeps
import PyProof.FString
import PyProof.Rows.SetFrom
import PySem.Challenge.RW_nearstairs_k04_boards_that_come_and_go
set_option Elab.async false
set_option linter.all false
set_option maxRecDepth 100000
namespace L2
open PySem PySem.Spec PyProof.Rows
abbrev Key:=Sum Int Str
def keyIs:Key→Value→Bool
  | .inl k,v=>Value.isInt k v
  | .inr x,v=>Value.isStrOf x v
def keyH (w:World):Key→Int
  | .inl k=>hashInt k
  | .inr x=>hashStr w x
theorem keyIs_shape:∀ {k:Key} {v:Value},keyIs k v=true→(∃ i t,k=Sum.inl i∧v=Value.int i t)∨(∃ x t,k=Sum.inr x∧v=Value.str x t)
  | .inl i,v,h=>by
    obtain ⟨t,e⟩:=Value.isInt_shape (k:=i) (v:=v) h
    exact .inl ⟨i,t,rfl,e⟩
  | .inr x,v,h=>by
    obtain ⟨t,e⟩:=Value.isStrOf_shape (x:=x) (v:=v) h
    exact .inr ⟨x,t,rfl,e⟩
theorem keyIs_int (i:Int) (t:Tok):keyIs (.inl i) (.int i t)=true:=by simp [keyIs,Value.isInt]
theorem keyIs_str (x:Str) (t:Tok):keyIs (.inr x) (.str x t)=true:=by simp [keyIs,Value.isStrOf]
theorem key_ll (a b:Int):decide ((Sum.inl a:Key)=Sum.inl b)=(a == b):=by
  by_cases e:a=b
  · subst e; simp
  · have h:¬ (Sum.inl a:Key)=Sum.inl b:=fun q=>e (Sum.inl.inj q)
    rw [decide_eq_false h]
    exact (beq_eq_false_iff_ne.mpr e).symm
theorem key_rr (a b:Str):decide ((Sum.inr a:Key)=Sum.inr b)=decide (a=b):=by
  by_cases e:a=b
  · subst e; simp
  · have h:¬ (Sum.inr a:Key)=Sum.inr b:=fun q=>e (Sum.inr.inj q)
    rw [decide_eq_false h,decide_eq_false e]
theorem key_lr (a:Int) (b:Str):decide ((Sum.inl a:Key)=Sum.inr b)=false:=decide_eq_false (fun q=>nomatch q)
theorem key_rl (a:Str) (b:Int):decide ((Sum.inr a:Key)=Sum.inl b)=false:=decide_eq_false (fun q=>nomatch q)
def mixKind (prog:Program) (w:World):PySem.KeyKind prog w Key where
  is:=keyIs
  hash:=keyH w
  inj:=fun v a b ha hb=>by
    rcases keyIs_shape ha with ⟨i,t,rfl,rfl⟩ | ⟨x,t,rfl,rfl⟩
    · rcases keyIs_shape hb with ⟨j,u,rfl,e⟩ | ⟨y,u,rfl,e⟩
      · injection e with e1 _; rw [e1]
      · exact nomatch e
    · rcases keyIs_shape hb with ⟨j,u,rfl,e⟩ | ⟨y,u,rfl,e⟩
      · exact nomatch e
      · injection e with e1 _; rw [e1]
  byValue:=fun k v h=>by
    rcases keyIs_shape h with ⟨i,t,rfl,rfl⟩ | ⟨x,t,rfl,rfl⟩ <;> rfl
  pyHash:=fun hv h=>by
    rcases keyIs_shape hv with ⟨i,t,rfl,rfl⟩ | ⟨x,t,rfl,rfl⟩
    · exact wpAny_pyHash_int h
    · exact wpAny_pyHash_str h
  eqBool:=fun hu hv h=>by
    rcases keyIs_shape hu with ⟨i,t,rfl,rfl⟩ | ⟨x,t,rfl,rfl⟩
    · rcases keyIs_shape hv with ⟨j,u,rfl,rfl⟩ | ⟨y,u,rfl,rfl⟩
      · rw [key_ll] at h; exact wpAny_eqBool_int h
      · rw [key_lr] at h; exact SeqAt.EqAt.int_str i t y u _ _ _ _ h
    · rcases keyIs_shape hv with ⟨j,u,rfl,rfl⟩ | ⟨y,u,rfl,rfl⟩
      · rw [key_rl] at h; exact SeqAt.EqAt.str_int x t j u _ _ _ _ h
      · rw [key_rr] at h; exact wpAny_eqBool_str h
  «strs»:=fun k x t v h=>by
    rcases keyIs_shape h with ⟨i,u,rfl,e⟩ | ⟨y,u,rfl,e⟩
    · exact nomatch e
    · injection e with e1 _
      subst e1
      cases v <;> rfl
theorem mixKind_is (prog:Program) (w:World) (k:Key) (v:Value):(mixKind prog w).is k v=keyIs k v:=rfl
theorem mixKind_int (prog:Program) (w:World) (i:Int) (t:Tok):(mixKind prog w).is (.inl i) (.int i t)=true:=keyIs_int i t
theorem mixKind_str (prog:Program) (w:World) (x:Str) (t:Tok):(mixKind prog w).is (.inr x) (.str x t)=true:=keyIs_str x t
end L2
namespace L2
open PySem PySem.Spec PyProof.Rows
inductive V where
  | non | bl (b:Bool) | int (i:Int) | str (x:Str) | byt (b:Array UInt8) | flt (b:UInt64) | ref (a:Addr) | ty (n:String)
  deriving DecidableEq
def RelV:V→Value→Prop
  | .non,u=>u=Value.none
  | .bl b,u=>u=Value.bool b
  | .int i,u=>∃ t,u=Value.int i t
  | .str x,u=>∃ t,u=Value.str x t
  | .byt b,u=>∃ t,u=Value.bytes b t
  | .flt b,u=>∃ t,u=Value.float b t
  | .ref a,u=>u=Value.ref a
  | .ty n,u=>u=Value.type n
abbrev Vals:List V→List Value→Prop:=Paired RelV
theorem Vals.length {xs:List V} {us:List Value} (r:Vals xs us):xs.length=us.length:=Paired.length r
theorem Vals.get:∀ {xs:List V} {us:List Value} {i:Nat} {x:V},Vals xs us→xs[i]?=some x→∃ u,us[i]?=some u∧RelV x u
  | _,_,_,_,.nil,e=>by simp at e
  | _,_,0,_,.cons r _,e=>by simp at e; subst e; exact ⟨_,rfl,r⟩
  | _,_,i+1,x,.cons _ t,e=>by
    obtain ⟨u,h1,h2⟩:=Vals.get (i:=i) (x:=x) t (by simpa using e)
    exact ⟨u,by simpa using h1,h2⟩
theorem Vals.set {x:V} {u:Value} (r:RelV x u):∀ {xs:List V} {us:List Value} (i:Nat),Vals xs us→Vals (xs.set i x) (us.set i u)
  | _,_,_,.nil=>.nil
  | _,_,0,.cons _ t=>.cons r t
  | _,_,i+1,.cons q t=>.cons q (Vals.set r i t)
theorem Vals.append:∀ {xs ys:List V} {us ws:List Value},Vals xs us→Vals ys ws→Vals (xs++ys) (us++ws)
  | _,_,_,_,.nil,s=>s
  | _,_,_,_,.cons r t,s=>.cons r (Vals.append t s)
theorem Vals.take:∀ {xs:List V} {us:List Value} (n:Nat),Vals xs us→Vals (xs.take n) (us.take n)
  | _,_,0,_=>.nil
  | _,_,_+1,.nil=>.nil
  | _,_,n+1,.cons r t=>.cons r (Vals.take n t)
theorem Vals.drop:∀ {xs:List V} {us:List Value} (n:Nat),Vals xs us→Vals (xs.drop n) (us.drop n)
  | _,_,0,r=>r
  | _,_,_+1,.nil=>.nil
  | _,_,n+1,.cons _ t=>Vals.drop n t
def RelO:Option V→Option Value→Prop
  | some v,some u=>RelV v u
  | none,none=>True
  | _,_=>False
def KV {κ:Type}:List (κ×V)→List (κ×Value)→Prop:=Paired fun (p:κ×V) (q:κ×Value)=>p.1=q.1∧RelV p.2 q.2
def kV:Key→V
  | .inl i=>.int i
  | .inr x=>.str x
inductive HO where
    | lst (xs:List V)
    | tup (xs:List V)
    | dK (kvs:List (Key×V)) | dT (kvs:List (List Key×V))
    | set (S:Int→Bool) (n:Nat)
    | ins (C dx:Addr) (fs:List (Str×V))
    | own (x:Addr)
    | xd (fs:List (Str×V))
    | met (f x:Addr)
    | rng (lo hi:Int)
    | frz (o:Obj) (u:HO)
    | tbl (pos:Pos) (qual:Str)
    | ext (φ:Heap→Prop)
abbrev Hp:=Addr→Option HO
def upd (H:Hp) (a:Addr) (o:HO):Hp:=fun b=>if b=a then some o else H b
theorem upd_same {H:Hp} {a:Addr} {o:HO}:upd H a o a=some o:=by unfold upd; rw [if_pos rfl]
theorem upd_ne {H:Hp} {a b:Addr} {o:HO} (h:b≠a):upd H a o b=H b:=by unfold upd; rw [if_neg h]
theorem upd_upd {H:Hp} {a:Addr} {o u:HO}:upd (upd H a o) a u=upd H a u:=by
  funext b; unfold upd; split <;> rfl
theorem ne_of {H:Hp} {a b:Addr} {o u:HO} (h:H a=some o) (h':H b=some u) (d:o≠u):a≠b:=by
  intro e; subst e; rw [h] at h'; exact d (Option.some.inj h')
theorem ne_of_none {H:Hp} {a b:Addr} {o:HO} (h:H a=some o) (h':H b=none):a≠b:=by
  intro e; subst e; rw [h] at h'; cases h'
section
variable (P:Program) (w:World)
def ObjOk (H:Hp) (h:Heap) (a:Addr):HO→Prop
  | .lst xs=>xs.length≤sizeLine∧∃ (its:List Value) (n:Nat),Vals xs its∧h.get? a=some { cls:=.type "list",data:=.seq its.toArray n }
  | .tup xs=>xs.length≤sizeLine∧∃ its:List Value,Vals xs its∧IsTup h a its.toArray
  | .dK kvs=>kvs.length≤sizeLine∧(a == sysModules)=false∧∃ vs,KV kvs vs∧h.DictOf (mixKind P w) a vs
  | .dT kvs=>kvs.length≤sizeLine∧(a == sysModules)=false∧∃ xs:List (List Key×Addr×Value),
      Paired (fun (p:List Key×V) (q:List Key×Addr×Value)=>p.1=q.1∧H q.2.1=some (.tup (p.1.map kV))∧RelV p.2 q.2.2) kvs xs ∧
      ∃ o es ep,h.get? a=some o∧o.ExactDict∧o.data=.dict es ep∧es.toList=xs.map (entryOfKey (tupleKind (mixKind P w)))∧(xs.map (·.1)).Nodup
  | .set S n=>h.SetOf (intKind P w) a S n
  | .ins C dx fs=>H dx=some (.own a)∧fs.length≤1000∧dx≠a∧h.get? a=some (PySem.W.instObj C dx) ∧
      ∃ mA,h.Ns1 dx mA∧(∀ f,RelO (fs.lookup f) (mA f))∧PySem.Within mA (fs.map (·.1))
  | .own _=>∃ o,h.get? a=some o
  | .xd fs=>∃ mA,h.Ns1 a mA∧∀ f,RelO (fs.lookup f) (mA f)
  | .rng lo hi=>∃ t u v,h.get? a=some { cls:=.type "range",data:=.fields #[.int lo t,.int hi u,.int 1 v] }
  | .frz o u=>h.get? a=some o∧ObjOk H h a u
  | .tbl pos qual=>∃ ps,h.get? a=some { cls:=.none,data:=.fields ps }∧TriplesOk ps.toList∧∀ cv,codeAmong pos ps.toList=some cv→∃ c oc vs t,cv=.ref c∧H c=some (.frz oc (.own a))∧oc.data=.fields vs∧vs[1]?=some (.str qual t)
  | .met f x=>h.get? a=some (PySem.W.methodObj (.ref f) (.ref x))
  | .ext φ=>φ h∧(∃ o,h.get? a=some o)∧∀ h1 h2:Heap,φ h1→(∀ o,h1.get? a=some o→h2.get? a=some o)→φ h2
def HOk (H:Hp) (h:Heap):Prop:=∀ a o,H a=some o→ObjOk P w H h a o
end
section
variable {P:Program} {w:World} {H H':Hp} {h h':Heap} {a:Addr} {o:HO}
theorem ObjOk.lt (x:ObjOk P w H h a o):a<h.objs.size:=by
  cases o with
  | lst xs=>obtain ⟨_,_,_,_,e⟩:=x; exact Heap.lt_size e
  | tup xs=>obtain ⟨_,_,_,p⟩:=x; exact p.lt
  | dK kvs=>obtain ⟨_,_,_,_,o,_,_,e,_⟩:=x; exact Heap.lt_size e
  | dT kvs=>obtain ⟨_,_,_,_,o,_,_,e,_⟩:=x; exact Heap.lt_size e
  | set S n=>obtain ⟨o,_,_,_,e,_⟩:=x; exact Heap.lt_size e
  | ins C dx fs=>obtain ⟨_,_,_,e,_⟩:=x; exact Heap.lt_size e
  | own y=>obtain ⟨_,e⟩:=x; exact Heap.lt_size e
  | xd fs=>obtain ⟨_,⟨_,_,_,e,_⟩,_⟩:=x; exact Heap.lt_size e
  | rng lo hi=>obtain ⟨_,_,_,e⟩:=x; exact Heap.lt_size e
  | frz ob u=>obtain ⟨e,_⟩:=x; exact Heap.lt_size e
  | tbl p q=>obtain ⟨_,e,_⟩:=x; exact Heap.lt_size e
  | met f y=>exact Heap.lt_size (show h.get? a=some _ from x)
  | ext φ=>obtain ⟨_,⟨_,e⟩,_⟩:=x; exact Heap.lt_size e
theorem Paired.mapP {α β:Type} {F G:α→β→Prop}:∀ {l₁:List α} {l₂:List β},Paired F l₁ l₂→(∀ a b,F a b→G a b)→Paired G l₁ l₂
  | _,_,.nil,_=>.nil
  | _,_,.cons r t,f=>.cons (f _ _ r) (Paired.mapP t f)
theorem ObjOk.stay (x:ObjOk P w H h a o) (k:∀ b u,(b=a∨H b=some (.own a))→h.get? b=some u→h'.get? b=some u)
    (ho:∀ b,H b=some (.own a)→H' b=some (.own a)) (ht:∀ b xs,H b=some (.tup xs)→H' b=some (.tup xs))
    (hz:∀ b oz,H b=some (.frz oz (.own a))→H' b=some (.frz oz (.own a)):=by exact fun _ _ q=>q):ObjOk P w H' h' a o:=by
  induction o with
  | lst xs=>obtain ⟨z,its,n,r,e⟩:=x; exact ⟨z,its,n,r,k _ _ (.inl rfl) e⟩
  | tup xs=>obtain ⟨z,its,r,ob,e,c⟩:=x; exact ⟨z,its,r,ob,k _ _ (.inl rfl) e,c⟩
  | dK kvs=>obtain ⟨z,y,vs,r,ob,es,ep,e,c⟩:=x; exact ⟨z,y,vs,r,ob,es,ep,k _ _ (.inl rfl) e,c⟩
  | dT kvs =>
    obtain ⟨z,y,xs,r,ob,es,ep,e,c⟩:=x
    exact ⟨z,y,xs,Paired.mapP r fun p q z=>⟨z.1,ht _ _ z.2.1,z.2.2⟩,ob,es,ep,k _ _ (.inl rfl) e,c⟩
  | set S n=>obtain ⟨ob,es,ep,t,e,c⟩:=x; exact ⟨ob,es,ep,t,k _ _ (.inl rfl) e,c⟩
  | ins C dx fs =>
    obtain ⟨d,z,ne,e,mA,⟨od,es,ep,e2,c⟩,r⟩:=x
    exact ⟨ho _ d,z,ne,k _ _ (.inl rfl) e,mA,⟨od,es,ep,k _ _ (.inr d) e2,c⟩,r⟩
  | own y=>obtain ⟨ob,e⟩:=x; exact ⟨ob,k _ _ (.inl rfl) e⟩
  | xd fs=>obtain ⟨mA,⟨od,es,ep,e,c⟩,r⟩:=x; exact ⟨mA,⟨od,es,ep,k _ _ (.inl rfl) e,c⟩,r⟩
  | rng lo hi=>obtain ⟨t,u,v,e⟩:=x; exact ⟨t,u,v,k _ _ (.inl rfl) e⟩
  | frz ob u ih=>obtain ⟨e,q⟩:=x; exact ⟨k _ _ (.inl rfl) e,ih q⟩
  | tbl p q =>
    obtain ⟨ps,e,tr,hc⟩:=x
    refine ⟨ps,k a _ (.inl rfl) e,tr,fun cv e1=>?_⟩
    obtain ⟨c,oc,vs,tt,z,e2,r⟩:=hc cv e1
    exact ⟨c,oc,vs,tt,z,hz _ _ e2,r⟩
  | met f y =>
    have e:h.get? a=some (PySem.W.methodObj (.ref f) (.ref y)):=x
    show h'.get? a=some (PySem.W.methodObj (.ref f) (.ref y))
    exact k a _ (.inl rfl) e
  | ext φ=>obtain ⟨p,⟨o,e⟩,st⟩:=x; exact ⟨st _ _ p fun o q=>k _ _ (.inl rfl) q,⟨o,k _ _ (.inl rfl) e⟩,st⟩
theorem HOk.lt (x:HOk P w H h) (e:H a=some o):a<h.objs.size:=(x a o e).lt
theorem HOk.fresh (x:HOk P w H h) (e:h.objs.size≤a):H a=none:=by
  cases q:H a with
  | none=>rfl
  | some u=>exact absurd (Nat.lt_of_lt_of_le (x.lt q) e) (Nat.lt_irrefl _)
theorem HOk.kept (x:HOk P w H h) (k:∀ b u,h.get? b=some u→h'.get? b=some u):HOk P w H h':=fun a o e =>
  (x a o e).stay (fun b u _ q=>k b u q) (fun _ q=>q) fun _ _ q=>q
theorem HOk.laid (x:HOk P w H h) (k:∀ b u,h.get? b=some u→h'.get? b=some u) (hp:h.objs.size≤a) (new:ObjOk P w (upd H a o) h' a o):HOk P w (upd H a o) h':=fun b u e=>by
  have hn:=x.fresh hp
  by_cases hb:b=a
  · subst hb; rw [upd_same] at e; cases e; exact new
  · rw [upd_ne hb] at e
    exact (x b u e).stay (fun c v _ q=>k c v q) (fun c q=>by rw [upd_ne (ne_of_none q hn)]; exact q) (fun c xs q=>by rw [upd_ne (ne_of_none q hn)]; exact q) fun c oz q=>by rw [upd_ne (ne_of_none q hn)]; exact q
end
def Rd (H:Hp) (a:Addr) (u:HO):Prop:=H a=some u∨∃ o,H a=some (.frz o u)
theorem Rd.ok {P:Program} {w:World} {H:Hp} {h:Heap} {a:Addr} {u:HO} (r:Rd H a u) (x:HOk P w H h):ObjOk P w H h a u:=by
  rcases r with r | ⟨o,r⟩
  · exact x a u r
  · obtain ⟨_,q⟩:=x a _ r
    exact q
def Mut:Option HO→Prop
  | some (.lst _)=>True
  | some (.dK _)=>True
  | some (.dT _)=>True
  | some (.set _ _)=>True
  | some (.ins _ _ _)=>True
  | some (.ext _)=>True
  | _=>False
section
variable {P:Program} {w:World} {H:Hp} {h h':Heap} {x e:Addr} {o':HO}
theorem HOk.write (ok:HOk P w H h) (mu:Mut (H x)) (he:e=x∨H e=some (.own x)) (k:∀ b u,b≠e→h.get? b=some u→h'.get? b=some u) (heo:∃ u,h'.get? e=some u)
    (new:ObjOk P w (upd H x o') h' x o'):HOk P w (upd H x o') h':=fun b u q=>by
  have nown:∀ c y,H c=some (.own y)→c≠x:=fun c y r z=>by subst z; rw [r] at mu; exact mu
  have ntup:∀ c xs,H c=some (.tup xs)→c≠x:=fun c xs r z=>by subst z; rw [r] at mu; exact mu
  by_cases hb:b=x
  · subst hb; rw [upd_same] at q; cases q; exact new
  · rw [upd_ne hb] at q
    by_cases hbe:b=e
    · have q':H b=some (.own x):=by
        rcases he with z | z
        · exact absurd (hbe.trans z) hb
        · rw [hbe]; exact z
      rw [q] at q'; cases q'
      obtain ⟨v,hv⟩:=heo
      exact ⟨v,by rw [hbe]; exact hv⟩
    · refine (ok b u q).stay (fun c v hc r=>k c v ?_ r) (fun c r=>by rw [upd_ne (nown c b r)]; exact r) (fun c xs r=>by rw [upd_ne (ntup c xs r)]; exact r) fun c oz r=>by rw [upd_ne (fun z=>by subst z; rw [r] at mu; exact mu)]; exact r
      rcases hc with rfl | hc
      · exact hbe
      · rintro rfl
        rcases he with z | z
        · exact nown c b hc z
        · rw [hc] at z; cases z; exact hb rfl
end
structure Un (fs ex:List Addr) (H H':Hp) (h h':Heap):Prop where
  keep:∀ b o,h.get? b=some o→H b=none→b∉fs→b∉ex→h'.get? b=some o
  slot:∀ b o,h.get? b=some o→H b=none→b∈fs→b∉ex→∃ sl,h'.get? b=some { o with slots:=sl }
  free:∀ b o,h.get? b=some o→H b=none→b∉ex→H' b=none
  there:∀ b o,h.get? b=some o→b∉ex→∃ o',h'.get? b=some o'
  tups:∀ b xs,H b=some (.tup xs)→H' b=some (.tup xs)
  frzs:∀ b o u,H b=some (.frz o u)→H' b=some (.frz o u)
  tbls:∀ b p q,H b=some (.tbl p q)→H' b=some (.tbl p q)
section
variable {fs fs' ex ex':List Addr} {H H1 H2:Hp} {h h1 h2 h':Heap} {a x e:Addr} {o:HO}
theorem Un.any (u:Un fs ex H H1 h h1) {b:Addr} {ob:Obj} (q:h.get? b=some ob) (n:H b=none) (hx:b∉ex):∃ sl,h1.get? b=some { ob with slots:=sl }:=by
  by_cases hb:b∈fs
  · exact u.slot b ob q n hb hx
  · exact ⟨ob.slots,u.keep b ob q n hb hx⟩
theorem Un.kept (k:∀ b u,h.get? b=some u→h'.get? b=some u):Un fs ex H H h h' :=
  ⟨fun b ob q _ _ _=>k b ob q,fun b ob q _ _ _=>⟨ob.slots,k b ob q⟩,fun _ _ _ n _=>n,fun b ob q _=>⟨ob,k b ob q⟩,fun _ _ q=>q,fun _ _ _ q=>q,fun _ _ _ q=>q⟩
theorem Un.refl:Un fs ex H H h h:=Un.kept fun _ _ q=>q
theorem Un.laid (k:∀ b u,h.get? b=some u→h'.get? b=some u) (hp:h.objs.size≤a) (hn:H a=none):Un fs ex H (upd H a o) h h' where
  keep:=fun b u q _ _ _=>k b u q
  slot:=fun b u q _ _ _=>⟨u.slots,k b u q⟩
  free:=fun b u q n _=>by rw [upd_ne (Nat.ne_of_lt (Nat.lt_of_lt_of_le (Heap.lt_size q) hp))]; exact n
  there:=fun b u q _=>⟨u,k b u q⟩
  tups:=fun b xs q=>by rw [upd_ne (ne_of_none q hn)]; exact q
  frzs:=fun b u xs q=>by rw [upd_ne (ne_of_none q hn)]; exact q
  tbls:=fun b _ _ q=>by rw [upd_ne (ne_of_none q hn)]; exact q
theorem Un.write (mu:Mut (H x)) (he:e=x∨H e=some (.own x)) (k:∀ b u,b≠e→h.get? b=some u→h'.get? b=some u) (heo:∃ u,h'.get? e=some u):Un fs ex H (upd H x o) h h':=by
  have hx:∀ b,H b=none→b≠x:=fun b n z=>by subst z; rw [n] at mu; exact mu
  have hb:∀ b,H b=none→b≠e:=fun b n z=>by
    subst z
    rcases he with r | r
    · exact hx b n r
    · rw [n] at r; cases r
  have hm:∀ b u,H b=some u→¬ Mut (some u)→b≠x:=fun b u q nm z=>by subst z; rw [q] at mu; exact nm mu
  refine ⟨fun b u q n _ _=>k b u (hb b n) q,fun b u q n _ _=>⟨u.slots,k b u (hb b n) q⟩,fun b u q n _=>by rw [upd_ne (hx b n)]; exact n,fun b u q _=>?_,
    fun b xs q=>by rw [upd_ne (hm b _ q fun z=>z)]; exact q,fun b u xs q=>by rw [upd_ne (hm b _ q fun z=>z)]; exact q,fun b _ _ q=>by rw [upd_ne (hm b _ q fun z=>z)]; exact q⟩
  by_cases hbe:b=e
  · subst hbe; exact heo
  · exact ⟨u,k b u hbe q⟩
end
def trk (h:Heap) (H:Hp):List Addr:=(List.range h.objs.size).filter fun a=>(H a).isSome
def hidT (h:Heap) (H:Hp):Heap:=PySem.W.hideAll h (trk h H)
theorem hidT_size (h:Heap) (H:Hp):(hidT h H).objs.size=h.objs.size:=PySem.W.hideAll_size _ _
theorem hidT_get {h:Heap} {H:Hp} {b:Addr} {o:Obj} (e:h.get? b=some o) (n:H b=none):(hidT h H).get? b=some o :=
  PySem.W.hideAll_get _ e fun hm=>by
    have q:(H b).isSome=true:=(List.mem_filter.mp hm).2
    rw [n] at q; simp at q
theorem of_hidT {h:Heap} {H:Hp} {b:Addr} {o:Obj} (e:(hidT h H).get? b=some o):h.get? b=some o∧H b=none:=by
  have e':h.get? b=some o:=PySem.W.of_hideAll (trk h H) e
  refine ⟨e',?_⟩
  cases q:H b with
  | none=>rfl
  | some x =>
    have hm:b∈trk h H:=List.mem_filter.mpr ⟨List.mem_range.mpr (Heap.lt_size e'),by simp [q]⟩
    have z:(hidT h H).get? b=none:=PySem.W.hideAll_none (trk h H) hm
    rw [z] at e; cases e
end L2
namespace L2
open PySem PySem.Spec PyProof.Rows
structure Mod (K:PySem.W.Frag) (mg:Str→Option Value) (base:Heap):Prop where
  kin:K.In base
  glob:base.Ns mainGlobals mg
  blt:∃ mb,base.Ns builtinsNs mb∧∀ x:Str,x ≠ "__name__" → mb x=bootBuiltins x
  nolimit:base.NoLimit
structure Cx where
  prog:Program
  w:World
  K:PySem.W.Frag
  mg:Str→Option Value
  base:Heap
  A:Around
  N:List Str
  s₀:Shared
  H₀:Hp
  env:Env
  outer:List Env
  stack:List Env
  ex:List Addr
  fn:Str→Bool
  calm:Bool
  pn:List (Addr×Obj)
  xe:Value→Shared→Prop
def frs (l:List Env):List Addr:=l.filterMap (·.frame)
abbrev Cx.fs (X:Cx):List Addr:=frs X.outer
def Vis (sc:Scope) (x:Str):Prop:=sc.names.lookup x=some .local∨sc.names.lookup x=some .cell∨sc.names.lookup x=some .free
def Loc (sc:Scope) (x:Str):Prop:=sc.names.lookup x=some .local∨sc.names.lookup x=some .cell
def Look (env:Env) (h:Heap) (m:Str→Option Value) (x:Str) (u:Value):Prop :=
  (env.kindOf x=some .local∧m x=some u)∨((env.kindOf x=some .cell∨env.kindOf x=some .free)∧∃ c,env.cells.lookup x=some c∧h.IsCell c (some u))
structure Cx.Ok (X:Cx):Prop where
  mod:Mod X.K X.mg X.base
  kind:X.env.scope.kind=.function
  glob:X.env.globals=mainGlobals
  blt:X.env.builtins=builtinsNs
  above:X.s₀.heap.objs.size≤X.env.locals
  inj:∀ x y c,X.env.cells.lookup x=some c→X.env.cells.lookup y=some c→x=y
  has:∀ x,(X.env.kindOf x=some .cell∨X.env.kindOf x=some .free)→∃ c,X.env.cells.lookup x=some c
  cab:∀ x c,X.fn x=true→X.env.cells.lookup x=some c→X.s₀.heap.objs.size≤c
  hd:X.calm=true→X.A.handled=none
  frames:X.A.frames=some X.stack
  stk:X.stack=X.outer∨(X.stack=X.env :: X.outer∧X.env.frame=some X.env.locals)
  exf:∀ b∈X.ex,b≠X.env.locals∧∀ x c,X.env.cells.lookup x=some c→c≠b
  bs:∀ b o,X.base.get? b=some o→X.s₀.heap.get? b=some o∧X.H₀ b=none
  bsz:X.base.objs.size≤X.s₀.heap.objs.size
  noex:∀ b o,X.base.get? b=some o→b∉X.ex
  exfs:∀ b∈X.ex,b∉X.fs
  funs:X.s₀.heap.FunFrames X.base X.outer
  frf:∀ b∈X.fs,X.H₀ b=none
structure Inv (X:Cx) (pins:List (Addr×Obj)) (σ:List (Option V)) (H:Hp) (s:Shared):Prop where
  ok:X.Ok
  os:s.os=X.s₀.os
  bare:AllBare s.gens
  base:Un X.fs X.ex X.H₀ H X.s₀.heap s.heap
  loc:∃ m,s.heap.Ns X.env.locals m∧∀ (i:Nat) (x:Str) (v:V),X.N[i]?=some x→σ[i]?=some (some v)→Vis X.env.scope x→∃ u,RelV v u∧Look X.env s.heap m x u
  cell:∀ x c,X.env.cells.lookup x=some c→∃ v,s.heap.IsCell c v
  free:H X.env.locals=none
  freeC:∀ x c,X.env.cells.lookup x=some c→H c=none
  pin:∀ p∈X.pn++pins,s.heap.get? p.1=some p.2∧H p.1=none∧p.1≠X.env.locals∧p.1∉X.fs∧∀ v,p.2.data≠.cell v
  hok:HOk X.prog X.w H s.heap
  len:σ.length=X.N.length
section
variable {X:Cx} {pins:List (Addr×Obj)} {σ:List (Option V)} {H H':Hp} {s:Shared} {h':Heap}
theorem Cx.Ok.nofr (ok:X.Ok) {b:Addr} {o:Obj} (e:X.base.get? b=some o):b∉X.fs:=fun hb=>by
  have:=(ok.funs.mem hb).1
  rw [e] at this; cases this
theorem Inv.bs (I:Inv X pins σ H s):∀ b o,X.base.get? b=some o→s.heap.get? b=some o∧H b=none:=fun b o e =>
  ⟨I.base.keep b o (I.ok.bs b o e).1 (I.ok.bs b o e).2 (I.ok.nofr e) (I.ok.noex b o e),I.base.free b o (I.ok.bs b o e).1 (I.ok.bs b o e).2 (I.ok.noex b o e)⟩
theorem Inv.bk (I:Inv X pins σ H s):∀ b o,X.base.get? b=some o→s.heap.get? b=some o:=fun b o e=>(I.bs b o e).1
theorem Inv.mod (I:Inv X pins σ H s):Mod X.K X.mg X.base:=I.ok.mod
theorem Inv.kIn (I:Inv X pins σ H s):X.K.In s.heap:=I.ok.mod.kin.keeps I.bk
theorem Inv.nolimit (I:Inv X pins σ H s):s.heap.NoLimit:=I.ok.mod.nolimit.keeps I.bk
theorem Inv.lt (I:Inv X pins σ H s):X.env.locals<s.heap.objs.size:=let ⟨_,hn,_⟩:=I.loc; hn.lt
theorem Inv.sz (I:Inv X pins σ H s):X.s₀.heap.objs.size≤s.heap.objs.size:=Nat.le_trans I.ok.above (Nat.le_of_lt I.lt)
theorem Inv.nofs (I:Inv X pins σ H s) {a:Addr} (h:s.heap.objs.size≤a):a∉X.fs:=fun hb=>by
  obtain ⟨_,o,ho,_⟩:=I.ok.funs.mem hb
  exact absurd (Nat.lt_of_lt_of_le (Heap.lt_size ho) (Nat.le_trans I.sz h)) (Nat.lt_irrefl _)
theorem Inv.cne (I:Inv X pins σ H s):∀ x c,X.env.cells.lookup x=some c→c≠X.env.locals:=fun x c e z=>by
  obtain ⟨v,o,ho,hd⟩:=I.cell x c e
  obtain ⟨m,⟨o',es,ep,ho',hd',_⟩,_⟩:=I.loc
  rw [z,ho'] at ho; cases ho; rw [hd'] at hd; cases hd
theorem Inv.funs (I:Inv X pins σ H s):s.heap.FunFrames X.base X.outer:=by
  have all:∀ (l:List Env),(∀ b∈frs l,b∈X.fs)→X.s₀.heap.FunFrames X.base l→s.heap.FunFrames X.base l:=by
    intro l
    induction l with
    | nil=>intro _ _; trivial
    | cons env r ih =>
      intro hs hl
      obtain ⟨hk,⟨L,o,hf,hn,ho,hd⟩,hr⟩:=hl
      have hL:L∈X.fs:=hs L (by unfold frs; rw [List.filterMap_cons,hf]; exact List.mem_cons_self)
      obtain ⟨sl,e⟩:=I.base.slot L o ho (I.ok.frf L hL) hL fun z=>I.ok.exfs L z hL
      exact ⟨hk,⟨L,_,hf,hn,e,hd⟩,ih (fun b hb=>hs b (by unfold frs; rw [List.filterMap_cons,hf]; exact List.mem_cons_of_mem _ hb)) hr⟩
  exact all X.outer (fun _ hb=>hb) I.ok.funs
theorem Inv.stack (I:Inv X pins σ H s):s.heap.FunFrames X.base X.stack:=by
  rcases I.ok.stk with e | ⟨e,hf⟩
  · rw [e]; exact I.funs
  · rw [e]
    obtain ⟨m,hn,_⟩:=I.loc
    refine .cons (by rw [I.ok.kind]; decide) hf hn ?_ I.funs
    exact Heap.get?_none_of_le (Nat.le_trans I.ok.bsz I.ok.above)
theorem Inv.stkSub (I:Inv X pins σ H s):∀ b∈frs X.stack,b∈X.env.locals :: X.fs:=fun b hb=>by
  rcases I.ok.stk with e | ⟨e,hf⟩
  · rw [e] at hb; exact List.mem_cons_of_mem _ hb
  · rw [e] at hb
    unfold frs at hb
    rw [List.filterMap_cons,hf] at hb
    exact hb
theorem Inv.stkFree (I:Inv X pins σ H s):∀ b∈frs X.stack,H b=none:=fun b hb=>by
  rcases List.mem_cons.mp (I.stkSub b hb) with e | hb
  · rw [e]; exact I.free
  · obtain ⟨_,o,ho,_⟩:=I.ok.funs.mem hb
    exact I.base.free b o ho (I.ok.frf b hb) fun z=>I.ok.exfs b z hb
theorem Inv.step {g':Array GenState} {t':Nat} {d':Drawn} {ch:List Addr} (I:Inv X pins σ H s)
    (hch:∀ b∈ch,(b∈X.ex∨X.s₀.heap.objs.size≤b)∧b≠X.env.locals∧(∀ x c,X.env.cells.lookup x=some c→c≠b)∧∀ p∈X.pn++pins,p.1≠b)
    (keep:∀ b o,b≠X.env.locals→b∉X.fs→b∉ch→s.heap.get? b=some o→H b=none→h'.get? b=some o)
    (slot:∀ b o,b≠X.env.locals→b∈X.fs→b∉ch→s.heap.get? b=some o→H b=none→∃ sl,h'.get? b=some { o with slots:=sl }) (free:∀ b o,b∉ch→s.heap.get? b=some o→H b=none→H' b=none)
    (there:∀ b o,b∉ch→s.heap.get? b=some o→∃ o',h'.get? b=some o')
    (tups:∀ b xs,H b=some (.tup xs)→H' b=some (.tup xs)) (frzs:∀ b o u,H b=some (.frz o u)→H' b=some (.frz o u)) (tbls:∀ b p q,H b=some (.tbl p q)→H' b=some (.tbl p q))
    (ns:∀ m,s.heap.Ns X.env.locals m→h'.Ns X.env.locals m) (hok:HOk X.prog X.w H' h') (hg:AllBare g') :
    Inv X pins σ H' { s with heap:=h',gens:=g',drawn:=d',toks:=t' }:=by
  have neL:∀ b o,X.s₀.heap.get? b=some o→b≠X.env.locals:=fun b o e=>Nat.ne_of_lt (Nat.lt_of_lt_of_le (Heap.lt_size e) I.ok.above)
  have neC:∀ b o,X.s₀.heap.get? b=some o→b∉X.ex→b∉ch:=fun b o e hx hb=>by
    rcases (hch b hb).1 with z | z
    · exact hx z
    · exact absurd (Nat.lt_of_lt_of_le (Heap.lt_size e) z) (Nat.lt_irrefl _)
  have cellK:∀ x c,X.env.cells.lookup x=some c→∀ v,s.heap.IsCell c v→h'.IsCell c v:=fun x c e v ⟨o,ho,hd⟩=>by
    have nch:c∉ch:=fun z=>(hch c z).2.2.1 x c e rfl
    by_cases hc:c∈X.fs
    · obtain ⟨sl,q⟩:=slot c o (I.cne x c e) hc nch ho (I.freeC x c e)
      exact ⟨_,q,hd⟩
    · exact ⟨o,keep c o (I.cne x c e) hc nch ho (I.freeC x c e),hd⟩
  refine ⟨I.ok,I.os,hg,⟨fun b o e n hb hx=>?_,fun b o e n hb hx=>?_,fun b o e n hx=>?_,fun b o e hx=>?_,fun b xs e=>tups b xs (I.base.tups b xs e),fun b o xs e=>frzs b o xs (I.base.frzs b o xs e),fun b p r e=>tbls b p r (I.base.tbls b p r e)⟩,?_,fun x c e=>?_,?_,fun x c e=>?_,fun p hp=>?_,hok,I.len⟩
  · exact keep b o (neL b o e) hb (neC b o e hx) (I.base.keep b o e n hb hx) (I.base.free b o e n hx)
  · obtain ⟨sl,e1⟩:=I.base.slot b o e n hb hx
    obtain ⟨sl',e2⟩:=slot b _ (neL b o e) hb (neC b o e hx) e1 (I.base.free b o e n hx)
    exact ⟨sl',e2⟩
  · obtain ⟨o',e1⟩:=I.base.there b o e hx
    exact free b o' (neC b o e hx) e1 (I.base.free b o e n hx)
  · obtain ⟨o',e1⟩:=I.base.there b o e hx
    exact there b o' (neC b o e hx) e1
  · obtain ⟨m,hn,hl⟩:=I.loc
    refine ⟨m,ns m hn,fun i x v e1 e2 e3=>?_⟩
    obtain ⟨u,r,l⟩:=hl i x v e1 e2 e3
    refine ⟨u,r,?_⟩
    rcases l with l | ⟨k,c,e,z⟩
    · exact .inl l
    · exact .inr ⟨k,c,e,cellK x c e _ z⟩
  · obtain ⟨v,z⟩:=I.cell x c e
    exact ⟨v,cellK x c e v z⟩
  · obtain ⟨m,⟨o,_,_,ho,_⟩,_⟩:=I.loc
    exact free _ o (fun z=>(hch _ z).2.1 rfl) ho I.free
  · obtain ⟨v,o,ho,hd⟩:=I.cell x c e
    exact free c o (fun z=>(hch c z).2.2.1 x c e rfl) ho (I.freeC x c e)
  · obtain ⟨e,n,ne,nf,d⟩:=I.pin p hp
    have nch:p.1∉ch:=fun z=>(hch p.1 z).2.2.2 p hp rfl
    exact ⟨keep p.1 p.2 ne nf nch e n,free p.1 p.2 nch e n,ne,nf,d⟩
theorem Inv.un {t':Nat} (I:Inv X pins σ H s) (u:Un X.fs [] H H' s.heap h') (hok:HOk X.prog X.w H' h'):Inv X pins σ H' { s with heap:=h',toks:=t' }:=by
  obtain ⟨m,⟨o,es,ep,ho,r⟩,_⟩:=id I.loc
  obtain ⟨sl,hL⟩:=u.any ho I.free (by simp)
  exact I.step (g':=s.gens) (d':=s.drawn) (ch:=[]) (fun _ z=>nomatch z) (fun b o _ hb _ e n=>u.keep b o e n hb (by simp)) (fun b o _ hb _ e n=>u.slot b o e n hb (by simp)) (fun b o _ e n=>u.free b o e n (by simp)) (fun b o _ e=>u.there b o e (by simp)) u.tups u.frzs u.tbls (fun m' hm=>by
    obtain ⟨o',es',ep',ho',r'⟩:=hm
    rw [ho] at ho'; cases ho'
    exact ⟨_,es',ep',hL,r'⟩) hok I.bare
theorem Inv.call {g':Array GenState} {t':Nat} {d':Drawn} {ch:List Addr} (I:Inv X pins σ H s) (u:Un (frs X.stack) ch H H' s.heap h') (hok:HOk X.prog X.w H' h') (hg:AllBare g')
    (hch:∀ b∈ch,(b∈X.ex∨X.s₀.heap.objs.size≤b)∧b≠X.env.locals∧(∀ x c,X.env.cells.lookup x=some c→c≠b)∧∀ p∈X.pn++pins,p.1≠b) :
    Inv X pins σ H' { s with heap:=h',gens:=g',drawn:=d',toks:=t' }:=by
  obtain ⟨m,⟨o,es,ep,ho,r⟩,_⟩:=id I.loc
  obtain ⟨sl,hL⟩:=u.any ho I.free fun z=>(hch _ z).2.1 rfl
  exact I.step (ch:=ch) hch (fun b o hL hb hc e n=>u.keep b o e n (fun z=>(List.mem_cons.mp (I.stkSub b z)).elim hL hb) hc) (fun b o _ _ hc e n=>u.any e n hc) (fun b o hc e n=>u.free b o e n hc) (fun b o hc e=>u.there b o e hc) u.tups u.frzs u.tbls (fun m' hm=>by
    obtain ⟨o',es',ep',ho',r'⟩:=hm
    rw [ho] at ho'; cases ho'
    exact ⟨_,es',ep',hL,r'⟩) hok hg
theorem Inv.turned {t':Nat} {it:Addr} (I:Inv X pins σ H s) (k:∀ b o,b≠it→s.heap.get? b=some o→h'.get? b=some o) (hn:H it=none) (hL:it≠X.env.locals)
    (h1:it∈X.ex∨X.s₀.heap.objs.size≤it) (h2:∀ x c,X.env.cells.lookup x=some c→c≠it) (h3:∀ p∈X.pn++pins,p.1≠it):Inv X pins σ H { s with heap:=h',toks:=t' }:=by
  have nit:∀ b u,H b=some u→b≠it:=fun b u e z=>by rw [z,hn] at e; cases e
  refine I.step (g':=s.gens) (d':=s.drawn) (ch:=[it]) (fun b hb=>?_) (fun b o _ _ hc e _=>k b o (fun z=>hc (by simp [z])) e) (fun b o _ _ hc e _=>⟨o.slots,k b o (fun z=>hc (by simp [z])) e⟩) (fun _ _ _ _ n=>n)
    (fun b o hc e=>⟨o,k b o (fun z=>hc (by simp [z])) e⟩) (fun _ _ e=>e) (fun _ _ _ e=>e) (fun _ _ _ e=>e) (fun m hm=>?_) (fun b u e=>?_) I.bare
  · have e:b=it:=by simpa using hb
    subst e
    exact ⟨h1,hL,h2,h3⟩
  · obtain ⟨o,es,ep,ho,r⟩:=hm
    exact ⟨o,es,ep,k _ o (Ne.symm hL) ho,r⟩
  · refine (I.hok b u e).stay (fun c v hc q=>k c v ?_ q) (fun _ q=>q) fun _ _ q=>q
    rcases hc with z | z
    · rw [z]; exact nit b u e
    · exact nit c _ z
theorem Inv.tok (I:Inv X pins σ H s) (t:Nat):Inv X pins σ H { s with toks:=t }:=I.un (h':=s.heap) (t':=t) Un.refl I.hok
theorem Inv.kept {t':Nat} (I:Inv X pins σ H s) (k:∀ b u,s.heap.get? b=some u→h'.get? b=some u):Inv X pins σ H { s with heap:=h',toks:=t' }:=I.un (Un.kept k) (I.hok.kept k)
theorem Inv.laid {a:Addr} {o:HO} {t':Nat} (I:Inv X pins σ H s) (k:∀ b u,s.heap.get? b=some u→h'.get? b=some u) (hp:s.heap.objs.size≤a) (new:ObjOk X.prog X.w (upd H a o) h' a o) :
    Inv X pins σ (upd H a o) { s with heap:=h',toks:=t' }:=I.un (Un.laid k hp (I.hok.fresh hp)) (I.hok.laid k hp new)
theorem Inv.write {x e:Addr} {o:HO} {t':Nat} (I:Inv X pins σ H s) (mu:Mut (H x)) (he:e=x∨H e=some (.own x)) (k:∀ b u,b≠e→s.heap.get? b=some u→h'.get? b=some u) (heo:∃ u,h'.get? e=some u)
    (new:ObjOk X.prog X.w (upd H x o) h' x o):Inv X pins σ (upd H x o) { s with heap:=h',toks:=t' }:=I.un (Un.write mu he k heo) (I.hok.write mu he k heo new)
theorem Inv.pins_of {pins':List (Addr×Obj)} (I:Inv X pins σ H s) (h:∀ p∈pins',s.heap.get? p.1=some p.2∧H p.1=none∧p.1≠X.env.locals∧p.1∉X.fs∧∀ v,p.2.data≠.cell v):Inv X pins' σ H s :=
  ⟨I.ok,I.os,I.bare,I.base,I.loc,I.cell,I.free,I.freeC,fun p hp=>(List.mem_append.mp hp).elim (fun z=>I.pin p (List.mem_append_left _ z)) (h p),I.hok,I.len⟩
theorem nodup_ix {N:List Str} (hN:N.Nodup) {i j:Nat} {x:Str} (a:N[i]?=some x) (b:N[j]?=some x):i=j:=by
  obtain ⟨h1,e1⟩:=List.getElem?_eq_some_iff.mp a
  obtain ⟨h2,e2⟩:=List.getElem?_eq_some_iff.mp b
  exact (List.getElem_inj hN).mp (e1.trans e2.symm)
theorem store_ok2 {M:Model} {A:Around} {E:Value→Shared→Prop} {i:Nat} {x:Str} {v:V} {u:Value} {Q:Unit→Shared→Prop} (I:Inv X pins σ H s) (hN:X.N.Nodup) (hi:X.N[i]?=some x) (hx:Loc X.env.scope x) (r:RelV v u)
    (h:∀ s',Inv X pins (σ.set i (some v)) H s'→(∃ a,Heap.SameBut a s.heap s'.heap∧(a=X.env.locals∨X.env.cells.lookup x=some a))→Q () s') (hf:X.fn x=true∨X.env.scope.names.lookup x=some .local:=by first | exact .inl rfl | exact .inr rfl | assumption):wpAny M A (storeName X.env x u) Q E s:=by
  obtain ⟨m,hn,hl⟩:=id I.loc
  have hcls:(X.env.scope.kind == .class || (X.env.scope.kind == .module && X.env.locals != X.env.globals))=false:=by rw [I.ok.kind]; rfl
  have hiσ:i<σ.length:=by rw [I.len]; exact (List.getElem?_eq_some_iff.mp hi).1
  have cne:=I.cne
  have tracked:∀ {a:Addr} {h':Heap},(∃ o,s.heap.get? a=some o∧H a=none)→Heap.SameBut a s.heap h'→HOk X.prog X.w H h':=fun {a h'} ha hs b ob e=>by
    obtain ⟨_,_,hfree⟩:=ha
    refine (I.hok b ob e).stay (fun c w' hc q=>(hs.2 c ?_).trans q) (fun _ q=>q) fun _ _ q=>q
    rintro rfl
    rcases hc with rfl | hc
    · rw [hfree] at e; cases e
    · rw [hfree] at hc; cases hc
  rcases hx with hk | hk
  · refine wpAny_storeName_local hk hn (fun h' hn' hs=>?_) hcls
    obtain ⟨oL,_,_,hoL,_⟩:=id hn
    refine h _ ⟨I.ok,I.os,I.bare,⟨fun b o e n hb hx=>?_,fun b o e n hb hx=>?_,I.base.free,fun b o e hx=>?_,I.base.tups,I.base.frzs,I.base.tbls⟩,⟨_,hn',fun j y v' e1 e2 e3=>?_⟩,fun y c e=>?_,I.free,I.freeC,fun p hp=>?_,tracked ⟨oL,hoL,I.free⟩ hs,by simpa using I.len⟩ ⟨_,hs,.inl rfl⟩
    · exact (hs.2 b (Nat.ne_of_lt (Nat.lt_of_lt_of_le (Heap.lt_size e) I.ok.above))).trans (I.base.keep b o e n hb hx)
    · obtain ⟨sl,e1⟩:=I.base.slot b o e n hb hx
      exact ⟨sl,(hs.2 b (Nat.ne_of_lt (Nat.lt_of_lt_of_le (Heap.lt_size e) I.ok.above))).trans e1⟩
    · obtain ⟨o',e1⟩:=I.base.there b o e hx
      exact ⟨o',(hs.2 b (Nat.ne_of_lt (Nat.lt_of_lt_of_le (Heap.lt_size e) I.ok.above))).trans e1⟩
    · by_cases hj:j=i
      · subst hj
        rw [hi] at e1; cases e1
        rw [List.getElem?_set_self hiσ] at e2
        cases e2
        exact ⟨u,r,.inl ⟨hk,by simp⟩⟩
      · rw [List.getElem?_set_ne (Ne.symm hj)] at e2
        obtain ⟨u',r',q⟩:=hl j y v' e1 e2 e3
        refine ⟨u',r',?_⟩
        rcases q with ⟨k,e⟩ | ⟨k,c,e,z⟩
        · refine .inl ⟨k,?_⟩
          have:y≠x:=fun e=>hj (nodup_ix hN e1 (e ▸ hi))
          simp [this,e]
        · exact .inr ⟨k,c,e,z.sameBut hs (cne y c e)⟩
    · obtain ⟨w',z⟩:=I.cell y c e
      exact ⟨w',z.sameBut hs (cne y c e)⟩
    · obtain ⟨e,n,ne,nf,d⟩:=I.pin p hp
      exact ⟨(hs.2 p.1 ne).trans e,n,ne,nf,d⟩
  · have hfn:X.fn x=true:=by
      rcases hf with z | z
      · exact z
      · rw [z] at hk; cases hk
    obtain ⟨c,hc⟩:=I.ok.has x (.inl hk)
    obtain ⟨w',z⟩:=I.cell x c hc
    refine wpAny_storeName_cell I.ok.kind hk hc z (fun h' hc' hs=>?_)
    obtain ⟨oc,hoc,hocd⟩:=id z
    refine h { s with heap:=h' } ⟨I.ok,I.os,I.bare,⟨fun b o e n hb hx=>?_,fun b o e n hb hx=>?_,I.base.free,fun b o e hx=>?_,I.base.tups,I.base.frzs,I.base.tbls⟩,⟨m,hn.sameBut hs (Ne.symm (cne x c hc)),fun j y v' e1 e2 e3=>?_⟩,fun y c' e=>?_,I.free,I.freeC,fun p hp=>?_,tracked ⟨oc,hoc,I.freeC x c hc⟩ hs,by simpa using I.len⟩ ⟨c,hs,.inr hc⟩
    · exact (hs.2 b (Nat.ne_of_lt (Nat.lt_of_lt_of_le (Heap.lt_size e) (I.ok.cab x c hfn hc)))).trans (I.base.keep b o e n hb hx)
    · obtain ⟨sl,e1⟩:=I.base.slot b o e n hb hx
      exact ⟨sl,(hs.2 b (Nat.ne_of_lt (Nat.lt_of_lt_of_le (Heap.lt_size e) (I.ok.cab x c hfn hc)))).trans e1⟩
    · obtain ⟨o',e1⟩:=I.base.there b o e hx
      exact ⟨o',(hs.2 b (Nat.ne_of_lt (Nat.lt_of_lt_of_le (Heap.lt_size e) (I.ok.cab x c hfn hc)))).trans e1⟩
    · by_cases hj:j=i
      · subst hj
        rw [hi] at e1; cases e1
        rw [List.getElem?_set_self hiσ] at e2
        cases e2
        exact ⟨u,r,.inr ⟨.inl hk,c,hc,hc'⟩⟩
      · rw [List.getElem?_set_ne (Ne.symm hj)] at e2
        obtain ⟨u',r',q⟩:=hl j y v' e1 e2 e3
        refine ⟨u',r',?_⟩
        rcases q with q | ⟨k,c',e,z'⟩
        · exact .inl q
        · refine .inr ⟨k,c',e,z'.sameBut hs ?_⟩
          rintro rfl
          exact hj (nodup_ix hN e1 (I.ok.inj _ _ _ e hc ▸ hi))
    · by_cases hcc:c'=c
      · subst hcc; exact ⟨_,hc'⟩
      · obtain ⟨w2,z2⟩:=I.cell y c' e
        exact ⟨w2,z2.sameBut hs hcc⟩
    · obtain ⟨e,n,ne,nf,d⟩:=I.pin p hp
      refine ⟨(hs.2 p.1 ?_).trans e,n,ne,nf,d⟩
      intro q
      rw [q,hoc] at e
      have q':oc=p.2:=Option.some.inj e
      exact d w' (by rw [← q']; exact hocd)
theorem store_ok {M:Model} {A:Around} {E:Value→Shared→Prop} {i:Nat} {x:Str} {v:V} {u:Value} {Q:Unit→Shared→Prop} (I:Inv X pins σ H s) (hN:X.N.Nodup) (hi:X.N[i]?=some x) (hx:Loc X.env.scope x) (r:RelV v u)
    (h:∀ s',Inv X pins (σ.set i (some v)) H s'→Q () s') (hf:X.fn x=true∨X.env.scope.names.lookup x=some .local:=by first | exact .inl rfl | exact .inr rfl | assumption):wpAny M A (storeName X.env x u) Q E s :=
  store_ok2 I hN hi hx r (fun s' I' _=>h s' I') hf
theorem Inv.call' {s':Shared} {ch:List Addr} (I:Inv X pins σ H s) (ho:s'.os=s.os) (u:Un (frs X.stack) ch H H' s.heap s'.heap) (hok:HOk X.prog X.w H' s'.heap) (hg:AllBare s'.gens)
    (hch:∀ b∈ch,(b∈X.ex∨X.s₀.heap.objs.size≤b)∧b≠X.env.locals∧(∀ x c,X.env.cells.lookup x=some c→c≠b)∧∀ p∈X.pn++pins,p.1≠b):Inv X pins σ H' s':=by
  obtain ⟨h',g',d',t',o'⟩:=s'
  have e:o'=s.os:=ho
  subst e
  exact I.call (g':=g') (t':=t') (d':=d') u hok hg hch
end
abbrev XK:=Value→Option Addr→Hp→Prop
abbrev St:=List (Option V)
abbrev VK:=V→Hp→Prop
abbrev TE:=St→Hp→VK→Prop
abbrev TT:=St→Hp→(Bool→Hp→Prop)→Prop
abbrev TA:=St→Hp→(List V→Hp→Prop)→Prop
structure Ends where
  nx:St→Hp→Prop
  rt:VK
  bk:St→Hp→Prop:=fun _ _=>False
  ct:St→Hp→Prop:=fun _ _=>False
abbrev TS:=Ends→St→Hp→Prop
def EP (X:Cx) (pins:List (Addr×Obj)) (σ:St) (Q:VK) (u:Value) (s':Shared):Prop:=∃ v H',Inv X pins σ H' s'∧RelV v u∧Q v H'
def TP (X:Cx) (pins:List (Addr×Obj)) (σ:St) (Q:Bool→Hp→Prop) (b:Bool) (s':Shared):Prop:=∃ H',Inv X pins σ H' s'∧Q b H'
def AP (X:Cx) (pins:List (Addr×Obj)) (σ:St) (Q:List V→Hp→Prop) (us:List Value) (s':Shared):Prop:=∃ vs H',Inv X pins σ H' s'∧Vals vs us∧Q vs H'
def SP (X:Cx) (pins:List (Addr×Obj)) (D:Ends) (f:Flow) (s':Shared):Prop :=
  match f with
  | .next=>∃ σ' H',Inv X pins σ' H' s'∧D.nx σ' H'
  | .brk=>∃ σ' H',Inv X pins σ' H' s'∧D.bk σ' H'
  | .cont=>∃ σ' H',Inv X pins σ' H' s'∧D.ct σ' H'
  | .ret u=>∃ v σ' H',Inv X pins σ' H' s'∧RelV v u∧D.rt v H'
def PE (X:Cx) (e:Expr) (t:TE):Prop :=
  ∀ (pins:List (Addr×Obj)) (s:Shared) (σ:St) (H:Hp) (Q:VK),Inv X pins σ H s→t σ H Q→wpAny (model X.prog X.w) X.A (eval e X.env) (EP X pins σ Q) X.xe s
def PT (X:Cx) (e:Expr) (t:TT):Prop :=
  ∀ (pins:List (Addr×Obj)) (s:Shared) (σ:St) (H:Hp) (Q:Bool→Hp→Prop),Inv X pins σ H s→t σ H Q→wpAny (model X.prog X.w) X.A (isTrue e X.env (eval e X.env)) (TP X pins σ Q) X.xe s
def PW (X:Cx) (e:Expr) (t:TT):Prop :=
  ∀ (whole:Sem Value) (pins:List (Addr×Obj)) (s:Shared) (σ:St) (H:Hp) (Q:Bool→Hp→Prop),Inv X pins σ H s→t σ H Q→wpAny (model X.prog X.w) X.A (isTrue e X.env whole) (TP X pins σ Q) X.xe s
theorem PW.pt {X:Cx} {e:Expr} {t:TT} (h:PW X e t):PT X e t:=h _
def PA (X:Cx) (es:List Expr) (t:TA):Prop :=
  ∀ (pos:Pos) (pins:List (Addr×Obj)) (s:Shared) (σ:St) (H:Hp) (Q:List V→Hp→Prop),Inv X pins σ H s→t σ H Q→wpAny (model X.prog X.w) X.A (spliced (backTo pos (starEach es X.env))) (AP X pins σ Q) X.xe s
def PS (X:Cx) (st:Stmt) (t:TS):Prop :=
  ∀ (pins:List (Addr×Obj)) (s:Shared) (σ:St) (H:Hp) (D:Ends),Inv X pins σ H s→t D σ H→wpAny (model X.prog X.w) X.A (exec st X.env) (SP X pins D) X.xe s
def PSs (X:Cx) (st:List Stmt) (t:TS):Prop :=
  ∀ (pins:List (Addr×Obj)) (s:Shared) (σ:St) (H:Hp) (D:Ends),Inv X pins σ H s→t D σ H→wpAny (model X.prog X.w) X.A (execs st X.env) (SP X pins D) X.xe s
theorem thn {α:Type} {t:Sem α} {Q Q':α→Shared→Prop} {M:Model} {A:Around} {E:Value→Shared→Prop} {s:Shared} (h:wpAny M A t Q E s) (hQ:∀ a s,Q a s→Q' a s):wpAny M A t Q' E s:=wpAny_mono h hQ fun _ _ x=>x
end L2
namespace L2
open PySem PySem.Spec PyProof.Rows
section
variable {X:Cx}
def tVar (i:Nat):TE:=fun σ H Q=>∃ v,σ[i]?=some (some v)∧Q v H
def tC (v:V):TE:=fun _ H Q=>Q v H
theorem pe_var {i:Nat} {x:Str} {pos:Pos} (hN:X.N[i]?=some x) (hv:Vis X.env.scope x) (hd:(x == ("__debug__" : Str))=false:=by decide) (hcd:(x == ("__classdict__" : Str))=false:=by decide):PE X (.Name x pos) (tVar i):=by
  intro pins s σ H Q I h
  obtain ⟨v,e,h⟩:=h
  obtain ⟨m,hn,hl⟩:=I.loc
  obtain ⟨u,r,l⟩:=hl i x v hN e hv
  have fin:EP X pins σ Q u s:=⟨v,H,I,r,h⟩
  rcases l with ⟨hk,hm⟩ | ⟨hk,c,hc,hcell⟩
  · exact wpAny_Name (wpAny_loadName_local I.ok.kind hk hn hm fin) hd
  · rcases hk with hk | hk
    · exact wpAny_Name (wpAny_loadName_cell I.ok.kind hk hc hcell fin) hd
    · exact wpAny_Name (wpAny_loadName_free I.ok.kind hk hc hcell fin hcd) hd
theorem pe_int {i j pos}:PE X (.Constant (.int i) j pos) (tC (.int i)):=fun _ _ _ H _ I h=>wpAny_Constant_int ⟨.int i,H,I.tok _,⟨_,rfl⟩,h⟩
theorem pe_bl {b j pos}:PE X (.Constant (.bool b) j pos) (tC (.bl b)):=fun _ _ _ H _ I h=>Constant_bool ⟨.bl b,H,I,rfl,h⟩
theorem pe_non {j pos}:PE X (.Constant .none j pos) (tC .non):=fun _ _ _ H _ I h=>Constant_none ⟨.non,H,I,rfl,h⟩
theorem pe_str {x j pos}:PE X (.Constant (.str x) j pos) (tC (.str x)):=fun _ _ _ H _ I h=>Calls.Constant_str ⟨.str x,H,I.tok _,⟨_,rfl⟩,h⟩
def Gl (X:Cx) (x:Str):Prop:=X.env.kindOf x=some .globalImplicit
theorem ld_glob {E:Value→Shared→Prop} {pins:List (Addr×Obj)} {s:Shared} {σ:St} {H:Hp} {x:Str} {u:Value} {pos:Pos} {Q:Value→Shared→Prop} (I:Inv X pins σ H s) (hg:Gl X x) (hm:X.mg x=some u) (h:Q u s)
    (hd:(x == ("__debug__" : Str))=false:=by decide):wpAny (model X.prog X.w) X.A (eval (.Name x pos) X.env) Q E s :=
  Calls.Name_function_global I.ok.kind hg (Calls.loadGlobal_global (by rw [I.ok.glob]; exact I.mod.glob.keeps I.bk) hm h) hd
theorem ld_blt {E:Value→Shared→Prop} {pins:List (Addr×Obj)} {s:Shared} {σ:St} {H:Hp} {x:Str} {u:Value} {pos:Pos} {Q:Value→Shared→Prop} (I:Inv X pins σ H s) (hg:Gl X x) (hm:X.mg x=none) (hv:bootBuiltins x=some u) (h:Q u s)
    (hn:x ≠ "__name__" := by decide) (hd:(x == ("__debug__" : Str))=false:=by decide):wpAny (model X.prog X.w) X.A (eval (.Name x pos) X.env) Q E s:=by
  obtain ⟨mb,h1,h2⟩:=I.mod.blt
  exact Calls.Name_function_global I.ok.kind hg (Calls.loadGlobal_builtin (by rw [I.ok.glob]; exact I.mod.glob.keeps I.bk) hm (by rw [I.ok.blt]; exact h1.keeps I.bk) ((h2 x hn).trans hv) h) hd
theorem pe_glob {x:Str} {v:V} {u:Value} {pos:Pos} (hg:Gl X x) (hm:X.mg x=some u) (r:RelV v u) (hd:(x == ("__debug__" : Str))=false:=by decide):PE X (.Name x pos) (tC v) :=
  fun _ _ _ H _ I h=>ld_glob I hg hm ⟨v,H,I,r,h⟩ hd
theorem pe_bltn {x:Str} {v:V} {u:Value} {pos:Pos} (hg:Gl X x) (hm:X.mg x=none) (hv:bootBuiltins x=some u) (r:RelV v u) (hn:x ≠ "__name__" := by decide) (hd:(x == ("__debug__" : Str))=false:=by decide):PE X (.Name x pos) (tC v) :=
  fun _ _ _ H _ I h=>ld_blt I hg hm hv ⟨v,H,I,r,h⟩ hn hd
variable {a b:Expr} {ta tb:TE} {pos:Pos}
def PC (X:Cx) (op:CmpOp) (a b:Expr) (t:TE):Prop :=
  ∀ (pins:List (Addr×Obj)) (s:Shared) (σ:St) (H:Hp) (Q:VK),Inv X pins σ H s→t σ H Q →
    wpAny (model X.prog X.w) X.A (eval a X.env) (fun v s₁=>wpAny (model X.prog X.w) X.A (eval b X.env) (fun u s₂=>wpAny (model X.prog X.w) X.A (compareOp op v u) (EP X pins σ Q) X.xe s₂) X.xe s₁) X.xe s
theorem nobehind (b:Expr) {op:CmpOp} (h:op≠.In) (h2:op≠.NotIn):behindInMarks op b=false:=by
  have e1:(op == CmpOp.In)=false:=by cases op <;> first | rfl | exact absurd rfl h
  have e2:(op == CmpOp.NotIn)=false:=by cases op <;> first | rfl | exact absurd rfl h2
  cases b <;> simp [behindInMarks,e1,e2]
def tIsN (ta:TE):TE:=fun σ H Q=>ta σ H fun x H1=>Q (.bl (decide (x=.non))) H1
def tNotN (ta:TE):TE:=fun σ H Q=>ta σ H fun x H1=>Q (.bl (!decide (x=.non))) H1
theorem RelV.none_iff {x:V} {v:Value} (r:RelV x v):(v == Value.none)=decide (x=.non):=by
  cases x with
  | non=>cases r; rfl
  | bl _=>cases r; rfl
  | int _=>obtain ⟨t,rfl⟩:=r; rfl
  | str _=>obtain ⟨t,rfl⟩:=r; rfl
  | byt _=>obtain ⟨t,rfl⟩:=r; rfl
  | flt _=>obtain ⟨t,rfl⟩:=r; rfl
  | ref _=>cases r; rfl
  | ty _=>cases r; rfl
theorem pc_isN {j pos'} (ha:PE X a ta):PC X .Is a (.Constant .none j pos') (tIsN ta):=by
  intro pins s σ H Q I h
  refine thn (ha pins s σ H _ I h) fun v s1 ⟨x,H1,I1,r1,q1⟩=>?_
  exact Constant_none (is_none_gen ⟨.bl _,H1,I1,by rw [r1.none_iff]; rfl,q1⟩)
theorem pc_notN {j pos'} (ha:PE X a ta):PC X .IsNot a (.Constant .none j pos') (tNotN ta):=by
  intro pins s σ H Q I h
  refine thn (ha pins s σ H _ I h) fun v s1 ⟨x,H1,I1,r1,q1⟩=>?_
  exact Constant_none (isnot_none_gen ⟨.bl _,H1,I1,by rw [r1.none_iff]; rfl,q1⟩)
def tB (t:TE):TT:=fun σ H Q=>t σ H fun x H1=>∃ c,x=.bl c∧Q c H1
theorem pe_cmp {op:CmpOp} {t:TE} (h:PC X op a b t) (h1:behindInMarks op b=false:=by first | exact nobehind _ (by decide) (by decide) | rfl):PE X (.Compare a [op] [b] pos) t:=fun pins s σ H Q I hw=>wpAny_Compare1 (h pins s σ H Q I hw) h1
theorem pt_cmp {op:CmpOp} {t:TE} (h:PC X op a b t) (h1:behindInMarks op b=false:=by first | exact nobehind _ (by decide) (by decide) | rfl):PT X (.Compare a [op] [b] pos) (tB t):=by
  intro pins s σ H Q I hw
  refine wpAny_isTrue_Compare1 (thn (h pins s σ H _ I hw) fun v s1 h1=>thn h1 fun u s2 h2=>thn h2 fun c s3 ⟨x,H1,I1,r1,q1⟩=>?_) h1
  obtain ⟨d,rfl,q⟩:=q1
  cases r1
  exact wpAny_truthy_bool ⟨H1,I1,q⟩
theorem pt_val {e:Expr} {t:TE} (h:PE X e t) (he:∀ whole,isTrue e X.env whole=(do let v ← whole; standAt e.pos; holding [v] (truthy v)):=by intro _; rfl):PT X e (tB t):=by
  intro pins s σ H Q I hw
  refine isTrue_plain (thn (h pins s σ H _ I hw) fun v s1 ⟨x,H1,I1,r1,q1⟩=>?_) (he _)
  obtain ⟨d,rfl,q⟩:=q1
  cases r1
  exact wpAny_truthy_bool ⟨H1,I1,q⟩
variable {tA tB':TT} {rest:List Expr}
def tAnd (t u:TT):TT:=fun σ H Q=>t σ H fun c H1=>if c=true then u σ H1 Q else Q false H1
def tOr (t u:TT):TT:=fun σ H Q=>t σ H fun c H1=>if c=true then Q true H1 else u σ H1 Q
def tNot (t:TT):TT:=fun σ H Q=>t σ H fun c H1=>Q (!c) H1
theorem pw_and1 (ha:PT X a tA):PW X (.BoolOp .And [a] pos) tA:=by
  intro wh pins s σ H Q I h
  refine isTrue_and (thn (ha pins s σ H Q I h) fun c s1 e=>?_)
  cases c with
  | true=>exact isTrue_and_nil e
  | false=>exact e
theorem pw_or1 (ha:PT X a tA):PW X (.BoolOp .Or [a] pos) tA:=by
  intro wh pins s σ H Q I h
  refine isTrue_or (thn (ha pins s σ H Q I h) fun c s1 e=>?_)
  cases c with
  | false=>exact isTrue_or_nil e
  | true=>exact e
theorem pw_and (ha:PT X a tA) (hb:PW X (.BoolOp .And (b :: rest) pos) tB'):PW X (.BoolOp .And (a :: b :: rest) pos) (tAnd tA tB'):=by
  intro wh pins s σ H Q I h
  refine isTrue_and (thn (ha pins s σ H _ I h) fun c s1 ⟨H1,I1,q1⟩=>?_)
  cases c with
  | true=>exact hb wh pins s1 σ H1 Q I1 q1
  | false=>exact ⟨H1,I1,q1⟩
theorem pw_or (ha:PT X a tA) (hb:PW X (.BoolOp .Or (b :: rest) pos) tB'):PW X (.BoolOp .Or (a :: b :: rest) pos) (tOr tA tB'):=by
  intro wh pins s σ H Q I h
  refine isTrue_or (thn (ha pins s σ H _ I h) fun c s1 ⟨H1,I1,q1⟩=>?_)
  cases c with
  | true=>exact ⟨H1,I1,q1⟩
  | false=>exact hb wh pins s1 σ H1 Q I1 q1
theorem pt_not (ha:PT X a tA):PT X (.UnaryOp .Not a pos) (tNot tA):=by
  intro pins s σ H Q I h
  exact isTrue_not (ha pins s σ H (fun c H1=>Q (!c) H1) I h)
def tAndV (ta tb:TE):TE:=fun σ H Q=>ta σ H fun x H1=>∃ c,x=.bl c∧if c=true then tb σ H1 Q else Q (.bl false) H1
def tOrV (ta tb:TE):TE:=fun σ H Q=>ta σ H fun x H1=>∃ c,x=.bl c∧if c=true then Q (.bl true) H1 else tb σ H1 Q
def tNotV (ta:TE):TE:=fun σ H Q=>ta σ H fun x H1=>∃ c,x=.bl c∧Q (.bl (!c)) H1
theorem pe_one {op} {t:TE} (h:PE X a t):PE X (.BoolOp op [a] pos) t:=fun pins s σ H Q I hw=>BoolOp_one (h pins s σ H Q I hw)
theorem pe_and (ha:PE X a ta) (hb:PE X (.BoolOp .And (b :: rest) pos) tb):PE X (.BoolOp .And (a :: b :: rest) pos) (tAndV ta tb):=by
  intro pins s σ H Q I h
  refine BoolOp_and (thn (ha pins s σ H _ I h) fun v s1 ⟨x,H1,I1,r1,q1⟩=>?_)
  obtain ⟨c,rfl,q1⟩:=q1
  cases r1
  refine wpAny_truthy_bool ?_
  cases c with
  | true=>exact hb pins s1 σ H1 Q I1 q1
  | false=>exact ⟨.bl false,H1,I1,rfl,q1⟩
theorem pe_or (ha:PE X a ta) (hb:PE X (.BoolOp .Or (b :: rest) pos) tb):PE X (.BoolOp .Or (a :: b :: rest) pos) (tOrV ta tb):=by
  intro pins s σ H Q I h
  refine BoolOp_or (thn (ha pins s σ H _ I h) fun v s1 ⟨x,H1,I1,r1,q1⟩=>?_)
  obtain ⟨c,rfl,q1⟩:=q1
  cases r1
  refine wpAny_truthy_bool ?_
  cases c with
  | false=>exact hb pins s1 σ H1 Q I1 q1
  | true=>exact ⟨.bl true,H1,I1,rfl,q1⟩
theorem pe_not (ha:PE X a ta):PE X (.UnaryOp .Not a pos) (tNotV ta):=by
  intro pins s σ H Q I h
  refine UnaryOp_ (thn (ha pins s σ H _ I h) fun v s1 ⟨x,H1,I1,r1,q1⟩=>?_)
  obtain ⟨c,rfl,q1⟩:=q1
  cases r1
  exact not_of (wpAny_truthy_bool ⟨.bl (!c),H1,I1,rfl,q1⟩)
def tIf (t:TT) (ta tb:TE):TE:=fun σ H Q=>t σ H fun c H1=>if c=true then ta σ H1 Q else tb σ H1 Q
theorem pe_ifExp {c:Expr} (hc:PT X c tA) (ha:PE X a ta) (hb:PE X b tb):PE X (.IfExp c a b pos) (tIf tA ta tb):=by
  intro pins s σ H Q I h
  refine wpAny_IfExp (thn (hc pins s σ H _ I h) fun d s1 ⟨H1,I1,q1⟩=>?_)
  cases d with
  | true=>exact ha pins s1 σ H1 Q I1 q1
  | false=>exact hb pins s1 σ H1 Q I1 q1
end
end L2
namespace L2
open PySem PySem.Spec PyProof.Rows
def SqL (K:PySem.W.Frag) (H:Hp) (a:Addr) (xs:List V):Prop :=
  Rd H a (.lst xs) ∨
    ∃ (o:Obj) (its:Array Value) (n:Nat),K.lookup a=some o∧o.cls=.type "list" ∧ o.dict=none∧o.data=.seq its n∧its.size≤sizeLine∧Vals xs its.toList
def SqT (K:PySem.W.Frag) (H:Hp) (a:Addr) (xs:List V):Prop :=
  Rd H a (.tup xs) ∨
    ∃ (o:Obj) (its:Array Value) (n:Nat),K.lookup a=some o∧o.cls=.type "tuple" ∧ o.data=.seq its n∧its.size≤sizeLine∧Vals xs its.toList
def absV:Value→Option V
  | .none=>some .non
  | .bool b=>some (.bl b)
  | .int i _=>some (.int i)
  | .str x _=>some (.str x)
  | .bytes b _=>some (.byt b)
  | .float b _=>some (.flt b)
  | .ref a=>some (.ref a)
  | .type n=>some (.ty n)
  | _=>none
theorem RelV.abs {x:V} {u:Value} (r:RelV x u):absV u=some x:=by
  cases x with
  | non=>cases r; rfl
  | bl _=>cases r; rfl
  | int _=>obtain ⟨t,rfl⟩:=r; rfl
  | str _=>obtain ⟨t,rfl⟩:=r; rfl
  | byt _=>obtain ⟨t,rfl⟩:=r; rfl
  | flt _=>obtain ⟨t,rfl⟩:=r; rfl
  | ref _=>cases r; rfl
  | ty _=>cases r; rfl
theorem RelV.inj {x y:V} {u:Value} (r:RelV x u) (q:RelV y u):x=y:=Option.some.inj (r.abs.symm.trans q.abs)
theorem Vals.inj:∀ {xs ys:List V} {us:List Value},Vals xs us→Vals ys us→xs=ys
  | _,_,_,.nil,.nil=>rfl
  | _,_,_,.cons r t,.cons r' t'=>by rw [r.inj r',Vals.inj t t']
section
variable {X:Cx} {pins:List (Addr×Obj)} {σ:St} {H:Hp} {s:Shared} {a:Addr} {xs ys:List V}
theorem SqL.of {K:PySem.W.Frag} (h:H a=some (.lst xs)):SqL K H a xs:=.inl (.inl h)
theorem SqT.of {K:PySem.W.Frag} (h:H a=some (.tup xs)):SqT K H a xs:=.inl (.inl h)
theorem Inv.list (I:Inv X pins σ H s) (h:SqL X.K H a xs):∃ its:List Value,Vals xs its∧PlainL s.heap a its.toArray∧xs.length≤sizeLine:=by
  rcases h with h | ⟨o,its,n,hk,hc,hd,hs,hz,r⟩
  · obtain ⟨z,its,n,r,e⟩:=h.ok I.hok
    exact ⟨its,r,⟨_,n,e,rfl,rfl,rfl⟩,z⟩
  · refine ⟨its.toList,r,⟨o,n,I.kIn a o hk,hc,hd,by simpa using hs⟩,?_⟩
    have e:=r.length
    simp only [Array.length_toList] at e
    omega
theorem Inv.tuple (I:Inv X pins σ H s) (h:SqT X.K H a xs):∃ its:List Value,Vals xs its∧IsTup s.heap a its.toArray∧xs.length≤sizeLine:=by
  rcases h with h | ⟨o,its,n,hk,hc,hs,hz,r⟩
  · obtain ⟨z,its,r,p⟩:=h.ok I.hok
    exact ⟨its,r,p,z⟩
  · refine ⟨its.toList,r,⟨o,I.kIn a o hk,hc,n,by simpa using hs⟩,?_⟩
    have e:=r.length
    simp only [Array.length_toList] at e
    omega
theorem Inv.list_inj (I:Inv X pins σ H s) (h:SqL X.K H a xs) (h':SqL X.K H a ys):xs=ys:=by
  obtain ⟨its,r,⟨o,n,e,_,_,d⟩,_⟩:=I.list h
  obtain ⟨its',r',⟨o',n',e',_,_,d'⟩,_⟩:=I.list h'
  rw [e] at e'; cases e'
  rw [d] at d'
  injection d' with d1 _
  have:its=its':=by simpa using congrArg Array.toList d1
  subst this
  exact r.inj r'
theorem Inv.tuple_inj (I:Inv X pins σ H s) (h:SqT X.K H a xs) (h':SqT X.K H a ys):xs=ys:=by
  obtain ⟨its,r,⟨o,e,_,n,d⟩,_⟩:=I.tuple h
  obtain ⟨its',r',⟨o',e',_,n',d'⟩,_⟩:=I.tuple h'
  rw [e] at e'; cases e'
  rw [d] at d'
  injection d' with d1 _
  have:its=its':=by simpa using congrArg Array.toList d1
  subst this
  exact r.inj r'
end
abbrev Cx.wish (X:Cx) (E:Value→Shared→Prop):Cx:={ X with xe:=E }
abbrev Cx.nox (X:Cx):Cx:=X.wish fun _ _=>False
theorem Cx.Ok.wish {X:Cx} (ok:X.Ok) (E:Value→Shared→Prop):(X.wish E).Ok :=
  ⟨ok.mod,ok.kind,ok.glob,ok.blt,ok.above,ok.inj,ok.has,ok.cab,ok.hd,ok.frames,ok.stk,ok.exf,ok.bs,ok.bsz,ok.noex,ok.exfs,ok.funs,ok.frf⟩
theorem Cx.Ok.unwish {X:Cx} {E:Value→Shared→Prop} (ok:(X.wish E).Ok):X.Ok :=
  ⟨ok.mod,ok.kind,ok.glob,ok.blt,ok.above,ok.inj,ok.has,ok.cab,ok.hd,ok.frames,ok.stk,ok.exf,ok.bs,ok.bsz,ok.noex,ok.exfs,ok.funs,ok.frf⟩
section
variable {X:Cx} {pins:List (Addr×Obj)} {σ:St} {H:Hp} {s:Shared} {E:Value→Shared→Prop}
theorem Inv.wish (I:Inv X pins σ H s) (E:Value→Shared→Prop):Inv (X.wish E) pins σ H s:=⟨I.ok.wish E,I.os,I.bare,I.base,I.loc,I.cell,I.free,I.freeC,I.pin,I.hok,I.len⟩
theorem Inv.unwish (I:Inv (X.wish E) pins σ H s):Inv X pins σ H s:=⟨I.ok.unwish,I.os,I.bare,I.base,I.loc,I.cell,I.free,I.freeC,I.pin,I.hok,I.len⟩
theorem SP.unwish {D:Ends} {f:Flow} {s':Shared} (h:SP (X.wish E) pins D f s'):SP X pins D f s':=by
  cases f with
  | next=>obtain ⟨σ',H',I,q⟩:=h; exact ⟨σ',H',I.unwish,q⟩
  | brk=>obtain ⟨σ',H',I,q⟩:=h; exact ⟨σ',H',I.unwish,q⟩
  | cont=>obtain ⟨σ',H',I,q⟩:=h; exact ⟨σ',H',I.unwish,q⟩
  | ret u=>obtain ⟨v,σ',H',I,r,q⟩:=h; exact ⟨v,σ',H',I.unwish,r,q⟩
theorem PSs.nox {st:List Stmt} {t:TS} (h:PSs X.nox st t):PSs X st t:=fun pins s σ H D I hw =>
  wpAny_mono (h pins s σ H D (I.wish _) hw) (fun _ _ q=>q.unwish) fun _ _ z=>False.elim z
end
section
variable {X:Cx} {st:Stmt} {rest:List Stmt} {t u:TS} {e:Expr} {te:TE} {pos:Pos}
def tNext:TS:=fun D σ H=>D.nx σ H
def tSeq (t u:TS):TS:=fun D σ H=>t { D with nx:=u D } σ H
theorem pss_nil:PSs X [] tNext:=fun _ _ σ H _ I h=>wpAny_execs_nil ⟨σ,H,I,h⟩
theorem pss_cons (h1:PS X st t) (h2:PSs X rest u):PSs X (st :: rest) (tSeq t u):=by
  intro pins s σ H D I h
  refine wpAny_execs_cons (thn (h1 pins s σ H { D with nx:=u D } I h) fun f s1 q=>?_)
  cases f with
  | next =>
    obtain ⟨σ',H',I',q⟩:=q
    exact h2 pins s1 σ' H' D I' q
  | ret v=>exact q
  | brk=>exact q
  | cont=>exact q
theorem pss_one (h1:PS X st t):PSs X [st] t:=by
  intro pins s σ H D I h
  refine wpAny_execs_cons (thn (h1 pins s σ H D I h) fun f s1 q=>?_)
  cases f with
  | next=>exact wpAny_execs_nil q
  | ret v=>exact q
  | brk=>exact q
  | cont=>exact q
theorem Inv.quiet {pins:List (Addr×Obj)} {σ:St} {H:Hp} {s:Shared} (I:Inv X pins σ H s):interactive X.env=false:=by simp [interactive,I.ok.kind]
def tDrop (te:TE):TS:=fun D σ H=>te σ H fun _ H1=>D.nx σ H1
theorem ps_expr (he:PE X e te) (hs:swapsWith e none pos.line X.env=pure false:=by rfl):PS X (.Expr e pos) (tDrop te):=by
  intro pins s σ H D I h
  exact wpAny_Expr_any (thn (he pins s σ H _ I h) fun v s1 ⟨x,H1,I1,r1,q1⟩=>⟨σ,H1,I1,q1⟩) I.quiet hs
def tRet (te:TE):TS:=fun D σ H=>te σ H D.rt
theorem ps_ret (he:PE X e te):PS X (.Return (some e) pos) (tRet te):=by
  intro pins s σ H D I h
  exact wpAny_Return_some (thn (he pins s σ H _ I h) fun v s1 ⟨x,H1,I1,r1,q1⟩=>⟨x,σ,H1,I1,r1,q1⟩)
def tIfS (c:TT) (t u:TS):TS:=fun D σ H=>c σ H fun b H1=>if b=true then t D σ H1 else u D σ H1
theorem ps_if {c:Expr} {a b:List Stmt} {tc:TT} (hc:PT X c tc) (ha:PSs X a t) (hb:PSs X b u):PS X (.If c a b pos) (tIfS tc t u):=by
  intro pins s σ H D I h
  refine wpAny_If (thn (hc pins s σ H _ I h) fun d s1 ⟨H1,I1,q1⟩=>?_)
  cases d with
  | true=>exact ha pins s1 σ H1 D I1 q1
  | false=>exact hb pins s1 σ H1 D I1 q1
end
abbrev TG:=V→St→Hp→(St→Hp→Prop)→Prop
abbrev TGs:=List V→St→Hp→(St→Hp→Prop)→Prop
def PG (X:Cx) (target:Expr) (t:TG):Prop :=
  ∀ (pins:List (Addr×Obj)) (s:Shared) (σ:St) (H:Hp) (v:V) (u:Value) (Q:St→Hp→Prop),Inv X pins σ H s→RelV v u→t v σ H Q →
    wpAny (model X.prog X.w) X.A (assign target X.env u) (fun _ s'=>∃ σ' H',Inv X pins σ' H' s'∧Q σ' H') X.xe s
def PGs (X:Cx) (ts:List Expr) (t:TGs):Prop :=
  ∀ (pins:List (Addr×Obj)) (s:Shared) (σ:St) (H:Hp) (vs:List V) (us:List Value) (Q:St→Hp→Prop),Inv X pins σ H s→Vals vs us→t vs σ H Q →
    wpAny (model X.prog X.w) X.A (assignInOrder ((assignEach ts X.env).map (·.2)) us) (fun _ s'=>∃ σ' H',Inv X pins σ' H' s'∧Q σ' H') X.xe s
abbrev TSet:=V→V→V→Hp→(Hp→Prop)→Prop
def PSet (X:Cx) (t:TSet):Prop :=
  ∀ (pins:List (Addr×Obj)) (s:Shared) (σ:St) (H:Hp) (o i v:V) (ov iv u:Value) (Q:Hp→Prop),Inv X pins σ H s→RelV o ov→RelV i iv→RelV v u→t o i v H Q →
    wpAny (model X.prog X.w) X.A (setItem ov iv u) (fun _ s'=>∃ H',Inv X pins σ H' s'∧Q H') X.xe s
section
variable {X:Cx} {pos:Pos}
def gName (i:Nat):TG:=fun v σ H Q=>Q (σ.set i (some v)) H
theorem pg_name {i:Nat} {x:Str} (hN:X.N.Nodup) (hi:X.N[i]?=some x) (hx:Loc X.env.scope x) (hf:X.fn x=true∨X.env.scope.names.lookup x=some .local:=by first | exact .inl rfl | exact .inr rfl | assumption):PG X (.Name x pos) (gName i):=by
  intro pins s σ H v u Q I r h
  exact wpAny_assign_Name (store_ok I hN hi hx r (fun s' I'=>⟨_,H,I',h⟩) hf)
def gNil:TGs:=fun vs σ H Q=>vs=[]∧Q σ H
def gCons (t:TG) (u:TGs):TGs:=fun vs σ H Q=>∃ v r,vs=v :: r∧t v σ H fun σ' H'=>u r σ' H' Q
theorem pgs_nil:PGs X [] gNil:=by
  intro pins s σ H vs us Q I r h
  obtain ⟨e,h⟩:=h
  subst e
  cases r
  exact assignInOrder_nil ⟨σ,H,I,h⟩
theorem pgs_cons {e:Expr} {es:List Expr} {t:TG} {u:TGs} (h1:PG X e t) (h2:PGs X es u)
    (hs:(assignEach (e :: es) X.env).map (·.2)=assign e X.env :: (assignEach es X.env).map (·.2):=by rfl):PGs X (e :: es) (gCons t u):=by
  intro pins s σ H vs us Q I r h
  obtain ⟨v,vr,e1,h⟩:=h
  subst e1
  cases r with
  | cons r rr =>
    rw [hs]
    refine assignInOrder_cons (thn (h1 pins s σ H _ _ _ I r h) fun _ s1 ⟨σ1,H1,I1,q1⟩=>?_)
    exact h2 pins s1 σ1 H1 _ _ Q I1 rr q1
def gTup (K:PySem.W.Frag) (n:Nat) (t:TGs):TG:=fun v σ H Q=>∃ a xs,v=.ref a∧SqT K H a xs∧xs.length=n∧t xs σ H Q
theorem pg_tup {es:List Expr} {k:Nat} {t:TGs} {n:Nat} (hc:X.calm=true) (h:PGs X es t)
    (hn:(assignEach es X.env).length=n:=by rfl) (hst:(assignEach es X.env).findIdx? (·.1)=none:=by rfl):PG X (.Tuple es k pos) (gTup X.K n t):=by
  intro pins s σ H v u Q I r hw
  obtain ⟨a,xs,e1,hq,hl,hw⟩:=hw
  subst e1
  cases r
  obtain ⟨its,rv,ht,hz⟩:=I.tuple hq
  refine assign_Tuple_tuple (I.ok.hd hc) ht (by simp [hn,← hl,rv.length]) hst fun h' hx=>?_
  have I1:Inv X pins σ H { s with heap:=h' }:=I.kept (t':=s.toks) fun b o e=>hx b o (Nat.ne_of_lt (Heap.lt_size e)) e
  exact h pins _ σ H xs _ Q I1 (by simpa using rv) hw
def gSub (to ti:TE) (t:TSet):TG:=fun v σ H Q=>to σ H fun o H1=>ti σ H1 fun i H2=>t o i v H2 fun H3=>Q σ H3
theorem pg_sub {o i:Expr} {to ti:TE} {t:TSet} (ho:PE X o to) (hi:PE X i ti) (hs:PSet X t)
    (ha:∀ v,assign (.Subscript o i pos) X.env v=(do
      let ov ← holding [v] (eval o X.env)
      let iv ← holding [v,ov] (eval i X.env)
      standAt pos
      holding [v,ov,iv] (setItem ov iv v)
      release [v,ov,iv] []):=by intro _; rfl):PG X (.Subscript o i pos) (gSub to ti t):=by
  intro pins s σ H v u Q I r h
  rw [ha]
  refine wpAny_bind (wpAny_holding (thn (ho pins s σ H _ I h) fun ov s1 ⟨x,H1,I1,r1,q1⟩=>?_))
  refine wpAny_bind (wpAny_holding (thn (hi pins s1 σ H1 _ I1 q1) fun iv s2 ⟨y,H2,I2,r2,q2⟩=>?_))
  refine wpAny_bind (wpAny_standAt (wpAny_bind (wpAny_holding (thn (hs pins s2 σ H2 x y v ov iv u _ I2 r1 r2 r q2) fun _ s3 ⟨H3,I3,q3⟩=>?_))))
  exact wpAny_release ⟨σ,H3,I3,q3⟩
def tAsg (te:TE) (g:TG):TS:=fun D σ H=>te σ H fun x H1=>g x σ H1 D.nx
theorem ps_asg {tg e:Expr} {te:TE} {g:TG} (he:PE X e te) (hg:PG X tg g) (hs:swapsWithSole [tg] e pos.line X.env=pure false:=by rfl) (hw:swappedStores [tg] e X.env=pure none:=by rfl)
    (h1:(assignEach [tg] X.env).map (·.2)=[assign tg X.env]:=by rfl):PS X (.Assign [tg] e pos) (tAsg te g):=by
  intro pins s σ H D I h
  refine wpAny_Assign_stores (thn (he pins s σ H _ I h) fun v s1 ⟨x,H1,I1,r1,q1⟩=>?_) hs hw
  rw [h1]
  exact thn (hg pins s1 σ H1 x v _ I1 r1 q1) fun _ s2 q=>q
theorem ps_set {i:Nat} {x:Str} {e:Expr} {te:TE} {pos':Pos} (hN:X.N.Nodup) (hi:X.N[i]?=some x) (hx:Loc X.env.scope x) (he:PE X e te) (hs:swapsWith e (some (.Name x pos')) pos.line X.env=pure false:=by rfl) (hf:X.fn x=true∨X.env.scope.names.lookup x=some .local:=by first | exact .inl rfl | exact .inr rfl | assumption) :
    PS X (.Assign [.Name x pos'] e pos) (tAsg te (gName i)):=by
  intro pins s σ H D I h
  refine wpAny_Assign_Name (thn (he pins s σ H _ I h) fun v s1 ⟨y,H1,I1,r1,q1⟩=>?_) hs
  exact store_ok I1 hN hi hx r1 (fun s2 I2=>⟨_,H1,I2,q1⟩) hf
def tPar (i j:Nat) (ta:TA):TS:=fun D σ H=>ta σ H fun vs H1=>∃ v w,vs=[v,w]∧D.nx ((σ.set i (some v)).set j (some w)) H1
theorem ps_par {i j:Nat} {x y:Str} {a b:Expr} {ta:TA} {px py pt:Pos} {kt k2 pt2} (hc:X.calm=true) (hN:X.N.Nodup) (hi:X.N[i]?=some x) (hj:X.N[j]?=some y) (hij:i≠j)
    (hx:X.env.scope.names.lookup x=some .local) (hy:X.env.scope.names.lookup y=some .local) (ha:PA X [a,b] ta)
    (hw:swappedStores [.Tuple [.Name x px,.Name y py] kt pt] (.Tuple [a,b] k2 pt2) X.env=pure (some [x,y]))
    (hs:swapsWithSole [.Tuple [.Name x px,.Name y py] kt pt] (.Tuple [a,b] k2 pt2) pos.line X.env=pure false:=by rfl) :
    PS X (.Assign [.Tuple [.Name x px,.Name y py] kt pt] (.Tuple [a,b] k2 pt2) pos) (tPar i j ta):=by
  intro pins s σ H D I h
  rw [exec_Assign_arm]
  refine wpAny_bind (wpAny_standAt ?_)
  rw [hs]
  refine wpAny_bind (wpAny_pure ?_)
  rw [if_neg (by decide)]
  refine wpAny_bind (Tuple_ (thn (ha _ pins s σ H _ I h) fun us s1 ⟨vs,H1,I1,r1,q1⟩=>?_))
  obtain ⟨v,w,e1,q1⟩:=q1
  subst e1
  obtain ⟨u1,u2,rfl,rv,rw'⟩:∃ u1 u2,us=[u1,u2]∧RelV v u1∧RelV w u2:=by
    cases r1 with
    | cons p q =>
      cases q with
      | cons p' q' =>
        cases q'
        exact ⟨_,_,rfl,p,p'⟩
  refine wpAny_newObj_type ?_ (by show 2≤sizeLine; decide)
  have I2:Inv X pins σ H1 { s1 with heap:=s1.heap.push { cls:=.type "tuple",data:=.seq [u1,u2].toArray } }:=I1.kept (t':=s1.toks) fun b o e=>Heap.get?_push_of_some _ e
  rw [hw]
  refine wpAny_bind (wpAny_pure ?_)
  show wpAny (model X.prog X.w) X.A (do rule "assign.swapped-stores"; let items ← unpackItems (.ref s1.heap.objs.size) 2 none; assignInOrder [fun v=>bindName X.env y v,fun v=>bindName X.env x v] items.reverse; pure Flow.next) _ _ _
  refine wpAny_bind (wpAny_rule (wpAny_bind (unpackItems_tuple (items:=#[u1,u2]) (I.ok.hd hc) (IsTup.new s1.heap _) fun h' hx'=>?_)))
  have I3:=I2.kept (h':=h') (t':=s1.toks) fun b o e=>hx' b o (Nat.ne_of_lt (Heap.lt_size e)) e
  show wpAny _ _ (assignInOrder [fun v=>bindName X.env y v,fun v=>bindName X.env x v] [u2,u1] >>= fun _=>pure Flow.next) _ _ _
  refine wpAny_bind (assignInOrder_cons (wpAny_bindName (store_ok I3 hN hj (.inl hy) rw' (fun s2 I4=>?_) (.inr hy))))
  refine assignInOrder_cons (wpAny_bindName (store_ok I4 hN hi (.inl hx) rv (fun s3 I5=>assignInOrder_nil (wpAny_pure ?_)) (.inr hx)))
  rw [List.set_comm _ _ (Ne.symm hij)] at I5
  exact ⟨_,H1,I5,q1⟩
end
structure It where
  go:Nat→Hp→Prop
  yld:Nat→Hp→V→Hp→Prop
  stop:Nat→Hp→Prop
def FpOk (X:Cx) (pins:List (Addr×Obj)) (H:Hp) (b:Addr):Prop :=
  H b=none∧b≠X.env.locals∧b∉X.fs∧(b∈X.ex∨X.s₀.heap.objs.size≤b)∧(∀ x c,X.env.cells.lookup x=some c→c≠b)∧∀ p∈X.pn++pins,p.1≠b
theorem Inv.fpOk {X:Cx} {pins:List (Addr×Obj)} {σ:St} {H H':Hp} {s:Shared} {b:Addr} (I:Inv X pins σ H s) (hb:s.heap.objs.size≤b) (hn:H' b=none):FpOk X pins H' b:=by
  refine ⟨hn,Nat.ne_of_gt (Nat.lt_of_lt_of_le I.lt hb),I.nofs hb,.inr (Nat.le_trans I.sz hb),fun x c e z=>?_,fun p hp z=>?_⟩
  · obtain ⟨v,q⟩:=I.cell x c e
    exact absurd (Nat.lt_of_lt_of_le q.lt (by rw [z]; exact hb)) (Nat.lt_irrefl _)
  · exact absurd (Nat.lt_of_lt_of_le (Heap.lt_size (I.pin p hp).1) (by rw [z]; exact hb)) (Nat.lt_irrefl _)
structure Turn (P:Program) (w:World) (K:PySem.W.Frag) (tg:Expr) (J:It) (fp:List Addr) (it:Addr) (tn:Nat→Heap→Prop):Prop where
  mem:it∈fp
  obj:∀ i h,tn i h→∀ b∈fp,∃ o,h.get? b=some o∧∀ v,o.data≠.cell v
  keep:∀ i h h',tn i h→(∀ b∈fp,∀ o,h.get? b=some o→h'.get? b=some o)→tn i h'
  item:∀ (X:Cx),X.prog=P→X.w=w→X.K=K→X.calm=true→∀ (i:Nat) (pins:List (Addr×Obj)) (s:Shared) (σ:St) (H:Hp) (E:Value→Shared→Prop),Inv X pins σ H s→(∀ b∈fp,FpOk X pins H b)→tn i s.heap→J.go i H →
    wpAny (model P w) X.A (pyNext (.ref it)) (fun r s1=>∃ u,r=some u ∧
      wpAny (model P w) X.A (letOwnedTupleGo tg (.ref it) u) (fun _ s2=>∃ x H',Inv X pins σ H' s2∧RelV x u∧J.yld i H x H'∧tn (i+1) s2.heap∧∀ b∈fp,H' b=none) E s1) E s
  done:∀ (X:Cx),X.prog=P→X.w=w→X.K=K→X.calm=true→∀ (i:Nat) (pins:List (Addr×Obj)) (s:Shared) (σ:St) (H:Hp) (E:Value→Shared→Prop),Inv X pins σ H s→(∀ b∈fp,FpOk X pins H b)→tn i s.heap→J.stop i H →
    wpAny (model P w) X.A (pyNext (.ref it)) (fun r s1=>r=none∧Inv X pins σ H s1) E s
  self:∀ (A:Around) (i:Nat) (s:Shared) (Q:Value→Shared→Prop) (E:Value→Shared→Prop),tn i s.heap→Q (.ref it) s→wpAny (model P w) A (pyIter (.ref it)) Q E s
abbrev TI:=St→Hp→(It→Hp→Prop)→Prop
def PIE (X:Cx) (pins:List (Addr×Obj)) (σ:St) (tg:Expr) (R:It→Hp→Prop) (itv:Value) (s2:Shared):Prop :=
  ∃ (it:Addr) (fp:List Addr) (tn:Nat→Heap→Prop) (J:It) (H':Hp),itv=.ref it∧Inv X pins σ H' s2∧Turn X.prog X.w X.K tg J fp it tn∧tn 0 s2.heap∧(∀ b∈fp,FpOk X pins H' b)∧R J H'
def PI (X:Cx) (tg iter:Expr) (wi:TI):Prop :=
  ∀ (pins:List (Addr×Obj)) (s:Shared) (σ:St) (H:Hp) (R:It→Hp→Prop),Inv X pins σ H s→wi σ H R →
    wpAny (model X.prog X.w) X.A (eval iter X.env) (fun v s1=>wpAny (model X.prog X.w) X.A (pyIter v) (PIE X pins σ tg R) X.xe s1) X.xe s
theorem go_of {M:Model} {A:Around} {E:Value→Shared→Prop} {s:Shared} {tg:Expr} {it:Addr} {u:Value} {o:Obj} {n:String} {vs:Array Value} {Q:Unit→Shared→Prop} (ho:s.heap.get? it=some o) (hc:o.cls=.type n) (hd:o.data=.fields vs)
    (hn:["enumerate", "zip", "dict_itemiterator", "dict_reverseitemiterator", "odict_iterator", "itertools.zip_longest", "itertools.pairwise"].contains n=false) (hQ:Q () s):wpAny M A (letOwnedTupleGo tg (.ref it) u) Q E s:=by
  unfold letOwnedTupleGo
  cases tg <;> first
    | exact wpAny_pure hQ
    | (cases u <;> first
        | exact wpAny_pure hQ
        | (refine wpAny_bind (wpAny_load ho ?_)
           rw [hc,hd]
           show wpAny M A (if (["enumerate", "zip", "dict_itemiterator", "dict_reverseitemiterator", "odict_iterator", "itertools.zip_longest", "itertools.pairwise"].contains n && vs[0]? == some (rawInt _))=true then _ else _) Q E s
           rw [if_neg (by intro h; rw [hn,Bool.false_and] at h; cases h)]
           exact wpAny_pure hQ))
def Itl (K:PySem.W.Frag) (a:Addr):It :=
  ⟨fun i H=>∃ xs x,SqL K H a xs∧xs[i]?=some x,fun i H x H'=>H'=H∧∀ xs,SqL K H a xs→xs[i]?=some x,fun i H=>∃ xs,SqL K H a xs∧xs.length≤i⟩
def Itr (lo:Int) (n:Nat):It:=⟨fun i _=>i<n,fun i H x H'=>H'=H∧x=.int (lo+i),fun i _=>n≤i⟩
theorem turn_list {P:Program} {w:World} {K:PySem.W.Frag} {tg:Expr} (a it:Addr):Turn P w K tg (Itl K a) [it] it (fun i h=>h.IsListIter it a i) where
  mem:=by simp
  obj:=fun i h st b hb=>by
    have e:b=it:=by simpa using hb
    subst e
    obtain ⟨o,e,c,d⟩:=st
    exact ⟨o,e,fun v z=>by rw [d] at z; cases z⟩
  keep:=fun i h h' st k=>st.at fun o e=>k it (by simp) o e
  item:=by
    intro X hP hw hK hc i pins s σ H E I hf st hg
    subst hP hw hK
    obtain ⟨xs,x,hq,hx⟩:=hg
    obtain ⟨its,rv,p,hz⟩:=I.list hq
    obtain ⟨u,hu,ru⟩:=rv.get hx
    obtain ⟨f0,f1,f2,f3,f4,f5⟩:=hf it (by simp)
    refine wpAny_pyNext_list_item st p.isList (x:=u) (by simpa using hu) fun h' st' sb=>?_
    have I1:Inv X pins σ H { s with heap:=h' }:=I.turned (t':=s.toks) (fun b o hb e=>(sb.2 b hb).trans e) f0 f1 f3 f4 f5
    obtain ⟨o,e,c,d⟩:=id st'
    exact ⟨u,rfl,go_of (s:={ s with heap:=h' }) e c d (by decide) ⟨x,H,I1,ru,⟨rfl,fun ys hy=>by rw [I.list_inj hy hq]; exact hx⟩,st',fun b hb=>(hf b hb).1⟩⟩
  done:=by
    intro X hP hw hK hc i pins s σ H E I hf st hg
    subst hP hw hK
    obtain ⟨xs,hq,hx⟩:=hg
    obtain ⟨its,rv,p,hz⟩:=I.list hq
    obtain ⟨f0,f1,f2,f3,f4,f5⟩:=hf it (by simp)
    have hl:=rv.length
    exact wpAny_pyNext_list_end (I.ok.hd hc) st p.isList (by simp; omega) fun h' eb=>⟨rfl,I.turned (t':=s.toks) (fun b o hb e=>eb b o hb e) f0 f1 f3 f4 f5⟩
  self:=fun _ _ _ _ _ st h=>wpAny_pyIter_listiter st h
theorem turn_range {P:Program} {w:World} {K:PySem.W.Frag} {tg:Expr} (it:Addr) (lo:Int) (n:Nat):Turn P w K tg (Itr lo n) [it] it (fun i h=>IsRangeIter h it (lo+(i:Nat) * 1) ((n:Int) - (i:Nat)) 1) where
  mem:=by simp
  obj:=fun i h st b hb=>by
    have e:b=it:=by simpa using hb
    subst e
    exact ⟨_,st,fun v z=>by
      have z':Data.fields _=Data.cell v:=z
      cases z'⟩
  keep:=fun i h h' st k=>k it (by simp) _ st
  item:=by
    intro X hP hw hK hc i pins s σ H E I hf st hg
    subst hP hw hK
    obtain ⟨f0,f1,f2,f3,f4,f5⟩:=hf it (by simp)
    have W:=Walks.range (prog:=X.prog) (w:=X.w) (I.ok.hd hc) it lo 1 n
    refine W.item i s _ _ hg st fun v h' tk hv st' kk=>?_
    obtain ⟨t,rfl⟩:=hv
    have I1:Inv X pins σ H { s with heap:=h',toks:=tk }:=I.turned (fun b o hb e=>kk b o (by simpa using hb) e) f0 f1 f3 f4 f5
    refine ⟨_,rfl,go_of (s:={ s with heap:=h',toks:=tk }) (n := "range_iterator") st' rfl rfl (by decide) ⟨.int (lo+i),H,I1,⟨t,?_⟩,⟨rfl,rfl⟩,st',fun b hb=>(hf b hb).1⟩⟩
    rw [Int.mul_one]
  done:=by
    intro X hP hw hK hc i pins s σ H E I hf st hg
    subst hP hw hK
    obtain ⟨f0,f1,f2,f3,f4,f5⟩:=hf it (by simp)
    exact wpAny_pyNext_range_end (I.ok.hd hc) st (by have:n≤i:=hg; omega) fun h' eb=>⟨rfl,I.turned (t':=s.toks) (fun b o hb e=>eb b o hb e) f0 f1 f3 f4 f5⟩
  self:=fun _ _ _ _ _ st h=>wpAny_pyIter_rangeiter st h
end L2
namespace L2
open PySem PySem.Spec PyProof.Rows
section
variable {X:Cx} {tg:Expr}
def iList (K:PySem.W.Frag) (tl:TE):TI:=fun σ H R=>tl σ H fun x H1=>∃ a,x=.ref a∧(∃ xs,SqL K H1 a xs)∧R (Itl K a) H1
theorem pi_list {l:Expr} {tl:TE} (hl:PE X l tl):PI X tg l (iList X.K tl):=by
  intro pins s σ H R I h
  refine thn (hl pins s σ H _ I h) fun v s1 ⟨x,H1,I1,r1,q1⟩=>?_
  obtain ⟨a,e,⟨xs,hq⟩,q⟩:=q1
  subst e
  cases r1
  obtain ⟨its,rv,p,hz⟩:=I1.list hq
  refine wpAny_pyIter_list p.isList ?_
  refine ⟨s1.heap.objs.size,[s1.heap.objs.size],_,_,H1,rfl,I1.kept (t':=s1.toks) fun b o e=>Heap.get?_push_of_some _ e,turn_list a _,⟨_,Heap.get?_push_size _ rfl,rfl,rfl⟩,fun b hb=>?_,q⟩
  have e:b=s1.heap.objs.size:=by simpa using hb
  subst e
  exact I1.fpOk (Nat.le_refl _) (I1.hok.fresh (Nat.le_refl _))
theorem range_it {pins:List (Addr×Obj)} {σ:St} {H:Hp} {s:Shared} {R:It→Hp→Prop} {E:Value→Shared→Prop} {lo hi:Int} {t u v:Tok} {tk:Nat} (I:Inv X pins σ H s) (h1 : -(2 ^ 62)≤lo) (h2:lo<2 ^ 62) (h3 : -(2 ^ 62)≤hi) (h4:hi<2 ^ 62)
    (q:R (Itr lo (hi - lo).toNat) H):wpAny (model X.prog X.w) X.A (pyIter (.ref s.heap.objs.size)) (PIE X pins σ tg R) E { s with heap:=s.heap.push { cls:=.type "range",data:=.fields #[.int lo t,.int hi u,.int 1 v] },toks:=tk }:=by
  refine wpAny_pyIter_range (IsRange.new ..) (small_one h1 h2 h3 h4) ?_
  have I1:Inv X pins σ H { s with heap:=s.heap.push { cls:=.type "range",data:=.fields #[.int lo t,.int hi u,.int 1 v] },toks:=tk }:=I.kept fun b o e=>Heap.get?_push_of_some _ e
  refine ⟨(s.heap.push { cls:=.type "range",data:=.fields #[.int lo t,.int hi u,.int 1 v] }).objs.size,[(s.heap.push { cls:=.type "range",data:=.fields #[.int lo t,.int hi u,.int 1 v] }).objs.size],_,_,H,rfl,
    I1.kept (t':=tk) fun b o e=>Heap.get?_push_of_some _ e,turn_range _ lo (hi - lo).toNat,?_,fun b hb=>?_,q⟩
  · have e1:lo+((0:Nat):Int) * 1=lo:=by simp
    have e2:(((hi - lo).toNat:Nat):Int) - ((0:Nat):Int)=Builtin.Range.rangeSize lo hi 1:=by rw [rangeSize_one]; split <;> omega
    show IsRangeIter _ _ (lo+((0:Nat):Int) * 1) ((((hi - lo).toNat:Nat):Int) - ((0:Nat):Int)) 1
    rw [e1,e2]
    exact Heap.get?_push_size _ rfl
  · have e:b=(s.heap.push { cls:=.type "range",data:=.fields #[.int lo t,.int hi u,.int 1 v] }).objs.size:=by simpa using hb
    subst e
    exact I1.fpOk (Nat.le_refl _) (I1.hok.fresh (Nat.le_refl _))
def iRng1 (ta:TA):TI:=fun σ H R=>ta σ H fun vs H1=>∃ j:Int,vs=[.int j] ∧ -(2 ^ 62)≤j∧j<2 ^ 62∧R (Itr 0 j.toNat) H1
theorem pi_range1 {a:Expr} {ta:TA} {p pos:Pos} (hg:Gl X "range") (hm:X.mg "range" = none) (ha:PA X [a] ta) (hs:starEach [a] X.env=[(false,eval a X.env)]:=by rfl):PI X tg (.Call (.Name "range" p) [a] [] pos) (iRng1 ta):=by
  intro pins s σ H R I h
  refine Call_ (ld_blt I hg hm boot_range (PyProof.Rows.callWith_type1 (thn (ha pos pins s σ H _ I h) fun us s1 ⟨vs,H1,I1,r1,q1⟩=>?_) hs rfl))
  obtain ⟨j,e,q1,q2,q⟩:=q1
  subst e
  cases r1 with
  | cons r rr =>
    cases rr
    obtain ⟨t,rfl⟩:=r
    exact call_range_1 (range_it I1 (by omega) (by omega) q1 q2 (by simpa using q))
def tFor (wi:TI) (g:TG) (tb:TS):TS:=fun D σ H=>wi σ H fun J H1=>∃ W:Nat→Nat→St→Hp→Prop,(∃ m,W 0 m σ H1)∧∀ i m σ H,W i m σ H →
  (J.stop i H∧D.nx σ H)∨(J.go i H∧∃ N:St→Hp→Prop,(∀ σ' H',N σ' H'→∃ m',m'<m∧W (i+1) m' σ' H')∧∀ x H',J.yld i H x H'→g x σ H' fun σ2 H2=>tb { D with nx:=N,ct:=N,bk:=D.nx } σ2 H2)
def pinsAt (fp:List Addr) (h:Heap):List (Addr×Obj):=fp.filterMap fun b=>(h.get? b).map fun o=>(b,o)
theorem mem_pinsAt {fp:List Addr} {h:Heap} {b:Addr} {o:Obj} (hb:b∈fp) (e:h.get? b=some o):(b,o)∈pinsAt fp h:=List.mem_filterMap.mpr ⟨b,hb,by rw [e]; rfl⟩
theorem of_pinsAt {fp:List Addr} {h:Heap} {p:Addr×Obj} (hp:p∈pinsAt fp h):p.1∈fp∧h.get? p.1=some p.2:=by
  obtain ⟨b,hb,e⟩:=List.mem_filterMap.mp hp
  cases q:h.get? b with
  | none=>rw [q] at e; cases e
  | some o =>
    rw [q] at e
    have e':(b,o)=p:=Option.some.inj e
    subst e'
    exact ⟨hb,q⟩
theorem Inv.pinned {pins:List (Addr×Obj)} {σ:St} {H:Hp} {s:Shared} {fp:List Addr} (I:Inv X pins σ H s) (hf:∀ b∈fp,FpOk X pins H b) (ho:∀ b∈fp,∃ o,s.heap.get? b=some o∧∀ v,o.data≠.cell v):Inv X (pins++pinsAt fp s.heap) σ H s :=
  I.pins_of fun p hp=>(List.mem_append.mp hp).elim (fun z=>I.pin p (List.mem_append_right _ z)) fun z=>by
    obtain ⟨hb,e⟩:=of_pinsAt z
    obtain ⟨f0,f1,f2,_⟩:=hf p.1 hb
    obtain ⟨o,e',d⟩:=ho p.1 hb
    rw [e] at e'; cases e'
    exact ⟨e,f0,f1,f2,d⟩
theorem Inv.unpinned {pins pl:List (Addr×Obj)} {σ:St} {H:Hp} {s:Shared} (I:Inv X (pins++pl) σ H s):Inv X pins σ H s:=I.pins_of fun p hp=>I.pin p (List.mem_append_right _ (List.mem_append_left _ hp))
theorem ps_for {iter:Expr} {body:List Stmt} {wi:TI} {g:TG} {tb:TS} {pos:Pos} (hp:PassesOwn (model X.prog X.w) X.A X.env X.xe) (hc:X.calm=true) (hi:PI X tg iter wi) (hg:PG X tg g) (hb:PSs X body tb)
    (hs:∀ x,foldedSetIterable iter X.env x=pure x:=by intro _; rfl):PS X (.For tg iter body [] pos) (tFor wi g tb):=by
  intro pins s σ H D I h
  refine wpAny_For (thn (hi pins s σ H _ I h) fun v s1 h1=>thn h1 fun itv s2 h2=>?_) hs
  obtain ⟨it,fp,tn,J,H2,e,I2,T,st2,f2,W,⟨m0,w0⟩,turn⟩:=h2
  subst e
  have stat:∀ {H':Hp},(∀ b∈fp,H' b=none)→∀ b∈fp,FpOk X pins H' b:=fun hn b hb=>⟨hn b hb,(f2 b hb).2⟩
  refine codeAny_forLoop_any (fun n s'=>∃ i σ' H',Inv X pins σ' H' s'∧tn i s'.heap∧(∀ b∈fp,H' b=none)∧W i n σ' H') ?_ m0 ⟨0,σ,H2,I2,st2,fun b hb=>(f2 b hb).1,w0⟩
  rintro n s3 ⟨i,σ3,H3,I3,st3,fr3,w3⟩
  rcases turn i n σ3 H3 w3 with ⟨stop,qn⟩ | ⟨go,N,hN,step⟩
  · refine wpAny_passesOwn hp (thn (T.done X rfl rfl rfl hc i pins s3 σ3 H3 X.xe I3 (stat fr3) st3 stop) fun r s4 ⟨hr,I4⟩=>?_)
    subst hr
    exact wpAny_execs_nil ⟨σ3,H3,I4,qn⟩
  · refine wpAny_passesOwn hp (thn (T.item X rfl rfl rfl hc i pins s3 σ3 H3 X.xe I3 (stat fr3) st3 go) fun r s4 ⟨u,hr,h4⟩=>?_)
    subst hr
    refine wpAny_passesOwn hp (thn h4 fun _ s5 ⟨x,H5,I5,r5,y5,st5,fr5⟩=>?_)
    have I5':=I5.pinned (stat fr5) (T.obj _ _ st5)
    refine wpAny_passesOwn hp (thn (hg _ s5 σ3 H5 x u _ I5' r5 (step x H5 y5)) fun _ s6 ⟨σ6,H6,I6,q6⟩=>?_)
    refine wpAny_passesOwn hp (thn (hb _ s6 σ6 H6 _ I6 q6) fun f s7 q7=>?_)
    have again:∀ {σ7:St} {H7:Hp},Inv X (pins++pinsAt fp s5.heap) σ7 H7 s7→N σ7 H7→∃ m,m<n∧∃ i σ' H',Inv X pins σ' H' s7∧tn i s7.heap∧(∀ b∈fp,H' b=none)∧W i m σ' H':=fun {σ7 H7} I7 n7=>by
      obtain ⟨m',hm,w7⟩:=hN σ7 H7 n7
      refine ⟨m',hm,i+1,σ7,H7,I7.unpinned,T.keep _ _ _ st5 fun b hb o e=>(I7.pin (b,o) (List.mem_append_right _ (List.mem_append_right _ (mem_pinsAt hb e)))).1,fun b hb=>?_,w7⟩
      obtain ⟨o,e,d⟩:=T.obj _ _ st5 b hb
      exact (I7.pin (b,o) (List.mem_append_right _ (List.mem_append_right _ (mem_pinsAt hb e)))).2.1
    cases f with
    | next=>obtain ⟨σ7,H7,I7,n7⟩:=q7; exact again I7 n7
    | cont=>obtain ⟨σ7,H7,I7,n7⟩:=q7; exact again I7 n7
    | brk=>obtain ⟨σ7,H7,I7,q7⟩:=q7; exact ⟨σ7,H7,I7.unpinned,q7⟩
    | ret v=>obtain ⟨x7,σ7,H7,I7,r7,q7⟩:=q7; exact ⟨x7,σ7,H7,I7.unpinned,r7,q7⟩
end
theorem for_list {K:PySem.W.Frag} {a:Addr} {xs:List V} {g:TG} {tb:TS} {D:Ends} {σ:St} {H:Hp} (Pv:Nat→St→Hp→Prop) (h0:Pv 0 σ H) (hl:∀ i σ H,i≤xs.length→Pv i σ H→SqL K H a xs)
    (hs:∀ i x σ H,xs[i]?=some x→Pv i σ H→g x σ H fun σ2 H2=>tb { D with nx:=Pv (i+1),ct:=Pv (i+1),bk:=D.nx } σ2 H2) (hd:∀ σ H,Pv xs.length σ H→D.nx σ H) :
    ∃ W:Nat→Nat→St→Hp→Prop,(∃ m,W 0 m σ H)∧∀ i m σ H,W i m σ H →
      ((Itl K a).stop i H∧D.nx σ H)∨((Itl K a).go i H∧∃ N:St→Hp→Prop,(∀ σ' H',N σ' H'→∃ m',m'<m∧W (i+1) m' σ' H')∧∀ x H',(Itl K a).yld i H x H'→g x σ H' fun σ2 H2=>tb { D with nx:=N,ct:=N,bk:=D.nx } σ2 H2):=by
  refine ⟨fun i m σ H=>m=xs.length - i∧i≤xs.length∧Pv i σ H,⟨xs.length,by simp,Nat.zero_le _,h0⟩,?_⟩
  rintro i m σ H ⟨rfl,hi,p⟩
  have q:=hl i σ H hi p
  by_cases hlt:i<xs.length
  · refine .inr ⟨⟨xs,xs[i],q,by simp [hlt]⟩,Pv (i+1),fun σ' H' p'=>⟨xs.length - (i+1),by omega,rfl,hlt,p'⟩,fun x H' y=>?_⟩
    obtain ⟨e,y⟩:=y
    subst e
    exact hs i x σ _ (y xs q) p
  · have e:i=xs.length:=by omega
    subst e
    exact .inl ⟨⟨xs,q,Nat.le_refl _⟩,hd σ H p⟩
theorem for_range {lo:Int} {n:Nat} {g:TG} {tb:TS} {D:Ends} {σ:St} {H:Hp} (Pv:Nat→St→Hp→Prop) (h0:Pv 0 σ H)
    (hs:∀ i σ H,i<n→Pv i σ H→g (.int (lo+i)) σ H fun σ2 H2=>tb { D with nx:=Pv (i+1),ct:=Pv (i+1),bk:=D.nx } σ2 H2) (hd:∀ σ H,Pv n σ H→D.nx σ H) :
    ∃ W:Nat→Nat→St→Hp→Prop,(∃ m,W 0 m σ H)∧∀ i m σ H,W i m σ H →
      ((Itr lo n).stop i H∧D.nx σ H)∨((Itr lo n).go i H∧∃ N:St→Hp→Prop,(∀ σ' H',N σ' H'→∃ m',m'<m∧W (i+1) m' σ' H')∧∀ x H',(Itr lo n).yld i H x H'→g x σ H' fun σ2 H2=>tb { D with nx:=N,ct:=N,bk:=D.nx } σ2 H2):=by
  refine ⟨fun i m σ H=>m=n - i∧i≤n∧Pv i σ H,⟨n,by simp,Nat.zero_le _,h0⟩,?_⟩
  rintro i m σ H ⟨rfl,hi,p⟩
  by_cases hlt:i<n
  · refine .inr ⟨hlt,Pv (i+1),fun σ' H' p'=>⟨n - (i+1),by omega,rfl,hlt,p'⟩,fun x H' y=>?_⟩
    obtain ⟨e,y⟩:=y
    subst e y
    exact hs i σ _ hlt p
  · have e:i=n:=by omega
    subst e
    exact .inl ⟨Nat.le_refl _,hd σ H p⟩
end L2
namespace L2
open PySem PySem.Spec PyProof.Rows
abbrev R2:=V→V→Hp→VK→Prop
def OpR (X:Cx) (f:Value→Value→Sem Value) (r:R2):Prop :=
  ∀ (pins:List (Addr×Obj)) (s:Shared) (σ:St) (H:Hp) (x y:V) (v u:Value) (Q:VK),Inv X pins σ H s→RelV x v→RelV y u→r x y H Q →
    wpAny (model X.prog X.w) X.A (f v u) (EP X pins σ Q) X.xe s
def UnR (X:Cx) (f:Value→Sem Value) (r:V→Hp→VK→Prop):Prop :=
  ∀ (pins:List (Addr×Obj)) (s:Shared) (σ:St) (H:Hp) (x:V) (v:Value) (Q:VK),Inv X pins σ H s→RelV x v→r x H Q →
    wpAny (model X.prog X.w) X.A (f v) (EP X pins σ Q) X.xe s
def CallR (X:Cx) (f:Value) (r:List V→Hp→VK→Prop):Prop :=
  ∀ (pins:List (Addr×Obj)) (s:Shared) (σ:St) (H:Hp) (xs:List V) (us:List Value) (Q:VK),Inv X pins σ H s→Vals xs us→r xs H Q →
    wpAny (model X.prog X.w) X.A (call f us) (EP X pins σ Q) X.xe s
def tOp (r:R2) (ta tb:TE):TE:=fun σ H Q=>ta σ H fun x H1=>tb σ H1 fun y H2=>r x y H2 Q
def tUn (r:V→Hp→VK→Prop) (ta:TE):TE:=fun σ H Q=>ta σ H fun x H1=>r x H1 Q
def rI (C:Int→Int→Prop) (g:Int→Int→V):R2:=fun x y H Q=>∃ i j,x=.int i∧y=.int j∧C i j∧Q (g i j) H
def rI0 (g:Int→Int→V):R2:=fun x y H Q=>∃ i j,x=.int i∧y=.int j∧Q (g i j) H
def rU (g:Int→V):V→Hp→VK→Prop:=fun x H Q=>∃ i,x=.int i∧Q (g i) H
section
variable {X:Cx} {a b c:Expr} {ta tb tc:TE} {pos:Pos}
theorem binT (ha:PE X a ta) (hb:PE X b tb) {pins:List (Addr×Obj)} {s:Shared} {σ:St} {H:Hp} {R:V→V→Hp→Prop} (I:Inv X pins σ H s)
    (h:ta σ H fun x H1=>tb σ H1 fun y H2=>R x y H2) {Q:Value→Shared→Prop} {f:Value→Value→Sem Value}
    (hf:∀ v u s2 x y H2,Inv X pins σ H2 s2→RelV x v→RelV y u→R x y H2→wpAny (model X.prog X.w) X.A (f v u) Q X.xe s2) :
    wpAny (model X.prog X.w) X.A (eval a X.env) (fun v s₁=>wpAny (model X.prog X.w) X.A (eval b X.env) (fun u s₂=>wpAny (model X.prog X.w) X.A (f v u) Q X.xe s₂) X.xe s₁) X.xe s:=by
  refine thn (ha pins s σ H _ I h) fun v s1 ⟨x,H1,I1,r1,q1⟩=>?_
  refine thn (hb pins s1 σ H1 _ I1 q1) fun u s2 ⟨y,H2,I2,r2,q2⟩=>?_
  exact hf v u s2 x y H2 I2 r1 r2 q2
theorem pe_op {op:Operator} {r:R2} (ho:OpR X (binaryOp op) r) (ha:PE X a ta) (hb:PE X b tb):PE X (.BinOp a op b pos) (tOp r ta tb):=by
  intro pins s σ H Q I h
  exact wpAny_BinOp (binT ha hb I h fun v u s2 x y H2 I2 rx ry q=>ho pins s2 σ H2 x y v u Q I2 rx ry q)
theorem pe_un {op:UnaryOp} {r:V→Hp→VK→Prop} (ho:UnR X (unaryOp op) r) (ha:PE X a ta):PE X (.UnaryOp op a pos) (tUn r ta):=by
  intro pins s σ H Q I h
  exact UnaryOp_ (thn (ha pins s σ H _ I h) fun v s1 ⟨x,H1,I1,r1,q1⟩=>ho pins s1 σ H1 x v Q I1 r1 q1)
theorem opI {f:Value→Value→Sem Value} {C:Int→Int→Prop} {g:Int→Int→Int}
    (rule:∀ (i j:Int) (t u:Tok) (s:Shared) (Q:Value→Shared→Prop) (E:Value→Shared→Prop),C i j→Q (.int (g i j) s.toks) { s with toks:=s.toks+1 }→wpAny (model X.prog X.w) X.A (f (.int i t) (.int j u)) Q E s) :
    OpR X f (rI C fun i j=>.int (g i j)):=by
  intro pins s σ H x y v u Q I rx ry h
  obtain ⟨i,j,rfl,rfl,hc,q⟩:=h
  obtain ⟨t,rfl⟩:=rx
  obtain ⟨t',rfl⟩:=ry
  exact rule i j t t' s _ _ hc ⟨.int (g i j),H,I.tok _,⟨_,rfl⟩,q⟩
theorem opI0 {f:Value→Value→Sem Value} {g:Int→Int→Int}
    (rule:∀ (i j:Int) (t u:Tok) (s:Shared) (Q:Value→Shared→Prop) (E:Value→Shared→Prop),Q (.int (g i j) s.toks) { s with toks:=s.toks+1 }→wpAny (model X.prog X.w) X.A (f (.int i t) (.int j u)) Q E s) :
    OpR X f (rI0 fun i j=>.int (g i j)):=by
  intro pins s σ H x y v u Q I rx ry h
  obtain ⟨i,j,rfl,rfl,q⟩:=h
  obtain ⟨t,rfl⟩:=rx
  obtain ⟨t',rfl⟩:=ry
  exact rule i j t t' s _ _ ⟨.int (g i j),H,I.tok _,⟨_,rfl⟩,q⟩
theorem opB0 {f:Value→Value→Sem Value} {g:Int→Int→Bool}
    (rule:∀ (i j:Int) (t u:Tok) (s:Shared) (Q:Value→Shared→Prop) (E:Value→Shared→Prop),Q (.bool (g i j)) s→wpAny (model X.prog X.w) X.A (f (.int i t) (.int j u)) Q E s) :
    OpR X f (rI0 fun i j=>.bl (g i j)):=by
  intro pins s σ H x y v u Q I rx ry h
  obtain ⟨i,j,rfl,rfl,q⟩:=h
  obtain ⟨t,rfl⟩:=rx
  obtain ⟨t',rfl⟩:=ry
  exact rule i j t t' s _ _ ⟨.bl (g i j),H,I,rfl,q⟩
def CDiv (i j:Int):Prop:=0<j∧j<1073741824
def CPow (i j:Int):Prop:=0≤j∧j≤1000000∧i.natAbs<2 ^ 64
def CMul (i j:Int):Prop:=(-(2 ^ 64)<i∧i<2 ^ 64)∨(-(2 ^ 64)<j∧j<2 ^ 64)
theorem CMul.ok {i j:Int} (h:CMul i j):IntMulOk i j:=by
  rcases h with ⟨h1,h2⟩ | ⟨h1,h2⟩
  · exact .of_left (intBits_le_64 h1 h2)
  · exact .of_right (intBits_le_64 h1 h2)
theorem op_add:OpR X (binaryOp .Add) (rI0 fun i j=>.int (i+j)):=opI0 fun _ _ _ _ _ _ _ q=>add_int q
theorem op_sub:OpR X (binaryOp .Sub) (rI0 fun i j=>.int (i - j)):=opI0 fun _ _ _ _ _ _ _ q=>sub_int q
theorem op_mul:OpR X (binaryOp .Mult) (rI CMul fun i j=>.int (i * j)):=opI fun _ _ _ _ _ _ _ hc q=>mul_int q hc.ok
theorem op_fdiv:OpR X (binaryOp .FloorDiv) (rI CDiv fun i j=>.int (i / j)):=opI fun i j _ _ _ _ _ hc q=>by
  have h1:(0:Int)<j:=hc.1
  have h2:j<1073741824:=hc.2
  exact floordiv_int (by omega) (by rw [Int.fdiv_eq_ediv_of_nonneg i (by omega)]; exact q) (.inl (PyProof.noPylong_small (by omega)))
theorem op_mod:OpR X (binaryOp .Mod) (rI (fun _ j=>0<j) fun i j=>.int (i % j)):=opI fun i j _ _ _ _ _ hc q=>by
  have h1:(0:Int)<j:=hc
  exact mod_int' (by omega) (by rw [Int.fmod_eq_emod_of_nonneg i (by omega)]; exact q)
theorem op_pow:OpR X (binaryOp .Pow) (rI CPow fun i j=>.int (i ^ j.toNat)):=opI fun _ _ _ _ _ _ _ hc q=>pow_int_small hc.1 hc.2.1 hc.2.2 q
theorem unI {f:Value→Sem Value} {g:Int→Int}
    (rule:∀ (i:Int) (t:Tok) (s:Shared) (Q:Value→Shared→Prop) (E:Value→Shared→Prop),Q (.int (g i) s.toks) { s with toks:=s.toks+1 }→wpAny (model X.prog X.w) X.A (f (.int i t)) Q E s) :
    UnR X f (rU fun i=>.int (g i)):=by
  intro pins s σ H x v Q I rx h
  obtain ⟨i,rfl,q⟩:=h
  obtain ⟨t,rfl⟩:=rx
  exact rule i t s _ _ ⟨.int (g i),H,I.tok _,⟨_,rfl⟩,q⟩
theorem un_neg:UnR X (unaryOp .USub) (rU fun i=>.int (-i)):=unI fun _ _ _ _ _ q=>neg_int q
end
def scal:V→V→Bool
  | .non,.non=>true | .non,.int _=>true | .int _,.non=>true | .non,.bl _=>true | .bl _,.non=>true | .non,.str _=>true | .str _,.non=>true
  | .int _,.int _=>true | .bl _,.bl _=>true | .str _,.str _=>true | .byt _,.byt _=>true
  | .int _,.str _=>true | .str _,.int _=>true | .bl _,.str _=>true | .str _,.bl _=>true
  | _,_=>false
def rEq:R2:=fun x y H Q=>scal x y=true∧Q (.bl (decide (x=y))) H
def rNe:R2:=fun x y H Q=>scal x y=true∧Q (.bl (!decide (x=y))) H
theorem dec_int {i j:Int}:decide (V.int i=V.int j)=(i == j):=by
  rw [Bool.eq_iff_iff]
  simp
theorem dec_bl {i j:Bool}:decide (V.bl i=V.bl j)=(i == j):=by
  rw [Bool.eq_iff_iff]
  simp
theorem dec_str {i j:Str}:decide (V.str i=V.str j)=(i == j):=by
  rw [Bool.eq_iff_iff]
  simp
theorem dec_byt {i j:Array UInt8}:decide (V.byt i=V.byt j)=(i.toList == j.toList):=by
  rw [Bool.eq_iff_iff]
  cases i
  cases j
  simp
section
variable {X:Cx} {a b c:Expr} {ta tb tc:TE} {pos:Pos}
theorem fin_bl {pins:List (Addr×Obj)} {σ:St} {H:Hp} {s:Shared} {Q:VK} {k k':Bool} (I:Inv X pins σ H s) (q:Q (.bl k) H) (e:k=k'):EP X pins σ Q (.bool k') s:=by
  subst e
  exact ⟨.bl k,H,I,rfl,q⟩
theorem op_eq:OpR X (compareOp .Eq) rEq:=by
  intro pins s σ H x y v u Q I rx ry h
  obtain ⟨hs,q⟩:=h
  cases x with
  | non =>
    cases rx
    cases y with
    | non=>cases ry; exact PySem.EqNone.eq_none_none (fin_bl I q (by simp))
    | bl j=>cases ry; exact PySem.EqNone.eq_none_bool (fin_bl I q (by simp))
    | int j=>obtain ⟨t',rfl⟩:=ry; exact PySem.EqNone.eq_none_int (fin_bl I q (by simp))
    | str j=>obtain ⟨t',rfl⟩:=ry; exact PySem.EqNone.eq_none_str (fin_bl I q (by simp))
    | _=>exact absurd (show false=true from hs) Bool.false_ne_true
  | bl i =>
    cases rx
    cases y with
    | non=>cases ry; exact PySem.EqNone.eq_bool_none (fin_bl I q (by simp))
    | bl j=>cases ry; exact eq_bool (fin_bl I q dec_bl)
    | str j=>obtain ⟨t',rfl⟩:=ry; exact PySem.EqMixed.eq_bool_str (fin_bl I q (by simp))
    | _=>exact absurd (show false=true from hs) Bool.false_ne_true
  | int i =>
    obtain ⟨t,rfl⟩:=rx
    cases y with
    | non=>cases ry; exact PySem.EqNone.eq_int_none (fin_bl I q (by simp))
    | int j=>obtain ⟨t',rfl⟩:=ry; exact eq_int (fin_bl I q dec_int)
    | str j=>obtain ⟨t',rfl⟩:=ry; exact PySem.EqMixed.eq_int_str (fin_bl I q (by simp))
    | _=>exact absurd (show false=true from hs) Bool.false_ne_true
  | str i =>
    obtain ⟨t,rfl⟩:=rx
    cases y with
    | non=>cases ry; exact PySem.EqNone.eq_str_none (fin_bl I q (by simp))
    | bl j=>cases ry; exact PySem.EqMixed.eq_str_bool (fin_bl I q (by simp))
    | int j=>obtain ⟨t',rfl⟩:=ry; exact PySem.EqMixed.eq_str_int (fin_bl I q (by simp))
    | str j=>obtain ⟨t',rfl⟩:=ry; exact eq_str (fin_bl I q dec_str)
    | _=>exact absurd (show false=true from hs) Bool.false_ne_true
  | byt i =>
    obtain ⟨t,rfl⟩:=rx
    cases y with
    | byt j=>obtain ⟨t',rfl⟩:=ry; exact PySem.W.eq_bytes (fin_bl I q dec_byt)
    | _=>exact absurd (show false=true from hs) Bool.false_ne_true
  | _=>cases y <;> exact absurd (show false=true from hs) Bool.false_ne_true
theorem op_ne:OpR X (compareOp .NotEq) rNe:=by
  intro pins s σ H x y v u Q I rx ry h
  obtain ⟨hs,q⟩:=h
  cases x with
  | non =>
    cases rx
    cases y with
    | non=>cases ry; exact PySem.EqNone.ne_none_none (fin_bl I q (by simp))
    | bl j=>cases ry; exact PySem.EqNone.ne_none_bool (fin_bl I q (by simp))
    | int j=>obtain ⟨t',rfl⟩:=ry; exact PySem.EqNone.ne_none_int (fin_bl I q (by simp))
    | str j=>obtain ⟨t',rfl⟩:=ry; exact PySem.EqNone.ne_none_str (fin_bl I q (by simp))
    | _=>exact absurd (show false=true from hs) Bool.false_ne_true
  | bl i =>
    cases rx
    cases y with
    | non=>cases ry; exact PySem.EqNone.ne_bool_none (fin_bl I q (by simp))
    | bl j=>cases ry; exact ne_bool (fin_bl I q (congrArg not dec_bl))
    | str j=>obtain ⟨t',rfl⟩:=ry; exact PySem.EqMixed.ne_bool_str (fin_bl I q (by simp))
    | _=>exact absurd (show false=true from hs) Bool.false_ne_true
  | int i =>
    obtain ⟨t,rfl⟩:=rx
    cases y with
    | non=>cases ry; exact PySem.EqNone.ne_int_none (fin_bl I q (by simp))
    | int j=>obtain ⟨t',rfl⟩:=ry; exact ne_int (fin_bl I q (congrArg not dec_int))
    | str j=>obtain ⟨t',rfl⟩:=ry; exact PySem.EqMixed.ne_int_str (fin_bl I q (by simp))
    | _=>exact absurd (show false=true from hs) Bool.false_ne_true
  | str i =>
    obtain ⟨t,rfl⟩:=rx
    cases y with
    | non=>cases ry; exact PySem.EqNone.ne_str_none (fin_bl I q (by simp))
    | bl j=>cases ry; exact PySem.EqMixed.ne_str_bool (fin_bl I q (by simp))
    | int j=>obtain ⟨t',rfl⟩:=ry; exact PySem.EqMixed.ne_str_int (fin_bl I q (by simp))
    | str j=>obtain ⟨t',rfl⟩:=ry; exact ne_str (fin_bl I q (congrArg not dec_str))
    | _=>exact absurd (show false=true from hs) Bool.false_ne_true
  | byt i =>
    obtain ⟨t,rfl⟩:=rx
    cases y with
    | byt j=>obtain ⟨t',rfl⟩:=ry; exact PySem.W.ne_bytes (fin_bl I q (congrArg not dec_byt))
    | _=>exact absurd (show false=true from hs) Bool.false_ne_true
  | _=>cases y <;> exact absurd (show false=true from hs) Bool.false_ne_true
theorem op_lt:OpR X (compareOp .Lt) (rI0 fun i j=>.bl (decide (i<j))):=opB0 fun _ _ _ _ _ _ _ q=>lt_int q
theorem op_le:OpR X (compareOp .LtE) (rI0 fun i j=>.bl (decide (i≤j))):=opB0 fun _ _ _ _ _ _ _ q=>le_int q
theorem op_gt:OpR X (compareOp .Gt) (rI0 fun i j=>.bl (decide (j<i))):=opB0 fun _ _ _ _ _ _ _ q=>gt_int q
theorem op_ge:OpR X (compareOp .GtE) (rI0 fun i j=>.bl (decide (j≤i))):=opB0 fun _ _ _ _ _ _ _ q=>ge_int q
theorem nomark (b:Expr) {op:CmpOp} (h:op≠.In:=by decide) (h2:op≠.NotIn:=by decide):behindInMarks op b=false:=by
  have e1:(op == CmpOp.In)=false:=by cases op <;> first | rfl | exact absurd rfl h
  have e2:(op == CmpOp.NotIn)=false:=by cases op <;> first | rfl | exact absurd rfl h2
  cases b <;> simp [behindInMarks,e1,e2]
theorem pe_cmpR {op:CmpOp} {r:R2} (ho:OpR X (compareOp op) r) (ha:PE X a ta) (hb:PE X b tb) (hm:behindInMarks op b=false):PE X (.Compare a [op] [b] pos) (tOp r ta tb):=by
  intro pins s σ H Q I h
  exact wpAny_Compare1 (binT ha hb I h fun v u s2 x y H2 I2 rx ry q=>ho pins s2 σ H2 x y v u Q I2 rx ry q) hm
def tTest (t:TE):TT:=fun σ H Q=>t σ H fun x H'=>∃ k,x=.bl k∧Q k H'
theorem pt_cmpR {op:CmpOp} {r:R2} (ho:OpR X (compareOp op) r) (ha:PE X a ta) (hb:PE X b tb) (hm:behindInMarks op b=false):PT X (.Compare a [op] [b] pos) (tTest (tOp r ta tb)):=by
  intro pins s σ H Q I h
  refine wpAny_isTrue_Compare1 (thn (ha pins s σ H _ I h) fun v s1 ⟨x,H1,I1,r1,q1⟩=>thn (hb pins s1 σ H1 _ I1 q1) fun u s2 ⟨y,H2,I2,r2,q2⟩ =>
    thn (ho pins s2 σ H2 x y v u _ I2 r1 r2 q2) fun c s3 ⟨z,H3,I3,r3,k,e,q3⟩=>?_) hm
  subst e
  cases r3
  exact wpAny_truthy_bool ⟨H3,I3,q3⟩
def tChain (r r':R2) (ta tb tc:TE):TE:=fun σ H Q=>ta σ H fun x H1=>tb σ H1 fun y H2=>r x y H2 fun z H3=>∃ k,z=.bl k ∧
  (if k=true then tc σ H3 fun w' H4=>r' y w' H4 Q else Q (.bl false) H3)
theorem pt_chain {op op':CmpOp} {r r':R2} (ho:OpR X (compareOp op) r) (ho':OpR X (compareOp op') r') (ha:PE X a ta) (hb:PE X b tb) (hc:PE X c tc)
    (hm:lastMarks [op,op'] [b,c]=false:=by with_unfolding_all rfl):PT X (.Compare a [op,op'] [b,c] pos) (tTest (tChain r r' ta tb tc)):=by
  intro pins s σ H Q I h
  refine isTrue_chain (thn (ha pins s σ H _ I h) fun v s1 ⟨x,H1,I1,r1,q1⟩=>test_link (thn (hb pins s1 σ H1 _ I1 q1) fun u s2 ⟨y,H2,I2,r2,q2⟩ =>
    thn (ho pins s2 σ H2 x y v u _ I2 r1 r2 q2) fun d s3 ⟨z,H3,I3,r3,k,e,q3⟩=>?_)) hm
  subst e
  cases r3
  refine wpAny_truthy_bool ?_
  cases k with
  | false =>
    obtain ⟨k',e',q'⟩:=q3
    cases e'
    exact ite_ff ⟨H3,I3,q'⟩
  | true =>
    refine ite_tt (test_last (thn (hc pins s3 σ H3 _ I3 q3) fun w' s4 ⟨z',H4,I4,r4,q4⟩=>thn (ho' pins s4 σ H4 y z' u w' _ I4 r2 r4 q4) fun d' s5 ⟨z2,H5,I5,r5,k2,e2,q5⟩=>?_))
    subst e2
    cases r5
    exact wpAny_truthy_bool ⟨H5,I5,q5⟩
theorem line63:(sizeLine:Nat)<2 ^ 63:=by rw [sizeLine_eq]; decide
theorem vals1 {x:V} {us:List Value} (r:Vals [x] us):∃ u,us=[u]∧RelV x u:=by
  cases r with
  | cons r1 r2=>cases r2; exact ⟨_,rfl,r1⟩
theorem vals2 {x y:V} {us:List Value} (r:Vals [x,y] us):∃ u w',us=[u,w']∧RelV x u∧RelV y w':=by
  cases r with
  | cons r1 r2 =>
    cases r2 with
    | cons r3 r4=>cases r4; exact ⟨_,_,rfl,r1,r3⟩
theorem call_abs:CallR X (.builtin "abs") (fun xs H Q=>∃ i,xs=[.int i]∧Q (.int (if i<0 then -i else i)) H):=by
  intro pins s σ H xs us Q I r h
  obtain ⟨i,rfl,q⟩:=h
  obtain ⟨u,rfl,t,rfl⟩:=vals1 r
  exact call_abs_int fun u tk=>⟨.int (if i<0 then -i else i),H,I.tok _,⟨_,rfl⟩,q⟩
theorem call_max2 (hc:X.calm=true):CallR X (.builtin "max") (fun xs H Q=>∃ i j,xs=[.int i,.int j]∧Q (.int (if j > i then j else i)) H):=by
  intro pins s σ H xs us Q I r h
  obtain ⟨i,j,rfl,q⟩:=h
  obtain ⟨u,w',rfl,⟨t,rfl⟩,⟨t',rfl⟩⟩:=vals2 r
  refine max_two_ints (I.ok.hd hc) fun h' tk k=>⟨_,H,I.kept k,?_,q⟩
  by_cases hj:j > i
  · rw [if_pos hj,if_pos hj]; exact ⟨_,rfl⟩
  · rw [if_neg hj,if_neg hj]; exact ⟨_,rfl⟩
theorem call_int1:CallR X (.type "int") (fun xs H Q=>(∃ i,xs=[.int i]∧Q (.int i) H)∨∃ k,xs=[.bl k]∧Q (.int (if k then 1 else 0)) H):=by
  intro pins s σ H xs us Q I r h
  rcases h with ⟨i,rfl,q⟩ | ⟨k,rfl,q⟩
  · obtain ⟨u,rfl,t,rfl⟩:=vals1 r
    exact call_int_int ⟨.int i,H,I,⟨_,rfl⟩,q⟩
  · obtain ⟨u,rfl,r1⟩:=vals1 r
    cases r1
    exact call_int_bool ⟨.int (if k then 1 else 0),H,I.tok _,⟨_,rfl⟩,q⟩
theorem call_divmod:CallR X (.builtin "divmod") (fun xs H Q=>∃ i j,xs=[.int i,.int j]∧CDiv i j∧∀ p,H p=none→Q (.ref p) (upd H p (.tup [.int (i / j),.int (i % j)]))):=by
  intro pins s σ H xs us Q I r h
  obtain ⟨i,j,rfl,⟨h1,h2⟩,q⟩:=h
  obtain ⟨u,w',rfl,⟨t,rfl⟩,⟨t',rfl⟩⟩:=vals2 r
  refine divmod_int (by omega) ?_ (.inl (PyProof.noPylong_small (by omega)))
  rw [Int.fdiv_eq_ediv_of_nonneg i (by omega),Int.fmod_eq_emod_of_nonneg i (by omega)]
  have hn:H s.heap.objs.size=none:=I.hok.fresh (Nat.le_refl _)
  refine ⟨.ref s.heap.objs.size,_,?_,rfl,q _ hn⟩
  refine I.laid (fun b o e=>Heap.get?_push_of_some _ e) (Nat.le_refl _) ⟨by simp only [List.length_cons,List.length_nil]; rw [sizeLine_eq]; decide,[.int (i / j) s.toks,.int (i % j) (s.toks+1)],.cons ⟨_,rfl⟩ (.cons ⟨_,rfl⟩ .nil),?_⟩
  exact ⟨_,Heap.get?_push_size s.heap rfl,rfl,0,rfl⟩
end
end L2
namespace L2
open PySem PySem.Spec PyProof.Rows
structure ObjM (h:Heap) (x dx C:Addr) (mA:Str→Option Value):Prop where
  obj:h.get? x=some (PySem.W.instObj C dx)
  ns:h.Ns1 dx mA
  ne:dx≠x
theorem lookIn_ns {h:Heap} {dx:Addr} {mA:Str→Option Value} (n:h.Ns1 dx mA):∃ od,h.get? dx=some od∧∀ name,PySem.W.lookIn name od=some (mA name):=by
  obtain ⟨o,es,ep,ho,hd,hk,_,hm⟩:=n
  refine ⟨o,ho,fun name=>?_⟩
  have e:=hm name
  unfold nsFind findBy at e
  rw [← Array.find?_toList] at e
  unfold PySem.W.lookIn
  rw [hd]
  dsimp only
  split
  · rename_i y q
    rw [q] at e
    exact congrArg some e
  · rename_i q
    rw [q] at e
    have a:es.toList.any (·.refKey)=false:=by
      rw [List.any_eq_false]
      intro y hy
      obtain ⟨z,t,hkey⟩:=hk y (Array.mem_toList_iff.mp hy)
      simp [DictEntry.refKey,hkey]
    have a':¬ es.toList.any (·.refKey)=true:=by rw [a]; exact Bool.false_ne_true
    rw [if_neg a']
    exact congrArg some e
theorem ObjM.look {h:Heap} {x dx C:Addr} {mA:Str→Option Value} (I:ObjM h x dx C mA):∃ od,PySem.W.InstAt h x (PySem.W.instObj C dx) C (some od)∧∀ name,PySem.W.lookIn name od=some (mA name) :=
  let ⟨od,ho,hl⟩:=lookIn_ns I.ns
  ⟨od,⟨I.obj,rfl,rfl,ho⟩,hl⟩
section
variable {prog:Program} {w:World} {A:Around} {E:Value→Shared→Prop} {s:Shared} {K:PySem.W.Frag} {x dx C f:Addr} {mA:Str→Option Value} {name:Str} {v:Value}
theorem get_map {expr:Bool} {Q:Value→Shared→Prop} (X:K.In s.heap) (I:ObjM s.heap x dx C mA) (hg:PySem.W.plainGet K C name=true) (hh:PySem.W.hasDictIn K C=true)
    (ha:PySem.W.findIn K (.ref C) name=some none) (hv:mA name=some v) (hv':PySem.W.handedIn v=true) (h:Q v { s with toks:=s.toks+1 }) :
    wpAny (model prog w) A (getAttr (.ref x) name expr) Q E s:=by
  obtain ⟨od,J,hl⟩:=I.look
  exact PySem.W.get_value X J (PySem.W.plainGet_of hg).1 (PySem.W.findObj_own hh ha rfl (by rw [hl,hv])) hv' h
theorem get_meth {pl:Sem Bool} {Q:Value×List Value→Shared→Prop} (X:K.In s.heap) (I:ObjM s.heap x dx C mA) (hg:PySem.W.plainGet K C name=true)
    (hf:PySem.W.findIn K (.ref C) name=some (some (.ref f))) (ht:PySem.W.isFn K (.ref f)=true) (hv:mA name=none) (h:Q (.ref f,[.ref x]) s) :
    wpAny (model prog w) A (getMethod (.ref x) name pl) Q E s:=by
  obtain ⟨od,J,hl⟩:=I.look
  exact PySem.W.method_fn X J (PySem.W.plainGet_of hg).1 (PySem.W.plainGet_of hg).2 hf (beq_iff_eq.mp ht) (by show (PySem.W.lookIn name od).map (·.isSome)=some false; rw [hl,hv]; rfl) h
theorem set_map {ns:List Str} {Q:Unit→Shared→Prop} (X:K.In s.heap) (I:ObjM s.heap x dx C mA)
    (hs:PySem.W.findIn K (.ref C) "__setattr__" = some (some (.builtin "object.__setattr__"))) (hp:PySem.W.plainOver K C=true) (ht:PySem.W.takerIn K C name=some none) (hh:PySem.W.hasDictIn K C=true)
    (hw:PySem.Within mA ns) (hsz:ns.length≤sizeLine)
    (h:∀ h',ObjM h' x dx C (fun y=>if y=name then some v else mA y)→Heap.SameBut dx s.heap h'→Q () { s with heap:=h',toks:=s.toks+2 }) :
    wpAny (model prog w) A (setAttr (.ref x) name v) Q E s:=by
  obtain ⟨od,J,hl⟩:=I.look
  refine PySem.W.set_plain X J hs (PySem.W.osa_open (s:={ s with toks:=s.toks+1 }) (r:=none) X J hp ht fun b=>?_)
  obtain ⟨cd,hc,hd'⟩:=PySem.W.any_some hh
  have hx:s.heap.get? x=some ⟨.ref C,some dx,.plain,#[]⟩:=I.obj
  refine wpAny_bind (wpAny_pure (wpAny_bind (wpAny_bind (wpAny_loadPart hx (wpAny_bind (PySem.W.Looks.here (s:={ s with toks:=s.toks+1 }) (PySem.W.looks_clsIn X hc) ?_))))))
  rw [hd']
  refine wpAny_pure (a:=some dx) (wpAny_bind (wpAny_pure (wpAny_bind ?_)))
  refine wpAny_nsSet1 (s:={ s with toks:=s.toks+1 }) I.ns fun h' hn2 hs2=>?_
  obtain ⟨oD,esD,epD,hoD,hdD,hcD⟩:=hn2.count (PySem.Within.cons name v hw)
  refine wpAny_bind (wpAny_lookBehind hoD (by rw [hdD]; exact pastItsLine_dict (Nat.le_trans hcD (by rw [List.length_cons]; omega))) ?_)
  exact wpAny_pure (h _ ⟨(hs2.2 _ (Ne.symm I.ne)).trans I.obj,hn2,I.ne⟩ hs2)
theorem make_map {R:Result→Shared→Prop} {vs:List Value} {kw:List (Str×Value)} (X:K.In s.heap) (hm:PySem.W.makesIn K C=true)
    (hi:PySem.W.findIn K (.ref C) "__init__" = some (some (.ref f))) (hf:PySem.W.typeIn K (.ref f)=some (.type "function"))
    (h:codeAny (model prog w) (A.under (.builtin "type.__call__" ⟨.ref C :: vs,kw⟩)) (.call (.ref f) ⟨.ref (s.heap.objs.size+1) :: vs,kw⟩) (PySem.W.InitBack (s.heap.objs.size+1) R)
      { s with heap:=(s.heap.push PySem.W.emptyDict).push (PySem.W.instObj C s.heap.objs.size) }) :
    codeAny (model prog w) A (.call (.ref C) ⟨vs,kw⟩) R s:=by
  obtain ⟨hh,g,d,t,os⟩:=s
  exact PySem.W.make_core (PySem.W.makes_of X hm) (PySem.W.looks_findIn X hi) (fun self=>PySem.W.bind_fn X self hf) (.inl rfl) h
end
def putF (f:Str) (v:V):List (Str×V)→List (Str×V)
  | []=>[(f,v)]
  | (g,x) :: r=>if g=f then (g,v) :: r else (g,x) :: putF f v r
theorem lookup_putF (f g:Str) (v:V):∀ fs:List (Str×V),(putF f v fs).lookup g=if g=f then some v else fs.lookup g
  | []=>by
    show List.lookup g [(f,v)]=_
    by_cases h:g=f
    · have hb:(g == f)=true:=beq_iff_eq.mpr h
      simp only [List.lookup,hb,if_pos h]
    · have hb:(g == f)=false:=beq_eq_false_iff_ne.mpr h
      simp only [List.lookup,hb,if_neg h]
  | (k,x) :: r=>by
    have ih:=lookup_putF f g v r
    rw [show putF f v ((k,x) :: r)=(if k=f then (k,v) :: r else (k,x) :: putF f v r) from rfl]
    by_cases hk:k=f
    · rw [if_pos hk]
      by_cases h:g=k
      · have hb:(g == k)=true:=beq_iff_eq.mpr h
        simp only [List.lookup,hb,if_pos (h.trans hk)]
      · have hb:(g == k)=false:=beq_eq_false_iff_ne.mpr h
        simp only [List.lookup,hb,if_neg (fun e:g=f=>h (e.trans hk.symm))]
    · rw [if_neg hk]
      by_cases h:g=k
      · have hb:(g == k)=true:=beq_iff_eq.mpr h
        simp only [List.lookup,hb,if_neg (fun e:g=f=>hk (h.symm.trans e))]
      · have hb:(g == k)=false:=beq_eq_false_iff_ne.mpr h
        simp only [List.lookup,hb]
        exact ih
theorem keys_putF (f:Str) (v:V):∀ fs:List (Str×V),f∈(putF f v fs).map (·.1)∧∀ g,g∈fs.map (·.1)→g∈(putF f v fs).map (·.1)
  | []=>⟨by simp [putF],fun g h=>by simp at h⟩
  | (k,x) :: r=>by
    obtain ⟨i1,i2⟩:=keys_putF f v r
    rw [show putF f v ((k,x) :: r)=(if k=f then (k,v) :: r else (k,x) :: putF f v r) from rfl]
    by_cases hk:k=f
    · rw [if_pos hk]
      subst hk
      exact ⟨by simp,fun g h=>by simpa using h⟩
    · rw [if_neg hk]
      refine ⟨?_,fun g h=>?_⟩
      · rw [List.map_cons]
        exact List.mem_cons_of_mem _ i1
      · rw [List.map_cons] at h ⊢
        rcases List.mem_cons.mp h with e | e
        · exact List.mem_cons.mpr (.inl e)
        · exact List.mem_cons_of_mem _ (i2 g e)
theorem length_putF (f:Str) (v:V):∀ fs:List (Str×V),(putF f v fs).length≤fs.length+1
  | []=>by simp [putF]
  | (k,x) :: r=>by
    have ih:=length_putF f v r
    rw [show putF f v ((k,x) :: r)=(if k=f then (k,v) :: r else (k,x) :: putF f v r) from rfl]
    by_cases hk:k=f
    · rw [if_pos hk,List.length_cons,List.length_cons]; omega
    · rw [if_neg hk,List.length_cons,List.length_cons]; omega
theorem RelO.some_of {v:V} {o:Option Value} (r:RelO (some v) o):∃ u,o=some u∧RelV v u:=by
  cases o with
  | none=>exact (show False from r).elim
  | some u=>exact ⟨u,rfl,r⟩
theorem RelO.none_of {o:Option Value} (r:RelO none o):o=none:=by
  cases o with
  | none=>rfl
  | some u=>exact (show False from r).elim
theorem handed_of {v:V} {u:Value} (r:RelV v u):PySem.W.handedIn u=true:=by
  cases v with
  | non=>cases (show u=Value.none from r); rfl
  | bl b=>cases (show u=Value.bool b from r); rfl
  | int i=>obtain ⟨t,e⟩:=(show ∃ t,u=Value.int i t from r); cases e; rfl
  | str x=>obtain ⟨t,e⟩:=(show ∃ t,u=Value.str x t from r); cases e; rfl
  | byt b=>obtain ⟨t,e⟩:=(show ∃ t,u=Value.bytes b t from r); cases e; rfl
  | flt b=>obtain ⟨t,e⟩:=(show ∃ t,u=Value.float b t from r); cases e; rfl
  | ref a=>cases (show u=Value.ref a from r); rfl
  | ty n=>cases (show u=Value.type n from r); rfl
section
variable {P:Program} {w:World} {H H':Hp} {h h':Heap} {a C dx:Addr} {fs fs':List (Str×V)}
theorem ins_get (hok:HOk P w H h) (e:H a=some (.ins C dx fs)):∃ mA,ObjM h a dx C mA∧(∀ f,RelO (fs.lookup f) (mA f))∧PySem.Within mA (fs.map (·.1))∧fs.length≤1000∧H dx=some (.own a):=by
  obtain ⟨d,z,ne,ob,mA,n,r,q⟩:=(show ObjOk P w H h a (.ins C dx fs) from hok a _ e)
  exact ⟨mA,⟨ob,n,ne⟩,r,q,z,d⟩
end
structure Cls (K:PySem.W.Frag) (C:Addr):Prop where
  pg:PySem.W.plainGet K C Str.empty=true
  hd:PySem.W.hasDictIn K C=true
  po:PySem.W.plainOver K C=true
  sa:PySem.W.findIn K (.ref C) "__setattr__" = some (some (.builtin "object.__setattr__"))
theorem Cls.get {K:PySem.W.Frag} {C:Addr} (c:Cls K C) (f:Str):PySem.W.plainGet K C f=true:=c.pg
def NoAttr (K:PySem.W.Frag) (C:Addr) (f:Str):Prop:=PySem.W.findIn K (.ref C) f=some none
theorem NoAttr.taker {K:PySem.W.Frag} {C:Addr} {f:Str} (n:NoAttr K C f):PySem.W.takerIn K C f=some none:=by
  unfold PySem.W.takerIn
  rw [show PySem.W.findIn K (.ref C) f=some none from n]
  rfl
structure Meth (K:PySem.W.Frag) (C:Addr) (m:Str) (f:Addr):Prop where
  at_:PySem.W.findIn K (.ref C) m=some (some (.ref f))
  fn:PySem.W.isFn K (.ref f)=true
  kp:PySem.W.keepIn K (.ref f)=true
section
variable {X:Cx} {pins:List (Addr×Obj)} {σ:St} {H:Hp} {s:Shared} {a C dx:Addr} {fs:List (Str×V)} {f:Str} {v:V} {A:Around} {E:Value→Shared→Prop}
theorem getattr_ok {b:Bool} {Q:Value→Shared→Prop} (I:Inv X pins σ H s) (e:H a=some (.ins C dx fs)) (c:Cls X.K C) (n:NoAttr X.K C f) (l:fs.lookup f=some v)
    (h:∀ u s',Inv X pins σ H s'→RelV v u→Q u s'):wpAny (model X.prog X.w) A (getAttr (.ref a) f b) Q E s:=by
  obtain ⟨mA,O,r,_,_,_⟩:=ins_get I.hok e
  obtain ⟨u,hu,ru⟩:=RelO.some_of (v:=v) (o:=mA f) (by rw [← l]; exact r f)
  exact get_map I.kIn O (c.get f) c.hd n hu (handed_of ru) (h u _ (I.tok _) ru)
theorem getmeth_ok {m:Str} {g:Addr} {pl:Sem Bool} {Q:Value×List Value→Shared→Prop} (I:Inv X pins σ H s) (e:H a=some (.ins C dx fs)) (c:Cls X.K C) (k:Meth X.K C m g) (l:fs.lookup m=none)
    (h:Q (.ref g,[.ref a]) s):wpAny (model X.prog X.w) A (getMethod (.ref a) m pl) Q E s:=by
  obtain ⟨mA,O,r,_,_,_⟩:=ins_get I.hok e
  have hn:mA m=none:=RelO.none_of (by rw [← l]; exact r m)
  exact get_meth I.kIn O (c.get m) k.at_ k.fn hn h
theorem setattr_ok {y:V} {u:Value} {Q:Unit→Shared→Prop} (I:Inv X pins σ H s) (e:H a=some (.ins C dx fs)) (c:Cls X.K C) (n:NoAttr X.K C f) (hl:fs.length<1000) (ry:RelV y u)
    (h:∀ s',Inv X pins σ (upd H a (.ins C dx (putF f y fs))) s'→Q () s'):wpAny (model X.prog X.w) A (setAttr (.ref a) f u) Q E s:=by
  obtain ⟨mA,O,r,wi,_,ho⟩:=ins_get I.hok e
  have hz:(fs.map (·.1)).length≤sizeLine:=by rw [List.length_map,sizeLine_eq]; omega
  refine set_map I.kIn O c.sa c.po n.taker c.hd wi hz fun h' O' sb=>h _ ?_
  have hd:∃ o,h'.get? dx=some o:=let ⟨o,_,_,e',_⟩:=O'.ns; ⟨o,e'⟩
  refine I.write (x:=a) (e:=dx) (by rw [e]; exact True.intro) (.inr ho) (fun b q hb z=>(sb.2 b hb).trans z) hd ?_
  refine ⟨by rw [upd_ne O.ne]; exact ho,?_,O.ne,O'.obj,_,O'.ns,fun g=>?_,fun g hg=>?_⟩
  · have:=length_putF f y fs; omega
  · show RelO ((putF f y fs).lookup g) (if g=f then some u else mA g)
    rw [lookup_putF]
    by_cases q:g=f
    · rw [if_pos q,if_pos q]; exact ry
    · rw [if_neg q,if_neg q]; exact r g
  · by_cases q:g=f
    · rw [q]; exact (keys_putF f y fs).1
    · refine (keys_putF f y fs).2 g (wi g fun z=>hg ?_)
      show (if g=f then some u else mA g)=none
      rw [if_neg q]; exact z
theorem Inv.made (I:Inv X pins σ H s):Inv X pins σ (upd (upd H s.heap.objs.size (.own (s.heap.objs.size+1))) (s.heap.objs.size+1) (.ins C s.heap.objs.size []))
    { s with heap:=(s.heap.push PySem.W.emptyDict).push (PySem.W.instObj C s.heap.objs.size) }:=by
  have e1:(s.heap.push PySem.W.emptyDict).get? s.heap.objs.size=some PySem.W.emptyDict:=Heap.get?_push_size s.heap rfl
  have e2:((s.heap.push PySem.W.emptyDict).push (PySem.W.instObj C s.heap.objs.size)).get? (s.heap.objs.size+1)=some (PySem.W.instObj C s.heap.objs.size):=by
    have:=Heap.get?_push_size (s.heap.push PySem.W.emptyDict) (o:=PySem.W.instObj C s.heap.objs.size) rfl
    rwa [Heap.size_push] at this
  have e3:(s.heap.push PySem.W.emptyDict).Ns s.heap.objs.size (fun _=>none):=⟨PySem.W.emptyDict,#[],_,e1,rfl,(fun e he=>absurd he (by simp)),fun _=>rfl⟩
  have I1:=I.laid (a:=s.heap.objs.size) (o:=.own (s.heap.objs.size+1)) (h':=s.heap.push PySem.W.emptyDict) (t':=s.toks) (fun b u q=>Heap.get?_push_of_some _ q) (Nat.le_refl _) ⟨_,e1⟩
  refine I1.laid (a:=s.heap.objs.size+1) (o:=.ins C s.heap.objs.size []) (t':=s.toks) (fun b u q=>Heap.get?_push_of_some _ q) (Nat.le_of_eq (Heap.size_push _ _)) ?_
  have ne:s.heap.objs.size≠s.heap.objs.size+1:=Nat.ne_of_lt (Nat.lt_succ_self _)
  refine ⟨by rw [upd_ne ne,upd_same],Nat.zero_le _,ne,e2,fun _=>none,(Heap.Ns1.of_empty e3).at fun o q=>Heap.get?_push_of_some _ q,fun _=>True.intro,fun y hy=>absurd rfl hy⟩
theorem attr_of {prog:Program} {w:World} {env:Env} {e:Expr} {f:Str} {pos:Pos} {s:Shared} {Q:Value→Shared→Prop} (hb:attributeBase e f env (eval e env)=eval e env)
    (h:wpAny (model prog w) A (eval e env) (fun o s₁=>wpAny (model prog w) A (getAttr o f true) Q E s₁) E s):wpAny (model prog w) A (eval (.Attribute e f pos) env) Q E s :=
  Attribute_any_ h (by rw [arm_eval_Attribute,hb])
end
def tFld (K:PySem.W.Frag) (ta:TE) (f:Str):TE:=fun σ H Q=>ta σ H fun x H1=>∃ a C dx fs v,x=.ref a∧H1 a=some (.ins C dx fs)∧Cls K C∧NoAttr K C f∧fs.lookup f=some v∧Q v H1
def sFld (K:PySem.W.Frag) (ta tv:TE) (f:Str):TS:=fun D σ H=>tv σ H fun y H1=>ta σ H1 fun x H2=>∃ a C dx fs,x=.ref a∧H2 a=some (.ins C dx fs)∧Cls K C∧NoAttr K C f∧fs.length<1000 ∧
  D.nx σ (upd H2 a (.ins C dx (putF f y fs)))
def InOp (X:Cx) (op:Operator) (rd:V→V→Hp→VK→Prop):Prop :=
  ∀ (pins:List (Addr×Obj)) (s:Shared) (σ:St) (H:Hp) (x y:V) (u v:Value) (Q:VK),Inv X pins σ H s→RelV x u→RelV y v→rd x y H Q→wpAny (model X.prog X.w) X.A (inplaceOp op u v) (EP X pins σ Q) X.xe s
section
variable {X:Cx} {o e value:Expr} {f:Str} {pos pos' tpos:Pos} {ta tv:TE}
theorem pe_fld (he:PE X e ta) (hb:attributeBase e f X.env (eval e X.env)=eval e X.env):PE X (.Attribute e f pos) (tFld X.K ta f):=by
  intro pins s σ H Q I h
  refine attr_of hb (thn (he pins s σ H _ I h) fun u s1 ⟨x,H1,I1,rx,a,C,dx,fs,v,ex,ea,c,n,l,q⟩=>?_)
  subst ex
  obtain rfl:u=Value.ref a:=rx
  exact getattr_ok I1 ea c n l fun u' s2 I2 ru=>⟨v,H1,I2,ru,q⟩
theorem ps_fld (ha:PE X o ta) (hv:PE X value tv) (hs:swapsWith value (some (.Attribute o f pos')) pos.line X.env=pure false):PS X (.Assign [.Attribute o f pos'] value pos) (sFld X.K ta tv f):=by
  intro pins s σ H D I h
  refine plainObj_wpAny_Assign_Attribute (thn (hv pins s σ H _ I h) fun u s1 ⟨y,H1,I1,ry,q⟩=>thn (ha pins s1 σ H1 _ I1 q) fun ov s2 ⟨x,H2,I2,rx,a,C,dx,fs,ex,ea,c,n,l,q2⟩=>?_) hs
  subst ex
  obtain rfl:ov=Value.ref a:=rx
  exact setattr_ok I2 ea c n l ry fun s3 I3=>⟨σ,_,I3,q2⟩
def rAdd:V→V→Hp→VK→Prop:=fun x y H Q=>∃ i j,x=.int i∧y=.int j∧Q (.int (i+j)) H
theorem in_add:InOp X .Add rAdd:=by
  rintro pins s σ H x y u v Q I rx ry ⟨i,j,rfl,rfl,q⟩
  obtain ⟨t,rfl⟩:=(show ∃ t,u=Value.int i t from rx)
  obtain ⟨t',rfl⟩:=(show ∃ t',v=Value.int j t' from ry)
  exact PyProof.Rows.iadd_int ⟨.int (i+j),H,I.tok _,⟨_,rfl⟩,q⟩
end
section
variable {X:Cx} {pins:List (Addr×Obj)} {σ:St} {H:Hp} {s:Shared} {A:Around} {E:Value→Shared→Prop} {Q:Value→Shared→Prop} {c:Value} {b:Bool}
inductive TyOf (K:PySem.W.Frag) (H:Hp):V→Value→Prop where
  | non:TyOf K H .non (.type "NoneType")
  | bl (x:Bool):TyOf K H (.bl x) (.type "bool")
  | int (i:Int):TyOf K H (.int i) (.type "int")
  | str (x:Str):TyOf K H (.str x) (.type "str")
  | flt (x:UInt64):TyOf K H (.flt x) (.type "float")
  | lst {a:Addr} {xs:List V} (e:H a=some (.lst xs)):TyOf K H (.ref a) (.type "list")
  | frz {a:Addr} {o:Obj} {xs:List V} (e:H a=some (.frz o (.lst xs))):TyOf K H (.ref a) (.type "list")
  | tup {a:Addr} {xs:List V} (e:H a=some (.tup xs)):TyOf K H (.ref a) (.type "tuple")
  | dK {a:Addr} {kvs:List (Key×V)} (e:H a=some (.dK kvs)):TyOf K H (.ref a) (.type "dict")
  | dT {a:Addr} {kvs:List (List Key×V)} (e:H a=some (.dT kvs)):TyOf K H (.ref a) (.type "dict")
  | ins {a C dx:Addr} {fs:List (Str×V)} (e:H a=some (.ins C dx fs)) (cl:Cls K C) (ha:PySem.W.findIn K (.ref C) "__class__" = some (some (.builtin "object.__class__")))
      (hn:PySem.W.specialIn K (.builtin "object.__class__") "__get__" = some (some (.builtin "getset_descriptor.__get__"))) (htk:PySem.W.takesIn K (.builtin "object.__class__")=some true)
      (hm:PySem.W.mroIn K C (.type "object")=some true):TyOf K H (.ref a) (.ref C)
theorem isinst_ok {x:V} {u t:Value} (I:Inv X pins σ H s) (rx:RelV x u) (ty:TyOf X.K H x t) (e:PySem.W.kitOne X.K t c=some b) (h:∀ tk,Q (.bool b) { s with toks:=tk }) :
    wpAny (model X.prog X.w) A (call (.builtin "isinstance") [u,c]) Q E s:=by
  cases ty with
  | non=>cases (show u=Value.none from rx); exact PySem.W.kia_one PySem.W.kitx_none I.kIn True.intro e (fun z=>nomatch z) h
  | bl y=>cases (show u=Value.bool y from rx); exact PySem.W.kia_one PySem.W.kitx_bool I.kIn True.intro e (fun z=>nomatch z) h
  | int i=>obtain ⟨t,q⟩:=(show ∃ t,u=Value.int i t from rx); cases q; exact PySem.W.kia_one PySem.W.kitx_int I.kIn True.intro e (fun z=>nomatch z) h
  | str y=>obtain ⟨t,q⟩:=(show ∃ t,u=Value.str y t from rx); cases q; exact PySem.W.kia_one PySem.W.kitx_str I.kIn True.intro e (fun z=>nomatch z) h
  | flt y=>obtain ⟨t,q⟩:=(show ∃ t,u=Value.float y t from rx); cases q; exact PySem.W.kia_one PySem.W.kitx_float I.kIn True.intro e (fun z=>nomatch z) h
  | @lst a xs ea =>
    cases (show u=Value.ref a from rx)
    obtain ⟨_,_,n,_,h1⟩:=(show ObjOk X.prog X.w H s.heap a (.lst xs) from I.hok a _ ea)
    exact PySem.W.kia_one PySem.W.kitx_list I.kIn ⟨_,h1,rfl⟩ e (fun z=>nomatch z) h
  | @frz a ob xs ea =>
    cases (show u=Value.ref a from rx)
    obtain ⟨_,_,_,n,_,h1⟩:=(show ObjOk X.prog X.w H s.heap a (.frz ob (.lst xs)) from I.hok a _ ea)
    exact PySem.W.kia_one PySem.W.kitx_list I.kIn ⟨_,h1,rfl⟩ e (fun z=>nomatch z) h
  | @tup a xs ea =>
    cases (show u=Value.ref a from rx)
    obtain ⟨_,_,_,p⟩:=(show ObjOk X.prog X.w H s.heap a (.tup xs) from I.hok a _ ea)
    obtain ⟨o,h1,h2,_⟩:=p
    exact PySem.W.kia_one PySem.W.kitx_tuple I.kIn ⟨o,h1,h2⟩ e (fun z=>nomatch z) h
  | @dK a kvs ea =>
    cases (show u=Value.ref a from rx)
    obtain ⟨_,_,vs,_,p⟩:=(show ObjOk X.prog X.w H s.heap a (.dK kvs) from I.hok a _ ea)
    obtain ⟨o,es,ep,h1,h2,_⟩:=p
    exact PySem.W.kia_one PySem.W.kitx_dict I.kIn ⟨o,h1,h2.1⟩ e (fun z=>nomatch z) h
  | @dT a kvs ea =>
    cases (show u=Value.ref a from rx)
    obtain ⟨_,_,xs,_,o,es,ep,h1,h2,_⟩:=(show ObjOk X.prog X.w H s.heap a (.dT kvs) from I.hok a _ ea)
    exact PySem.W.kia_one PySem.W.kitx_dict I.kIn ⟨o,h1,h2.1⟩ e (fun z=>nomatch z) h
  | @ins a C dx fs ea cl ha hn htk hm =>
    cases (show u=Value.ref a from rx)
    obtain ⟨mA,O,_⟩:=ins_get I.hok ea
    obtain ⟨od,J,_⟩:=O.look
    exact PySem.W.kia_one (PySem.W.kitx_own (cl.get _) cl.hd ha hn htk hm) I.kIn J e (fun z=>nomatch z) h
end
end L2
namespace L2
open PySem PySem.Spec PyProof.Rows
structure Room (k:Nat) (A:Around):Prop where
  hd:A.handled=none
  dp:A.depth+3 * k+5<recursionLimit
  un:A.units+16 * k+200<cLine
  gd:A.guards=some []
theorem Room.mono {j k:Nat} {A:Around} (r:Room k A) (h:j≤k):Room j A:=⟨r.hd,by have:=r.dp; omega,by have:=r.un; omega,r.gd⟩
theorem Room.deeper {k:Nat} {A:Around} (r:Room (k+1) A) (env:Env):Room k (A.deeper env) :=
  ⟨r.hd,by have:=r.dp; show A.depth+1+3 * k+5<_; omega,by have:=r.un; show A.units+3+16 * k+200<_; omega,r.gd⟩
theorem make_depth {A:Around} {C:Addr} {us:List Value} {kw:List (Str×Value)}:(A.under (.builtin "type.__call__" ⟨.ref C :: us,kw⟩)).depth=A.depth+1:=by
  first | rfl | simp [Around.under,Code.weight,Code.isCreation,Code.isGuard,Code.isCaller,Code.frames,Code.isFrame,guardIds]
theorem make_units {A:Around} {C:Addr} {us:List Value} {kw:List (Str×Value)}:(A.under (.builtin "type.__call__" ⟨.ref C :: us,kw⟩)).units=A.units+1:=by
  first | rfl | simp [Around.under,Code.cUnits,Code.frames,Code.isFrame]
theorem Room.make {k:Nat} {A:Around} (r:Room (k+1) A) (C:Addr) (us:List Value) (kw:List (Str×Value)):Room k (A.under (.builtin "type.__call__" ⟨.ref C :: us,kw⟩)) :=
  ⟨r.hd,by have:=r.dp; rw [make_depth]; omega,by have:=r.un; rw [make_units]; omega,r.gd⟩
theorem Room.depth {k:Nat} {A:Around} (r:Room k A):A.depth<recursionLimit:=by have:=r.dp; omega
theorem Room.units {k:Nat} {A:Around} (r:Room k A):A.units+64<cLine:=by have:=r.un; omega
def tNil:TA:=fun _ H Q=>Q [] H
def tCons (ta:TE) (tr:TA):TA:=fun σ H Q=>ta σ H fun x H1=>tr σ H1 fun xs H2=>Q (x :: xs) H2
section
variable {X:Cx} {e:Expr} {es:List Expr} {te:TE} {t:TA} {pos:Pos}
theorem pa_nil:PA X [] tNil:=fun _ _ _ _ H Q I h=>Calls.spliced_nil ⟨[],H,I,.nil,h⟩
theorem pa_cons (ha:PE X e te) (hr:PA X es t) (hs:starEach (e :: es) X.env=(false,eval e X.env) :: starEach es X.env:=by rfl):PA X (e :: es) (tCons te t):=by
  intro pos pins s σ H Q I h
  rw [hs]
  show wpAny _ _ (spliced ((false,eval e X.env) :: backTo pos (starEach es X.env))) _ _ s
  refine Calls.spliced_cons (thn (ha pins s σ H _ I h) fun u s1 ⟨x,H1,I1,r1,q1⟩=>?_)
  exact thn (hr pos pins s1 σ H1 _ I1 q1) fun us s2 ⟨xs,H2,I2,r2,q2⟩=>⟨x :: xs,H2,I2,.cons r1 r2,q2⟩
def tTup (t:TA):TE:=fun σ H Q=>t σ H fun xs H1=>xs.length≤sizeLine∧∀ p,H1 p=none→Q (.ref p) (upd H1 p (.tup xs))
def tLst (t:TA):TE:=fun σ H Q=>t σ H fun xs H1=>xs.length≤sizeLine∧∀ p,H1 p=none→Q (.ref p) (upd H1 p (.lst xs))
theorem pe_tup {x1} (h:PA X es t):PE X (.Tuple es x1 pos) (tTup t):=by
  intro pins s σ H Q I hq
  refine wpAny_Tuple_spliced (thn (h pos pins s σ H _ I hq) fun us s1 ⟨xs,H1,I1,r,z,q⟩=>⟨by rw [← r.length]; exact z,?_⟩)
  have hf:H1 s1.heap.objs.size=none:=I1.hok.fresh (Nat.le_refl _)
  refine ⟨.ref s1.heap.objs.size,upd H1 s1.heap.objs.size (.tup xs),I1.laid (t':=s1.toks) (fun b u e=>Heap.get?_push_of_some _ e) (Nat.le_refl _) ?_,rfl,q _ hf⟩
  exact ⟨z,us,r,⟨_,Heap.get?_push_size _ rfl,rfl,_,rfl⟩⟩
theorem pe_lst (h:PA X es t):PE X (.List es pos) (tLst t):=by
  intro pins s σ H Q I hq
  refine wpAny_List_spliced (thn (h pos pins s σ H _ I hq) fun us s1 ⟨xs,H1,I1,r,z,q⟩=>⟨by rw [← r.length]; exact z,?_⟩)
  have hf:H1 s1.heap.objs.size=none:=I1.hok.fresh (Nat.le_refl _)
  refine ⟨.ref s1.heap.objs.size,upd H1 s1.heap.objs.size (.lst xs),I1.laid (t':=s1.toks) (fun b u e=>Heap.get?_push_of_some _ e) (Nat.le_refl _) ?_,rfl,q _ hf⟩
  exact ⟨z,us,0,r,Heap.get?_push_size _ rfl⟩
end
abbrev Sp:=List V→Hp→VK→XK→Prop
abbrev CXT:=List Env→Hp→Shared→XK→Value→Shared→Prop
structure Env0 (P:Program) (w:World) (K:PySem.W.Frag) (mg:Str→Option Value) (base:Heap) (A:Around) (outer:List Env) (s:Shared) (H:Hp):Prop where
  frames:A.frames=some outer
  mod:Mod K mg base
  bs:∀ b o,base.get? b=some o→s.heap.get? b=some o∧H b=none
  bsz:base.objs.size≤s.heap.objs.size
  funs:s.heap.FunFrames base outer
  frf:∀ b∈frs outer,H b=none
  hok:HOk P w H s.heap
  bare:AllBare s.gens
def CE (outer:List Env) (P:Program) (w:World) (H:Hp) (s:Shared) (Q:VK) (u:Value) (s':Shared):Prop :=
  ∃ v H',s'.os=s.os∧AllBare s'.gens∧Un (frs outer) [] H H' s.heap s'.heap∧HOk P w H' s'.heap∧RelV v u∧Q v H'
def CR (CX:CXT) (outer:List Env) (P:Program) (w:World) (H:Hp) (s:Shared) (Q:VK) (E:XK) (r:Result) (s':Shared):Prop :=
  match r with
  | .ok (.ret u)=>CE outer P w H s Q u s'
  | .ok _=>False
  | .error e=>CX outer H s E e s'
structure FnOk (P:Program) (w:World) (K:PySem.W.Frag) (mg:Str→Option Value) (base:Heap) (CX:CXT) (k:Nat) (f:Addr) (fd:FuncData) (ps:List Str) (sp:Sp):Prop where
  len:∀ vs H Q E,sp vs H Q E→vs.length=ps.length
  run:∀ (A:Around) (outer:List Env) (s:Shared) (H:Hp) (args:Args) (us:List Value) (vs:List V) (Q:VK) (E:XK),Room k A→Env0 P w K mg base A outer s H→BindsTo s fd args (ps.zip us)→Vals vs us→sp vs H Q E →
    codeAny (model P w) A (.call (.ref f) args) (CR CX outer P w H s Q E) s
theorem Env0.make {P:Program} {w:World} {K:PySem.W.Frag} {mg:Str→Option Value} {base:Heap} {A:Around} {outer:List Env} {s:Shared} {H:Hp} (e:Env0 P w K mg base A outer s H) (C:Addr) (us:List Value) (kw:List (Str×Value)) :
    Env0 P w K mg base (A.under (.builtin "type.__call__" ⟨.ref C :: us,kw⟩)) outer s H:=⟨by first | exact e.frames | (simpa [Around.under,Code.envs,Code.isFrame,pushEnvs] using e.frames),e.mod,e.bs,e.bsz,e.funs,e.frf,e.hok,e.bare⟩
section
variable {X:Cx} {pins:List (Addr×Obj)} {σ:St} {H:Hp} {s s':Shared}
theorem Inv.env0 (I:Inv X pins σ H s):Env0 X.prog X.w X.K X.mg X.base X.A X.stack s H :=
  ⟨I.ok.frames,I.ok.mod,I.bs,Nat.le_trans I.ok.bsz I.sz,I.stack,I.stkFree,I.hok,I.bare⟩
theorem Inv.after {Q:VK} {u:Value} (I:Inv X pins σ H s) (h:CE X.stack X.prog X.w H s Q u s'):EP X pins σ Q u s':=by
  obtain ⟨v,H',os,bare,un,hok,r,q⟩:=h
  obtain ⟨hh,g,d,t,os'⟩:=s'
  obtain rfl:os'=s.os:=os
  exact ⟨v,H',I.call (h':=hh) (g':=g) (d':=d) (t':=t) (ch:=[]) un hok bare (fun b z=>absurd z (by simp)),r,q⟩
end
def tCall (sp:Sp) (dvs:List V) (E:XK) (t:TA):TE:=fun σ H Q=>t σ H fun vs H1=>sp (vs++dvs) H1 Q E
def tMeth (C:Addr) (m:Str) (sp:Sp) (dvs:List V) (E:XK) (ta:TE) (t:TA):TE:=fun σ H Q=>ta σ H fun x H1=>∃ a dx fs,x=.ref a∧H1 a=some (.ins C dx fs)∧fs.lookup m=none ∧
  t σ H1 fun vs H2=>sp (x :: (vs++dvs)) H2 Q E
def tMake (C:Addr) (sp:Sp) (dvs:List V) (E:XK) (t:TA):TE:=fun σ H Q=>t σ H fun vs H1=>∀ x dx,H1 x=none→H1 dx=none→dx≠x →
  sp (.ref x :: (vs++dvs)) (upd (upd H1 dx (.own x)) x (.ins C dx [])) (fun v H2=>v=.non∧Q (.ref x) H2) E
def Binds (K:PySem.W.Frag) (fd:FuncData) (ps:List Str) (ds:List Value):Prop :=
  ∀ (s:Shared) (us:List Value),K.In s.heap→(us++ds).length=ps.length→BindsTo s fd ⟨us,[]⟩ (ps.zip (us++ds))
theorem Binds.all {K:PySem.W.Frag} {fd:FuncData} {ps:List Str} (h:∀ us:List Value,us.length=ps.length→bindArgs fd ⟨us,[]⟩=pure (ps.zip us)):Binds K fd ps []:=fun s us _ hl=>by
  rw [List.append_nil] at hl ⊢
  exact .of_eq (h us hl)
def Passes (CX:CXT) (X:Cx) (E:XK):Prop:=∀ (pins:List (Addr×Obj)) (σ:St) (H:Hp) (s:Shared) (e:Value) (s':Shared),Inv X pins σ H s→CX X.stack H s E e s'→X.xe e s'
section
variable {X:Cx} {CX:CXT} {k:Nat} {f C:Addr} {fd:FuncData} {ps:List Str} {sp:Sp} {dvs:List V} {ds:List Value} {E:XK} {x m:Str} {p pos apos:Pos} {e o:Expr} {es:List Expr} {ta:TE} {t:TA}
theorem run_fn {pins:List (Addr×Obj)} {σ:St} {H:Hp} {s:Shared} {Q:VK} {us:List Value} {vs:List V} (F:FnOk X.prog X.w X.K X.mg X.base CX k f fd ps sp) (hr:Room k X.A) (hb:Binds X.K fd ps ds) (hd:Vals dvs ds) (hx:Passes CX X E)
    (I:Inv X pins σ H s) (r:Vals vs us) (h:sp (vs++dvs) H Q E):wpAny (model X.prog X.w) X.A (call (.ref f) us) (EP X pins σ Q) X.xe s:=by
  have r2:Vals (vs++dvs) (us++ds):=r.append hd
  have hl:(us++ds).length=ps.length:=by rw [← r2.length]; exact F.len _ _ _ _ h
  refine wpAny_call (codeAny_mono (F.run X.A X.stack s H ⟨us,[]⟩ (us++ds) (vs++dvs) Q E hr I.env0 (hb s us I.kIn hl) r2 h) fun r s' hq=>?_)
  cases r with
  | error e=>exact hx pins σ H s e s' I hq
  | ok fl =>
    cases fl with
    | ret u=>exact I.after hq
    | next=>exact False.elim hq
    | brk=>exact False.elim hq
    | cont=>exact False.elim hq
theorem pe_call (F:FnOk X.prog X.w X.K X.mg X.base CX k f fd ps sp) (hr:Room k X.A) (hg:Gl X x) (hm:X.mg x=some (.ref f)) (hk:PySem.W.keepIn X.K (.ref f)=true) (hb:Binds X.K fd ps ds) (hd:Vals dvs ds) (hx:Passes CX X E)
    (ha:PA X (e :: es) t) (hdb:(x == ("__debug__" : Str))=false:=by decide) (he:starEach (e :: es) X.env=(false,eval e X.env) :: starEach es X.env:=by rfl) (hpl:(backTo pos (starEach es X.env)).any (·.1)=false:=by rfl) :
    PE X (.Call (.Name x p) (e :: es) [] pos) (tCall sp dvs E t):=by
  intro pins s σ H Q I h
  refine wpAny_Call_Name_kw (ld_glob I hg hm ?_ hdb)
  refine PySem.W.callWith_K (h₀:=X.base) I.ok.mod.kin hk (thn (ha pos pins s σ H _ I h) fun us s1 ⟨vs,H1,I1,r,q⟩=>⟨I1.kIn,?_⟩) he hpl
  exact run_fn F hr hb hd hx I1 r q
theorem pe_meth {pl:Sem Bool} (he:PE X o ta) (c:Cls X.K C) (hm:Meth X.K C m f) (F:FnOk X.prog X.w X.K X.mg X.base CX k f fd ps sp) (hr:Room k X.A) (hb:Binds X.K fd ps ds) (hd:Vals dvs ds) (hx:Passes CX X E) (ha:PA X (e :: es) t)
    (hst:starEach (e :: es) X.env=(false,eval e X.env) :: starEach es X.env:=by rfl) (hpl:(backTo pos (starEach es X.env)).any (·.1)=false:=by rfl)
    (ht:eval (.Call (.Attribute o m apos) (e :: es) [] pos) X.env=(do
      let ov ← eval o X.env
      standAt apos.atName
      let (f,first) ← holding [ov] (getMethod ov m pl)
      callWith pos f first (backTo pos (starEach (e :: es) X.env)) (backToKw pos (keywordEach [] X.env))):=by rfl) :
    PE X (.Call (.Attribute o m apos) (e :: es) [] pos) (tMeth C m sp dvs E ta t):=by
  intro pins s σ H Q I h
  refine PySem.W.methodCall_KW (pl:=pl) (thn (he pins s σ H _ I h) fun u s1 ⟨x,H1,I1,rx,a,dx,fs,ex,ea,l,q⟩=>?_) ht
  subst ex
  obtain rfl:u=Value.ref a:=rx
  refine getmeth_ok I1 ea c hm l ?_
  refine PySem.W.callWith_K (first:=[.ref a]) (h₀:=X.base) I.ok.mod.kin hm.kp (thn (ha pos pins s1 σ H1 _ I1 q) fun us s2 ⟨vs,H2,I2,r,q2⟩=>⟨I2.kIn,?_⟩) hst hpl
  exact run_fn (us:=.ref a :: us) (vs:=.ref a :: vs) F hr hb hd hx I2 (.cons rfl r) q2
theorem pe_meth0 {pl:Sem Bool} (he:PE X o ta) (c:Cls X.K C) (hm:Meth X.K C m f) (F:FnOk X.prog X.w X.K X.mg X.base CX k f fd ps sp) (hr:Room k X.A) (hb:Binds X.K fd ps ds) (hd:Vals dvs ds) (hx:Passes CX X E)
    (ht:eval (.Call (.Attribute o m apos) [] [] pos) X.env=(do
      let ov ← eval o X.env
      standAt apos.atName
      let (f,first) ← holding [ov] (getMethod ov m pl)
      callWith pos f first (backTo pos (starEach [] X.env)) (backToKw pos (keywordEach [] X.env))):=by rfl) :
    PE X (.Call (.Attribute o m apos) [] [] pos) (tMeth C m sp dvs E ta tNil):=by
  intro pins s σ H Q I h
  refine PySem.W.methodCall_KW (pl:=pl) (thn (he pins s σ H _ I h) fun u s1 ⟨x,H1,I1,rx,a,dx,fs,ex,ea,l,q⟩=>?_) ht
  subst ex
  obtain rfl:u=Value.ref a:=rx
  refine getmeth_ok I1 ea c hm l ?_
  exact PySem.W.callWith_K0 (first:=[.ref a]) I1.kIn hm.kp (run_fn (us:=[.ref a]) (vs:=[.ref a]) F hr hb hd hx I1 (.cons rfl .nil) q)
structure Mk (K:PySem.W.Frag) (C f:Addr):Prop where
  makes:PySem.W.makesIn K C=true
  init:PySem.W.findIn K (.ref C) "__init__" = some (some (.ref f))
  fn:PySem.W.isFn K (.ref f)=true
  kp:PySem.W.keepIn K (.ref C)=true
theorem run_make {pins:List (Addr×Obj)} {σ:St} {H:Hp} {s:Shared} {Q:VK} {us:List Value} {vs:List V} (M:Mk X.K C f) (F:FnOk X.prog X.w X.K X.mg X.base CX k f fd ps sp) (hr:Room (k+1) X.A) (hb:Binds X.K fd ps ds) (hd:Vals dvs ds)
    (hx:Passes CX X E) (I:Inv X pins σ H s) (r:Vals vs us)
    (h:∀ x dx,H x=none→H dx=none→dx≠x→sp (.ref x :: (vs++dvs)) (upd (upd H dx (.own x)) x (.ins C dx [])) (fun v H2=>v=.non∧Q (.ref x) H2) E) :
    wpAny (model X.prog X.w) X.A (call (.ref C) us) (EP X pins σ Q) X.xe s:=by
  have hq:=h (s.heap.objs.size+1) s.heap.objs.size (I.hok.fresh (Nat.le_succ _)) (I.hok.fresh (Nat.le_refl _)) (Nat.ne_of_lt (Nat.lt_succ_self _))
  have I2:=Inv.made (C:=C) I
  have r2:Vals (V.ref (s.heap.objs.size+1) :: (vs++dvs)) (Value.ref (s.heap.objs.size+1) :: (us++ds)):=.cons rfl (r.append hd)
  have hl:(Value.ref (s.heap.objs.size+1) :: us++ds).length=ps.length:=by
    have e:=r2.length
    rw [F.len _ _ _ _ hq] at e
    exact e.symm
  refine wpAny_call (make_map (f:=f) I.kIn M.makes M.init (beq_iff_eq.mp M.fn) (codeAny_mono (F.run _ X.stack _ _ ⟨Value.ref (s.heap.objs.size+1) :: us,[]⟩ (Value.ref (s.heap.objs.size+1) :: (us++ds)) _ _ E (hr.make C us [])
    (I2.env0.make C us []) (hb _ (Value.ref (s.heap.objs.size+1) :: us) I2.kIn hl) r2 hq) fun r s' hq'=>?_))
  cases r with
  | error e=>exact hx pins σ _ _ e s' I2 hq'
  | ok fl =>
    cases fl with
    | ret u =>
      obtain ⟨v,H',I3,rv,ev,q3⟩:=I2.after hq'
      subst ev
      exact ⟨rv,⟨V.ref (s.heap.objs.size+1),H',I3,rfl,q3⟩⟩
    | next=>exact False.elim hq'
    | brk=>exact False.elim hq'
    | cont=>exact False.elim hq'
theorem pe_make (M:Mk X.K C f) (F:FnOk X.prog X.w X.K X.mg X.base CX k f fd ps sp) (hr:Room (k+1) X.A) (hg:Gl X x) (hm:X.mg x=some (.ref C)) (hb:Binds X.K fd ps ds) (hd:Vals dvs ds) (hx:Passes CX X E)
    (ha:PA X (e :: es) t) (hdb:(x == ("__debug__" : Str))=false:=by decide) (he:starEach (e :: es) X.env=(false,eval e X.env) :: starEach es X.env:=by rfl) (hpl:(backTo pos (starEach es X.env)).any (·.1)=false:=by rfl) :
    PE X (.Call (.Name x p) (e :: es) [] pos) (tMake C sp dvs E t):=by
  intro pins s σ H Q I h
  refine wpAny_Call_Name_kw (ld_glob I hg hm ?_ hdb)
  refine PySem.W.callWith_K (h₀:=X.base) I.ok.mod.kin M.kp (thn (ha pos pins s σ H _ I h) fun us s1 ⟨vs,H1,I1,r,q⟩=>⟨I1.kIn,?_⟩) he hpl
  exact run_make M F hr hb hd hx I1 r q
end
structure FnScope (N P:List Str) (sc:Scope):Prop where
  kind:sc.kind=.function
  co:sc.isCoroutine=false
  gen:sc.isGenerator=false
  nd:N.Nodup
  pre:N.take P.length=P
  par:∀ x∈P,sc.names.lookup x=some .local∨sc.names.lookup x=some .cell
  nofree:∀ y∈sc.names,y.2≠.free
theorem bindL_out {kindOf:Str→Option NameKind} {x:Str}:∀ {binds:List (Str×Value)} {m:Str→Option Value},(∀ v,(x,v)∉binds)→bindL kindOf binds m x=m x
  | [],_,_=>rfl
  | (n,v) :: r,m,h=>by
    unfold bindL
    rw [bindL_out fun w hw=>h w (List.mem_cons_of_mem _ hw)]
    split
    · have:x≠n:=by rintro rfl; exact h v List.mem_cons_self
      simp [this]
    · rfl
theorem bindC_out {kindOf:Str→Option NameKind} {x:Str}:∀ {binds:List (Str×Value)} {m:Str→Option Value},(∀ v,(x,v)∉binds)→bindC kindOf binds m x=m x
  | [],_,_=>rfl
  | (n,v) :: r,m,h=>by
    unfold bindC
    rw [bindC_out fun w hw=>h w (List.mem_cons_of_mem _ hw)]
    split
    · rfl
    · have:x≠n:=by rintro rfl; exact h v List.mem_cons_self
      simp [this]
theorem bindL_get {kindOf:Str→Option NameKind} {x:Str} {v:Value}:∀ {P:List Str} {vs:List Value} {i:Nat} {m:Str→Option Value},P.Nodup→P[i]?=some x→vs[i]?=some v→kindOf x=some .local →
    bindL kindOf (P.zip vs) m x=some v
  | [],_,_,_,_,h,_,_=>by simp at h
  | _ :: _,[],_,_,_,_,h,_=>by simp at h
  | p :: P,w :: vs,0,m,nd,h1,h2,hk=>by
    simp at h1 h2; subst h1; subst h2
    show bindL kindOf ((p,w) :: P.zip vs) m p=_
    unfold bindL
    rw [bindL_out fun v hv=>(List.nodup_cons.mp nd).1 (List.of_mem_zip hv).1,if_pos hk]
    simp
  | p :: P,w :: vs,i+1,m,nd,h1,h2,hk=>by
    show bindL kindOf ((p,w) :: P.zip vs) m x=_
    unfold bindL
    exact bindL_get (i:=i) (List.nodup_cons.mp nd).2 (by simpa using h1) (by simpa using h2) hk
theorem bindC_get {kindOf:Str→Option NameKind} {x:Str} {v:Value}:∀ {P:List Str} {vs:List Value} {i:Nat} {m:Str→Option Value},P.Nodup→P[i]?=some x→vs[i]?=some v→kindOf x≠some .local →
    bindC kindOf (P.zip vs) m x=some v
  | [],_,_,_,_,h,_,_=>by simp at h
  | _ :: _,[],_,_,_,_,h,_=>by simp at h
  | p :: P,w :: vs,0,m,nd,h1,h2,hk=>by
    simp at h1 h2; subst h1; subst h2
    show bindC kindOf ((p,w) :: P.zip vs) m p=_
    unfold bindC
    rw [bindC_out fun v hv=>(List.nodup_cons.mp nd).1 (List.of_mem_zip hv).1,if_neg hk]
    simp
  | p :: P,w :: vs,i+1,m,nd,h1,h2,hk=>by
    show bindC kindOf ((p,w) :: P.zip vs) m x=_
    unfold bindC
    exact bindC_get (i:=i) (List.nodup_cons.mp nd).2 (by simpa using h1) (by simpa using h2) hk
def start (N:List Str) (vs:List V):St:=vs.map some++List.replicate (N.length - vs.length) none
def cxOf (CX:CXT) (P:Program) (w:World) (K:PySem.W.Frag) (mg:Str→Option Value) (base:Heap) (N:List Str) (qual:Str) (scope:Scope) (f:Addr) (cd:Value) (A:Around) (outer:List Env) (s:Shared) (H:Hp) (E:XK):Cx where
  prog:=P
  w:=w
  K:=K
  mg:=mg
  base:=base
  A:=A.deeper (envOfC qual scope s.heap.objs.size f cd)
  N:=N
  s₀:=s
  H₀:=H
  env:=envOfC qual scope s.heap.objs.size f cd
  outer:=outer
  stack:=envOfC qual scope s.heap.objs.size f cd :: outer
  ex:=[]
  calm:=true
  fn:=fun _=>true
  pn:=[]
  xe:=fun e s'=>wpAny (model P w) (A.deeper (envOfC qual scope s.heap.objs.size f cd)) (leaving (envOfC qual scope s.heap.objs.size f cd) e) (fun _ s''=>CX outer H s E e s'') (fun e' s''=>CX outer H s E e' s'') s'
theorem cell_has {sc:Scope} {n:Nat} {x:Str} (h:sc.names.lookup x=some .cell):∃ c,(cellsFrom n sc.names []).lookup x=some c:=by
  have q:=PySem.W.cellsFrom_some sc.names n [] (.inl h)
  exact Option.isSome_iff_exists.mp q
theorem inv_start {CX:CXT} {P:Program} {w:World} {K:PySem.W.Frag} {mg:Str→Option Value} {base:Heap} {N ps:List Str} {qual:Str} {scope:Scope} {f:Addr} {cd:Value} {A:Around} {outer:List Env} {s s1:Shared} {H:Hp} {E:XK} {us:List Value} {vs:List V}
    (S:FnScope N ps scope) (hd:A.handled=none) (e0:Env0 P w K mg base A outer s H) (hl:vs.length=ps.length) (r:Vals vs us)
    (x:InCallC s s.heap.objs.size (bindL (envOfC qual scope s.heap.objs.size f cd).kindOf (ps.zip us) fun _=>none) (cellsFrom (s.heap.objs.size+1) scope.names []) (bindC (envOfC qual scope s.heap.objs.size f cd).kindOf (ps.zip us) fun _=>none) s1) :
    Inv (cxOf CX P w K mg base N qual scope f cd A outer s H E) [] (start N vs) H s1:=by
  have hpl:ps.length≤N.length:=by have:=congrArg List.length S.pre; rw [List.length_take] at this; omega
  obtain ⟨h1,tk,rfl,hk⟩:=x.done
  have noA:∀ b:Addr,b∉(cxOf CX P w K mg base N qual scope f cd A outer s H E).ex:=fun b z=>absurd (show b∈([]:List Addr) from z) (by simp)
  refine ⟨⟨e0.mod,S.kind,rfl,rfl,Nat.le_refl _,fun y z c h1 h2=>?_,fun y hy=>?_,fun y c _ h=>?_,fun _=>hd,Around.frames_deeper e0.frames,.inr ⟨rfl,rfl⟩,fun b z=>absurd z (noA b),e0.bs,e0.bsz,fun b _ _=>noA b,fun b z=>absurd z (noA b),e0.funs,e0.frf⟩,
    rfl,e0.bare,Un.kept hk,⟨_,x.toInCall.ns,fun i y v h1 h2 h3=>?_⟩,fun y c h=>⟨_,x.cell y c h⟩,e0.hok.fresh (Nat.le_refl _),fun y c h=>?_,fun p hp=>absurd (show p∈([]:List (Addr×Obj)) from hp) (by simp),e0.hok.kept hk,?_⟩
  · exact name_of_addr x.apart (PySem.mem_of_lookup h1) (PySem.mem_of_lookup h2)
  · have hy:scope.names.lookup y=some .cell∨scope.names.lookup y=some .free:=hy
    rcases hy with hy | hy
    · exact cell_has hy
    · exact absurd rfl (S.nofree _ (PySem.mem_of_lookup hy))
  · exact Nat.le_of_lt (x.above y c (PySem.mem_of_lookup h))
  · have hi:i<vs.length:=by
      unfold start at h2
      by_cases hi:i<vs.length
      · exact hi
      · rw [List.getElem?_append_right (by simpa using hi)] at h2
        rw [List.getElem?_replicate] at h2
        split at h2 <;> cases h2
    have ha:vs[i]?=some v:=by
      unfold start at h2
      rw [List.getElem?_append_left (by simpa using hi),List.getElem?_map] at h2
      cases e:vs[i]? with
      | none=>rw [e] at h2; cases h2
      | some a=>rw [e] at h2; cases h2; rfl
    obtain ⟨u,hu,rv⟩:=r.get ha
    have hp:ps[i]?=some y:=by
      rw [← S.pre,List.getElem?_take_of_lt (by omega)]; exact h1
    have ndP:ps.Nodup:=by rw [← S.pre]; exact S.nd.sublist (List.take_sublist _ _)
    refine ⟨u,rv,?_⟩
    rcases S.par y (List.mem_of_getElem? hp) with k | k
    · exact .inl ⟨k,bindL_get ndP hp hu k⟩
    · obtain ⟨c,e⟩:=cell_has (n:=s.heap.objs.size+1) k
      refine .inr ⟨.inl k,c,e,?_⟩
      have q:=x.cell y c e
      rw [bindC_get ndP hp hu (by show scope.names.lookup y≠_; rw [k]; decide)] at q
      exact q
  · exact e0.hok.fresh (Nat.le_of_lt (x.above y c (PySem.mem_of_lookup h)))
  · unfold start
    show _=N.length
    rw [List.length_append,List.length_map,List.length_replicate]
    omega
theorem fn_of {CX:CXT} {P:Program} {w:World} {K:PySem.W.Frag} {mg:Str→Option Value} {base:Heap} {k:Nat} {f:Addr} {name qual:Str} {params:Arguments} {body:List Stmt} {scope:Scope} {dV kV doc pm cdv ct oc:Value} {an od:Option Addr}
    {osl:Array (Option Value)} {N ps:List Str} {sp:Sp} (lk:K.lookup f=some ⟨oc,od,.func (PySem.W.fnOf name qual params body scope dV kV doc pm an cdv ct),osl⟩) (hcd:PySem.W.codeIn K cdv qual=true) (S:FnScope N ps scope)
    (len:∀ vs H Q E,sp vs H Q E→vs.length=ps.length)
    (hbody:∀ (A:Around) (outer:List Env) (s:Shared) (H:Hp) (vs:List V) (Q:VK) (E:XK),Room k (A.deeper (envOfC qual scope s.heap.objs.size f cdv))→sp vs H Q E →
      ∃ t,PSs (cxOf CX P w K mg base N qual scope f cdv A outer s H E) body t∧t { nx:=fun _ H'=>Q .non H',rt:=Q } (start N vs) H) :
    FnOk P w K mg base CX (k+1) f (PySem.W.fnOf name qual params body scope dV kV doc pm an cdv ct) ps sp:=by
  refine ⟨len,fun A outer s H args us vs Q E hr e0 hb r hsp=>?_⟩
  have hl:=len _ _ _ _ hsp
  have KX:K.In s.heap:=e0.mod.kin.keeps fun b o e=>(e0.bs b o e).1
  have lim:s.heap.NoLimit:=e0.mod.nolimit.keeps fun b o e=>(e0.bs b o e).1
  have hkind:∀ y∈ps.zip us,scope.names.lookup y.1=some .local∨(scope.names.lookup y.1=some .cell∧((cellsFrom (s.heap.objs.size+1) scope.names []).lookup y.1).isSome=true):=fun ⟨n,v⟩ hy=>by
    rcases S.par n (List.of_mem_zip hy).1 with q | q
    · exact .inl q
    · exact .inr ⟨q,PySem.W.cellsFrom_some _ _ _ (.inl q)⟩
  refine codeAny_call_function hr.depth (KX _ _ lk) rfl S.co S.gen rfl (PySem.W.codeRec_of KX hcd) (hb _ _ _ _ ?_)
  refine wpAny_newFunctionEnv_cells S.kind hkind fun env he s1 x=>?_
  subst he
  refine ⟨lim.keeps x.toInCall.keep,codeAny_func ?_⟩
  obtain ⟨t,ht,hq⟩:=hbody A outer s H vs Q E (hr.deeper _) hsp
  have I:Inv (cxOf CX P w K mg base N qual scope f cdv A outer s H E) [] (start N vs) H s1:=inv_start S hr.hd e0 hl r x
  refine wpAny_mono (ht [] s1 (start N vs) H _ I hq) (fun fl s' hs=>?_) fun e s' hs=>hs
  have fin:∀ {σ':St} {H':Hp} {v:V} {u:Value},Inv (cxOf CX P w K mg base N qual scope f cdv A outer s H E) [] σ' H' s'→RelV v u→Q v H'→CE outer P w H s Q u s' :=
    fun {σ' H' v u} J rv q=>⟨v,H',J.os,J.bare,J.base,J.hok,rv,q⟩
  cases fl with
  | ret u =>
    obtain ⟨v,σ',H',J,rv,q⟩:=hs
    exact fin J rv q
  | next =>
    obtain ⟨σ',H',J,q⟩:=hs
    exact fin (v:=V.non) (u:=Value.none) J rfl q
  | brk =>
    obtain ⟨_,_,_,q⟩:=hs
    exact False.elim q
  | cont =>
    obtain ⟨_,_,_,q⟩:=hs
    exact False.elim q
end L2
namespace L2
open PySem PySem.Spec PyProof.Rows
section
variable {X:Cx} {x:Str} {p pos:Pos} {e:Expr} {es:List Expr} {t:TA} {id T:String} {r:List V→Hp→VK→Prop}
def tCB (r:List V→Hp→VK→Prop) (t:TA):TE:=fun σ H Q=>t σ H fun vs H1=>r vs H1 Q
theorem pe_callB (hc:CallR X (.builtin id) r) (hg:Gl X x) (hm:X.mg x=none) (hv:bootBuiltins x=some (.builtin id)) (ha:PA X (e :: es) t) (hn:x ≠ "__name__" := by decide) (hdb:(x == ("__debug__" : Str))=false:=by decide)
    (he:starEach (e :: es) X.env=(false,eval e X.env) :: starEach es X.env:=by rfl) (hpl:(backTo pos (starEach es X.env)).any (·.1)=false:=by rfl):PE X (.Call (.Name x p) (e :: es) [] pos) (tCB r t):=by
  intro pins s σ H Q I h
  refine wpAny_Call_Name_kw (ld_blt I hg hm hv ?_ hn hdb)
  exact PyProof.Rows.callWith_builtin1 (thn (ha pos pins s σ H _ I h) fun us s1 ⟨vs,H1,I1,r1,q1⟩=>hc pins s1 σ H1 vs us Q I1 r1 q1) he hpl
theorem pe_callTy (hc:CallR X (.type T) r) (hg:Gl X x) (hm:X.mg x=none) (hv:bootBuiltins x=some (.type T)) (ha:PA X (e :: es) t) (hn:x ≠ "__name__" := by decide) (hdb:(x == ("__debug__" : Str))=false:=by decide)
    (he:starEach (e :: es) X.env=(false,eval e X.env) :: starEach es X.env:=by rfl) (hpl:(backTo pos (starEach es X.env)).any (·.1)=false:=by rfl):PE X (.Call (.Name x p) (e :: es) [] pos) (tCB r t):=by
  intro pins s σ H Q I h
  refine wpAny_Call_Name_kw (ld_blt I hg hm hv ?_ hn hdb)
  exact PyProof.Rows.callWith_type1 (thn (ha pos pins s σ H _ I h) fun us s1 ⟨vs,H1,I1,r1,q1⟩=>hc pins s1 σ H1 vs us Q I1 r1 q1) he hpl
end
end L2
namespace HT
open PySem PyProof.Rows
def lexLt:List Int→List Int→Bool
  | [],[]=>false
  | [],_ :: _=>true
  | _ :: _,[]=>false
  | x :: xs,y :: ys=>if x=y then lexLt xs ys else decide (x<y)
theorem lexLt_cons (x y:Int) (xs ys:List Int):lexLt (x :: xs) (y :: ys)=if x=y then lexLt xs ys else decide (x<y):=rfl
theorem lexLt_nil_nil:lexLt [] []=false:=rfl
theorem lexLt_nil_cons (y:Int) (ys:List Int):lexLt [] (y :: ys)=true:=rfl
theorem lexLt_cons_nil (x:Int) (xs:List Int):lexLt (x :: xs) []=false:=rfl
theorem eqAt_int (A:Around) (s:Shared) (a:Int) (t:Tok) (c:Int) (u:Tok):∃ e,SeqAt.EqAt A s (.int a t) (.int c u) e∧(e=true↔a=c) :=
  ⟨(a == c),SeqAt.EqAt.int_int a t c u,by simp⟩
theorem rcLt_int (A:Around) (s:Shared) (a:Int) (t:Tok) (c:Int) (u:Tok) (prog:Program) (w:World) (E:Value→Shared→Prop) (Q:Value→Shared→Prop) (h:Q (.bool (decide (a<c))) s) :
    wpAny (model prog w) A (richCompare .Lt (.int a t) (.int c u)) Q E s :=
  (PyProof.Rows.lt_int h:wpAny (model prog w) A (compareOp .Lt (.int a t) (.int c u)) Q E s)
section
open PySem.SeqAt
open PySem.AutoSeq1 (wpAny_loadPart')
open PySem.MeetsSeq PySem.MeetsSeq2 PySem.MeetsSeq3
end
section
variable {prog:Program} {w:World} {A:Around} {E:Value→Shared→Prop} {s:Shared}
def sIx (n d:Nat):Option Int→Nat
  | none=>d
  | some v=>if v<0 then (v+(n:Int)).toNat else min v.toNat n
theorem sIx_none (n d:Nat):sIx n d none=d:=rfl
theorem sIx_nat (n d k:Nat):sIx n d (some (k:Int))=min k n:=by
  show (if (k:Int)<0 then ((k:Int)+(n:Int)).toNat else min (k:Int).toNat n)=min k n
  rw [if_neg (by omega),Int.toNat_natCast]
end
end HT
namespace L2
open PySem PySem.Spec PyProof.Rows
abbrev TO:=St→Hp→(Option Int→Hp→Prop)→Prop
def PO (X:Cx) (e:Option Expr) (t:TO):Prop :=
  ∀ (pins:List (Addr×Obj)) (s:Shared) (σ:St) (H:Hp) (Q:Option Int→Hp→Prop),Inv X pins σ H s→t σ H Q →
    wpAny (model X.prog X.w) X.A (evalPart e X.env) (fun u s'=>∃ o H',Inv X pins σ H' s'∧IsPart u o∧Q o H') X.xe s
def tNoPart:TO:=fun _ H Q=>Q none H
def tPart (t:TE):TO:=fun σ H Q=>t σ H fun x H1=>∃ i,x=.int i∧Q (some i) H1
theorem intsAre_of {ns:List Int}:∀ {us:List Value},Vals (ns.map V.int) us→IntsAre us ns:=by
  induction ns with
  | nil=>intro us r; rw [List.map_nil] at r; cases r; exact .nil
  | cons n ns ih =>
    intro us r
    rw [List.map_cons] at r
    cases r with
    | cons r1 r2 =>
      obtain ⟨t,e⟩:=r1
      subst e
      exact .cons n t (ih r2)
section
variable {X:Cx} {e:Expr} {te:TE} {lo hi:Option Expr} {tl th:TO} {pos p2:Pos}
theorem po_none:PO X none tNoPart:=by
  intro pins s σ H Q I h
  rw [evalPart_none]
  exact wpAny_pure ⟨none,H,I,.none,h⟩
theorem po_some (h:PE X e te):PO X (some e) (tPart te):=by
  intro pins s σ H Q I hw
  rw [evalPart_some]
  refine thn (h pins s σ H _ I hw) fun u s1 ⟨x,H1,I1,r1,q1⟩=>?_
  obtain ⟨i,rfl,q⟩:=q1
  obtain ⟨t,rfl⟩:=r1
  exact ⟨some i,H1,I1,.int i t,q⟩
def SlR (X:Cx) (r:V→Option Int→Option Int→Hp→VK→Prop):Prop :=
  ∀ (pins:List (Addr×Obj)) (s:Shared) (σ:St) (H:Hp) (x:V) (v vl vu:Value) (lo hi:Option Int) (sl:Addr) (Q:VK),Inv X pins σ H s→RelV x v→s.heap.IsSliceOf sl vl vu .none→IsPart vl lo→IsPart vu hi→r x lo hi H Q →
    ∃ T id,typeLookup (.type T) "__getitem__" = pure (some (.builtin id))∧s.TypeIs v T∧wpAny (model X.prog X.w) X.A (getItem v (.ref sl)) (EP X pins σ Q) X.xe s
def tSl (r:V→Option Int→Option Int→Hp→VK→Prop) (te:TE) (tl th:TO):TE:=fun σ H Q=>te σ H fun x H1=>tl σ H1 fun l H2=>th σ H2 fun u H3=>r x l u H3 Q
theorem pe_slice {r:V→Option Int→Option Int→Hp→VK→Prop} (hr:SlR X r) (he:PE X e te) (hl:PO X lo tl) (hu:PO X hi th):PE X (.Subscript e (.Slice lo hi none p2) pos) (tSl r te tl th):=by
  intro pins s σ H Q I h
  refine Subscript_ (thn (he pins s σ H _ I h) fun v s1 ⟨x,H1,I1,r1,q1⟩=>?_)
  refine wpAny_Slice (thn (hl pins s1 σ H1 _ I1 q1) fun vl s2 ⟨l,H2,I2,pl,q2⟩=>thn (hu pins s2 σ H2 _ I2 q2) fun vu s3 ⟨u,H3,I3,pu,q3⟩=>?_)
  rw [evalPart_none]
  refine wpAny_pure ?_
  have I4:Inv X pins σ H3 { s3 with heap:=s3.heap.push { cls:=.type "slice",data:=.fields #[vl,vu,.none] } }:=I3.kept (t':=s3.toks) fun b ob q=>Heap.get?_push_of_some _ q
  obtain ⟨T,id,hT,ht,hg⟩:=hr pins { s3 with heap:=s3.heap.push { cls:=.type "slice",data:=.fields #[vl,vu,.none] } } σ H3 x v vl vu l u s3.heap.objs.size Q I4 r1 (Heap.IsSliceOf.new ..) pl pu q3
  show wpAny (model X.prog X.w) X.A (subscriptTail e (.Slice lo hi none p2) v (.ref s3.heap.objs.size)) (EP X pins σ Q) X.xe { s3 with heap:=s3.heap.push { cls:=.type "slice",data:=.fields #[vl,vu,.none] } }
  exact tail_any (ops:=[.ref s3.heap.objs.size,v]) ht hT hg (by with_unfolding_all rfl)
def cutV (xs:List V) (lo hi:Option Int):List V:=(xs.drop (HT.sIx xs.length 0 lo)).take (HT.sIx xs.length xs.length hi - HT.sIx xs.length 0 lo)
theorem cutV_length (xs:List V) (lo hi:Option Int):(cutV xs lo hi).length≤xs.length:=by
  unfold cutV
  rw [List.length_take,List.length_drop]
  omega
end
end L2
namespace L2
open PySem PySem.Spec PyProof.Rows
def ixN (n:Nat) (i:Int):Option Nat:=if 0≤i then (if i<n then some i.toNat else none) else if -(n:Int)≤i then some (i+n).toNat else none
def atI {α:Type} (xs:List α) (i:Int):Option α:=(ixN xs.length i).bind fun j=>xs[j]?
theorem ixN_seq {n:Nat} {i:Int} {j:Nat} (h:ixN n i=some j):seqIndex? i n=some j∧j<n ∧ -(n:Int)≤i∧i<n:=by
  unfold ixN at h
  by_cases h0:0≤i
  · rw [if_pos h0] at h
    by_cases h1:i<n
    · rw [if_pos h1] at h
      have e:i.toNat=j:=Option.some.inj h
      exact ⟨by rw [seqIndex_of h0 h1,e],by omega,by omega,h1⟩
    · rw [if_neg h1] at h; cases h
  · rw [if_neg h0] at h
    by_cases h1 : -(n:Int)≤i
    · rw [if_pos h1] at h
      have e:(i+n).toNat=j:=Option.some.inj h
      exact ⟨by rw [seqIndex_neg (by omega) h1,e],by omega,h1,by omega⟩
    · rw [if_neg h1] at h; cases h
theorem atI_get {α:Type} {xs:List α} {i:Int} {v:α} (h:atI xs i=some v):∃ j,seqIndex? i xs.length=some j∧xs[j]?=some v∧j<xs.length ∧ -(xs.length:Int)≤i∧i<xs.length:=by
  unfold atI at h
  cases e:ixN xs.length i with
  | none=>rw [e] at h; cases h
  | some j =>
    rw [e] at h
    obtain ⟨h1,h2,h3,h4⟩:=ixN_seq e
    exact ⟨j,h1,h,h2,h3,h4⟩
theorem atI_nat {α:Type} {xs:List α} {j:Nat} {v:α} (h:xs[j]?=some v):atI xs (j:Int)=some v:=by
  have hj:j<xs.length:=(List.getElem?_eq_some_iff.mp h).1
  have e:ixN xs.length (j:Int)=some j:=by
    unfold ixN
    rw [if_pos (by omega),if_pos (by omega)]; simp
  unfold atI; rw [e]; exact h
def PlainIx (b:Expr):Prop:=∀ o i,subscripted b false o i=operate [o,i] (getItem o i)
def IxR (X:Cx) (r:R2):Prop :=
  ∀ (value slice:Expr) (pins:List (Addr×Obj)) (s:Shared) (σ:St) (H:Hp) (x y:V) (v u:Value) (Q:VK),Inv X pins σ H s→RelV x v→RelV y u→r x y H Q →
    subscripted slice false v u=operate [v,u] (getItem v u)→wpAny (model X.prog X.w) X.A (subscriptTail value slice v u) (EP X pins σ Q) X.xe s
def MtR (X:Cx) (id:String) (r:V→List V→Hp→VK→Prop):Prop :=
  ∀ (pins:List (Addr×Obj)) (s:Shared) (σ:St) (H:Hp) (x:V) (xs:List V) (v:Value) (us:List Value) (Q:VK),Inv X pins σ H s→RelV x v→Vals xs us→r x xs H Q →
    wpAny (model X.prog X.w) X.A (call (.builtin id) (v :: us)) (EP X pins σ Q) X.xe s
section
variable {X:Cx} {a b:Expr} {ta tb:TE} {pos:Pos}
theorem pe_ix {r:R2} (hr:IxR X r) (ha:PE X a ta) (hb:PE X b tb) (hs:PlainIx b):PE X (.Subscript a b pos) (tOp r ta tb):=by
  intro pins s σ H Q I h
  exact Subscript_ (binT ha hb I h fun v u s2 x y H2 I2 rx ry q=>hr a b pins s2 σ H2 x y v u Q I2 rx ry q (hs _ _))
def rIxL (K:PySem.W.Frag):R2:=fun x y H Q=>∃ p xs i v,x=.ref p∧y=.int i∧SqL K H p xs∧atI xs i=some v∧Q v H
theorem ix_list:IxR X (rIxL X.K):=by
  intro value slice pins s σ H x y v u Q I rx ry h hs
  obtain ⟨p,xs,i,z,rfl,rfl,hq,he,q⟩:=h
  cases rx
  obtain ⟨t,rfl⟩:=ry
  obtain ⟨its,r,pl,hz⟩:=I.list hq
  obtain ⟨j,h1,h2,h3,h4,h5⟩:=atI_get he
  obtain ⟨w,ew,rw'⟩:=r.get h2
  have hl:=r.length
  have hn:=line63
  have fin:EP X pins σ Q w s:=⟨z,H,I,rw',q⟩
  by_cases h0:0≤i
  · have hj:i.toNat=j:=by
      rw [seqIndex_of h0 h5] at h1
      exact Option.some.inj h1
    exact item_listR pl.isList h0 (by omega) (by rw [hj]; simpa using ew) fin hs
  · have hj:(i+(its.toArray.size:Int)).toNat=j:=by
      rw [seqIndex_neg (by omega) h4] at h1
      rw [List.size_toArray,← hl]
      exact Option.some.inj h1
    exact subscriptTail_builtinR (x:=w) pl.isList.typeIs slot_list_getitem.lookup
      (wpAny_getItem_list_neg (Q:=fun r s'=>r=w∧EP X pins σ Q r s') pl.isList (by omega) (by rw [List.size_toArray] <;> omega) (by omega) (by rw [hj]; simpa using ew) ⟨rfl,fin⟩) hs
theorem mapSeq_set (its:List Value) (n j:Nat) (u:Value):Obj.mapSeq (·.setIfInBounds j u) { cls:=.type "list",data:=.seq its.toArray n }={ cls:=.type "list",data:=.seq (its.set j u).toArray n }:=by
  simp [Obj.mapSeq]
theorem Inv.lst {pins:List (Addr×Obj)} {σ:St} {H:Hp} {s:Shared} {p:Addr} {xs:List V} (I:Inv X pins σ H s) (h:H p=some (.lst xs)) :
    ∃ (its:List Value) (n:Nat),Vals xs its∧s.heap.get? p=some { cls:=.type "list",data:=.seq its.toArray n }∧xs.length≤sizeLine:=by
  obtain ⟨z,its,n,r,e⟩:=I.hok p _ h
  exact ⟨its,n,r,e,z⟩
theorem Inv.lstUpd {pins:List (Addr×Obj)} {σ:St} {H:Hp} {s:Shared} {p:Addr} {xs ys:List V} {its its':List Value} {n n':Nat} {f:Obj→Obj} (I:Inv X pins σ H s) (h:H p=some (.lst xs))
    (ho:s.heap.get? p=some { cls:=.type "list",data:=.seq its.toArray n }) (hf:f { cls:=.type "list",data:=.seq its.toArray n }={ cls:=.type "list",data:=.seq its'.toArray n' }) (r:Vals ys its') (hz:ys.length≤sizeLine) (t:Nat) :
    Inv X pins σ (upd H p (.lst ys)) { s with heap:=s.heap.update p f,toks:=t }:=by
  have e:(s.heap.update p f).get? p=some { cls:=.type "list",data:=.seq its'.toArray n' }:=by
    rw [Heap.get?_update_self f ho (by rw [hf] <;> rfl),hf]
  refine I.write (x:=p) (e:=p) (by rw [h]; trivial) (.inl rfl) (fun b u hb q=>(Heap.get?_update_other _ _ (Ne.symm hb)).trans q) ⟨_,e⟩ ?_
  exact ⟨hz,its',n',r,e⟩
def rSetL:V→V→V→Hp→(Hp→Prop)→Prop:=fun o i v H Q=>∃ p xs k j,o=.ref p∧i=.int k∧H p=some (.lst xs)∧ixN xs.length k=some j∧Q (upd H p (.lst (xs.set j v)))
theorem set_list:PSet X rSetL:=by
  intro pins s σ H o i v ov iv u Q I ro ri rv h
  obtain ⟨p,xs,k,j,rfl,rfl,hp,hj,q⟩:=h
  cases ro
  obtain ⟨t,rfl⟩:=ri
  obtain ⟨its,n,r,ho,hz⟩:=I.lst hp
  obtain ⟨h1,h2,h3,h4⟩:=ixN_seq hj
  have hl:=r.length
  have hn:=line63
  have I':Inv X pins σ (upd H p (.lst (xs.set j v))) { s with heap:=s.heap.update p (Obj.mapSeq (·.setIfInBounds j u)) } :=
    I.lstUpd hp ho (mapSeq_set its n j u) (r.set rv j) (by rw [List.length_set]; exact hz) s.toks
  by_cases h0:0≤k
  · have hk:k.toNat=j:=by
      rw [seqIndex_of h0 h4] at h1
      exact Option.some.inj h1
    exact PySem.W.ki_setAt ho h0 (by omega) (by rw [List.size_toArray,← hl]; exact h4) (by rw [hk]; exact ⟨_,I',q⟩)
  · have hk:(k+(its.toArray.size:Int)).toNat=j:=by
      rw [seqIndex_neg (by omega) h3] at h1
      rw [List.size_toArray,← hl]
      exact Option.some.inj h1
    exact PySem.W.ki_setBack ho (by omega) (by rw [List.size_toArray,← hl]; exact h3) (by omega) (by rw [hk]; exact ⟨_,I',q⟩)
theorem slice_bounds (lo hi:Option Int) (n:Nat):(sliceBounds lo hi none n).1=((HT.sIx n 0 lo:Nat):Int)∧(sliceBounds lo hi none n).2.1=((HT.sIx n n hi:Nat):Int)∧(sliceBounds lo hi none n).2.2=1:=by
  refine ⟨?_,?_,rfl⟩
  · cases lo with
    | none=>simp [sliceBounds,HT.sIx]
    | some i =>
      simp only [sliceBounds,HT.sIx,Option.getD_none,show (1:Int) > 0 by decide,if_true]
      by_cases h:i<0
      · simp only [h,if_true] <;> omega
      · simp only [h,if_false] <;> omega
  · cases hi with
    | none=>simp [sliceBounds,HT.sIx]
    | some i =>
      simp only [sliceBounds,HT.sIx,Option.getD_none,show (1:Int) > 0 by decide,if_true]
      by_cases h:i<0
      · simp only [h,if_true] <;> omega
      · simp only [h,if_false] <;> omega
theorem slicePick_cut (its:List Value) (lo hi:Option Int):slicePick its.toArray lo hi none=((its.drop (HT.sIx its.length 0 lo)).take (HT.sIx its.length its.length hi - HT.sIx its.length 0 lo)).toArray:=by
  obtain ⟨h1,h2,h3⟩:=slice_bounds lo hi its.toArray.size
  unfold slicePick
  rw [h1,h2,h3]
  simp only [sliceRange_one,pick_run,List.size_toArray] <;> rfl
def rSlL (K:PySem.W.Frag):V→Option Int→Option Int→Hp→VK→Prop:=fun x lo hi H Q=>∃ a xs,x=.ref a∧SqL K H a xs∧∀ p,H p=none→Q (.ref p) (upd H p (.lst (cutV xs lo hi)))
theorem sl_list:SlR X (rSlL X.K):=by
  intro pins s σ H x v vl vu lo hi sl Q I rx hs pl pu h
  obtain ⟨a,xs,rfl,hx,q⟩:=h
  cases rx
  obtain ⟨its,r,ht,hz⟩:=I.list hx
  have hlen:=r.length
  refine ⟨"list",_,slot_list_getitem.lookup,ht.isList.typeIs,?_⟩
  refine wpAny_getItem_list_slice ht.isList hs pl pu .none (by simp) ?_ (by rw [List.size_toArray] <;> omega)
  rw [slicePick_cut,← hlen]
  refine ⟨.ref s.heap.objs.size,_,I.laid (t':=s.toks) (o:=.lst (cutV xs lo hi)) (fun b ob q=>Heap.get?_push_of_some _ q) (Nat.le_refl _) ?_,rfl,q _ (I.hok.fresh (Nat.le_refl _))⟩
  exact ⟨Nat.le_trans (cutV_length xs lo hi) hz,_,0,(r.drop (HT.sIx xs.length 0 lo)).take (HT.sIx xs.length xs.length hi - HT.sIx xs.length 0 lo),Heap.get?_push_size _ rfl⟩
def flatV:V→Bool
  | .non=>true
  | .bl _=>true
  | .int _=>true
  | .str _=>true
  | _=>false
def eqV:V→V→Bool
  | .non,.non=>true
  | .bl a,.bl b=>a == b
  | .bl a,.int b=>(if a then 1 else 0) == b
  | .int a,.bl b=>a == (if b then 1 else 0)
  | .int a,.int b=>a == b
  | .str a,.str b=>a == b
  | _,_=>false
theorem eqAt_V {A:Around} {s:Shared} {y x:V} {u v:Value} (ry:RelV y u) (rx:RelV x v) (fy:flatV y=true) (fx:flatV x=true):SeqAt.EqAt A s u v (eqV y x):=by
  cases y with
  | non =>
    cases ry
    cases x with
    | non=>cases rx; exact SeqAt.EqAt.same _
    | bl b=>cases rx; exact SeqAt.EqAt.none_bool b
    | int b=>obtain ⟨t,rfl⟩:=rx; exact SeqAt.EqAt.none_int b t
    | str b=>obtain ⟨t,rfl⟩:=rx; exact SeqAt.EqAt.none_str b t
    | _=>exact absurd (show false=true from fx) Bool.false_ne_true
  | bl a =>
    cases ry
    cases x with
    | non=>cases rx; exact SeqAt.EqAt.bool_none a
    | bl b=>cases rx; exact SeqAt.EqAt.bool_bool a b
    | int b=>obtain ⟨t,rfl⟩:=rx; exact SeqAt.EqAt.bool_int a b t
    | str b=>obtain ⟨t,rfl⟩:=rx; exact SeqAt.EqAt.bool_str a b t
    | _=>exact absurd (show false=true from fx) Bool.false_ne_true
  | int a =>
    obtain ⟨t',rfl⟩:=ry
    cases x with
    | non=>cases rx; exact SeqAt.EqAt.int_none a t'
    | bl b=>cases rx; exact SeqAt.EqAt.int_bool a t' b
    | int b=>obtain ⟨t,rfl⟩:=rx; exact SeqAt.EqAt.int_int a t' b t
    | str b=>obtain ⟨t,rfl⟩:=rx; exact SeqAt.EqAt.int_str a t' b t
    | _=>exact absurd (show false=true from fx) Bool.false_ne_true
  | str a =>
    obtain ⟨t',rfl⟩:=ry
    cases x with
    | non=>cases rx; exact SeqAt.EqAt.str_none a t'
    | bl b=>cases rx; exact SeqAt.EqAt.str_bool a t' b
    | int b=>obtain ⟨t,rfl⟩:=rx; exact SeqAt.EqAt.str_int a t' b t
    | str b=>obtain ⟨t,rfl⟩:=rx; exact SeqAt.EqAt.str_str a t' b t
    | _=>exact absurd (show false=true from fx) Bool.false_ne_true
  | _=>exact absurd (show false=true from fy) Bool.false_ne_true
def eqU (x:V) (u:Value):Bool:=match u with
  | .none=>eqV .non x
  | .bool b=>eqV (.bl b) x
  | .int i _=>eqV (.int i) x
  | .str z _=>eqV (.str z) x
  | _=>false
theorem eqU_of {x y:V} {u:Value} (r:RelV y u) (f:flatV y=true):eqU x u=eqV y x:=by
  cases y with
  | non=>cases r; rfl
  | bl b=>cases r; rfl
  | int i=>obtain ⟨t,rfl⟩:=r; rfl
  | str z=>obtain ⟨t,rfl⟩:=r; rfl
  | _=>exact absurd (show false=true from f) Bool.false_ne_true
theorem any_eqU {x:V}:∀ {xs:List V} {us:List Value},Vals xs us→xs.all flatV=true→us.any (eqU x)=xs.any fun y=>eqV y x
  | _,_,.nil,_=>rfl
  | y :: xs,u :: us,.cons r t,f=>by
    rw [List.all_cons,Bool.and_eq_true] at f
    rw [List.any_cons,List.any_cons,eqU_of r f.1,any_eqU t f.2]
theorem mem_eqAt {A:Around} {s:Shared} {x:V} {v:Value} (rx:RelV x v) (fx:flatV x=true):∀ {xs:List V} {us:List Value},Vals xs us→xs.all flatV=true→∀ u∈us,SeqAt.EqAt A s u v (eqU x u)
  | _,_,.nil,_=>fun u hu=>by cases hu
  | y :: xs,u :: us,.cons r t,f=>fun u' hu=>by
    rw [List.all_cons,Bool.and_eq_true] at f
    rcases List.mem_cons.mp hu with rfl | hu
    · rw [eqU_of r f.1]; exact eqAt_V r rx f.1 fx
    · exact mem_eqAt rx fx t f.2 u' hu
def inV (x:V) (xs:List V):Bool:=xs.any fun y=>eqV y x
def rIn (K:PySem.W.Frag) (neg:Bool):R2:=fun x y H Q=>∃ p xs,y=.ref p∧(SqL K H p xs∨SqT K H p xs)∧flatV x=true∧xs.all flatV=true∧Q (.bl (if neg then !inV x xs else inV x xs)) H
theorem op_in_seq:OpR X (compareOp .In) (rIn X.K false):=by
  intro pins s σ H x y v u Q I rx ry h
  obtain ⟨p,xs,rfl,hq,fx,fs,q⟩:=h
  cases ry
  rcases hq with hq | hq
  · obtain ⟨its,r,pl,hz⟩:=I.list hq
    refine SeqAt.in_listAt (eqU x) pl.isList (fun w hw=>mem_eqAt rx fx r fs w (by simpa using hw)) ⟨.bl _,H,I,rfl,?_⟩
    rw [show its.toArray.any (eqU x)=its.any (eqU x) by simp,any_eqU r fs]
    exact q
  · obtain ⟨its,r,pl,hz⟩:=I.tuple hq
    refine SeqAt.in_tupleAt (eqU x) pl (fun w hw=>mem_eqAt rx fx r fs w (by simpa using hw)) ⟨.bl _,H,I,rfl,?_⟩
    rw [show its.toArray.any (eqU x)=its.any (eqU x) by simp,any_eqU r fs]
    exact q
theorem op_notIn_seq:OpR X (compareOp .NotIn) (rIn X.K true):=by
  intro pins s σ H x y v u Q I rx ry h
  obtain ⟨p,xs,rfl,hq,fx,fs,q⟩:=h
  cases ry
  rcases hq with hq | hq
  · obtain ⟨its,r,pl,hz⟩:=I.list hq
    refine SeqAt.notIn_listAt (eqU x) pl.isList (fun w hw=>mem_eqAt rx fx r fs w (by simpa using hw)) ⟨.bl _,H,I,rfl,?_⟩
    rw [show its.toArray.any (eqU x)=its.any (eqU x) by simp,any_eqU r fs]
    exact q
  · obtain ⟨its,r,pl,hz⟩:=I.tuple hq
    refine SeqAt.notIn_tupleAt (eqU x) pl (fun w hw=>mem_eqAt rx fx r fs w (by simpa using hw)) ⟨.bl _,H,I,rfl,?_⟩
    rw [show its.toArray.any (eqU x)=its.any (eqU x) by simp,any_eqU r fs]
    exact q
theorem call_len_seq:CallR X (.builtin "len") (fun xs H Q=>∃ p ys,xs=[.ref p]∧(SqL X.K H p ys∨SqT X.K H p ys)∧Q (.int ys.length) H):=by
  intro pins s σ H xs us Q I r h
  obtain ⟨p,ys,rfl,hq,q⟩:=h
  obtain ⟨u,rfl,rx⟩:=vals1 r
  cases rx
  have hn:=line63
  rcases hq with hq | hq
  · obtain ⟨its,r',pl,hz⟩:=I.list hq
    have hlen:=r'.length
    exact Calls.call_len_list pl.isList (by simp only [List.size_toArray] <;> omega) ⟨.int ys.length,H,I.tok _,⟨s.toks+1,by rw [List.size_toArray,hlen]⟩,q⟩
  · obtain ⟨its,r',pl,hz⟩:=I.tuple hq
    have hlen:=r'.length
    exact len_tuple pl (by simp only [List.size_toArray] <;> omega) ⟨.int ys.length,H,I.tok _,⟨s.toks+1,by rw [List.size_toArray,hlen]⟩,q⟩
theorem call_list_of:CallR X (.type "list") (fun xs H Q=>∃ p ys,xs=[.ref p]∧(SqL X.K H p ys∨SqT X.K H p ys)∧∀ l,H l=none→Q (.ref l) (upd H l (.lst ys))):=by
  intro pins s σ H xs us Q I r h
  obtain ⟨p,ys,rfl,hq,q⟩:=h
  obtain ⟨u,rfl,rx⟩:=vals1 r
  cases rx
  have fin:∀ (its:List Value),Vals ys its→ys.length≤sizeLine→∀ (h':Heap) (c':Nat),(∀ b o',s.heap.get? b=some o'→h'.get? b=some o') →
      h'.get? s.heap.objs.size=some { cls:=.type "list",dict:=none,data:=.seq its.toArray c',slots:=#[] }→EP X pins σ Q (.ref s.heap.objs.size) { s with heap:=h' }:=fun its r' hz h' c' kp e =>
    ⟨.ref s.heap.objs.size,_,I.laid (t':=s.toks) kp (Nat.le_refl _) (show ObjOk X.prog X.w _ h' _ (.lst ys) from ⟨hz,its,c',r',e⟩),rfl,q _ (I.hok.fresh (Nat.le_refl _))⟩
  rcases hq with hq | hq
  · obtain ⟨its,r',pl,hz⟩:=I.list hq
    have hlen:=r'.length
    obtain ⟨o,ho,hc,n,hd⟩:=pl.isList
    exact call_list_seq p (.inl rfl) ho hc hd (fun h' c' kp e=>fin its r' hz h' c' kp e) (by simp only [List.size_toArray] <;> omega)
  · obtain ⟨its,r',pl,hz⟩:=I.tuple hq
    have hlen:=r'.length
    obtain ⟨o,ho,hc,n,hd⟩:=pl
    exact call_list_seq p (.inr rfl) ho hc hd (fun h' c' kp e=>fin its r' hz h' c' kp e) (by simp only [List.size_toArray] <;> omega)
def tyV (K:PySem.W.Frag) (T:String) (x:V) (H:Hp):Prop:=match x with
  | .str _=>T = "str"
  | .int _=>T = "int"
  | .ref p=>(T = "list" ∧ ∃ xs,SqL K H p xs)∨(T = "tuple" ∧ ∃ o,K.lookup p=some o∧o.cls=.type "tuple" ∧ o.dict=none) ∨
      (T = "dict" ∧ ((∃ kvs,H p=some (.dK kvs))∨∃ kvs,H p=some (.dT kvs)))∨(T = "set" ∧ ∃ S n,H p=some (.set S n))
  | _=>False
theorem tyV_is {pins:List (Addr×Obj)} {σ:St} {H:Hp} {s:Shared} {T:String} {x:V} {v:Value} (I:Inv X pins σ H s) (r:RelV x v) (ty:tyV X.K T x H) :
    s.TypeIs v T∧∀ a,v=.ref a→∃ ob,s.heap.get? a=some ob∧ob.dict=none:=by
  cases x with
  | str z =>
    obtain ⟨t,rfl⟩:=r
    cases (show T = "str" from ty)
    exact ⟨typeIs_str s z t,fun _ e=>nomatch e⟩
  | int i =>
    obtain ⟨t,rfl⟩:=r
    cases (show T = "int" from ty)
    exact ⟨typeIs_int s i t,fun _ e=>nomatch e⟩
  | ref p =>
    cases r
    rcases ty with ⟨rfl,xs,hq⟩ | ⟨rfl,o,hk,hc,hd⟩ | ⟨rfl,hk⟩ | ⟨rfl,S,n,hk⟩
    · obtain ⟨its,_,pl,_⟩:=I.list hq
      refine ⟨pl.isList.typeIs,fun a e=>?_⟩
      cases e
      obtain ⟨o,n,e,c,hd,_⟩:=pl
      exact ⟨o,e,hd⟩
    · refine ⟨⟨o,I.kIn p o hk,hc⟩,fun a e=>?_⟩
      cases e
      exact ⟨o,I.kIn _ o hk,hd⟩
    · have z:∃ o,s.heap.get? p=some o∧o.ExactDict:=by
        rcases hk with ⟨kvs,hk⟩ | ⟨kvs,hk⟩
        · obtain ⟨_,_,_,_,o,_,_,e,ex,_⟩:=I.hok p _ hk
          exact ⟨o,e,ex⟩
        · obtain ⟨_,_,_,_,o,_,_,e,ex,_⟩:=I.hok p _ hk
          exact ⟨o,e,ex⟩
      obtain ⟨o,e,ex⟩:=z
      refine ⟨⟨o,e,ex.1⟩,fun a e2=>?_⟩
      cases e2
      exact ⟨o,e,ex.2.1⟩
    · obtain ⟨o,_,_,_,e,ex,_⟩:=I.hok p _ hk
      refine ⟨⟨o,e,ex.1⟩,fun a e2=>?_⟩
      cases e2
      exact ⟨o,e,ex.2.1⟩
  | _=>exact False.elim ty
def tBM (K:PySem.W.Frag) (T:String) (r:V→List V→Hp→VK→Prop) (to:TE) (t:TA):TE:=fun σ H Q=>to σ H fun x H1=>tyV K T x H1∧t σ H1 fun xs H2=>r x xs H2 Q
variable {o e:Expr} {es:List Expr} {to:TE} {t:TA} {name:Str} {apos cpos:Pos} {T id:String} {r:V→List V→Hp→VK→Prop}
theorem pe_bm (pa:PlainAttrs T) (slot:Slot T name id) (hty:typeOf (.builtin id)=pure (.type "method_descriptor")) (hm:MtR X id r) (ho:PE X o to) (ha:PA X (e :: es) t)
    (hbase:attributeBase o name X.env (eval o X.env)=eval o X.env:=by rfl)
    (hfew:((backTo cpos (starEach (e :: es) X.env)).all (fun x=>!x.1) && (backToKw cpos (keywordEach [] X.env)).all (fun x=>x.1.isSome)
      && decide ((e :: es).length+([]:List Keyword).length+(if ([]:List Keyword).isEmpty then 0 else 1)<30))=true:=by rfl)
    (hline:(apos.endLine == cpos.line)=true:=by rfl) (hs:starEach (e :: es) X.env=(false,eval e X.env) :: starEach es X.env:=by rfl) (hplain:(backTo cpos (starEach es X.env)).any (·.1)=false:=by rfl) :
    PE X (.Call (.Attribute o name apos) (e :: es) [] cpos) (tBM X.K T r to t):=by
  intro pins s σ H Q I h
  refine wpAny_Call_method_late hbase hfew hline rfl (thn (ho pins s σ H _ I h) fun v s1 ⟨x,H1,I1,r1,ty,q1⟩=>?_)
  obtain ⟨h1,h2⟩:=tyV_is I1 r1 ty
  refine ⟨T,id,pa,slot,hty,h1,h2,?_⟩
  have hA:=ha cpos pins s1 σ H1 _ I1 q1
  rw [hs] at hA ⊢
  refine Calls.callWith_builtin (by show (false || (backTo cpos (starEach es X.env)).any (·.1))=false; rw [hplain] <;> rfl) (Calls.evalArgs_plain ?_)
  exact thn hA fun us s2 ⟨vs,H2,I2,r2,q2⟩=>hm pins s2 σ H2 x vs v us Q I2 r1 r2 q2
/- xs.append(e),list.index on a module's tuple .. are MtR facts of 06m -/
end
end L2
namespace L2
open PySem PySem.Spec PyProof.Rows
def MtM (X:Cx) (id:String) (r:V→List V→Hp→VK→Prop):Prop :=
  ∀ (pins:List (Addr×Obj)) (s:Shared) (σ:St) (H:Hp) (x:V) (xs:List V) (v:Value) (us:List Value) (Q:VK),Inv X pins σ H s→RelV x v→Vals xs us→r x xs H Q →
    wpAny (model X.prog X.w) X.A (call (.builtin id) (v :: us)) (EP X pins σ Q) X.xe s
theorem Vals.one:∀ {x:V} {us:List Value},Vals [x] us→∃ u,us=[u]∧RelV x u
  | _,_,.cons r .nil=>⟨_,rfl,r⟩
section
variable {X:Cx} {pins:List (Addr×Obj)} {σ:St} {H:Hp} {s:Shared} {l b:Addr} {xs ys zs:List V}
theorem Inv.lset {its its':List Value} {n:Nat} {f:Array Value→Array Value} {t':Nat} (I:Inv X pins σ H s) (hH:H l=some (.lst xs))
    (e:s.heap.get? l=some { cls:=.type "list",data:=.seq its.toArray n }) (hf:f its.toArray=its'.toArray) (hv:Vals ys its') (hz:ys.length≤sizeLine) :
    Inv X pins σ (upd H l (.lst ys)) { s with heap:=s.heap.update l (Obj.mapSeq f),toks:=t' }:=by
  have q:=PySem.IsL.update e f
  rw [hf] at q
  refine I.write (x:=l) (e:=l) (by rw [hH]; exact trivial) (.inl rfl) (fun b' u hb hu=>(Heap.get?_update_other s.heap (Obj.mapSeq f) (Ne.symm hb)).trans hu) ⟨_,q⟩ ?_
  exact ⟨hz,its',_,hv,q⟩
theorem Inv.lnew {its:List Value} {t':Nat} (I:Inv X pins σ H s) (hv:Vals ys its) (hz:ys.length≤sizeLine) :
    Inv X pins σ (upd H s.heap.objs.size (.lst ys)) { s with heap:=s.heap.push { cls:=.type "list",data:=.seq its.toArray },toks:=t' } :=
  I.laid (fun _ _ q=>Heap.get?_push_of_some _ q) (Nat.le_refl _) ⟨hz,its,0,hv,Heap.get?_push_size _ rfl⟩
theorem Inv.fresh (I:Inv X pins σ H s):H s.heap.objs.size=none:=I.hok.fresh (Nat.le_refl _)
theorem Inv.lstM (I:Inv X pins σ H s) (hH:H l=some (.lst xs)):xs.length≤sizeLine∧∃ (its:List Value) (n:Nat),Vals xs its∧xs.length=its.length∧s.heap.get? l=some { cls:=.type "list",data:=.seq its.toArray n }:=by
  obtain ⟨z,its,n,r,e⟩:=I.hok l _ hH
  exact ⟨z,its,n,r,r.length,e⟩
end
section
variable {X:Cx}
def rAppend:V→List V→Hp→VK→Prop:=fun x vs H Q=>∃ l xs y,x=.ref l∧vs=[y]∧H l=some (.lst xs)∧xs.length<sizeLine∧Q .non (upd H l (.lst (xs++[y])))
theorem mt_append:MtM X "list.append" rAppend:=by
  intro pins s σ H x vs v us Q I rx rv h
  obtain ⟨l,xs,y,rfl,rfl,hH,hz,q⟩:=h
  cases rx
  obtain ⟨u,rfl,ru⟩:=rv.one
  obtain ⟨z,its,n,r,hl,e⟩:=I.lstM hH
  refine call_meets F.slot_list_append ⟨_,e,rfl⟩ F.entry_list_append (F.args_list_append_2 _ _) (PySem.list_append l its.toArray n u (by rw [List.size_toArray]; omega)) ⟨e,?_⟩
  refine ⟨.non,_,I.lset (its':=its++[u]) hH e (by simp) (r.append (.cons ru .nil)) ?_,rfl,q⟩
  rw [List.length_append,List.length_singleton]
  omega
def rCat:R2:=fun x y H Q=>∃ l b xs zs,x=.ref l∧y=.ref b∧H l=some (.lst xs)∧H b=some (.lst zs)∧xs.length+zs.length≤sizeLine∧∀ p,H p=none→Q (.ref p) (upd H p (.lst (xs++zs)))
theorem op_cat:OpR X (binaryOp .Add) rCat:=by
  intro pins s σ H x y v u Q I rx ry h
  obtain ⟨l,b,xs,zs,rfl,rfl,hH,hB,hz,q⟩:=h
  cases rx
  cases ry
  obtain ⟨z,its,n,r,hl,e⟩:=I.lstM hH
  obtain ⟨z2,its2,n2,r2,hl2,e2⟩:=I.lstM hB
  refine PySem.P.add_list e e2 ?_ (by rw [List.size_toArray,List.size_toArray]; omega)
  have ea:its.toArray++its2.toArray=(its++its2).toArray:=by simp
  rw [ea]
  exact ⟨.ref _,_,I.lnew (t':=s.toks) (r.append r2) (by rw [List.length_append]; omega),rfl,q _ I.fresh⟩
end
end L2
namespace Att
open PySem PySem.W PySem.Calls PyProof.Rows
theorem ints_of_wellAll {P:Params} {h:Heap}:∀ (ns:List Int) (vs:List Value),WellAll P h vs (ns.map WData.int)→IntsAre vs ns:=by
  intro ns
  induction ns with
  | nil =>
    intro vs w
    rw [List.map_nil] at w
    cases w
    exact .nil
  | cons n ns ih =>
    intro vs w
    rw [List.map_cons] at w
    cases w with
    | cons a b =>
      cases a
      exact .cons _ _ (ih _ b)
theorem script_of {l:OpenLaw} {n:Nat} (hn:l.most=some n) {P:Params} {h:Heap} {args:List WData} {vals:List Value}
    (hpre:l.row.toRowW.claim.pre args=true) (hwl:WellAll P h vals args) :
    ∃ a vs ns,vals=[Value.ref a]∧args=[WData.list (ns.map WData.int)]∧h.get? a=some { cls:=.type "list",data:=.seq vs.toArray }∧IntsAre vs ns∧ns.length≤n:=by
  have hsh:WShape.hasAll [] args [.list .int]=true:=(pre_splitW hpre).1
  have hc:l.pre.holds [] { args:=args }=true:=(pre_splitW hpre).2
  obtain ⟨d,r,rfl,h1,h2⟩:=hasAllW_cons hsh
  obtain rfl:=hasAllW_nil h2
  obtain ⟨xs,rfl,h3⟩:=hasW_list h1
  obtain ⟨ns,rfl⟩:=items_int h3
  have hlen:ns.length≤n:=by
    unfold OpenLaw.pre at hc
    have h4:(WTm.not (.lt (.lit (.int (n:Int))) (.len (.arg 0)))).holds [] { args:=[.list (ns.map .int)] }=true:=by
      have h4:=(holds_andW hc).1
      rw [hn] at h4
      exact h4
    have h5:=condW_of h4 (w_not (w_lt w_lit (w_len_list (w_arg rfl))))
    rw [List.length_map] at h5
    refine Nat.le_of_not_lt fun q=>?_
    have q':(n:Int)<((ns.length:Nat):Int):=by omega
    first
      | (rw [decide_eq_true q'] at h5; exact absurd h5 (by decide))
      | (simp at h5; omega)
  cases hwl with
  | cons w1 w2 =>
    cases w2
    cases w1 with
    | list ho hall=>exact ⟨_,_,ns,rfl,rfl,ho,ints_of_wellAll ns _ hall,hlen⟩
theorem post_true (l:OpenLaw) (args:List WData):l.row.toRowW.claim.post args (.bool true) args=true :=
  postW_of (r:=l.row.toRowW) (X:=(true == true))
    (show WShape.has [] (.bool true) .bool=true by first | rfl | decide | simp [WShape.has,WShape.arms,WShape.armsAll])
    (show (WTm.eq .res (.lit (.bool true))).value [] { args:=args,res:=some (.bool true),after:=args }=some (.bool (true == true)) from w_eq_bool (w_res rfl) w_lit) rfl
theorem attach_call {l:OpenLaw} {n:Nat} {q:Program} {loose:List Str} {XP:(Str→Option Value)→Heap→Prop} {YP:World→Heap→Prop} {d:DefRec}
    (hn:l.most=some n) (hdf:d.params.defaults=[])
    (call:∀ (w:World) (s₀ s₁:Shared) (mg mb:Str→Option Value) (fa:Addr) (o:Obj) (pm cd doc:Value) (a:Addr) (vs:List Value) (ns:List Int),
      Ground q loose [] XP w s₀ mg mb s₁.heap→YP w s₁.heap →
      s₁.heap.get? fa=some o→o.data=.func (docDef d.name d.params d.body d.scope pm cd doc)→s₁.heap.CodeRec cd d.name→mg d.name=some (.ref fa) →
      s₁.heap.get? a=some { cls:=.type "list",data:=.seq vs.toArray }→IntsAre vs ns→ns.length≤n→s₁.gens=#[] →
      codeAny (model l.prog w) callerA (.call (.ref fa) ⟨[.ref a],[]⟩) (fun r s'=>r=.ok (.ret (.bool true))∧OldK s₁.heap s'.heap∧s'.os=s₁.os∧AllBare s'.gens) s₁) :
    WalkO q loose XP YP l.row.toRowW d [] (fun f vs=>PySem.call f vs):=by
  intro w s₀ s₁ mg mb G Y fa o pm cd doc dV kV ho hd hcd hD hmg hg args vals as hpre hlay hrd hwl hlo
  obtain rfl:dV=.none:=Dflts.none hD hdf
  obtain rfl:kV=.none:=Dflts.noKw hD
  obtain ⟨a,vs,ns,rfl,rfl,hobj,hints,hlen⟩:=script_of hn hpre hwl
  refine enter_call (codeAny_mono (call w s₀ s₁ mg mb fa o pm cd doc a vs ns G Y ho (fd_plain hd) hcd hmg hobj hints hlen hg) fun r s' hq=>?_)
  obtain ⟨rfl,h2,h3,h4⟩:=hq
  exact ⟨.inl ⟨.bool true,.bool true,[],rfl,fun _=>rfl,.bool true,post_true l _,fun _=>⟨List.Pairwise.nil,fun _ hm=>(nomatch hm)⟩⟩,h2,h3,h4⟩
end Att
namespace L2
open PySem PySem.Spec PyProof.Rows
theorem vals_ints:∀ {vs:List Value} {ns:List Int},IntsAre vs ns→Vals (ns.map V.int) vs
  | _,_,.nil=>.nil
  | _,_,.cons n t h=>.cons ⟨t,rfl⟩ (vals_ints h)
end L2
namespace L2
open PySem PySem.Spec PyProof.Rows
end L2
namespace L2
open PySem PySem.Spec PyProof.Rows
def inClass (s:Stmt) (j:Nat):Stmt:=match s with
  | .ClassDef _ _ _ body _ _ _ _ _ _ _=>body.getD j (.Pass ⟨0,0,0,0⟩)
  | _=>.Pass ⟨0,0,0,0⟩
def defArgs (s:Stmt):Arguments:=match s with
  | .FunctionDef _ a _ _ _ _ _ _ _ _=>a
  | _=>{ posonlyargs:=[],args:=[],vararg:=none,kwonlyargs:=[],kw_defaults:=[],kwarg:=none,defaults:=[] }
def defBody (s:Stmt):List Stmt:=match s with
  | .FunctionDef _ _ b _ _ _ _ _ _ _=>b
  | _=>[]
def defScope (s:Stmt):Scope:=match s with
  | .FunctionDef _ _ _ _ _ _ sc _ _ _=>sc
  | _=>{ kind:=.function,names:=[],isGenerator:=false,isCoroutine:=false }
abbrev CX0:CXT:=fun _ _ _ _ _ _=>False
abbrev E0:XK:=fun _ _ _=>False
theorem pass0 {X:Cx}:Passes CX0 X E0:=fun _ _ _ _ _ _ _ h=>h.elim
structure Fun (K:PySem.W.Frag) (x qual:Str) (st:Stmt) (f:Addr) (fd:FuncData):Prop where
  ex:∃ (oc:Value) (od:Option Addr) (kV doc pm:Value) (an:Option Addr) (cdv ct:Value) (osl:Array (Option Value)),
    fd=PySem.W.fnOf x qual (defArgs st) (defBody st) (defScope st) .none kV doc pm an cdv ct∧K.lookup f=some ⟨oc,od,.func fd,osl⟩∧PySem.W.codeIn K cdv qual=true
  kp:PySem.W.keepIn K (.ref f)=true
section
variable {P:Program} {w:World} {K:PySem.W.Frag} {mg:Str→Option Value} {base:Heap}
theorem Fun.ok {x qual:Str} {st:Stmt} {f:Addr} {fd:FuncData} {N ps:List Str} {k:Nat} {sp:Sp} (F:Fun K x qual st f fd) (S:FnScope N ps (defScope st)) (len:∀ vs H Q E,sp vs H Q E→vs.length=ps.length)
    (hbody:∀ (cdv:Value) (A:Around) (outer:List Env) (s:Shared) (H:Hp) (vs:List V) (Q:VK) (E:XK),Room k (A.deeper (envOfC qual (defScope st) s.heap.objs.size f cdv))→sp vs H Q E →
      ∃ t,PSs (cxOf CX0 P w K mg base N qual (defScope st) f cdv A outer s H E).nox (defBody st) t∧t { nx:=fun _ H'=>Q .non H',rt:=Q } (start N vs) H):FnOk P w K mg base CX0 (k+1) f fd ps sp:=by
  obtain ⟨oc,od,kV,doc,pm,an,cdv,ct,osl,rfl,lk,hcd⟩:=F.ex
  refine fn_of lk hcd S len fun A outer s H vs Q E hr hsp=>?_
  obtain ⟨t,h,q⟩:=hbody cdv A outer s H vs Q E hr hsp
  exact ⟨t,h.nox,q⟩
theorem Fun.binds {x qual:Str} {st:Stmt} {f:Addr} {fd:FuncData} {ps:List Str} (F:Fun K x qual st f fd)
    (h:∀ (kV doc pm:Value) (an:Option Addr) (cdv ct:Value) (us:List Value),us.length=ps.length→bindArgs (PySem.W.fnOf x qual (defArgs st) (defBody st) (defScope st) .none kV doc pm an cdv ct) ⟨us,[]⟩=pure (ps.zip us)):Binds K fd ps []:=by
  obtain ⟨oc,od,kV,doc,pm,an,cdv,ct,osl,rfl,lk,hcd⟩:=F.ex
  exact .all (h kV doc pm an cdv ct)
theorem fun_mk {x qual:Str} {st:Stmt} {f:Addr} {oc:Value} {od an:Option Addr} {osl:Array (Option Value)} {kV doc pm cdv ct:Value} (l:K.lookup f=some ⟨oc,od,.func (PySem.W.fnOf x qual (defArgs st) (defBody st) (defScope st) .none kV doc pm an cdv ct),osl⟩)
    (c:PySem.W.codeIn K cdv qual=true) (k:PySem.W.keepIn K (.ref f)=true):Fun K x qual st f (PySem.W.fnOf x qual (defArgs st) (defBody st) (defScope st) .none kV doc pm an cdv ct):=⟨⟨oc,od,kV,doc,pm,an,cdv,ct,osl,rfl,l,c⟩,k⟩
end
theorem hu_of {A:Around} {k:Nat} (hr:Room k A):A.units+1<cLine:=Nat.lt_of_le_of_lt (Nat.add_le_add_left (by decide:1≤64) _) hr.units
theorem small1000 {n:Nat} (h:n≤1000):n<sizeLine:=Nat.lt_of_le_of_lt h (by decide)
section
variable {X:Cx}
theorem pv (i:Nat) {x:Str} {pos:Pos} (hN:X.N[i]?=some x:=by rfl) (hv:Vis X.env.scope x:=by first | exact Or.inl rfl | exact Or.inr (Or.inl rfl) | exact Or.inr (Or.inr rfl)) (hd:(x == ("__debug__" : Str))=false:=by decide)
    (hcd:(x == ("__classdict__" : Str))=false:=by decide):PE X (.Name x pos) (tVar i):=pe_var hN hv hd hcd
end
def Same (H H':Hp):Prop:=∀ b o,H b=some o→H' b=some o
theorem Same.refl (H:Hp):Same H H:=fun _ _ h=>h
theorem Same.trans {H H1 H2:Hp} (a:Same H H1) (b:Same H1 H2):Same H H2:=fun c o h=>b c o (a c o h)
theorem Same.free {H H':Hp} (e:Same H H') {l:Addr} (h:H' l=Option.none):H l=Option.none:=by
  cases q:H l with
  | none=>rfl
  | some o =>
    rw [e l o q] at h
    cases h
theorem Same.seq {K:PySem.W.Frag} {H H':Hp} {a:Addr} {xs:List V} (e:Same H H') (h:SqL K H a xs):SqL K H' a xs:=by
  rcases h with (h | ⟨o,h⟩) | h
  · exact .inl (.inl (e _ _ h))
  · exact .inl (.inr ⟨o,e _ _ h⟩)
  · exact .inr h
end L2
set_option Elab.async false
set_option linter.all false
set_option maxRecDepth 100000
set_option maxHeartbeats 4000000
namespace L2
open PySem PySem.Spec PyProof.Rows
def cxIn (X:Cx) (N:List Str) (scope:Scope) (cl:List (Str×Addr)) (C:Addr) (s0:Shared) (H0:Hp) (fp:List Addr) (pins:List (Addr×Obj)):Cx :=
  { X with N:=N,s₀:=s0,H₀:=H0,env:=compEnvC scope cl C X.env,outer:=X.stack,stack:=X.stack,ex:=fp,fn:=fun x=>scope.names.lookup x == some .cell,pn:=X.pn++pins,xe:=fun _ _=>False }
theorem closure_for {env:Env}:∀ (names:List (Str×NameKind)) (acc:List (Str×Addr)),(∀ p∈names,p.2=.free→∃ c,env.cells.lookup p.1=some c)→(∀ x c,acc.lookup x=some c→env.cells.lookup x=some c) →
    ∃ cl,(forIn names acc fun (x:Str×NameKind) cs=>(match x with | (name,kind)=>if (kind == NameKind.free)=true then do let a ← cellOf env name; pure (ForInStep.yield ((name,a) :: cs)) else pure (ForInStep.yield cs):Sem (ForInStep (List (Str×Addr)))))=(pure cl:Sem (List (Str×Addr))) ∧
      (∀ x c,cl.lookup x=some c→env.cells.lookup x=some c)∧(∀ x c,acc.lookup x=some c→cl.lookup x=some c)∧∀ p∈names,p.2=.free→∃ c,cl.lookup p.1=some c
  | [],acc,_,h=>⟨acc,rfl,h,fun _ _ e=>e,fun _ z=>nomatch z⟩
  | (n,k) :: r,acc,h,ha=>by
    by_cases hk:k=.free
    · subst hk
      obtain ⟨c,hc⟩:=h (n,.free) List.mem_cons_self rfl
      have ha':∀ x d,((n,c) :: acc).lookup x=some d→env.cells.lookup x=some d:=fun x d e=>by
        rw [List.lookup_cons] at e
        cases q:x == n with
        | true =>
          rw [q] at e
          have hxn:x=n:=by simpa using q
          subst hxn
          cases e
          exact hc
        | false =>
          rw [q] at e
          exact ha x d e
      obtain ⟨cl,e1,e2,e3,e4⟩:=closure_for r ((n,c) :: acc) (fun p hp=>h p (List.mem_cons_of_mem _ hp)) ha'
      have top:∃ d,cl.lookup n=some d:=⟨c,e3 n c (by rw [List.lookup_cons]; simp)⟩
      refine ⟨cl,?_,e2,fun x d e=>?_,fun p hp hf=>?_⟩
      · rw [List.forIn_cons]
        simp only [cellOf,hc,beq_self_eq_true,if_true]
        exact e1
      · cases q:x == n with
        | true =>
          have hxn:x=n:=by simpa using q
          subst hxn
          have z:=ha x d e
          rw [hc] at z; cases z
          exact e3 x c (by rw [List.lookup_cons]; simp)
        | false=>exact e3 x d (by rw [List.lookup_cons,q]; exact e)
      · rcases List.mem_cons.mp hp with rfl | hp
        · exact top
        · exact e4 p hp hf
    · obtain ⟨cl,e1,e2,e3,e4⟩:=closure_for r acc (fun p hp=>h p (List.mem_cons_of_mem _ hp)) ha
      have hb:(k == NameKind.free)=false:=by simpa using hk
      refine ⟨cl,?_,e2,e3,fun p hp hf=>?_⟩
      · rw [List.forIn_cons]
        simp only [hb,Bool.false_eq_true,if_false]
        exact e1
      · rcases List.mem_cons.mp hp with rfl | hp
        · exact absurd hf hk
        · exact e4 p hp hf
theorem lookup_keep {α:Type} (f:Str→α→α) (x:Str):∀ l:List (Str×α),(l.map fun p=>(p.1,f p.1 p.2)).lookup x=(l.lookup x).map (f x)
  | []=>rfl
  | (n,k) :: r=>by
    have ih:=lookup_keep f x r
    rw [List.map_cons,List.lookup_cons,List.lookup_cons]
    cases q:x == n with
    | true =>
      have e:x=n:=by simpa using q
      subst e
      rfl
    | false=>exact ih
def kindIn (env:Env) (n:Str) (k:NameKind):NameKind:=if (k == NameKind.free && env.scope.kind == .function && env.kindOf n == some .cell)=true then .cell else k
theorem relabel_look (scope:Scope) (env:Env) (x:Str):(relabel scope env).names.lookup x=(scope.names.lookup x).map (kindIn env x):=by
  rw [← lookup_keep (kindIn env) x scope.names]
  show (scope.names.map _).lookup x=_
  congr 1
  refine List.map_congr_left fun p _=>?_
  show (if _ then _ else _)=_
  unfold kindIn
  split <;> rfl
theorem kindIn_cases (env:Env) (n:Str) (k:NameKind):kindIn env n k=k∨(k=.free∧kindIn env n k=.cell):=by
  unfold kindIn
  by_cases h:(k == NameKind.free && env.scope.kind == .function && env.kindOf n == some .cell)=true
  · refine .inr ⟨?_,if_pos h⟩
    rw [Bool.and_eq_true,Bool.and_eq_true] at h
    exact beq_iff_eq.mp h.1.1
  · exact .inl (if_neg h)
theorem lookup_relabel_kind {scope:Scope} {env:Env} {x:Str} {k:NameKind} (h:scope.names.lookup x=some k) :
    (relabel scope env).names.lookup x=some k∨(k=.free∧(relabel scope env).names.lookup x=some .cell):=by
  rw [relabel_look,h]
  rcases kindIn_cases env x k with q | ⟨q,q'⟩
  · exact .inl (congrArg some q)
  · exact .inr ⟨q,congrArg some q'⟩
theorem relabel_back {scope:Scope} {env:Env} {x:Str} {k:NameKind} (h:(relabel scope env).names.lookup x=some k):∃ k',scope.names.lookup x=some k'∧(k'=k∨k'=.free):=by
  rw [relabel_look] at h
  cases q:scope.names.lookup x with
  | none=>rw [q] at h; cases h
  | some k' =>
    rw [q] at h
    have h':kindIn env x k'=k:=Option.some.inj h
    rcases kindIn_cases env x k' with z | ⟨z,_⟩
    · exact ⟨k',rfl,.inl (z.symm.trans h')⟩
    · exact ⟨k',rfl,.inr z⟩
theorem lookup_mem {α:Type} {x:Str}:∀ {l:List (Str×α)} {k:α},l.lookup x=some k→(x,k)∈l
  | [],_,h=>by simp at h
  | (n,k) :: r,k',h=>by
    rw [List.lookup_cons] at h
    cases hx:x == n with
    | true =>
      rw [hx] at h; cases h
      have:x=n:=by simpa using hx
      subst this
      exact List.mem_cons_self
    | false =>
      rw [hx] at h
      exact List.mem_cons_of_mem _ (lookup_mem h)
theorem comp_loop {prog:Program} {w:World} {A:Around} {s:Shared} {elt target iter:PySem.Expr} {ifs:List PySem.Expr} {scope:Scope} {pos:Pos} {it acc:Value} {env:Env} {R:Result→Shared→Prop} (I:Nat→Shared→Prop)
    (turn:∀ n s,I n s→wpAny (model prog w) A (pyNext it) (fun r s1=>match r with
      | none=>R (.ok .next) s1
      | some v=>wpAny (model prog w) A (letOwnedTupleGo target it v) (fun _ s0=>wpAny (model prog w) A (assign target env v) (fun _ s2 =>
          wpAny (model prog w) A (forIn ifs true fun c r=>if r=true then do let ok ← isTrue c env (eval c env); pure (ForInStep.yield ok) else pure (ForInStep.yield r)) (fun ok s3 =>
            if ok=true then wpAny (model prog w) A (eval elt env) (fun x s4 =>
              wpAny (model prog w) A (call (.builtin "list.append") [acc,x]) (fun _ s5=>∃ m,m<n∧I m s5) (fun _ _=>False) s4) (fun _ _=>False) s3
            else ∃ m,m<n∧I m s3) (fun _ _=>False) s2) (fun _ _=>False) s0) (fun _ _=>False) s1) (fun _ _=>False) s)
    (n:Nat) (h:I n s):codeAny (model prog w) A (.compLoop (.ListComp elt [⟨target,iter,ifs,0⟩] scope pos) 0 it acc env) R s:=by
  have body:∀ n s,I n s→wpAny (model prog w) A (compTurn (.ListComp elt [⟨target,iter,ifs,0⟩] scope pos) 0 it acc env)
      (fun fin s'=>match fin with | .done f=>R (.ok f) s' | .again c=>c=.compLoop (.ListComp elt [⟨target,iter,ifs,0⟩] scope pos) 0 it acc env∧∃ m,m<n∧I m s') (fun _ _=>False) s:=fun n s hI=>by
    rw [compTurn_list]
    refine wpAny_bind (wpAny_standAt (wpAny_bind (thn (turn n s hI) fun r s1 h1=>?_)))
    cases r with
    | none=>exact wpAny_pure h1
    | some v =>
      refine wpAny_bind (thn h1 fun _ s0 h0=>wpAny_bind (thn h0 fun _ s2 h2=>wpAny_bind (thn h2 fun ok s3 h3=>?_)))
      cases ok with
      | true=>exact wpAny_bind (wpAny_bind (thn h3 fun x s4 h4=>wpAny_bind (thn h4 fun _ s5 h5=>wpAny_pure (wpAny_pure ⟨rfl,h5⟩))))
      | false=>exact wpAny_pure ⟨rfl,h3⟩
  exact codeAny_loop rfl I (fun n s hI=>wpAny_noted (wpAny_mono (body n s hI) (fun _ _ q=>q) fun _ _ q=>q.elim)) n h
def tComp (own:Nat) (js:List Nat) (wi:TI) (g:TG) (tc:TT) (te:TE):TE:=fun σ H Q=>wi σ H fun J H1=>∀ l,H1 l=none →
  ∃ W:Nat→Nat→List V→St→Hp→Prop,(∃ m,W 0 m [] (List.replicate own none++js.map fun j=>(σ[j]?).join) (upd H1 l (.lst [])))∧∀ i m ys σ' H',W i m ys σ' H' →
    (J.stop i H'∧Q (.ref l) H')∨(J.go i H'∧∀ x H2,J.yld i H' x H2→g x σ' H2 fun σ2 H3=>tc σ2 H3 fun b H4 =>
      if b=true then te σ2 H4 fun y H5=>H5 l=some (.lst ys)∧ys.length<sizeLine∧∃ m',m'<m∧W (i+1) m' (ys++[y]) σ2 (upd H5 l (.lst (ys++[y])))
      else ∃ m',m'<m∧W (i+1) m' ys σ2 H4)
def tTrue:TT:=fun _ H Q=>Q true H
structure CompOk (X:Cx) (scope:Scope) (N:List Str) (own:Nat) (js:List Nat):Prop where
  kind:scope.kind=.function
  cell:∀ y∈scope.names,y.2=.cell→scope.names.lookup y.1=some .cell
  names:∀ y∈scope.names,y.2=.local→scope.names.lookup y.1=some .local
  free:∀ y∈scope.names,y.2=.free→X.env.kindOf y.1=some .cell∨X.env.kindOf y.1=some .free
  len:N.length=own+js.length
  js:∀ k j,js[k]?=some j→N[own+k]?=X.N[j]?
  jf:∀ k x,N[own+k]?=some x→scope.names.lookup x=some .free
theorem Un.but {fs ex:List Addr} {H H':Hp} {h h1 h2:Heap} {C:Addr} (u:Un fs ex H H' h h1) (hc:h.objs.size≤C) (sb:∀ b o,b≠C→h1.get? b=some o→h2.get? b=some o):Un fs ex H H' h h2:=by
  have ne:∀ b o,h.get? b=some o→b≠C:=fun b o e=>Nat.ne_of_lt (Nat.lt_of_lt_of_le (Heap.lt_size e) hc)
  refine ⟨fun b o q n hb hx=>sb b o (ne b o q) (u.keep b o q n hb hx),fun b o q n hb hx=>?_,u.free,fun b o q hx=>?_,u.tups,u.frzs,u.tbls⟩
  · obtain ⟨sl,e⟩:=u.slot b o q n hb hx
    exact ⟨sl,sb b _ (ne b o q) e⟩
  · obtain ⟨o',e⟩:=u.there b o q hx
    exact ⟨o',sb b o' (ne b o q) e⟩
theorem cf_app:∀ (names:List (Str×NameKind)) (n:Nat) (acc:List (Str×Addr)),cellsFrom n names acc=cellsFrom n names []++acc
  | [],_,_=>rfl
  | (x,k) :: r,n,acc=>by
    unfold cellsFrom
    by_cases hk:(k == NameKind.cell)=true
    · rw [if_pos hk,if_pos hk,cf_app r (n+1) ((x,n) :: acc),cf_app r (n+1) [(x,n)],List.append_assoc]
      rfl
    · rw [if_neg hk,if_neg hk]
      exact cf_app r n acc
theorem cf_from:∀ (names:List (Str×NameKind)) (n:Nat) (x:Str) (c:Addr),(x,c)∈cellsFrom n names []→(x,NameKind.cell)∈names
  | [],_,_,_,h=>nomatch h
  | (y,k) :: r,n,x,c,h=>by
    unfold cellsFrom at h
    by_cases hk:(k == NameKind.cell)=true
    · rw [if_pos hk,cf_app] at h
      rcases List.mem_append.mp h with q | q
      · exact List.mem_cons_of_mem _ (cf_from r _ x c q)
      · have e:(x,c)=(y,n):=by simpa using q
        cases e
        have hk':k=.cell:=by simpa using hk
        subst hk'
        exact List.mem_cons_self
    · rw [if_neg hk] at h
      exact List.mem_cons_of_mem _ (cf_from r _ x c h)
theorem lookup_of_mem {α:Type}:∀ {l:List (Str×α)} {x:Str} {c:α},(x,c)∈l→∃ d,l.lookup x=some d
  | (y,v) :: r,x,c,h=>by
    rw [List.lookup_cons]
    cases q:x == y with
    | true=>exact ⟨v,rfl⟩
    | false =>
      rcases List.mem_cons.mp h with e | e
      · cases e; simp at q
      · exact lookup_of_mem e
theorem cf_has:∀ (names:List (Str×NameKind)) (n:Nat) (x:Str),(x,NameKind.cell)∈names→∃ c,(x,c)∈cellsFrom n names []
  | [],_,_,h=>nomatch h
  | (y,k) :: r,n,x,h=>by
    unfold cellsFrom
    rcases List.mem_cons.mp h with e | e
    · cases e
      rw [if_pos (show (NameKind.cell == NameKind.cell)=true from rfl),cf_app]
      exact ⟨n,List.mem_append_right _ (by simp)⟩
    · by_cases hk:(k == NameKind.cell)=true
      · rw [if_pos hk,cf_app]
        obtain ⟨c,q⟩:=cf_has r (n+1) x e
        exact ⟨c,List.mem_append_left _ q⟩
      · rw [if_neg hk]
        exact cf_has r n x e
theorem lookup_two {α:Type}:∀ (l m:List (Str×α)) (x:Str),(l++m).lookup x=match l.lookup x with | some c=>some c | none=>m.lookup x
  | [],m,x=>rfl
  | (y,v) :: r,m,x=>by
    rw [List.cons_append,List.lookup_cons,List.lookup_cons]
    cases x == y with
    | true=>rfl
    | false=>exact lookup_two r m x
theorem newEnv_cells {M:Model} {A:Around} {E:Value→Shared→Prop} {s:Shared} {scope:Scope} {globals:Addr} {cl:List (Str×Addr)} {qual:Str} {env:Env} {Q:Env→Shared→Prop}
    (h:Q (newEnv scope s.heap.objs.size globals (cellsFrom (s.heap.objs.size+1) scope.names cl) qual none .none (some env) builtinsNs) { s with heap:=pushCells (s.heap.push { cls:=.type "dict",data:=.dict #[] }) scope.names }) :
    wpAny M A (newFunctionEnv scope globals cl [] qual none .none (some env)) Q E s:=by
  simp only [newFunctionEnv,Option.isSome_some,if_true]
  refine wpAny_bind (wpAny_alloc (wpAny_bind (wpAny_layCells _ (fun name kind cells=>by cases hkc:kind == NameKind.cell <;> simp [hkc]) _ _ _ _ ?_)))
  rw [show ({ s with heap:=s.heap.push { cls:=.type "dict",data:=.dict #[] } }:Shared).heap.objs.size=s.heap.objs.size+1 from Heap.size_push ..]
  rw [List.forIn_nil]
  exact wpAny_bind (wpAny_pure (wpAny_pure h))
structure CellsIn (X:Cx) (scope:Scope) (cl':List (Str×Addr)) (n:Nat) (h':Heap):Prop where
  k1:∀ x c,cl'.lookup x=some c→X.env.cells.lookup x=some c∨(n<c∧h'.IsCell c none∧(x,NameKind.cell)∈scope.names)
  k2:∀ x,scope.names.lookup x=some .free→∃ c,cl'.lookup x=some c∧X.env.cells.lookup x=some c
  k3:∀ p∈scope.names,p.2=.cell∨p.2=.free→∃ c,cl'.lookup p.1=some c
  k4:∀ x y c,cl'.lookup x=some c→cl'.lookup y=some c→x=y
  k5:∀ x c,scope.names.lookup x=some .cell→cl'.lookup x=some c→n<c
section
variable {X:Cx} {scope:Scope} {N:List Str} {own:Nat} {js:List Nat}
theorem cellsIn_mk {cl:List (Str×Addr)} {n:Nat} {h0:Heap} (c:CompOk X scope N own js) (cl1:∀ x c,cl.lookup x=some c→X.env.cells.lookup x=some c) (cl2:∀ p∈scope.names,p.2=.free→∃ c,cl.lookup p.1=some c)
    (inj:∀ x y c,X.env.cells.lookup x=some c→X.env.cells.lookup y=some c→x=y) (lt:∀ x c,X.env.cells.lookup x=some c→c<n) (hn:h0.objs.size=n+1):CellsIn X scope (cellsFrom (n+1) scope.names cl) n (pushCells h0 scope.names):=by
  have ok:=cellsFrom_ok scope.names h0 (n+1) [] ⟨fun _ _ hm=>(nomatch hm),List.Pairwise.nil⟩ (by rw [hn]; exact Nat.le_refl _)
  rw [hn] at ok
  have two:∀ x,(cellsFrom (n+1) scope.names cl).lookup x=match (cellsFrom (n+1) scope.names []).lookup x with | some c=>some c | none=>cl.lookup x:=fun x=>by
    rw [cf_app,lookup_two]
    cases (cellsFrom (n+1) scope.names []).lookup x <;> rfl
  have own':∀ x d,(cellsFrom (n+1) scope.names []).lookup x=some d→(pushCells h0 scope.names).IsCell d none∧n<d∧(x,NameKind.cell)∈scope.names:=fun x d e =>
    ⟨(ok.empty x d (mem_of_lookup e)).1,(ok.empty x d (mem_of_lookup e)).2,cf_from _ _ x d (mem_of_lookup e)⟩
  have part:∀ x d,(cellsFrom (n+1) scope.names cl).lookup x=some d→(cellsFrom (n+1) scope.names []).lookup x=some d∨((cellsFrom (n+1) scope.names []).lookup x=none∧cl.lookup x=some d):=fun x d e=>by
    rw [two] at e
    cases q:(cellsFrom (n+1) scope.names []).lookup x with
    | some d'=>rw [q] at e; exact .inl e
    | none=>rw [q] at e; exact .inr ⟨rfl,e⟩
  have has:∀ x,(x,NameKind.cell)∈scope.names→∃ d,(cellsFrom (n+1) scope.names []).lookup x=some d:=fun x m=>by
    obtain ⟨d,q⟩:=cf_has scope.names (n+1) x m
    exact lookup_of_mem q
  refine ⟨fun x d e=>?_,fun x e=>?_,fun p hp hk=>?_,fun x y d e1 e2=>?_,fun x d e1 e2=>?_⟩
  · rcases part x d e with q | ⟨_,q⟩
    · exact .inr ⟨(own' x d q).2.1,(own' x d q).1,(own' x d q).2.2⟩
    · exact .inl (cl1 x d q)
  · obtain ⟨d,q⟩:=cl2 _ (lookup_mem e) rfl
    have no:(cellsFrom (n+1) scope.names []).lookup x=none:=by
      cases z:(cellsFrom (n+1) scope.names []).lookup x with
      | none=>rfl
      | some d' =>
        have y:=c.cell _ (own' x d' z).2.2 rfl
        rw [show scope.names.lookup x=_ from e] at y
        cases y
    exact ⟨d,by rw [two,no]; exact q,cl1 x d q⟩
  · rw [two]
    cases z:(cellsFrom (n+1) scope.names []).lookup p.1 with
    | some d'=>exact ⟨d',rfl⟩
    | none =>
      rcases hk with hk | hk
      · obtain ⟨d,q⟩:=has p.1 (by rw [← hk]; exact hp)
        rw [z] at q; cases q
      · exact cl2 p hp hk
  · rcases part x d e1 with q1 | ⟨_,q1⟩
    · rcases part y d e2 with q2 | ⟨_,q2⟩
      · exact name_of_addr ok.apart (mem_of_lookup q1) (mem_of_lookup q2)
      · exact absurd (Nat.lt_trans (own' x d q1).2.1 (lt y d (cl1 y d q2))) (Nat.lt_irrefl _)
    · rcases part y d e2 with q2 | ⟨_,q2⟩
      · exact absurd (Nat.lt_trans (own' y d q2).2.1 (lt x d (cl1 x d q1))) (Nat.lt_irrefl _)
      · exact inj x y d (cl1 x d q1) (cl1 y d q2)
  · obtain ⟨d',q⟩:=has x (lookup_mem e1)
    rw [two,q] at e2
    cases e2
    exact (own' x d q).2.1
theorem comp_start {pins:List (Addr×Obj)} {σ:St} {H:Hp} {s:Shared} {cl:List (Str×Addr)} {fp:List Addr} {h':Heap} {t':Nat} (c:CompOk X scope N own js) (I:Inv X pins σ H s) (hf:∀ b∈fp,FpOk X pins H b)
    (fo:∀ b∈fp,b<s.heap.objs.size)
    (ci:CellsIn X scope cl s.heap.objs.size h')
    (hn:h'.Ns s.heap.objs.size (fun _=>none)) (hk:∀ b o,s.heap.get? b=some o→h'.get? b=some o) :
    Inv (cxIn X N scope cl s.heap.objs.size s H fp pins) [] (List.replicate own none++js.map fun j=>(σ[j]?).join) H { s with heap:=h',toks:=t' }:=by
  have cne:∀ x c,cl.lookup x=some c→c≠s.heap.objs.size:=fun x c e=>by
    rcases ci.k1 x c e with q | ⟨q,_⟩
    · obtain ⟨v,q⟩:=I.cell x c q
      exact Nat.ne_of_lt q.lt
    · exact Nat.ne_of_gt q
  have ok:(cxIn X N scope cl s.heap.objs.size s H fp pins).Ok:=by
    refine ⟨I.ok.mod,c.kind,I.ok.glob,I.ok.blt,Nat.le_refl _,ci.k4,fun x hx=>?_,fun x d z e=>Nat.le_of_lt (ci.k5 x d (beq_iff_eq.mp (show (scope.names.lookup x == some .cell)=true from z)) e),I.ok.hd,I.ok.frames,.inl rfl,fun b hb=>⟨Nat.ne_of_lt (fo b hb),fun x d e=>(ci.k1 x d e).elim (fun q=>(hf b hb).2.2.2.2.1 x d q) fun q=>Nat.ne_of_gt (Nat.lt_trans (fo b hb) q.1)⟩,I.bs,
      Nat.le_trans I.ok.bsz I.sz,fun b o e hb=>?_,fun b hb z=>?_,I.stack,I.stkFree⟩
    · have back:∀ k,(relabel scope X.env).names.lookup x=some k→k=.cell∨k=.free→∃ k',(x,k')∈scope.names∧(k'=NameKind.cell∨k'=NameKind.free):=fun k e hk=>by
        obtain ⟨k',e',z⟩:=relabel_back e
        refine ⟨k',lookup_mem e',?_⟩
        rcases z with z | z
        · subst z; exact hk
        · exact .inr z
      obtain ⟨k',m,hk'⟩:∃ k',(x,k')∈scope.names∧(k'=NameKind.cell∨k'=NameKind.free):=by
        rcases hx with hx | hx
        · exact back _ hx (.inl rfl)
        · exact back _ hx (.inr rfl)
      exact ci.k3 _ m hk'
    · rcases (hf b hb).2.2.2.1 with z | z
      · exact I.ok.noex b o e z
      · exact absurd (Nat.lt_of_lt_of_le (Nat.lt_of_lt_of_le (Heap.lt_size e) I.ok.bsz) z) (Nat.lt_irrefl _)
    · rcases List.mem_cons.mp (I.stkSub b z) with q | q
      · exact (hf b hb).2.1 q
      · exact (hf b hb).2.2.1 q
  refine ⟨ok,rfl,I.bare,Un.kept hk,⟨_,hn,fun i x v e1 e2 e3=>?_⟩,fun x d e=>?_,I.hok.fresh (Nat.le_refl _),fun x d e=>(ci.k1 x d e).elim (fun q=>I.freeC x d q) fun q=>I.hok.fresh (Nat.le_of_lt q.1),fun p hp=>?_,I.hok.kept hk,?_⟩
  · -- a name with a value is one that the block closes over
    have hi:own≤i:=by
      by_cases hi:i<own
      · rw [List.getElem?_append_left (by simpa using hi),List.getElem?_replicate] at e2
        split at e2 <;> cases e2
      · omega
    obtain ⟨k,rfl⟩:∃ k,i=own+k:=⟨i - own,by omega⟩
    rw [List.getElem?_append_right (by simp),List.length_replicate,Nat.add_sub_cancel_left,List.getElem?_map] at e2
    cases q:js[k]? with
    | none=>rw [q] at e2; cases e2
    | some j =>
      rw [q] at e2
      have e2':(σ[j]?).join=some v:=by simpa using e2
      have e4:σ[j]?=some (some v):=by
        cases z:σ[j]? with
        | none=>rw [z] at e2'; cases e2'
        | some o=>rw [z] at e2'; rw [show o=some v from e2']
      have e1':N[own+k]?=some x:=e1
      have hXN:X.N[j]?=some x:=(c.js k j q).symm.trans e1'
      have hfr:=c.jf k x e1'
      have hmem:=lookup_mem hfr
      have hk2:=c.free _ hmem rfl
      have vis:Vis X.env.scope x:=by
        rcases hk2 with z | z
        · exact .inr (.inl z)
        · exact .inr (.inr z)
      obtain ⟨m,_,hl⟩:=I.loc
      obtain ⟨u,r,l⟩:=hl j x v hXN e4 vis
      refine ⟨u,r,?_⟩
      rcases l with ⟨z,_⟩ | ⟨_,d,e,⟨od,ho,hd⟩⟩
      · rcases hk2 with y | y
        · rw [show X.env.kindOf x=_ from z] at y; cases y
        · rw [show X.env.kindOf x=_ from z] at y; cases y
      · obtain ⟨d',e',z'⟩:=ci.k2 x hfr
        have:d'=d:=by have z:=z'; rw [e] at z; exact (Option.some.inj z).symm
        subst this
        refine .inr ⟨?_,d',e',⟨od,hk _ _ ho,hd⟩⟩
        rcases lookup_relabel_kind (scope:=scope) (env:=X.env) hfr with z | ⟨_,z⟩
        · exact .inr z
        · exact .inl z
  · rcases ci.k1 x d e with q | ⟨_,q,_⟩
    · obtain ⟨v,⟨o,ho,hd⟩⟩:=I.cell x d q
      exact ⟨v,o,hk _ _ ho,hd⟩
    · exact ⟨none,q⟩
  · have hp':p∈X.pn++pins:=by
      have z:p∈(X.pn++pins)++[]:=hp
      rwa [List.append_nil] at z
    obtain ⟨a1,a2,a3,a4,a5⟩:=I.pin p hp'
    refine ⟨hk _ _ a1,a2,Nat.ne_of_lt (Heap.lt_size a1),fun z=>?_,a5⟩
    rcases List.mem_cons.mp (I.stkSub p.1 z) with q | q
    · exact a3 q
    · exact a4 q
  · show _=N.length
    rw [c.len]; simp
theorem comp_block {pins:List (Addr×Obj)} {σ:St} {H:Hp} {s:Shared} {elt target iter:PySem.Expr} {ifs:List PySem.Expr} {pos:Pos} {it:Addr} {fp:List Addr} {tn:Nat→Heap→Prop} {J:It} {cl:List (Str×Addr)} {g:TG} {tc:TT} {te:TE} {E:Value→Shared→Prop} {Q:VK}
    {RR:Value→Addr→Result→Shared→Prop}
    (c:CompOk X scope N own js) (hc:X.calm=true) (I:Inv X pins σ H s) (T:Turn X.prog X.w X.K target J fp it tn) (st:tn 0 s.heap) (hf:∀ b∈fp,FpOk X pins H b)
    (cl1:∀ x c,cl.lookup x=some c→X.env.cells.lookup x=some c) (cl2:∀ p∈scope.names,p.2=.free→∃ c,cl.lookup p.1=some c)
    (hg:∀ cl C s0 H0 fp pins,PG (cxIn X N scope cl C s0 H0 fp pins) target g)
    (ht:∀ cl C s0 H0 fp pins pins' s σ H Q,Inv (cxIn X N scope cl C s0 H0 fp pins) pins' σ H s→tc σ H Q→wpAny (model X.prog X.w) X.A (forIn ifs true fun c r=>if r=true then do let ok ← isTrue c (compEnvC scope cl C X.env) (eval c (compEnvC scope cl C X.env)); pure (ForInStep.yield ok) else pure (ForInStep.yield r))
      (TP (cxIn X N scope cl C s0 H0 fp pins) pins' σ Q) (fun _ _=>False) s)
    (he:∀ cl C s0 H0 fp pins,PE (cxIn X N scope cl C s0 H0 fp pins) elt te)
    (h:∀ l,H l=none→∃ W:Nat→Nat→List V→St→Hp→Prop,(∃ m,W 0 m [] (List.replicate own none++js.map fun j=>(σ[j]?).join) (upd H l (.lst [])))∧∀ i m ys σ' H',W i m ys σ' H' →
      (J.stop i H'∧Q (.ref l) H')∨(J.go i H'∧∀ x H2,J.yld i H' x H2→g x σ' H2 fun σ2 H3=>tc σ2 H3 fun b H4 =>
        if b=true then te σ2 H4 fun y H5=>H5 l=some (.lst ys)∧ys.length<sizeLine∧∃ m',m'<m∧W (i+1) m' (ys++[y]) σ2 (upd H5 l (.lst (ys++[y])))
        else ∃ m',m'<m∧W (i+1) m' ys σ2 H4))
    (hRR:∀ l C H' s' m',s.heap.objs.size≤C→s'.heap.Ns C m'→H' C=none→C≠X.env.locals→C∉X.fs→(∀ h2,Heap.SameBut C s'.heap h2→Inv X pins σ H' { s' with heap:=h2 })→Q (.ref l) H'→RR (.ref l) C (.ok .next) s') :
    wpAny (model X.prog X.w) X.A (newList []) (fun acc s3=>wpAny (model X.prog X.w) X.A (newFunctionEnv scope X.env.globals cl [] X.env.qual none .none (some X.env)) (fun cenv s4 =>
      codeAny (model X.prog X.w) X.A (.compStart (.ListComp elt [⟨target,iter,ifs,0⟩] scope pos) 0 (.ref it) acc { cenv with scope:=relabel scope X.env }) (RR acc cenv.locals) s4) E s3) E s:=by
  have I2:Inv X pins σ (upd H s.heap.objs.size (.lst [])) { s with heap:=s.heap.push { cls:=.type "list",dict:=none,data:=.seq ([]:List Value).toArray },toks:=s.toks }:=I.lnew (ys:=[]) .nil (Nat.zero_le _)
  obtain ⟨W,⟨m0,w0⟩,turn⟩:=h s.heap.objs.size I.fresh
  refine wpAny_newObj_type (newEnv_cells ?_)
  dsimp only
  generalize hS:({ s with heap:=s.heap.push { cls:=.type "list",dict:=none,data:=.seq ([]:List Value).toArray },toks:=s.toks }:Shared)=s2 at I2
  have e2:s2.heap=s.heap.push { cls:=.type "list",dict:=none,data:=.seq ([]:List Value).toArray }:=by rw [← hS]
  have sz2:s2.heap.objs.size=s.heap.objs.size+1:=by rw [e2,Heap.size_push]
  rw [← e2]
  have ci:=cellsIn_mk (h0:=s2.heap.push { cls:=.type "dict",data:=.dict #[] }) (n:=s2.heap.objs.size) c cl1 cl2 I2.ok.inj (fun x d e=>by obtain ⟨v,q⟩:=I2.cell x d e; exact q.lt) (Heap.size_push ..)
  have hns1':(pushCells (s2.heap.push { cls:=.type "dict",data:=.dict #[] }) scope.names).Ns s2.heap.objs.size (fun _=>none):=(Heap.Ns.new s2.heap (.type "dict")).keeps (pushCells_keeps _ _)
  have old:∀ b o,s2.heap.get? b=some o→(pushCells (s2.heap.push { cls:=.type "dict",data:=.dict #[] }) scope.names).get? b=some o:=fun b o e=>pushCells_keeps _ _ b o (Heap.get?_push_of_some _ e)
  generalize pushCells (s2.heap.push { cls:=.type "dict",data:=.dict #[] }) scope.names=h1 at ci hns1' old ⊢
  generalize hcl:cellsFrom (s2.heap.objs.size+1) scope.names cl=cl' at ci ⊢
  have lt1:∀ b,b∈fp→b<s.heap.objs.size:=fun b hb=>by
    obtain ⟨o,e,_⟩:=T.obj 0 _ st b hb
    exact Heap.lt_size e
  have hf2:∀ b∈fp,FpOk X pins (upd H s.heap.objs.size (.lst [])) b:=fun b hb=>⟨by rw [upd_ne (Nat.ne_of_lt (lt1 b hb))]; exact (hf b hb).1,(hf b hb).2⟩
  have lt2:∀ b∈fp,b<s2.heap.objs.size:=fun b hb=>by rw [sz2]; exact Nat.lt_succ_of_lt (lt1 b hb)
  have st2:tn 0 s2.heap:=T.keep 0 _ _ st fun b _ o e=>by rw [e2]; exact Heap.get?_push_of_some _ e
  have I4:=comp_start (t':=s.toks) c I2 hf2 lt2 ci hns1' old
  have st4:tn 0 h1:=T.keep 0 _ _ st2 fun b _ o e=>old b o e
  have es:({ s2 with heap:=h1,toks:=s.toks }:Shared)={ s with heap:=h1,toks:=s.toks }:=by rw [← hS]
  rw [es] at I4
  generalize hs4:({ s with heap:=h1,toks:=s.toks }:Shared)=s4 at I4
  have st4':tn 0 s4.heap:=by rw [← hs4]; exact st4
  have loop:codeAny (model X.prog X.w) X.A (.compLoop (.ListComp elt [⟨target,iter,ifs,0⟩] scope pos) 0 (.ref it) (.ref s.heap.objs.size) (compEnvC scope cl' s2.heap.objs.size X.env)) (RR (.ref s.heap.objs.size) s2.heap.objs.size) s4:=by
    refine comp_loop (fun n s'=>∃ i ys σ' H',Inv (cxIn X N scope cl' s2.heap.objs.size s2 (upd H s.heap.objs.size (.lst [])) fp pins) [] σ' H' s'∧tn i s'.heap∧(∀ b∈fp,H' b=none)∧W i n ys σ' H') ?_ m0
      ⟨0,[],_,_,I4,st4',fun b hb=>(hf2 b hb).1,w0⟩
    rintro n s5 ⟨i,ys,σ5,H5,I5,st5,fr5,w5⟩
    have stat:∀ {H':Hp} {s':Shared} {σ':St},Inv (cxIn X N scope cl' s2.heap.objs.size s2 (upd H s.heap.objs.size (.lst [])) fp pins) [] σ' H' s'→(∀ b∈fp,H' b=none)→∀ b∈fp,FpOk (cxIn X N scope cl' s2.heap.objs.size s2 (upd H s.heap.objs.size (.lst [])) fp pins) [] H' b:=fun J' hn b hb =>
      ⟨hn b hb,(J'.ok.exf b hb).1,J'.ok.exfs b hb,.inl hb,(J'.ok.exf b hb).2,fun p hp z=>by
        have hp':p∈X.pn++pins:=by
          have q:p∈(X.pn++pins)++[]:=hp
          rwa [List.append_nil] at q
        exact (hf b hb).2.2.2.2.2 p hp' z⟩
    rcases turn i n ys σ5 H5 w5 with ⟨stop,q⟩ | ⟨go,step⟩
    · refine wpAny_mono (T.done (cxIn X N scope cl' s2.heap.objs.size s2 (upd H s.heap.objs.size (.lst [])) fp pins) rfl rfl rfl hc i [] s5 σ5 H5 (fun _ _=>False) I5 (stat I5 fr5) st5 stop) (fun r s6 ⟨hr,I6⟩=>?_) fun _ _ z=>z
      subst hr
      obtain ⟨m',hn',_⟩:=I6.loc
      have hC:s.heap.objs.size≤s2.heap.objs.size:=by rw [sz2]; exact Nat.le_succ _
      refine hRR _ _ H5 s6 m' hC hn' I6.free ?_ ?_ (fun h2 sb=>?_) q
      · exact Nat.ne_of_gt I2.lt
      · exact I2.nofs (Nat.le_refl _)
      · have u:Un (frs X.stack) fp (upd H s.heap.objs.size (.lst [])) H5 s2.heap h2:=I6.base.but (Nat.le_refl _) sb.extBut
        have z6:H5 s2.heap.objs.size=none:=I6.free
        have hok:HOk X.prog X.w H5 h2:=fun b ob e=>(I6.hok b ob e).stay (fun d w' hd z=>sb.extBut d w' (by
          rintro rfl
          rcases hd with rfl | hd
          · rw [z6] at e; cases e
          · rw [z6] at hd; cases hd) z) (fun _ z=>z) fun _ _ z=>z
        have J:=I2.call' (s':={ s6 with heap:=h2 }) (ch:=fp) (by show s6.os=s2.os; exact I6.os) u hok I6.bare fun b hb=>⟨(hf b hb).2.2.2.1,(hf b hb).2.1,(hf b hb).2.2.2.2.1,(hf b hb).2.2.2.2.2⟩
        exact J
    · refine wpAny_mono (T.item (cxIn X N scope cl' s2.heap.objs.size s2 (upd H s.heap.objs.size (.lst [])) fp pins) rfl rfl rfl hc i [] s5 σ5 H5 (fun _ _=>False) I5 (stat I5 fr5) st5 go) (fun r s6 ⟨u,hr,h6⟩=>?_) fun _ _ z=>z
      subst hr
      refine wpAny_mono h6 (fun _ s7 ⟨x,H7,I7,r7,y7,st7,fr7⟩=>?_) fun _ _ z=>z
      have I7':=I7.pinned (stat I7 fr7) (T.obj _ _ st7)
      refine wpAny_mono (hg _ _ _ _ _ _ _ s7 σ5 H7 x u _ I7' r7 (step x H7 y7)) (fun _ s8 ⟨σ8,H8,I8,q8⟩=>?_) fun _ _ z=>z
      refine wpAny_mono (ht _ _ _ _ _ _ _ s8 σ8 H8 _ I8 q8) (fun b s9 ⟨H9,I9,q9⟩=>?_) fun _ _ z=>z
      have fin:∀ {s':Shared} {H':Hp} {m':Nat} {ys':List V},Inv (cxIn X N scope cl' s2.heap.objs.size s2 (upd H s.heap.objs.size (.lst [])) fp pins) ([]++pinsAt fp s7.heap) σ8 H' s'→m'<n→W (i+1) m' ys' σ8 H' →
          ∃ m,m<n∧∃ i ys σ' H',Inv (cxIn X N scope cl' s2.heap.objs.size s2 (upd H s.heap.objs.size (.lst [])) fp pins) [] σ' H' s'∧tn i s'.heap∧(∀ b∈fp,H' b=none)∧W i m ys σ' H':=fun {s' H' m' ys'} J' hm w'=>by
        refine ⟨m',hm,i+1,ys',σ8,H',J'.unpinned,T.keep _ _ _ st7 fun b hb o e=>(J'.pin (b,o) (List.mem_append_right _ (List.mem_append_right _ (mem_pinsAt hb e)))).1,fun b hb=>?_,w'⟩
        obtain ⟨o,e,d⟩:=T.obj _ _ st7 b hb
        exact (J'.pin (b,o) (List.mem_append_right _ (List.mem_append_right _ (mem_pinsAt hb e)))).2.1
      cases b with
      | false =>
        rw [if_neg Bool.false_ne_true] at q9 ⊢
        obtain ⟨m',hm,w'⟩:=q9
        exact fin I9 hm w'
      | true =>
        rw [if_pos rfl] at q9 ⊢
        refine wpAny_mono (he _ _ _ _ _ _ _ s9 σ8 H9 _ I9 q9) (fun y s10 ⟨z,H10,I10,r10,el,ez,m',hm,w'⟩=>?_) fun _ _ z=>z
        refine wpAny_mono (mt_append (X:=cxIn X N scope cl' s2.heap.objs.size s2 (upd H s.heap.objs.size (.lst [])) fp pins) _ s10 σ8 H10 (.ref s.heap.objs.size) [z] _ [y] (fun _ H'=>H'=upd H10 s.heap.objs.size (.lst (ys++[z]))) I10 rfl (.cons r10 .nil) ⟨_,_,_,rfl,rfl,el,ez,rfl⟩) (fun _ s11 ⟨_,H11,I11,_,e11⟩=>?_) fun _ _ z=>z
        subst e11
        exact fin I11 hm w'
  have fin:codeAny (model X.prog X.w) X.A (.compStart (.ListComp elt [⟨target,iter,ifs,0⟩] scope pos) 0 (.ref it) (.ref s.heap.objs.size) (compEnvC scope cl' s2.heap.objs.size X.env)) (RR (.ref s.heap.objs.size) s2.heap.objs.size) s4 :=
    codeAny_compStart_list loop (T.self X.A 0 s4 _ _ st4' loop)
  exact fin
theorem pe_compG {elt target iter:PySem.Expr} {ifs:List PySem.Expr} {pos:Pos} {wi:TI} {g:TG} {tc:TT} {te:TE} (c:CompOk X scope N own js) (hc:X.calm=true) (hi:PI X target iter wi)
    (hg:∀ cl C s0 H0 fp pins,PG (cxIn X N scope cl C s0 H0 fp pins) target g)
    (ht:∀ cl C s0 H0 fp pins pins' s σ H Q,Inv (cxIn X N scope cl C s0 H0 fp pins) pins' σ H s→tc σ H Q→wpAny (model X.prog X.w) X.A (forIn ifs true fun c r=>if r=true then do let ok ← isTrue c (compEnvC scope cl C X.env) (eval c (compEnvC scope cl C X.env)); pure (ForInStep.yield ok) else pure (ForInStep.yield r))
      (TP (cxIn X N scope cl C s0 H0 fp pins) pins' σ Q) (fun _ _=>False) s)
    (he:∀ cl C s0 H0 fp pins,PE (cxIn X N scope cl C s0 H0 fp pins) elt te)
    (hs:∀ x,foldedSetIterable iter X.env x=pure x:=by intro _; rfl):PE X (.ListComp elt [⟨target,iter,ifs,0⟩] scope pos) (tComp own js wi g tc te):=by
  intro pins s σ H Q I h
  obtain ⟨cl,e1,cl1,_,cl2⟩:=closure_for (env:=X.env) scope.names [] (fun p hp hf=>I.ok.has _ (c.free p hp hf)) (fun x d e=>by simp at e)
  have hclos:closureFor scope X.env=pure cl:=by
    unfold closureFor
    refine (congrArg (fun z=>z >>= fun cs=>pure cs) e1).trans ?_
    rfl
  rw [eval_ListComp]
  refine wpAny_comprehension_free (use:=none) rfl hs hclos c.kind c.names (wpAny_mono (hi pins s σ H _ I h) (fun x s1 h1=>wpAny_mono h1 (fun itv s2 h2=>?_) fun _ _ e=>e) fun _ _ e=>e)
  obtain ⟨it,fp,tn,J,H2,e,I2,T,st2,f2,q⟩:=h2
  subst e
  refine comp_block (Q:=Q) (RR:=fun acc C=>compPost (model X.prog X.w) X.A X.xe none (EP X pins σ Q) acc C) c hc I2 T st2 f2 cl1 cl2 hg ht he q ?_
  intro l C H' s' m' hC hn hf hL hfs hI hq
  exact ⟨m',hn,fun h2 sb=>⟨.ref l,H',hI h2 sb,rfl,hq⟩⟩
theorem ps_compG {elt target iter:PySem.Expr} {ifs:List PySem.Expr} {pos pos' spos:Pos} {y:Str} {k:Nat} {wi:TI} {g:TG} {tc:TT} {te:TE} (c:CompOk X scope N own js) (hc:X.calm=true) (hN:X.N.Nodup) (hk:X.N[k]?=some y) (hy:X.env.scope.names.lookup y=some .local) (hi:PI X target iter wi)
    (hg:∀ cl C s0 H0 fp pins,PG (cxIn X N scope cl C s0 H0 fp pins) target g)
    (ht:∀ cl C s0 H0 fp pins pins' s σ H Q,Inv (cxIn X N scope cl C s0 H0 fp pins) pins' σ H s→tc σ H Q→wpAny (model X.prog X.w) X.A (forIn ifs true fun c r=>if r=true then do let ok ← isTrue c (compEnvC scope cl C X.env) (eval c (compEnvC scope cl C X.env)); pure (ForInStep.yield ok) else pure (ForInStep.yield r))
      (TP (cxIn X N scope cl C s0 H0 fp pins) pins' σ Q) (fun _ _=>False) s)
    (he:∀ cl C s0 H0 fp pins,PE (cxIn X N scope cl C s0 H0 fp pins) elt te)
    (hs:∀ x,foldedSetIterable iter X.env x=pure x:=by intro _; rfl)
    (hsw:swapsWith (.ListComp elt [⟨target,iter,ifs,0⟩] scope pos) (some (.Name y pos')) spos.line X.env=pure true:=by rfl):PS X (.Assign [.Name y pos'] (.ListComp elt [⟨target,iter,ifs,0⟩] scope pos) spos) (tAsg (tComp own js wi g tc te) (gName k)):=by
  intro pins s σ H D I h
  obtain ⟨cl,e1,cl1,_,cl2⟩:=closure_for (env:=X.env) scope.names [] (fun p hp hf=>I.ok.has _ (c.free p hp hf)) (fun x d e=>by simp at e)
  have hclos:closureFor scope X.env=pure cl:=by
    unfold closureFor
    refine (congrArg (fun z=>z >>= fun cs=>pure cs) e1).trans ?_
    rfl
  rw [exec_Assign_Name_used _ _ _ _ hsw]
  refine wpAny_bind (wpAny_standAt (wpAny_bind ?_))
  show wpAny _ X.A (do let _ ← comprehension (.ListComp elt [⟨target,iter,ifs,0⟩] scope pos) scope X.env _ (newList []) false (eval iter X.env) (some (assign (.Name y pos') X.env))) _ _ s
  refine wpAny_bind (wpAny_mono (wpAny_comprehension_free (use:=some (assign (.Name y pos') X.env)) (Q:=fun _ s'=>SP X pins D .next s') rfl hs hclos c.kind c.names
    (wpAny_mono (hi pins s σ H _ I h) (fun xv s1 h1=>wpAny_mono h1 (fun it s2 h2=>?_) fun _ _ e=>e) fun _ _ e=>e)) (fun _ s' hq=>wpAny_pure (wpAny_pure hq)) fun _ _ e=>e)
  obtain ⟨it,fp,tn,J,H2,e,I2,T,st2,f2,q⟩:=h2
  subst e
  refine comp_block (Q:=fun x H1=>gName k x σ H1 D.nx) (RR:=fun acc C=>compPost (model X.prog X.w) X.A X.xe (some (assign (.Name y pos') X.env)) (fun _ s'=>SP X pins D .next s') acc C) c hc I2 T st2 f2 cl1 cl2 hg ht he q ?_
  intro l C H' s' m' hC hn hf hL hfs hI hq
  have J0:=hI s'.heap (Heap.SameBut.refl ..)
  show wpAny _ X.A (assign (.Name y pos') X.env (.ref l)) _ _ _
  have J1:Inv X pins σ H' s':=J0
  refine wpAny_assign_Name (store_ok2 (v:=.ref l) J1 hN hk (.inl hy) rfl (fun s'' I'' hsb=>?_) (.inr hy))
  obtain ⟨a,sb,ha⟩:=hsb
  have hne:C≠a:=by
    rcases ha with rfl | ha
    · exact hL
    · rintro rfl
      obtain ⟨v,⟨o,ho,hd⟩⟩:=J1.cell y C ha
      obtain ⟨o',es,ep,ho',hd',_⟩:=hn
      rw [ho] at ho'; cases ho'
      rw [hd] at hd'; cases hd'
  refine ⟨m',hn.sameBut sb hne,fun h2 sb2=>?_⟩
  have hok:HOk X.prog X.w H' h2:=fun b ob e=>(I''.hok b ob e).stay (fun d w' hd z=>sb2.extBut d w' (by
    rintro rfl
    rcases hd with rfl | hd
    · rw [hf] at e; cases e
    · rw [hf] at hd; cases hd) z) (fun _ z=>z) fun _ _ z=>z
  have cne:∀ x d,X.env.cells.lookup x=some d→d≠C:=fun x d e z=>by
    subst z
    obtain ⟨v,⟨o,ho,hd⟩⟩:=J1.cell x d e
    obtain ⟨o',es,ep,ho',hd',_⟩:=hn
    rw [ho] at ho'; cases ho'
    rw [hd] at hd'; cases hd'
  have hpn:∀ p∈X.pn++pins,p.1≠C:=fun p hp z=>by
    have a1:=(I2.pin p hp).1
    exact absurd (Nat.lt_of_lt_of_le (Heap.lt_size a1) (by rw [z]; exact hC)) (Nat.lt_irrefl _)
  have fin:Inv X pins (σ.set k (some (.ref l))) H' { s'' with heap:=h2 }:=I''.turned (t':=s''.toks) (it:=C) (fun b o hb e=>sb2.extBut b o hb e) hf hL (.inr (Nat.le_trans I2.sz hC)) cne hpn
  exact ⟨_,H',fin,hq⟩
theorem pe_comp0 {elt target iter:PySem.Expr} {pos:Pos} {wi:TI} {g:TG} {te:TE} (c:CompOk X scope N own js) (hc:X.calm=true) (hi:PI X target iter wi)
    (hg:∀ cl C s0 H0 fp pins,PG (cxIn X N scope cl C s0 H0 fp pins) target g) (he:∀ cl C s0 H0 fp pins,PE (cxIn X N scope cl C s0 H0 fp pins) elt te)
    (hs:∀ x,foldedSetIterable iter X.env x=pure x:=by intro _; rfl):PE X (.ListComp elt [⟨target,iter,[],0⟩] scope pos) (tComp own js wi g tTrue te) :=
  pe_compG c hc hi hg (fun cl C s0 H0 fp pins pins' s σ H Q I h=>wpAny_tests_nil ⟨H,I,h⟩) he hs
theorem pe_comp1 {elt target iter tst:PySem.Expr} {pos:Pos} {wi:TI} {g:TG} {tc:TT} {te:TE} (c:CompOk X scope N own js) (hc:X.calm=true) (hi:PI X target iter wi)
    (hg:∀ cl C s0 H0 fp pins,PG (cxIn X N scope cl C s0 H0 fp pins) target g) (ht:∀ cl C s0 H0 fp pins,PT (cxIn X N scope cl C s0 H0 fp pins) tst tc) (he:∀ cl C s0 H0 fp pins,PE (cxIn X N scope cl C s0 H0 fp pins) elt te)
    (hs:∀ x,foldedSetIterable iter X.env x=pure x:=by intro _; rfl):PE X (.ListComp elt [⟨target,iter,[tst],0⟩] scope pos) (tComp own js wi g tc te) :=
  pe_compG c hc hi hg (fun cl C s0 H0 fp pins pins' s σ H Q I h=>wpAny_tests_one (ht cl C s0 H0 fp pins pins' s σ H Q I h)) he hs
theorem ps_comp0 {elt target iter:PySem.Expr} {pos pos' spos:Pos} {y:Str} (k:Nat) {wi:TI} {g:TG} {te:TE} (c:CompOk X scope N own js) (hc:X.calm=true) (hN:X.N.Nodup) (hk:X.N[k]?=some y) (hy:X.env.scope.names.lookup y=some .local) (hi:PI X target iter wi)
    (hg:∀ cl C s0 H0 fp pins,PG (cxIn X N scope cl C s0 H0 fp pins) target g) (he:∀ cl C s0 H0 fp pins,PE (cxIn X N scope cl C s0 H0 fp pins) elt te)
    (hs:∀ x,foldedSetIterable iter X.env x=pure x:=by intro _; rfl)
    (hsw:swapsWith (.ListComp elt [⟨target,iter,[],0⟩] scope pos) (some (.Name y pos')) spos.line X.env=pure true:=by rfl):PS X (.Assign [.Name y pos'] (.ListComp elt [⟨target,iter,[],0⟩] scope pos) spos) (tAsg (tComp own js wi g tTrue te) (gName k)) :=
  ps_compG c hc hN hk hy hi hg (fun cl C s0 H0 fp pins pins' s σ H Q I h=>wpAny_tests_nil ⟨H,I,h⟩) he hs hsw
theorem ps_comp1 {elt target iter tst:PySem.Expr} {pos pos' spos:Pos} {y:Str} (k:Nat) {wi:TI} {g:TG} {tc:TT} {te:TE} (c:CompOk X scope N own js) (hc:X.calm=true) (hN:X.N.Nodup) (hk:X.N[k]?=some y) (hy:X.env.scope.names.lookup y=some .local) (hi:PI X target iter wi)
    (hg:∀ cl C s0 H0 fp pins,PG (cxIn X N scope cl C s0 H0 fp pins) target g) (ht:∀ cl C s0 H0 fp pins,PT (cxIn X N scope cl C s0 H0 fp pins) tst tc) (he:∀ cl C s0 H0 fp pins,PE (cxIn X N scope cl C s0 H0 fp pins) elt te)
    (hs:∀ x,foldedSetIterable iter X.env x=pure x:=by intro _; rfl)
    (hsw:swapsWith (.ListComp elt [⟨target,iter,[tst],0⟩] scope pos) (some (.Name y pos')) spos.line X.env=pure true:=by rfl):PS X (.Assign [.Name y pos'] (.ListComp elt [⟨target,iter,[tst],0⟩] scope pos) spos) (tAsg (tComp own js wi g tc te) (gName k)) :=
  ps_compG c hc hN hk hy hi hg (fun cl C s0 H0 fp pins pins' s σ H Q I h=>wpAny_tests_one (ht cl C s0 H0 fp pins pins' s σ H Q I h)) he hs hsw
end
end L2
set_option Elab.async false
set_option linter.all false
set_option maxRecDepth 100000
set_option maxHeartbeats 4000000
namespace L2
open PySem PySem.Spec PyProof.Rows
section
variable {X:Cx} {pins:List (Addr×Obj)} {σ:St} {H:Hp} {s:Shared}
theorem HOk.offCh {P:Program} {w:World} {h h':Heap} {ch:List Addr} (hok:HOk P w H h) (hn:∀ b∈ch,H b=none) (k:∀ b o,b∉ch→h.get? b=some o→h'.get? b=some o):HOk P w H h':=fun b ob e =>
  (hok b ob e).stay (fun d u hd z=>k d u (fun m=>by
    rcases hd with rfl | hd
    · rw [hn _ m] at e; cases e
    · rw [hn _ m] at hd; cases hd) z) (fun _ z=>z) fun _ _ z=>z
theorem Inv.turnedCh {ch:List Addr} {h':Heap} {t':Nat} (I:Inv X pins σ H s) (hch:∀ b∈ch,FpOk X pins H b) (k:∀ b o,b∉ch→s.heap.get? b=some o→h'.get? b=some o) :
    Inv X pins σ H { s with heap:=h',toks:=t' }:=by
  have u:Un (frs X.stack) ch H H s.heap h':=⟨fun b o q _ _ hx=>k b o hx q,fun b o q _ _ hx=>⟨o.slots,k b o hx q⟩,fun _ _ _ n _=>n,fun b o q hx=>⟨o,k b o hx q⟩,fun _ _ q=>q,fun _ _ _ q=>q,fun _ _ _ q=>q⟩
  exact I.call (g':=s.gens) (d':=s.drawn) (t':=t') u (I.hok.offCh (fun b hb=>(hch b hb).1) k) I.bare fun b hb=>⟨(hch b hb).2.2.2.1,(hch b hb).2.1,(hch b hb).2.2.2.2.1,(hch b hb).2.2.2.2.2⟩
theorem Inv.laidCh {ch:List Addr} {h':Heap} {t':Nat} {o:HO} (I:Inv X pins σ H s) (hch:∀ b∈ch,FpOk X pins H b) (k:∀ b o,b∉ch→s.heap.get? b=some o→h'.get? b=some o)
    (new:ObjOk X.prog X.w (upd H s.heap.objs.size o) h' s.heap.objs.size o):Inv X pins σ (upd H s.heap.objs.size o) { s with heap:=h',toks:=t' }:=by
  have fr:H s.heap.objs.size=none:=I.hok.fresh (Nat.le_refl _)
  have ne:∀ b ob,s.heap.get? b=some ob→b≠s.heap.objs.size:=fun b ob e=>Nat.ne_of_lt (Heap.lt_size e)
  have nt:∀ b ob,H b=some ob→b≠s.heap.objs.size:=fun b ob e=>ne_of_none e fr
  have u:Un (frs X.stack) ch H (upd H s.heap.objs.size o) s.heap h':=⟨fun b o q _ _ hx=>k b o hx q,fun b o q _ _ hx=>⟨o.slots,k b o hx q⟩,fun b ob q n _=>by rw [upd_ne (ne b ob q)]; exact n,fun b o q hx=>⟨o,k b o hx q⟩,
    fun b xs q=>by rw [upd_ne (nt b _ q)]; exact q,fun b ob xs q=>by rw [upd_ne (nt b _ q)]; exact q,fun b _ _ q=>by rw [upd_ne (nt b _ q)]; exact q⟩
  have hok:HOk X.prog X.w (upd H s.heap.objs.size o) h':=fun b ob e=>by
    by_cases hb:b=s.heap.objs.size
    · subst hb
      rw [upd_same] at e; cases e
      exact new
    · rw [upd_ne hb] at e
      refine (I.hok b ob e).stay (fun d u hd z=>k d u (fun m=>?_) z) (fun d z=>by rw [upd_ne (nt d _ z)]; exact z) (fun d xs z=>by rw [upd_ne (nt d _ z)]; exact z) fun d oz z=>by rw [upd_ne (nt d _ z)]; exact z
      have hn:=(hch d m).1
      rcases hd with rfl | hd
      · rw [hn] at e; cases e
      · rw [hn] at hd; cases hd
  exact I.call (g':=s.gens) (d':=s.drawn) (t':=t') u hok I.bare fun b hb=>⟨(hch b hb).2.2.2.1,(hch b hb).2.1,(hch b hb).2.2.2.2.1,(hch b hb).2.2.2.2.2⟩
end
theorem nne {a b:Nat} (h:a<b∨b<a):@Ne Addr a b:=fun e=>by
  have e':a=b:=e
  omega
theorem zip_apart (n l1 l2:Nat) (h1:l1<n) (h2:l2<n):ZipApart (n+4) (n+2) (n+3) n (n+1) l1 l2 :=
  ⟨nne (by omega),nne (by omega),nne (by omega),nne (by omega),nne (by omega),nne (by omega),nne (by omega),nne (by omega),nne (by omega),nne (by omega),nne (by omega),nne (by omega),nne (by omega),nne (by omega),nne (by omega),nne (by omega),nne (by omega),nne (by omega)⟩
def Itz (K:PySem.W.Frag) (a b:Addr):It :=
  ⟨fun i H=>∃ xs ys x y,SqL K H a xs∧SqL K H b ys∧xs[i]?=some x∧ys[i]?=some y,
   fun i H v H'=>∃ t x y,H t=none∧v=.ref t∧H'=upd H t (.tup [x,y])∧(∀ xs,SqL K H a xs→xs[i]?=some x)∧∀ ys,SqL K H b ys→ys[i]?=some y,
   fun i H=>∃ xs ys,SqL K H a xs∧SqL K H b ys∧(xs.length≤i∨ys.length≤i)⟩
theorem iter_obj {h:Heap} {it l:Addr} {i:Nat} (x:h.IsListIter it l i):∃ o,h.get? it=some o∧∀ v,o.data≠.cell v:=by
  obtain ⟨o,e,c,d⟩:=x
  exact ⟨o,e,fun v z=>by rw [d] at z; cases z⟩
theorem turn_zip {P:Program} {w:World} {K:PySem.W.Frag} {elts:List PySem.Expr} {x1} {pos:Pos} (z TI TO i1 i2 a b:Addr) (D:ZipApart z TI TO i1 i2 a b) :
    Turn P w K (.Tuple elts x1 pos) (Itz K a b) [z,TI,TO,i1,i2] z (fun i h=>IsZip h z TI TO .none∧IsPair h TI (.ref i1) (.ref i2)∧(∃ u v,IsPair h TO u v)∧h.IsListIter i1 a i∧h.IsListIter i2 b i) where
  mem:=by simp
  obj:=fun i h st c hc=>by
    obtain ⟨hz,hTI,⟨u,v,hTO⟩,h1,h2⟩:=st
    simp only [List.mem_cons,List.not_mem_nil,or_false] at hc
    rcases hc with rfl | rfl | rfl | rfl | rfl
    · exact ⟨_,hz,fun v e=>by cases e⟩
    · exact ⟨_,hTI,fun v e=>by cases e⟩
    · exact ⟨_,hTO,fun v e=>by cases e⟩
    · exact iter_obj h1
    · exact iter_obj h2
  keep:=fun i h h' st k=>by
    obtain ⟨hz,hTI,⟨u,v,hTO⟩,h1,h2⟩:=st
    exact ⟨k z (by simp) _ hz,k TI (by simp) _ hTI,⟨u,v,k TO (by simp) _ hTO⟩,h1.at fun o e=>k i1 (by simp) o e,h2.at fun o e=>k i2 (by simp) o e⟩
  item:=by
    intro X hP hw hK hc i pins s σ H E I hf st hg
    subst hP hw hK
    obtain ⟨xs,ys,x,y,hqa,hqb,hx,hy⟩:=hg
    obtain ⟨hz,hTI,⟨u0,v0,hTO⟩,h1,h2⟩:=st
    obtain ⟨itsa,ra,pa,za⟩:=I.list hqa
    obtain ⟨itsb,rb,pb,zb⟩:=I.list hqb
    obtain ⟨ux,hux,rux⟩:=ra.get hx
    obtain ⟨uy,huy,ruy⟩:=rb.get hy
    refine wpAny_pyNext_zip_item D hz hTI hTO h1 h2 pa.isList pb.isList (x:=ux) (y:=uy) (by simpa using hux) (by simpa using huy) fun h' a1 a2 a3 a4 a5 a6 a7=>?_
    refine ⟨.ref s.heap.objs.size,rfl,?_⟩
    refine wpAny_letOwnedTupleGo_zip a1 fun h2' hz' hs'=>?_
    have hzlt:z<s.heap.objs.size:=Heap.lt_size hz
    have kk:∀ c o,c∉[z,TI,TO,i1,i2]→s.heap.get? c=some o→h2'.get? c=some o:=fun c o hc e=>by
      simp only [List.mem_cons,List.not_mem_nil,or_false,not_or] at hc
      exact hs'.extBut c o hc.1 (a7 c o hc.1 hc.2.2.1 hc.2.2.2.1 hc.2.2.2.2 e)
    have tp:h2'.get? s.heap.objs.size=some { cls:=.type "tuple",data:=.seq #[ux,uy] }:=hs'.extBut _ _ (Nat.ne_of_gt hzlt) a5
    have I1:Inv X pins σ (upd H s.heap.objs.size (.tup [x,y])) { s with heap:=h2',toks:=s.toks } :=
      I.laidCh hf kk ⟨by show 2≤sizeLine; decide,[ux,uy],.cons rux (.cons ruy .nil),⟨_,tp,rfl,_,rfl⟩⟩
    have TIk:h2'.get? TI=s.heap.get? TI:=by
      rw [hTI]
      exact hs'.extBut _ _ D.TIz (a7 _ _ D.TIz D.TITO D.TIi1 D.TIi2 hTI)
    refine ⟨.ref s.heap.objs.size,_,I1,rfl,⟨s.heap.objs.size,x,y,I.hok.fresh (Nat.le_refl _),rfl,rfl,fun xs' h=>by rw [I.list_inj h hqa]; exact hx,fun ys' h=>by rw [I.list_inj h hqb]; exact hy⟩,⟨hz',?_,⟨ux,uy,hs'.extBut _ _ D.TOz a2⟩,a3.at fun o e=>hs'.extBut _ o D.i1z e,a4.at fun o e=>hs'.extBut _ o D.i2z e⟩,fun c hc=>?_⟩
    · show h2'.get? TI=_
      rw [TIk]; exact hTI
    · have hc':=hc
      have hlt:c<s.heap.objs.size:=by
        simp only [List.mem_cons,List.not_mem_nil,or_false] at hc'
        rcases hc' with rfl | rfl | rfl | rfl | rfl
        · exact hzlt
        · exact Heap.lt_size hTI
        · exact Heap.lt_size hTO
        · obtain ⟨o,e,_⟩:=iter_obj h1; exact Heap.lt_size e
        · obtain ⟨o,e,_⟩:=iter_obj h2; exact Heap.lt_size e
      rw [upd_ne (Nat.ne_of_lt hlt)]
      exact (hf c hc).1
  done:=by
    intro X hP hw hK hc i pins s σ H E I hf st hg
    subst hP hw hK
    obtain ⟨xs,ys,hqa,hqb,hend⟩:=hg
    obtain ⟨hz,hTI,⟨u0,v0,hTO⟩,h1,h2⟩:=st
    obtain ⟨itsa,ra,pa,za⟩:=I.list hqa
    obtain ⟨itsb,rb,pb,zb⟩:=I.list hqb
    have la:=ra.length
    have lb:=rb.length
    refine wpAny_pyNext_zip_end (I.ok.hd hc) D hz hTI hTO h1 h2 pa.isList pb.isList ?_ fun h' hk=>⟨rfl,?_⟩
    · rcases hend with q | q
      · exact .inl (by simp; omega)
      · exact .inr (by simp; omega)
    · refine I.turnedCh (t':=s.toks) hf fun c o hc e=>?_
      simp only [List.mem_cons,List.not_mem_nil,or_false,not_or] at hc
      exact hk c o hc.1 hc.2.2.1 hc.2.2.2.1 hc.2.2.2.2 e
  self:=fun _ _ _ _ _ st h=>wpAny_pyIter_zip st.1 h
section
variable {X:Cx}
theorem boot_zip:bootBuiltins "zip" = some (.type "zip"):=by first | rfl | decide +kernel | kernel_rfl
theorem boot_enumerate:bootBuiltins "enumerate" = some (.type "enumerate"):=by first | rfl | decide +kernel | kernel_rfl
def Ite (K:PySem.W.Frag) (a:Addr):It :=
  ⟨fun i H=>∃ xs x,SqL K H a xs∧xs[i]?=some x,
   fun i H v H'=>∃ t x,H t=none∧v=.ref t∧H'=upd H t (.tup [.int i,x])∧∀ xs,SqL K H a xs→xs[i]?=some x,
   fun i H=>∃ xs,SqL K H a xs∧xs.length=i⟩
theorem turn_enum {P:Program} {w:World} {K:PySem.W.Frag} {elts:List PySem.Expr} {x1} {pos:Pos} (e it a:Addr) (hei:e≠it) (hae:a≠e) (hai:a≠it) :
    Turn P w K (.Tuple elts x1 pos) (Ite K a) [e,it] e (fun i h=>(∃ old,IsEnum h e it i old)∧h.IsListIter it a i) where
  mem:=by simp
  obj:=fun i h st c hc=>by
    obtain ⟨⟨old,he⟩,h1⟩:=st
    simp only [List.mem_cons,List.not_mem_nil,or_false] at hc
    rcases hc with rfl | rfl
    · exact ⟨_,he,fun v z=>by cases z⟩
    · obtain ⟨o,q,c,d⟩:=h1; exact ⟨o,q,fun v z=>by rw [d] at z; cases z⟩
  keep:=fun i h h' st k=>by
    obtain ⟨⟨old,he⟩,h1⟩:=st
    exact ⟨⟨old,k e (by simp) _ he⟩,h1.at fun o q=>k it (by simp) o q⟩
  item:=by
    intro X hP hw hK hc i pins s σ H E I hf st hg
    subst hP hw hK
    obtain ⟨xs,x,hq,hx⟩:=hg
    obtain ⟨⟨old,he⟩,h1⟩:=st
    obtain ⟨its,rv,p,hz⟩:=I.list hq
    obtain ⟨u,hu,ru⟩:=rv.get hx
    have hlt:i<its.toArray.size:=by
      have:=(List.getElem?_eq_some_iff.mp hu).1
      simpa using this
    refine wpAny_pyNext_enum_itemD (Draws.list (A:=X.A.in1) (show X.A.in1.handled=none from I.ok.hd hc) it a hai its.toArray) he ⟨h1,p.isList⟩ hlt hei (by simp [hei,Ne.symm hae]) fun v h' tk hP ho hs' hT hsz hk=>?_
    have hP':v=u:=by
      have z:its[i]?=some v:=by simpa using hP
      rw [hu] at z; exact (Option.some.inj z).symm
    subst hP'
    refine ⟨.ref s.heap.objs.size,rfl,?_⟩
    refine wpAny_letOwnedTupleGo_enum ho fun h2 he2 sb2=>?_
    have helt:e<s.heap.objs.size:=Heap.lt_size he
    have kk:∀ c o,c∉[e,it]→s.heap.get? c=some o→h2.get? c=some o:=fun c o hc q=>by
      simp only [List.mem_cons,List.not_mem_nil,or_false,not_or] at hc
      exact (sb2.2 c hc.1).trans (hk c o hc.1 hc.2 q)
    have tp:h2.get? s.heap.objs.size=some { cls:=.type "tuple",data:=.seq #[.int i tk,v] }:=(sb2.2 _ (Nat.ne_of_gt helt)).trans hT
    have I1:Inv X pins σ (upd H s.heap.objs.size (.tup [.int i,x])) { s with heap:=h2,toks:=tk+1 } :=
      I.laidCh hf kk ⟨by show 2≤sizeLine; decide,[.int i tk,v],.cons ⟨tk,rfl⟩ (.cons ru .nil),⟨_,tp,rfl,_,rfl⟩⟩
    refine ⟨.ref s.heap.objs.size,_,I1,rfl,⟨s.heap.objs.size,x,I.hok.fresh (Nat.le_refl _),rfl,rfl,fun ys hy=>by rw [I.list_inj hy hq]; exact hx⟩,⟨⟨v,by simpa using he2⟩,hs'.1.at fun o q=>(sb2.2 _ (Ne.symm hei)).trans q⟩,fun c hc=>?_⟩
    have hlt':c<s.heap.objs.size:=by
      simp only [List.mem_cons,List.not_mem_nil,or_false] at hc
      rcases hc with rfl | rfl
      · exact helt
      · obtain ⟨o,q,_⟩:=h1; exact Heap.lt_size q
    rw [upd_ne (Nat.ne_of_lt hlt')]
    exact (hf c hc).1
  done:=by
    intro X hP hw hK hc i pins s σ H E I hf st hg
    subst hP hw hK
    obtain ⟨xs,hq,hx⟩:=hg
    obtain ⟨⟨old,he⟩,h1⟩:=st
    obtain ⟨its,rv,p,hz⟩:=I.list hq
    have hl:=rv.length
    have ei:i=its.toArray.size:=by simp; omega
    subst ei
    refine wpAny_pyNext_enum_endD (Draws.list (A:=X.A.in1) (show X.A.in1.handled=none from I.ok.hd hc) it a hai its.toArray) he ⟨h1,p.isList⟩ fun h' hx'=>⟨rfl,?_⟩
    refine I.turnedCh (t':=s.toks) hf fun c o hc q=>?_
    simp only [List.mem_cons,List.not_mem_nil,or_false,not_or] at hc
    exact hx' c o hc.2 q
  self:=fun _ _ _ _ _ st h=>by
    obtain ⟨⟨old,he⟩,_⟩:=st
    exact wpAny_pyIter_enum he h
def iEnum (K:PySem.W.Frag) (ta:TA):TI:=fun σ H R=>ta σ H fun vs H1=>∃ a,vs=[.ref a]∧(∃ xs,SqL K H1 a xs)∧R (Ite K a) H1
theorem pi_enum {elts:List PySem.Expr} {x1} {tpos:Pos} {a:PySem.Expr} {ta:TA} {p pos:Pos} (hg:Gl X "enumerate") (hm:X.mg "enumerate" = none) (ha:PA X [a] ta) (hs:starEach [a] X.env=[(false,eval a X.env)]:=by rfl) :
    PI X (.Tuple elts x1 tpos) (.Call (.Name "enumerate" p) [a] [] pos) (iEnum X.K ta):=by
  intro pins s σ H R I h
  refine Call_ (ld_blt I hg hm boot_enumerate (PyProof.Rows.callWith_type1 (thn (ha pos pins s σ H _ I h) fun us s1 ⟨vs,H1,I1,r1,q1⟩=>?_) hs rfl))
  obtain ⟨l,e,⟨xs,hq⟩,q⟩:=q1
  subst e
  cases r1 with
  | cons r rr =>
    cases rr
    cases r
    obtain ⟨its,rv,pl,hz⟩:=I1.list hq
    have lt1:l<s1.heap.objs.size:=by obtain ⟨o,e,_⟩:=pl.isList; exact Heap.lt_size e
    refine call_enumerate_list pl.isList fun h' he hi hsz hk=>?_
    refine wpAny_pyIter_enum he ?_
    refine ⟨s1.heap.objs.size+1,[s1.heap.objs.size+1,s1.heap.objs.size],_,_,H1,rfl,I1.kept (t':=s1.toks) hk,turn_enum (s1.heap.objs.size+1) s1.heap.objs.size l (Nat.succ_ne_self _) (nne (.inl (Nat.lt_succ_of_lt lt1))) (Nat.ne_of_lt lt1),⟨⟨_,he⟩,hi⟩,fun c hc=>?_,q⟩
    have hc':s1.heap.objs.size≤c:=by
      simp only [List.mem_cons,List.not_mem_nil,or_false] at hc
      rcases hc with rfl | rfl <;> omega
    exact I1.fpOk hc' (I1.hok.fresh hc')
end
end L2
set_option Elab.async false
set_option linter.all false
set_option maxRecDepth 100000
set_option maxHeartbeats 4000000
namespace L2
open PySem PySem.Spec PyProof.Rows
def tyN (H:Hp):V→Option String
  | .non=>some "NoneType"
  | .bl _=>some "bool"
  | .int _=>some "int"
  | .str _=>some "str"
  | .ref a=>match H a with
    | some (.lst _)=>some "list"
    | some (.frz _ (.lst _))=>some "list"
    | some (.tup _)=>some "tuple"
    | some (.dK _)=>some "dict"
    | some (.dT _)=>some "dict"
    | _=>none
  | _=>none
theorem tyN_of {K:PySem.W.Frag} {H:Hp} {x:V} {t:String} (h:tyN H x=some t):TyOf K H x (.type t):=by
  cases x with
  | non=>cases h; exact .non
  | bl b=>cases h; exact .bl b
  | int i=>cases h; exact .int i
  | str z=>cases h; exact .str z
  | ref a =>
    simp only [tyN] at h
    split at h
    · rename_i e; cases h; exact .lst e
    · rename_i e; cases h; exact .frz e
    · rename_i e; cases h; exact .tup e
    · rename_i e; cases h; exact .dK e
    · rename_i e; cases h; exact .dT e
    · cases h
  | _=>cases h
def subT (t c:String):Bool:=t == c || (t == "bool" && c == "int")
def knownT:List String:=["NoneType", "bool", "int", "str", "list", "tuple", "dict"]
def askedT:List String:=["bool", "int", "str", "list", "tuple", "dict"]
theorem kit_known (K:PySem.W.Frag):∀ t∈knownT,∀ c∈askedT,PySem.W.kitOne K (.type t) (.type c)=some (subT t c):=by
  intro t ht c hc
  simp only [knownT,List.mem_cons,List.not_mem_nil,or_false] at ht
  simp only [askedT,List.mem_cons,List.not_mem_nil,or_false] at hc
  rcases ht with rfl | rfl | rfl | rfl | rfl | rfl | rfl <;> rcases hc with rfl | rfl | rfl | rfl | rfl | rfl <;> rfl
theorem tyN_known {H:Hp} {x:V} {t:String} (h:tyN H x=some t):t∈knownT:=by
  cases x with
  | non=>cases h; decide
  | bl b=>cases h; decide
  | int i=>cases h; decide
  | str z=>cases h; decide
  | ref a =>
    simp only [tyN] at h
    split at h <;> first | (cases h; decide) | cases h
  | _=>cases h
section
variable {X:Cx}
def rIsi:List V→Hp→VK→Prop:=fun xs H Q=>∃ x t c,xs=[x,.ty c]∧tyN H x=some t∧c∈askedT∧Q (.bl (subT t c)) H
theorem call_isi:CallR X (.builtin "isinstance") rIsi:=by
  intro pins s σ H xs us Q I r h
  obtain ⟨x,t,c,rfl,ht,hc,q⟩:=h
  obtain ⟨u,w',rfl,rx,rc⟩:=vals2 r
  cases rc
  exact isinst_ok I rx (tyN_of ht) (kit_known X.K t (tyN_known ht) c hc) fun tk=>⟨.bl _,H,I.tok tk,rfl,q⟩
def rIsi2:List V→Hp→VK→Prop:=fun xs H Q=>∃ x t c d p,xs=[x,.ref p]∧H p=some (.tup [.ty c,.ty d])∧tyN H x=some t∧c∈askedT∧d∈askedT∧Q (.bl (subT t c || subT t d)) H
theorem kit_any2 (K:PySem.W.Frag) {t c d:String} (ht:t∈knownT) (hc:c∈askedT) (hd:d∈askedT):PySem.W.kitAny K (.type t) [.type c,.type d]=some (subT t c || subT t d):=by
  unfold PySem.W.kitAny
  rw [kit_known K t ht c hc]
  cases subT t c with
  | true=>rfl
  | false =>
    show PySem.W.kitAny K (.type t) [.type d]=some (subT t d)
    unfold PySem.W.kitAny
    rw [kit_known K t ht d hd]
    cases subT t d <;> rfl
theorem call_isi2:CallR X (.builtin "isinstance") rIsi2:=by
  intro pins s σ H xs us Q I r h
  obtain ⟨x,t,c,d,p,rfl,hp,ht,hc,hd,q⟩:=h
  obtain ⟨u,w',rfl,rx,rc⟩:=vals2 r
  cases rc
  obtain ⟨_,its,rv,⟨o,ho,hcl,n,hdt⟩⟩:=(show ObjOk X.prog X.w H s.heap p (.tup [.ty c,.ty d]) from I.hok p _ hp)
  obtain ⟨u1,u2,rfl,r1,r2⟩:=vals2 rv
  cases r1
  cases r2
  have e:=kit_any2 X.K (tyN_known ht) hc hd
  have fin:∀ tk,EP X pins σ Q (.bool (subT t c || subT t d)) { s with toks:=tk }:=fun tk=>⟨.bl _,H,I.tok tk,rfl,q⟩
  have htp:s.heap.get? p=some ⟨.type "tuple",o.dict,.seq [Value.type c,Value.type d].toArray n,o.slots⟩:=by
    rw [ho]
    obtain ⟨oc,od,odt,osl⟩:=o
    cases hcl; cases hdt
    rfl
  have ty:=tyN_of (K:=X.K) ht
  generalize hT:Value.type t=T at ty e
  cases ty with
  | non=>cases (show u=Value.none from rx); exact PySem.W.kia_tup PySem.W.kitx_none I.kIn True.intro htp e (fun z=>nomatch z) fin
  | bl y=>cases (show u=Value.bool y from rx); exact PySem.W.kia_tup PySem.W.kitx_bool I.kIn True.intro htp e (fun z=>nomatch z) fin
  | int i=>obtain ⟨t,q⟩:=(show ∃ t,u=Value.int i t from rx); cases q; exact PySem.W.kia_tup PySem.W.kitx_int I.kIn True.intro htp e (fun z=>nomatch z) fin
  | str y=>obtain ⟨t,q⟩:=(show ∃ t,u=Value.str y t from rx); cases q; exact PySem.W.kia_tup PySem.W.kitx_str I.kIn True.intro htp e (fun z=>nomatch z) fin
  | flt y=>obtain ⟨t,q⟩:=(show ∃ t,u=Value.float y t from rx); cases q; exact PySem.W.kia_tup PySem.W.kitx_float I.kIn True.intro htp e (fun z=>nomatch z) fin
  | @lst a xs ea =>
    cases (show u=Value.ref a from rx)
    obtain ⟨_,_,n,_,h1⟩:=(show ObjOk X.prog X.w H s.heap a (.lst xs) from I.hok a _ ea)
    exact PySem.W.kia_tup PySem.W.kitx_list I.kIn ⟨_,h1,rfl⟩ htp e (fun z=>nomatch z) fin
  | @frz a ob xs ea =>
    cases (show u=Value.ref a from rx)
    obtain ⟨_,_,_,n,_,h1⟩:=(show ObjOk X.prog X.w H s.heap a (.frz ob (.lst xs)) from I.hok a _ ea)
    exact PySem.W.kia_tup PySem.W.kitx_list I.kIn ⟨_,h1,rfl⟩ htp e (fun z=>nomatch z) fin
  | @tup a xs ea =>
    cases (show u=Value.ref a from rx)
    obtain ⟨_,_,_,p⟩:=(show ObjOk X.prog X.w H s.heap a (.tup xs) from I.hok a _ ea)
    obtain ⟨o,h1,h2,_⟩:=p
    exact PySem.W.kia_tup PySem.W.kitx_tuple I.kIn ⟨o,h1,h2⟩ htp e (fun z=>nomatch z) fin
  | @dK a kvs ea =>
    cases (show u=Value.ref a from rx)
    obtain ⟨_,_,vs,_,p⟩:=(show ObjOk X.prog X.w H s.heap a (.dK kvs) from I.hok a _ ea)
    obtain ⟨o,es,ep,h1,h2,_⟩:=p
    exact PySem.W.kia_tup PySem.W.kitx_dict I.kIn ⟨o,h1,h2.1⟩ htp e (fun z=>nomatch z) fin
  | @dT a kvs ea =>
    cases (show u=Value.ref a from rx)
    obtain ⟨_,_,xs,_,o,es,ep,h1,h2,_⟩:=(show ObjOk X.prog X.w H s.heap a (.dT kvs) from I.hok a _ ea)
    exact PySem.W.kia_tup PySem.W.kitx_dict I.kIn ⟨o,h1,h2.1⟩ htp e (fun z=>nomatch z) fin
  | ins e'=>cases hT
theorem boot_isi:bootBuiltins "isinstance" = some (.builtin "isinstance"):=by first | rfl | decide +kernel | kernel_rfl
theorem boot_all:bootBuiltins "all" = some (.builtin "all"):=by first | rfl | decide +kernel | kernel_rfl
theorem boot_max:bootBuiltins "max" = some (.builtin "max"):=by first | rfl | decide +kernel | kernel_rfl
theorem boot_abs:bootBuiltins "abs" = some (.builtin "abs"):=by first | rfl | decide +kernel | kernel_rfl
theorem boot_divmod:bootBuiltins "divmod" = some (.builtin "divmod"):=by first | rfl | decide +kernel | kernel_rfl
theorem boot_intT:bootBuiltins "int" = some (.type "int"):=by first | rfl | decide +kernel | kernel_rfl
theorem boot_boolT:bootBuiltins "bool" = some (.type "bool"):=by first | rfl | decide +kernel | kernel_rfl
theorem boot_strT:bootBuiltins "str" = some (.type "str"):=by first | rfl | decide +kernel | kernel_rfl
theorem boot_listT:bootBuiltins "list" = some (.type "list"):=by first | rfl | decide +kernel | kernel_rfl
theorem boot_tupleT:bootBuiltins "tuple" = some (.type "tuple"):=by first | rfl | decide +kernel | kernel_rfl
theorem bool_vals:∀ {bs:List Bool} {its:List Value},Vals (bs.map V.bl) its→its=bs.map Value.bool
  | [],_,.nil=>rfl
  | b :: bs,_,.cons r t=>by rw [bool_vals t]; cases r; rfl
theorem range_getD {bs:List Bool} (f:Nat→Bool) (hf:∀ i b,bs[i]?=some b→f i=b):(List.range bs.length).map f=bs:=by
  apply List.ext_getElem?
  intro i
  rw [List.getElem?_map]
  by_cases h:i<bs.length
  · rw [List.getElem?_range h,List.getElem?_eq_getElem h]
    simp only [Option.map_some]
    rw [hf i _ (List.getElem?_eq_getElem h)]
  · rw [List.getElem?_eq_none (by simpa using h),List.getElem?_eq_none (by omega)]; rfl
theorem call_allL (hc:X.calm=true):CallR X (.builtin "all") (fun xs H Q=>∃ (p:Addr) (bs:List Bool),xs=[.ref p]∧SqL X.K H p (bs.map V.bl)∧Q (.bl (bs.all id)) H):=by
  intro pins s σ H xs us Q I r h
  obtain ⟨p,bs,rfl,hq,q⟩:=h
  obtain ⟨u,rfl,rx⟩:=vals1 r
  cases rx
  obtain ⟨its,rv,pl,hz⟩:=I.list hq
  have e:=bool_vals rv
  subst e
  refine call_all_walk (wpAny_pyIter_list pl.isList ?_)
  refine ⟨s.heap.objs.size,_,[s.heap.objs.size],_,_,_,fun i=>bs.getD i true,rfl,Walks.list (A:=X.A.in1) (show X.A.in1.handled=none from I.ok.hd hc) s.heap.objs.size p ?_ (bs.map Value.bool).toArray,⟨⟨_,Heap.get?_push_size _ rfl,rfl,rfl⟩,pl.isList.at fun o e=>Heap.get?_push_of_some _ e⟩,?_,?_⟩
  · obtain ⟨o,e,_⟩:=pl.isList; exact Nat.ne_of_lt (Heap.lt_size e)
  · intro i v s' Q' E' hP hQ
    have hP':(bs.map Value.bool)[i]?=some v:=by simpa using hP
    rw [List.getElem?_map] at hP'
    cases z:bs[i]? with
    | none=>rw [z] at hP'; cases hP'
    | some b =>
      rw [z] at hP'
      cases hP'
      have:bs.getD i true=b:=by rw [List.getD_eq_getElem?_getD,z]; rfl
      have hQ':Q' (bs.getD i true) s':=hQ
      rw [this] at hQ'
      exact wpAny_truthy_bool hQ'
  · intro h' tk hk
    refine ⟨.bl (bs.all id),H,I.kept (t':=tk) (fun b o e=>hk b o (by simpa using Nat.ne_of_lt (Heap.lt_size e)) (Heap.get?_push_of_some _ e)),?_,q⟩
    have z:(List.range bs.length).map (fun i=>bs.getD i true)=bs:=range_getD _ fun i b e=>by rw [List.getD_eq_getElem?_getD,e]; rfl
    have z2:(List.range bs.length).all (fun i=>bs.getD i true)=bs.all id:=by
      conv=>rhs; rw [← z]
      rw [List.all_map]; rfl
    show Value.bool _=Value.bool _
    have z3:(bs.map Value.bool).toArray.size=bs.length:=by simp
    rw [z3,z2]
end
end L2
set_option Elab.async false
set_option linter.all false
set_option maxRecDepth 100000
set_option maxHeartbeats 4000000
namespace L2
open PySem PySem.Spec PyProof.Rows
structure Def (P:Program) (w:World) (K:PySem.W.Frag) (mg:Str→Option Value) (base:Heap) (x:Str) (k:Nat) (ps:List Str) (sp:Sp):Prop where
  ex:∃ (f:Addr) (fd:FuncData),FnOk P w K mg base CX0 k f fd ps sp∧mg x=some (.ref f)∧PySem.W.keepIn K (.ref f)=true∧Binds K fd ps []
section
variable {X:Cx} {x:Str} {p pos:Pos} {e:PySem.Expr} {es:List PySem.Expr} {t:TA} {k:Nat} {ps:List Str} {sp:Sp}
theorem pe_def (D:Def X.prog X.w X.K X.mg X.base x k ps sp) (hr:Room k X.A) (hg:Gl X x) (ha:PA X (e :: es) t)
    (he:starEach (e :: es) X.env=(false,eval e X.env) :: starEach es X.env:=by rfl) (hpl:(backTo pos (starEach es X.env)).any (·.1)=false:=by rfl) (hd:(x == ("__debug__" : Str))=false:=by decide) :
    PE X (.Call (.Name x p) (e :: es) [] pos) (tCall sp [] E0 t):=by
  obtain ⟨f,fd,F,hm,hk,hb⟩:=D.ex
  exact pe_call F hr hg hm hk hb .nil pass0 ha (hdb:=hd) (he:=he) (hpl:=hpl)
end
theorem pg_tupK {X:Cx} {K:PySem.W.Frag} {es:List PySem.Expr} {k:Nat} {t:TGs} {n:Nat} {pos:Pos} (hK:X.K=K) (hc:X.calm=true) (h:PGs X es t)
    (hn:(assignEach es X.env).length=n:=by rfl) (hst:(assignEach es X.env).findIdx? (·.1)=none:=by rfl):PG X (.Tuple es k pos) (gTup K n t):=by
  subst hK
  exact pg_tup hc h hn hst
def compB (osc:Scope) (oN:List Str) (scope:Scope) (N:List Str) (own:Nat) (js:List Nat):Bool :=
  scope.kind == .function && scope.names.all (fun y=>y.2 != .cell || scope.names.lookup y.1 == some .cell) && scope.names.all (fun y=>y.2 != .local || scope.names.lookup y.1 == some .local) &&
  scope.names.all (fun y=>y.2 != .free || (osc.names.lookup y.1 == some .cell || osc.names.lookup y.1 == some .free)) && N.length == own+js.length &&
  (js.map fun j=>oN[j]?) == (N.drop own).map some && (N.drop own).all fun x=>scope.names.lookup x == some .free
theorem compOk_of {X:Cx} {osc:Scope} {oN:List Str} {scope:Scope} {N:List Str} {own:Nat} {js:List Nat} (h:compB osc oN scope N own js=true) (hs:X.env.scope=osc) (hN:X.N=oN):CompOk X scope N own js:=by
  unfold compB at h
  simp only [Bool.and_eq_true,List.all_eq_true,Bool.or_eq_true,beq_iff_eq,bne_iff_ne,ne_eq] at h
  obtain ⟨⟨⟨⟨⟨⟨h1,h2⟩,h3⟩,h4⟩,h5⟩,h6⟩,h7⟩:=h
  refine ⟨h1,fun y hy hl=>?_,fun y hy hl=>?_,fun y hy hf=>?_,h5,fun k j e=>?_,fun k x e=>?_⟩
  · rcases h2 y hy with q | q
    · exact absurd hl q
    · exact q
  · rcases h3 y hy with q | q
    · exact absurd hl q
    · exact q
  · rcases h4 y hy with q | q
    · exact absurd hf q
    · show X.env.scope.names.lookup y.1=_∨X.env.scope.names.lookup y.1=_
      rw [hs]; exact q
  · rw [hN]
    have z:=congrArg (fun l=>l[k]?) h6
    simp only [List.getElem?_map,e,Option.map_some,List.getElem?_drop] at z
    cases q:N[own+k]? with
    | none=>rw [q] at z; cases z
    | some y=>rw [q] at z; exact (Option.some.inj z).symm
  · refine h7 x ?_
    exact List.mem_of_getElem? (i:=k) (by rw [List.getElem?_drop]; exact e)
def SB (b:Addr) (H H':Hp):Prop:=∀ a o,a≠b→H a=some o→H' a=some o
theorem SB.refl (b:Addr) (H:Hp):SB b H H:=fun _ _ _ h=>h
theorem SB.trans {b:Addr} {H H1 H2:Hp} (x:SB b H H1) (y:SB b H1 H2):SB b H H2:=fun a o n h=>y a o n (x a o n h)
theorem Same.sb {H H':Hp} (x:Same H H') (b:Addr):SB b H H':=fun a o _ h=>x a o h
theorem sb_upd (b:Addr) (H:Hp) (o:HO):SB b H (upd H b o):=fun a u n h=>by rw [upd_ne n]; exact h
theorem same_upd {H:Hp} {p:Addr} (h:H p=none) (o:HO):Same H (upd H p o):=fun b u q=>by rw [upd_ne (ne_of_none q h)]; exact q
def CNx (n:Nat) (l:Addr) (Pv:Nat→List V→St→Hp→Prop) (i:Nat) (ys:List V) (σ:St) (y:V) (H:Hp):Prop :=
  H l=some (.lst ys)∧ys.length<sizeLine∧∃ m',m'<n - i∧(m'=n - (i+1)∧i+1≤n∧(ys++[y]).length≤i+1∧Pv (i+1) (ys++[y]) σ (upd H l (.lst (ys++[y]))))
def CNo (n:Nat) (Pv:Nat→List V→St→Hp→Prop) (i:Nat) (ys:List V) (σ:St) (H:Hp):Prop:=∃ m',m'<n - i∧(m'=n - (i+1)∧i+1≤n∧ys.length≤i+1∧Pv (i+1) ys σ H)
theorem CNx.of {n:Nat} {l:Addr} {Pv:Nat→List V→St→Hp→Prop} {i:Nat} {ys:List V} {σ:St} {y:V} {H:Hp} (hn:n≤sizeLine) (hi:i<n) (hy:ys.length≤i) (h1:H l=some (.lst ys)) (h2:Pv (i+1) (ys++[y]) σ (upd H l (.lst (ys++[y])))):CNx n l Pv i ys σ y H :=
  ⟨h1,by omega,n - (i+1),by omega,rfl,hi,by rw [List.length_append,List.length_singleton]; omega,h2⟩
theorem CNo.of {n:Nat} {Pv:Nat→List V→St→Hp→Prop} {i:Nat} {ys:List V} {σ:St} {H:Hp} (hi:i<n) (hy:ys.length≤i) (h2:Pv (i+1) ys σ H):CNo n Pv i ys σ H :=
  ⟨n - (i+1),by omega,rfl,hi,by omega,h2⟩
theorem comp_range {lo:Int} {n:Nat} {l:Addr} {g:TG} {tc:TT} {te:TE} {σ0:St} {H0:Hp} {Qf:Hp→Prop} (Pv:Nat→List V→St→Hp→Prop) (h0:Pv 0 [] σ0 H0)
    (hs:∀ i ys σ' H',i<n→ys.length≤i→Pv i ys σ' H'→g (.int (lo+i)) σ' H' fun σ2 H3=>tc σ2 H3 fun b H4=>if b=true then te σ2 H4 fun y H5=>CNx n l Pv i ys σ2 y H5 else CNo n Pv i ys σ2 H4)
    (hd:∀ ys σ' H',ys.length≤n→Pv n ys σ' H'→Qf H') :
    ∃ W:Nat→Nat→List V→St→Hp→Prop,(∃ m,W 0 m [] σ0 H0)∧∀ i m ys σ' H',W i m ys σ' H' →
    ((Itr lo n).stop i H'∧Qf H')∨((Itr lo n).go i H'∧∀ x H2,(Itr lo n).yld i H' x H2→g x σ' H2 fun σ2 H3=>tc σ2 H3 fun b H4 =>
      if b=true then te σ2 H4 fun y H5=>H5 l=some (.lst ys)∧ys.length<sizeLine∧∃ m',m'<m∧W (i+1) m' (ys++[y]) σ2 (upd H5 l (.lst (ys++[y])))
      else ∃ m',m'<m∧W (i+1) m' ys σ2 H4):=by
  refine ⟨fun i m ys σ' H'=>m=n - i∧i≤n∧ys.length≤i∧Pv i ys σ' H',⟨n,rfl,Nat.zero_le _,Nat.le_refl _,h0⟩,?_⟩
  rintro i m ys σ' H' ⟨rfl,hi,hy,p⟩
  by_cases hlt:i<n
  · refine .inr ⟨hlt,fun x H2 q=>?_⟩
    obtain ⟨rfl,rfl⟩:=q
    exact hs i ys σ' _ hlt hy p
  · have e:i=n:=by omega
    subst e
    exact .inl ⟨Nat.le_refl _,hd ys σ' H' hy p⟩
theorem comp_list {K:PySem.W.Frag} {a:Addr} {xs:List V} {l:Addr} {g:TG} {tc:TT} {te:TE} {σ0:St} {H0:Hp} {Qf:Hp→Prop} (Pv:Nat→List V→St→Hp→Prop) (h0:Pv 0 [] σ0 H0)
    (hl:∀ i ys σ' H',i≤xs.length→Pv i ys σ' H'→SqL K H' a xs)
    (hs:∀ i x ys σ' H',i<xs.length→xs[i]?=some x→ys.length≤i→Pv i ys σ' H'→g x σ' H' fun σ2 H3=>tc σ2 H3 fun b H4=>if b=true then te σ2 H4 fun y H5=>CNx xs.length l Pv i ys σ2 y H5 else CNo xs.length Pv i ys σ2 H4)
    (hd:∀ ys σ' H',ys.length≤xs.length→Pv xs.length ys σ' H'→Qf H') :
    ∃ W:Nat→Nat→List V→St→Hp→Prop,(∃ m,W 0 m [] σ0 H0)∧∀ i m ys σ' H',W i m ys σ' H' →
    ((Itl K a).stop i H'∧Qf H')∨((Itl K a).go i H'∧∀ x H2,(Itl K a).yld i H' x H2→g x σ' H2 fun σ2 H3=>tc σ2 H3 fun b H4 =>
      if b=true then te σ2 H4 fun y H5=>H5 l=some (.lst ys)∧ys.length<sizeLine∧∃ m',m'<m∧W (i+1) m' (ys++[y]) σ2 (upd H5 l (.lst (ys++[y])))
      else ∃ m',m'<m∧W (i+1) m' ys σ2 H4):=by
  refine ⟨fun i m ys σ' H'=>m=xs.length - i∧i≤xs.length∧ys.length≤i∧Pv i ys σ' H',⟨xs.length,rfl,Nat.zero_le _,Nat.le_refl _,h0⟩,?_⟩
  rintro i m ys σ' H' ⟨rfl,hi,hy,p⟩
  have q:=hl i ys σ' H' hi p
  by_cases hlt:i<xs.length
  · refine .inr ⟨⟨xs,xs[i],q,by simp [hlt]⟩,fun x H2 z=>?_⟩
    obtain ⟨rfl,z⟩:=z
    exact hs i x ys σ' _ hlt (z xs q) hy p
  · have e:i=xs.length:=by omega
    subst e
    exact .inl ⟨⟨xs,q,Nat.le_refl _⟩,hd ys σ' H' hy p⟩
theorem comp_zip {K:PySem.W.Frag} {a b:Addr} {xs zs:List V} {l:Addr} {g:TG} {tc:TT} {te:TE} {σ0:St} {H0:Hp} {Qf:Hp→Prop} (hlen:xs.length=zs.length) (Pv:Nat→List V→St→Hp→Prop) (h0:Pv 0 [] σ0 H0)
    (hl:∀ i ys σ' H',i≤xs.length→Pv i ys σ' H'→SqL K H' a xs∧SqL K H' b zs)
    (hs:∀ i x z t ys σ' H',i<xs.length→xs[i]?=some x→zs[i]?=some z→ys.length≤i→Pv i ys σ' H'→H' t=none→g (.ref t) σ' (upd H' t (.tup [x,z])) fun σ2 H3=>tc σ2 H3 fun b H4=>if b=true then te σ2 H4 fun y H5=>CNx xs.length l Pv i ys σ2 y H5 else CNo xs.length Pv i ys σ2 H4)
    (hd:∀ ys σ' H',ys.length≤xs.length→Pv xs.length ys σ' H'→Qf H') :
    ∃ W:Nat→Nat→List V→St→Hp→Prop,(∃ m,W 0 m [] σ0 H0)∧∀ i m ys σ' H',W i m ys σ' H' →
    ((Itz K a b).stop i H'∧Qf H')∨((Itz K a b).go i H'∧∀ x H2,(Itz K a b).yld i H' x H2→g x σ' H2 fun σ2 H3=>tc σ2 H3 fun b H4 =>
      if b=true then te σ2 H4 fun y H5=>H5 l=some (.lst ys)∧ys.length<sizeLine∧∃ m',m'<m∧W (i+1) m' (ys++[y]) σ2 (upd H5 l (.lst (ys++[y])))
      else ∃ m',m'<m∧W (i+1) m' ys σ2 H4):=by
  refine ⟨fun i m ys σ' H'=>m=xs.length - i∧i≤xs.length∧ys.length≤i∧Pv i ys σ' H',⟨xs.length,rfl,Nat.zero_le _,Nat.le_refl _,h0⟩,?_⟩
  rintro i m ys σ' H' ⟨rfl,hi,hy,p⟩
  have q:=hl i ys σ' H' hi p
  by_cases hlt:i<xs.length
  · have hz:i<zs.length:=by omega
    refine .inr ⟨⟨xs,zs,xs[i],zs[i],q.1,q.2,by simp [hlt],by simp [hz]⟩,fun x H2 z=>?_⟩
    obtain ⟨t,u,v,ht,rfl,rfl,z1,z2⟩:=z
    exact hs i u v t ys σ' _ hlt (z1 xs q.1) (z2 zs q.2) hy p ht
  · have e:i=xs.length:=by omega
    subst e
    exact .inl ⟨⟨xs,zs,q.1,q.2,.inl (Nat.le_refl _)⟩,hd ys σ' H' hy p⟩
theorem for_enum {K:PySem.W.Frag} {a:Addr} {xs:List V} {g:TG} {tb:TS} {D:Ends} {σ:St} {H:Hp} (Pv:Nat→St→Hp→Prop) (h0:Pv 0 σ H) (hl:∀ i σ H,i≤xs.length→Pv i σ H→SqL K H a xs)
    (hs:∀ i x t σ H,xs[i]?=some x→Pv i σ H→H t=none→g (.ref t) σ (upd H t (.tup [.int i,x])) fun σ2 H2=>tb { D with nx:=Pv (i+1),ct:=Pv (i+1),bk:=D.nx } σ2 H2) (hd:∀ σ H,Pv xs.length σ H→D.nx σ H) :
    ∃ W:Nat→Nat→St→Hp→Prop,(∃ m,W 0 m σ H)∧∀ i m σ H,W i m σ H →
      ((Ite K a).stop i H∧D.nx σ H)∨((Ite K a).go i H∧∃ N:St→Hp→Prop,(∀ σ' H',N σ' H'→∃ m',m'<m∧W (i+1) m' σ' H')∧∀ x H',(Ite K a).yld i H x H'→g x σ H' fun σ2 H2=>tb { D with nx:=N,ct:=N,bk:=D.nx } σ2 H2):=by
  refine ⟨fun i m σ H=>m=xs.length - i∧i≤xs.length∧Pv i σ H,⟨xs.length,by simp,Nat.zero_le _,h0⟩,?_⟩
  rintro i m σ H ⟨rfl,hi,p⟩
  have q:=hl i σ H hi p
  by_cases hlt:i<xs.length
  · refine .inr ⟨⟨xs,xs[i],q,by simp [hlt]⟩,Pv (i+1),fun σ' H' p'=>⟨xs.length - (i+1),by omega,rfl,hlt,p'⟩,fun x H' y=>?_⟩
    obtain ⟨t,u,ht,rfl,rfl,y⟩:=y
    exact hs i u t σ _ (y xs q) p ht
  · have e:i=xs.length:=by omega
    subst e
    exact .inl ⟨⟨xs,q,rfl⟩,hd σ H p⟩
theorem atI0 {α:Type} {x:α} {xs:List α}:atI (x :: xs) 0=some x:=atI_nat (j:=0) rfl
theorem atI1 {α:Type} {x y:α} {xs:List α}:atI (x :: y :: xs) 1=some y:=atI_nat (j:=1) rfl
theorem atI2 {α:Type} {x y z:α} {xs:List α}:atI (x :: y :: z :: xs) 2=some z:=atI_nat (j:=2) rfl
theorem atI3 {α:Type} {x y z u:α} {xs:List α}:atI (x :: y :: z :: u :: xs) 3=some u:=atI_nat (j:=3) rfl
theorem ite_dec {p A B:Prop} [Decidable p] (h1:p→A) (h2:¬ p→B):if decide p=true then A else B:=by
  by_cases h:p
  · rw [if_pos (decide_eq_true h)]; exact h1 h
  · rw [if_neg (by rw [decide_eq_false h]; exact Bool.false_ne_true)]; exact h2 h
end L2
set_option Elab.async false
set_option linter.all false
set_option maxRecDepth 100000
set_option maxHeartbeats 4000000
namespace HT
open PySem PySem.Spec PyProof.Rows
end HT
namespace L2
open PySem PySem.Spec PyProof.Rows
def NS:PySem.Expr→Prop
  | .Starred _ _=>False
  | _=>True
theorem star_ns {e:PySem.Expr} {es:List PySem.Expr} {env:Env} (h:NS e):starEach (e :: es) env=(false,eval e env) :: starEach es env:=by
  cases e <;> first | rfl | exact h.elim
def NSs:List PySem.Expr→Prop
  | []=>True
  | e :: es=>NS e∧NSs es
theorem back_ns {pos:Pos} {env:Env}:∀ {es:List PySem.Expr},NSs es→(backTo pos (starEach es env)).any (·.1)=false
  | [],_=>rfl
  | e :: es,h=>by
    rw [star_ns h.1]
    have ih:=back_ns (pos:=pos) (env:=env) h.2
    simp only [backTo] at ih ⊢
    simpa using ih
section
variable {X:Cx} {x:Str} {p pos:Pos} {e:PySem.Expr} {es:List PySem.Expr} {te:TE} {t:TA} {k:Nat} {ps:List Str} {sp:Sp} {id T:String} {r:List V→Hp→VK→Prop}
theorem pc (ha:PE X e te) (hr:PA X es t) (hn:NS e:=by exact True.intro):PA X (e :: es) (tCons te t):=pa_cons ha hr (star_ns hn)
theorem pe_defN (D:Def X.prog X.w X.K X.mg X.base x k ps sp) (hr:Room k X.A) (hg:Gl X x) (ha:PA X (e :: es) t) (hn:NSs (e :: es):=by repeat' (first | exact True.intro | refine ⟨?_,?_⟩)) (hd:(x == ("__debug__" : Str))=false:=by decide) :
    PE X (.Call (.Name x p) (e :: es) [] pos) (tCall sp [] E0 t):=pe_def D hr hg ha (star_ns hn.1) (back_ns hn.2) hd
theorem pe_callBN (hc:CallR X (.builtin id) r) (hg:Gl X x) (hm:X.mg x=none) (hv:bootBuiltins x=some (.builtin id)) (ha:PA X (e :: es) t) (hnn:NSs (e :: es):=by repeat' (first | exact True.intro | refine ⟨?_,?_⟩)) (hn:x ≠ "__name__" := by decide) (hdb:(x == ("__debug__" : Str))=false:=by decide) :
    PE X (.Call (.Name x p) (e :: es) [] pos) (tCB r t):=pe_callB hc hg hm hv ha hn hdb (star_ns hnn.1) (back_ns hnn.2)
theorem pe_callTyN (hc:CallR X (.type T) r) (hg:Gl X x) (hm:X.mg x=none) (hv:bootBuiltins x=some (.type T)) (ha:PA X (e :: es) t) (hnn:NSs (e :: es):=by repeat' (first | exact True.intro | refine ⟨?_,?_⟩)) (hn:x ≠ "__name__" := by decide) (hdb:(x == ("__debug__" : Str))=false:=by decide) :
    PE X (.Call (.Name x p) (e :: es) [] pos) (tCB r t):=pe_callTy hc hg hm hv ha hn hdb (star_ns hnn.1) (back_ns hnn.2)
end
end L2
set_option Elab.async false
set_option linter.all false
set_option maxRecDepth 100000
set_option maxHeartbeats 4000000
namespace L2
open PySem PySem.Spec PyProof.Rows
end L2
set_option Elab.async false
set_option linter.all false
set_option maxRecDepth 100000
set_option maxHeartbeats 4000000
namespace L2
open PySem PySem.Spec PyProof.Rows
section
variable {X:Cx} {K:PySem.W.Frag}
theorem ix_listK (hK:X.K=K):IxR X (rIxL K):=hK ▸ ix_list
theorem sl_listK (hK:X.K=K):SlR X (rSlL K):=hK ▸ sl_list
theorem op_in_seqK (hK:X.K=K):OpR X (compareOp .In) (rIn K false):=hK ▸ op_in_seq
theorem op_notIn_seqK (hK:X.K=K):OpR X (compareOp .NotIn) (rIn K true):=hK ▸ op_notIn_seq
theorem call_len_seqK (hK:X.K=K):CallR X (.builtin "len") (fun xs H Q=>∃ p ys,xs=[.ref p]∧(SqL K H p ys∨SqT K H p ys)∧Q (.int ys.length) H):=hK ▸ call_len_seq
theorem call_list_ofK (hK:X.K=K):CallR X (.type "list") (fun xs H Q=>∃ p ys,xs=[.ref p]∧(SqL K H p ys∨SqT K H p ys)∧∀ l,H l=none→Q (.ref l) (upd H l (.lst ys))):=hK ▸ call_list_of
theorem ints_range {ns ms:List Int} (h:ns.length=ms.length):(List.range ns.length).all (fun j=>ns.getD j 0 == ms.getD j 0)=decide (ns=ms):=by
  rw [Bool.eq_iff_iff,List.all_eq_true,decide_eq_true_eq]
  constructor
  · intro z
    refine List.ext_getElem h fun j h1 h2=>?_
    have:=z j (List.mem_range.mpr h1)
    rw [List.getD_eq_getElem?_getD,List.getD_eq_getElem?_getD,List.getElem?_eq_getElem h1,List.getElem?_eq_getElem h2] at this
    simpa using this
  · rintro rfl j _
    simp
def rEqL (K:PySem.W.Frag) (neg:Bool):R2:=fun x y H Q=>∃ (a b:Addr) (ns ms:List Int),x=.ref a∧y=.ref b∧SqL K H a (ns.map V.int)∧SqL K H b (ms.map V.int)∧Q (.bl (if neg then !decide (ns=ms) else decide (ns=ms))) H
theorem ints_eqAt {A:Around} {s:Shared} {ns:List Int} {us:List Value} (r:Vals (ns.map V.int) us) {ms:List Int} {ws:List Value} (r2:Vals (ms.map V.int) ws) (j:Nat) (h1:j<us.toArray.size) (h2:j<ws.toArray.size):SeqAt.EqAt A s us.toArray[j] ws.toArray[j] (ns.getD j 0 == ms.getD j 0):=by
  have l1:ns.length=us.length:=by have:=r.length; rwa [List.length_map] at this
  have l2:ms.length=ws.length:=by have:=r2.length; rwa [List.length_map] at this
  have k1:j<ns.length:=by rw [l1]; simpa using h1
  have k2:j<ms.length:=by rw [l2]; simpa using h2
  obtain ⟨u,hu,ru⟩:=r.get (i:=j) (x:=.int ns[j]) (by rw [List.getElem?_map,List.getElem?_eq_getElem k1]; rfl)
  obtain ⟨v,hv,rv⟩:=r2.get (i:=j) (x:=.int ms[j]) (by rw [List.getElem?_map,List.getElem?_eq_getElem k2]; rfl)
  obtain ⟨t,rfl⟩:=ru
  obtain ⟨t',rfl⟩:=rv
  have e1:us.toArray[j]=.int ns[j] t:=by
    have:us[j]?=some us[j]:=List.getElem?_eq_getElem (by simpa using h1)
    rw [hu] at this
    simpa using (Option.some.inj this).symm
  have e2:ws.toArray[j]=.int ms[j] t':=by
    have:ws[j]?=some ws[j]:=List.getElem?_eq_getElem (by simpa using h2)
    rw [hv] at this
    simpa using (Option.some.inj this).symm
  rw [e1,e2,List.getD_eq_getElem?_getD,List.getD_eq_getElem?_getD,List.getElem?_eq_getElem k1,List.getElem?_eq_getElem k2]
  exact SeqAt.EqAt.int_int _ _ _ _
theorem op_neL (hu:X.A.units<cLine) (hK:X.K=K):OpR X (compareOp .NotEq) (rEqL K true):=by
  subst hK
  intro pins s σ H x y v u Q I rx ry h
  obtain ⟨a,b,ns,ms,rfl,rfl,ha,hb,q⟩:=h
  cases rx
  cases ry
  obtain ⟨its,r1,p1,_⟩:=I.list ha
  obtain ⟨its2,r2,p2,_⟩:=I.list hb
  have l1:ns.length=its.length:=by have:=r1.length; rwa [List.length_map] at this
  have l2:ms.length=its2.length:=by have:=r2.length; rwa [List.length_map] at this
  by_cases hl:ns.length=ms.length
  · refine SeqAt.RcNeAt.lists (e:=fun j=>ns.getD j 0 == ms.getD j 0) p1.isList p2.isList (by simp; omega) hu (fun j h1 h2=>ints_eqAt r1 r2 j h1 h2) X.prog X.w X.xe _ ⟨.bl _,H,I,rfl,?_⟩
    rw [List.size_toArray,← l1,ints_range hl]
    exact q
  · refine SeqAt.RcNeAt.lists_lengths p1.isList p2.isList (by simp; omega) hu X.prog X.w X.xe _ ⟨.bl true,H,I,rfl,?_⟩
    have e:decide (ns=ms)=false:=decide_eq_false fun z=>hl (by rw [z])
    rw [e] at q
    exact q
end
end L2
set_option Elab.async false
set_option linter.all false
set_option maxRecDepth 100000
set_option maxHeartbeats 4000000
namespace L2
open PySem PySem.Spec PyProof.Rows
end L2
set_option Elab.async false
set_option linter.all false
set_option maxRecDepth 100000
set_option maxHeartbeats 4000000
namespace HT
open PySem PyProof.Rows
section
open PySem.SeqAt
open PySem.AutoSeq1 (wpAny_loadPart')
open PySem.MeetsSeq PySem.MeetsSeq2 PySem.MeetsSeq3
end
end HT
namespace L2
open PySem PySem.Spec PyProof.Rows
theorem tup_lt {h:Heap} {a:Addr} {us:Array Value} (x:IsTup h a us):a<h.objs.size:=by
  obtain ⟨o,ho,_⟩:=x
  exact Heap.lt_size ho
end L2
namespace L2
open PySem PySem.Spec PyProof.Rows
section
variable {X:Cx}
def rRemove:V→List V→Hp→VK→Prop:=fun x vs H Q=>∃ (l:Addr) (ns:List Int) (k:Int),x=.ref l∧vs=[.int k]∧H l=some (.lst (ns.map V.int))∧k∈ns∧Q .non (upd H l (.lst ((ns.erase k).map V.int)))
theorem first_at (k:Int):∀ (ns:List Int),k∈ns→∃ j,ns[j]?=some k∧(∀ m z,m<j→ns[m]?=some z→z≠k)∧ns.erase k=ns.eraseIdx j
  | [],h=>nomatch h
  | x :: ns,h=>by
    by_cases hx:x=k
    · subst hx
      exact ⟨0,rfl,fun m z hm=>absurd hm (Nat.not_lt_zero _),by rw [List.erase_cons_head,List.eraseIdx_cons_zero]⟩
    · have hm:k∈ns:=by
        rcases List.mem_cons.mp h with e | e
        · exact absurd e.symm hx
        · exact e
      obtain ⟨j,h1,h2,h3⟩:=first_at k ns hm
      refine ⟨j+1,by simpa using h1,fun m z hm hz=>?_,?_⟩
      · cases m with
        | zero =>
          have e:x=z:=by simpa using hz
          rw [← e]; exact hx
        | succ m=>exact h2 m z (by omega) (by simpa using hz)
      · rw [List.erase_cons_tail (by simpa using hx),h3,List.eraseIdx_cons_succ]
theorem vals_erase {xs:List V} {us:List Value}:∀ (j:Nat),Vals xs us→Vals (xs.eraseIdx j) (us.eraseIdx j):=by
  intro j r
  induction r generalizing j with
  | nil=>exact .nil
  | cons h t ih =>
    cases j with
    | zero=>exact t
    | succ j=>exact .cons h (ih j)
theorem mt_remove:MtM X "list.remove" rRemove:=by
  intro pins s σ H x vs v us Q I rx rv h
  obtain ⟨l,ns,k,rfl,rfl,hH,hk,q⟩:=h
  cases rx
  obtain ⟨u,rfl,ru⟩:=rv.one
  obtain ⟨tk,rfl⟩:=ru
  obtain ⟨z,its,n,r,hl,e⟩:=I.lstM hH
  rw [List.length_map] at hl z
  obtain ⟨j,h1,h2,h3⟩:=first_at k ns hk
  have get:∀ (m:Nat) (hm:m<its.toArray.size),∃ (i:Int) (t:Tok),ns[m]?=some i∧its.toArray[m]=.int i t:=fun m hm=>by
    have hm':m<ns.length:=by rw [hl]; simpa using hm
    obtain ⟨w,hw,rw'⟩:=r.get (i:=m) (x:=.int ns[m]) (by rw [List.getElem?_map,List.getElem?_eq_getElem hm']; rfl)
    obtain ⟨t,rfl⟩:=rw'
    refine ⟨ns[m],t,List.getElem?_eq_getElem hm',?_⟩
    have:its[m]?=some its[m]:=List.getElem?_eq_getElem (by simpa using hm)
    rw [hw] at this
    simpa using (Option.some.inj this).symm
  have hj:j<its.toArray.size:=by
    have:=(List.getElem?_eq_some_iff.mp h1).1
    rw [hl] at this; simpa using this
  refine call_meets F.slot_list_remove ⟨_,e,rfl⟩ F.entry_list_remove (F.args_list_remove_2 _ _) (MeetsSeq.list_remove l its.toArray n (.int k tk) (fun y=>match y with | .int i _=>i == k | _=>false) (fun y hy=>?_) j hj ?_ (fun m hm hmj=>?_) (by rw [List.size_toArray,← hl]; exact z)) ⟨e,?_⟩
  · obtain ⟨m,hm,rfl⟩:=Array.getElem_of_mem hy
    obtain ⟨i,t,_,e2⟩:=get m hm
    rw [e2]
    exact MeetsSeq.EqGives.int i k t tk
  · obtain ⟨i,t,e1,e2⟩:=get j hj
    rw [h1] at e1; cases e1
    rw [e2]
    simp
  · obtain ⟨i,t,e1,e2⟩:=get m hm
    rw [e2]
    simpa using h2 m i hmj e1
  · refine ⟨.non,_,I.lset (its':=its.eraseIdx j) (ys:=(ns.erase k).map V.int) hH e ?_ ?_ ?_,rfl,q⟩
    · rw [List.eraseIdxIfInBounds_toArray]
    · rw [h3]
      have em:∀ (xs:List Int) (i:Nat),(xs.eraseIdx i).map V.int=(xs.map V.int).eraseIdx i:=fun xs=>by
        induction xs with
        | nil=>intro i; rfl
        | cons y xs ih=>intro i; cases i with
          | zero=>rfl
          | succ i=>rw [List.eraseIdx_cons_succ,List.map_cons,List.map_cons,List.eraseIdx_cons_succ,ih]
      rw [em]
      exact vals_erase j r
    · rw [List.length_map]
      exact Nat.le_trans List.length_erase_le z
end
end L2
set_option Elab.async false
set_option linter.all false
set_option maxRecDepth 100000
set_option maxHeartbeats 4000000
namespace L2
open PySem PySem.Spec PyProof.Rows
section
variable {κ:Type} [DecidableEq κ]
def valV (kvs:List (κ×V)) (k:κ):Option V:=(kvs.find? fun kv=>decide (kv.1=k)).map (·.2)
def putK (kvs:List (κ×V)) (k:κ) (v:V):List (κ×V) :=
  if (kvs.any fun kv=>decide (kv.1=k))=true then kvs.map (fun kv=>if kv.1=k then (kv.1,v) else kv) else kvs++[(k,v)]
def dropK (kvs:List (κ×V)) (k:κ):List (κ×V):=kvs.filter fun kv=>decide (kv.1≠k)
theorem valV_pos {p:κ×V} {r:List (κ×V)} {k:κ} (e:p.1=k):valV (p :: r) k=some p.2:=by simp [valV,List.find?_cons,e]
theorem valV_neg {p:κ×V} {r:List (κ×V)} {k:κ} (e:¬ p.1=k):valV (p :: r) k=valV r k:=by simp [valV,List.find?_cons,e]
theorem valV_any (k:κ):∀ kvs:List (κ×V),(kvs.any fun kv=>decide (kv.1=k))=(valV kvs k).isSome
  | []=>rfl
  | p :: r=>by
    rw [List.any_cons]
    by_cases e:p.1=k
    · simp only [valV_pos e,decide_eq_true e,Bool.true_or,Option.isSome_some]
    · rw [valV_neg e,decide_eq_false e,Bool.false_or]; exact valV_any k r
theorem valV_map (k j:κ) (y:V):∀ kvs:List (κ×V),valV (kvs.map fun kv=>if kv.1=k then (kv.1,y) else kv) j=(valV kvs j).map fun x=>if j=k then y else x
  | []=>rfl
  | p :: r=>by
    have ih:=valV_map k j y r
    rw [List.map_cons]
    by_cases h:p.1=k
    · rw [if_pos h]
      by_cases e:p.1=j
      · rw [valV_pos (p:=(p.1,y)) e,valV_pos e,Option.map_some,if_pos (e.symm.trans h)]
      · rw [valV_neg (p:=(p.1,y)) e,valV_neg e,ih]
    · rw [if_neg h]
      by_cases e:p.1=j
      · rw [valV_pos (p:=p) e,valV_pos e,Option.map_some,if_neg (fun z=>h (e.trans z))]
      · rw [valV_neg (p:=p) e,valV_neg e,ih]
theorem valV_snoc (k j:κ) (y:V):∀ kvs:List (κ×V),valV kvs k=none→valV (kvs++[(k,y)]) j=if j=k then some y else valV kvs j
  | [],_=>by
    by_cases e:k=j
    · rw [if_pos e.symm]; exact valV_pos (p:=(k,y)) e
    · rw [if_neg (fun z=>e z.symm)]; exact valV_neg (p:=(k,y)) e
  | p :: r,hn=>by
    rw [List.cons_append]
    have hk:¬ p.1=k:=fun z=>by rw [valV_pos z] at hn; cases hn
    rw [valV_neg hk] at hn
    have ih:=valV_snoc k j y r hn
    by_cases e:p.1=j
    · rw [valV_pos e,valV_pos e,if_neg (fun z=>hk (e.trans z))]
    · rw [valV_neg e,valV_neg e,ih]
theorem valV_put (kvs:List (κ×V)) (k j:κ) (y:V):valV (putK kvs k y) j=if j=k then some y else valV kvs j:=by
  unfold putK
  by_cases a:(kvs.any fun kv=>decide (kv.1=k))=true
  · rw [if_pos a,valV_map]
    rw [valV_any] at a
    by_cases e:j=k
    · obtain ⟨x,hx⟩:=Option.isSome_iff_exists.mp a
      rw [if_pos e,e,hx,Option.map_some,if_pos rfl]
    · rw [if_neg e]
      cases valV kvs j with
      | none=>rfl
      | some x=>rw [Option.map_some,if_neg e]
  · rw [if_neg a]
    refine valV_snoc k j y kvs ?_
    rw [valV_any] at a
    cases q:valV kvs k with
    | none=>rfl
    | some x=>rw [q] at a; exact (a rfl).elim
theorem length_putK (kvs:List (κ×V)) (k:κ) (v:V):(putK kvs k v).length≤kvs.length+1:=by
  unfold putK
  split
  · rw [List.length_map]; omega
  · rw [List.length_append,List.length_cons,List.length_nil]; omega
theorem RelO.isSome_eq {o:Option V} {u:Option Value} (r:RelO o u):o.isSome=u.isSome:=by
  cases o with
  | none=>cases u with
    | none=>rfl
    | some _=>exact (show False from r).elim
  | some _=>cases u with
    | none=>exact (show False from r).elim
    | some _=>rfl
theorem KV.val {kvs:List (κ×V)} {vs:List (κ×Value)} (r:KV kvs vs) (k:κ):RelO (valV kvs k) (valueAt vs k):=by
  unfold KV at r
  induction r with
  | nil=>exact True.intro
  | @cons p q ps qs h t ih =>
    obtain ⟨h1,h2⟩:=h
    by_cases e:p.1=k
    · have e':q.1=k:=h1.symm.trans e
      have b:valueAt (q :: qs) k=some q.2:=by simp [valueAt,List.find?_cons,e']
      rw [valV_pos e,b]; exact h2
    · have e':¬ q.1=k:=fun z=>e (h1.trans z)
      have b:valueAt (q :: qs) k=valueAt qs k:=by simp [valueAt,List.find?_cons,e']
      rw [valV_neg e,b]; exact ih
theorem KV.any {kvs:List (κ×V)} {vs:List (κ×Value)} (r:KV kvs vs) (k:κ):(kvs.any fun kv=>decide (kv.1=k))=vs.any fun kv=>decide (kv.1=k):=by
  unfold KV at r
  induction r with
  | nil=>rfl
  | cons h t ih=>rw [List.any_cons,List.any_cons,ih,h.1]
theorem KV.repl {kvs:List (κ×V)} {vs:List (κ×Value)} (r:KV kvs vs) (k:κ) {y:V} {u:Value} (ry:RelV y u) :
    KV (kvs.map fun kv=>if kv.1=k then (kv.1,y) else kv) (vs.map fun kv=>if kv.1=k then (kv.1,u) else kv):=by
  unfold KV at r ⊢
  induction r with
  | nil=>exact .nil
  | @cons p q ps qs h t ih =>
    rw [List.map_cons,List.map_cons]
    refine .cons ?_ ih
    obtain ⟨h1,h2⟩:=h
    by_cases e:p.1=k
    · rw [if_pos e,if_pos (h1.symm.trans e)]; exact ⟨h1,ry⟩
    · rw [if_neg e,if_neg (fun z=>e (h1.trans z))]; exact ⟨h1,h2⟩
theorem KV.put {kvs:List (κ×V)} {vs:List (κ×Value)} (r:KV kvs vs) (k:κ) {y:V} {u:Value} (ry:RelV y u):KV (putK kvs k y) (stored vs k u):=by
  unfold putK stored
  rw [r.any k]
  by_cases e:(vs.any fun kv=>decide (kv.1=k))=true
  · rw [if_pos e,if_pos e]; exact r.repl k ry
  · rw [if_neg e,if_neg e]; exact Paired.snoc r ⟨rfl,ry⟩
theorem KV.drop {kvs:List (κ×V)} {vs:List (κ×Value)} (r:KV kvs vs) (k:κ):KV (dropK kvs k) (without vs k):=by
  unfold KV at r ⊢
  unfold dropK without
  induction r with
  | nil=>exact .nil
  | @cons p q ps qs h t ih =>
    obtain ⟨h1,h2⟩:=h
    rw [List.filter_cons,List.filter_cons]
    by_cases e:p.1=k
    · have a:¬ decide (p.1≠k)=true:=by simp [e]
      have b:¬ decide (q.1≠k)=true:=by simp [h1.symm.trans e]
      rw [if_neg a,if_neg b]; exact ih
    · have e':¬ q.1=k:=fun z=>e (h1.trans z)
      have a:decide (p.1≠k)=true:=by simp [e]
      have b:decide (q.1≠k)=true:=by simp [e']
      rw [if_pos a,if_pos b]; exact .cons ⟨h1,h2⟩ ih
theorem KV.length {kvs:List (κ×V)} {vs:List (κ×Value)} (r:KV kvs vs):kvs.length=vs.length:=Paired.length r
theorem dropK_le (kvs:List (κ×V)) (k:κ):(dropK kvs k).length≤kvs.length:=List.length_filter_le _ _
end
theorem kV_is {P:Program} {w:World} {k:Key} {u:Value} (r:RelV (kV k) u):(mixKind P w).is k u=true:=by
  cases k with
  | inl i=>obtain ⟨t,e⟩:=(show ∃ t,u=Value.int i t from r); subst e; exact mixKind_int P w i t
  | inr x=>obtain ⟨t,e⟩:=(show ∃ t,u=Value.str x t from r); subst e; exact mixKind_str P w x t
theorem items_are {P:Program} {w:World}:∀ {ks:List Key} {us:List Value},Vals (ks.map kV) us→ItemsAre (mixKind P w) ks us
  | [],_,r=>by rw [List.map_nil] at r; cases r; exact .nil
  | k :: ks,_,r=>by
    rw [List.map_cons] at r
    cases r with
    | cons h t=>exact .cons (kV_is h) (items_are t)
abbrev KT (H:Hp):List (List Key×V)→List (List Key×Addr×Value)→Prop:=Paired fun p q=>p.1=q.1∧H q.2.1=some (.tup (p.1.map kV))∧RelV p.2 q.2.2
theorem KT.val {H:Hp} {kvs:List (List Key×V)} {xs:List (List Key×Addr×Value)} (r:KT H kvs xs) (k:List Key):RelO (valV kvs k) ((atKey xs k).map (·.2)):=by
  induction r with
  | nil=>exact True.intro
  | @cons p q ps qs h t ih =>
    obtain ⟨h1,_,h2⟩:=h
    by_cases e:p.1=k
    · have e':q.1=k:=h1.symm.trans e
      have b:atKey (q :: qs) k=some q.2:=by simp [atKey,List.find?_cons,e']
      rw [valV_pos e,b]; exact h2
    · have e':¬ q.1=k:=fun z=>e (h1.trans z)
      have b:atKey (q :: qs) k=atKey qs k:=by simp [atKey,List.find?_cons,e']
      rw [valV_neg e,b]; exact ih
theorem KT.repl {H:Hp} {kvs:List (List Key×V)} {xs:List (List Key×Addr×Value)} (r:KT H kvs xs) (k:List Key) {y:V} {u:Value} (ry:RelV y u) :
    KT H (kvs.map fun kv=>if kv.1=k then (kv.1,y) else kv) (xs.map (putAt k u)):=by
  induction r with
  | nil=>exact .nil
  | @cons p q ps qs h t ih =>
    rw [List.map_cons,List.map_cons]
    refine .cons ?_ ih
    obtain ⟨h1,h2,h3⟩:=h
    unfold putAt
    by_cases e:p.1=k
    · rw [if_pos e,if_pos (h1.symm.trans e)]; exact ⟨h1,h2,ry⟩
    · rw [if_neg e,if_neg (fun z=>e (h1.trans z))]; exact ⟨h1,h2,h3⟩
theorem KT.put {H:Hp} {kvs:List (List Key×V)} {xs:List (List Key×Addr×Value)} (r:KT H kvs xs) (k:List Key) {b:Addr} {y:V} {u:Value} (hb:H b=some (.tup (k.map kV))) (ry:RelV y u) :
    KT H (putK kvs k y) (storedH xs k b u):=by
  have e:(kvs.any fun kv=>decide (kv.1=k))=(atKey xs k).isSome:=by
    rw [valV_any,(r.val k).isSome_eq,Option.isSome_map]
  unfold putK storedH
  rw [e]
  by_cases q:(atKey xs k).isSome=true
  · rw [if_pos q,if_pos q]; exact r.repl k ry
  · rw [if_neg q,if_neg q]; exact Paired.snoc r ⟨rfl,hb,ry⟩
theorem KT.keeps {H H':Hp} {kvs:List (List Key×V)} {xs:List (List Key×Addr×Value)} (r:KT H kvs xs) (ht:∀ b ys,H b=some (.tup ys)→H' b=some (.tup ys)):KT H' kvs xs :=
  Paired.mapP r fun _ _ z=>⟨z.1,ht _ _ z.2.1,z.2.2⟩
section
variable {P:Program} {w:World} {H:Hp} {h:Heap} {a:Addr}
theorem rd_of {u:HO} (ok:HOk P w H h) (e:Rd H a u):ObjOk P w H h a u:=e.ok ok
theorem dk_rd {kvs:List (Key×V)} (ok:HOk P w H h) (e:Rd H a (.dK kvs)):kvs.length≤sizeLine∧(a == sysModules)=false∧∃ vs,KV kvs vs∧h.DictOf (mixKind P w) a vs :=
  show ObjOk P w H h a (.dK kvs) from rd_of ok e
theorem dk_of {kvs:List (Key×V)} (ok:HOk P w H h) (e:H a=some (.dK kvs)):kvs.length≤sizeLine∧(a == sysModules)=false∧∃ vs,KV kvs vs∧h.DictOf (mixKind P w) a vs:=dk_rd ok (.inl e)
theorem key_of {ks:List Key} (ok:HOk P w H h) (e:H a=some (.tup (ks.map kV))):(tupleKind (mixKind P w)).is h ks a:=by
  obtain ⟨_,its,r,o,h1,h2,n,h3⟩:=(show ObjOk P w H h a (.tup (ks.map kV)) from ok a _ e)
  exact ⟨o,its.toArray,n,h1,h2,h3,by simpa using items_are r⟩
theorem dt_rd {kvs:List (List Key×V)} (ok:HOk P w H h) (e:Rd H a (.dT kvs)):kvs.length≤sizeLine∧(a == sysModules)=false ∧
    ∃ xs,KT H kvs xs∧h.DictOfH (tupleKind (mixKind P w)) a xs:=by
  obtain ⟨z,y,xs,r,o,es,ep,h1,h2,h3,h4,h5⟩:=(show ObjOk P w H h a (.dT kvs) from rd_of ok e)
  refine ⟨z,y,xs,r,o,es,ep,h1,h2,h3,h4,fun x hx=>?_,h5⟩
  have all:∀ {l:List (List Key×V)} {m:List (List Key×Addr×Value)},KT H l m→∀ x∈m,(tupleKind (mixKind P w)).is h x.1 x.2.1:=by
    intro l m q
    induction q with
    | nil=>intro x hx; exact nomatch hx
    | @cons p q ps qs hq t ih =>
      intro x hx
      rcases List.mem_cons.mp hx with e | hx
      · subst e
        exact key_of ok (by rw [← hq.1]; exact hq.2.1)
      · exact ih x hx
  exact all r x hx
theorem dt_of {kvs:List (List Key×V)} (ok:HOk P w H h) (e:H a=some (.dT kvs)):kvs.length≤sizeLine∧(a == sysModules)=false ∧
    ∃ xs,KT H kvs xs∧h.DictOfH (tupleKind (mixKind P w)) a xs:=dt_rd ok (.inl e)
end
def DGet (H:Hp) (a:Addr) (y:V) (r:Option V):Prop :=
  (∃ kvs k,Rd H a (.dK kvs)∧y=kV k∧r=valV kvs k)∨∃ kvs k b,Rd H a (.dT kvs)∧y=.ref b∧H b=some (.tup (k.map kV))∧r=valV kvs k
def DPut (H:Hp) (a:Addr) (y v:V) (H':Hp):Prop :=
  (∃ kvs k,H a=some (.dK kvs)∧y=kV k∧kvs.length<sizeLine∧H'=upd H a (.dK (putK kvs k v))) ∨
  ∃ kvs k b,H a=some (.dT kvs)∧y=.ref b∧H b=some (.tup (k.map kV))∧kvs.length<sizeLine∧H'=upd H a (.dT (putK kvs k v))
theorem DGet.k {H:Hp} {a:Addr} {kvs:List (Key×V)} {k:Key} (e:H a=some (.dK kvs)):DGet H a (kV k) (valV kvs k):=.inl ⟨kvs,k,.inl e,rfl,rfl⟩
theorem DPut.k {H:Hp} {a:Addr} {kvs:List (Key×V)} {k:Key} {v:V} (e:H a=some (.dK kvs)) (hl:kvs.length<sizeLine):DPut H a (kV k) v (upd H a (.dK (putK kvs k v))):=.inl ⟨kvs,k,e,rfl,hl,rfl⟩
section
variable {X:Cx} {pins:List (Addr×Obj)} {σ:St} {H:Hp} {s:Shared} {a:Addr} {y v:V} {u r:Value} {o:Option V} {A:Around} {E:Value→Shared→Prop}
theorem Inv.big (I:Inv X pins σ H s):sysModules<s.heap.objs.size:=by
  have h:mainGlobals<s.heap.objs.size:=(I.mod.glob.keeps I.bk).lt
  exact Nat.lt_trans (by decide) h
theorem d_getItem {Q:Value→Shared→Prop} (hu:A.units+1<cLine) (I:Inv X pins σ H s) (g:DGet H a y (some v)) (ry:RelV y u) (h:∀ w' s',Inv X pins σ H s'→RelV v w'→Q w' s') :
    wpAny (model X.prog X.w) A (getItem (.ref a) u) Q E s:=by
  rcases g with ⟨kvs,k,e,ey,l⟩ | ⟨kvs,k,b,e,ey,eb,l⟩
  · subst ey
    obtain ⟨z,hd,vs,rel,dd⟩:=dk_rd I.hok e
    obtain ⟨w',hw,rw'⟩:=RelO.some_of (v:=v) (o:=valueAt vs k) (by rw [l]; exact rel.val k)
    exact wpAny_getItem_of (kV_is ry) dd.mapOf hw (h w' _ (I.tok _) rw')
  · subst ey
    cases (show u=Value.ref b from ry)
    obtain ⟨z,hd,xs,rel,dd⟩:=dt_rd I.hok e
    obtain ⟨w',hw,rw'⟩:=RelO.some_of (v:=v) (o:=(atKey xs k).map (·.2)) (by rw [l]; exact rel.val k)
    obtain ⟨p,hp,hp2⟩:=Option.map_eq_some_iff.mp hw
    refine wpAny_getItem_heap (tupleKind_room_in1 hu) (key_of I.hok eb) dd hp ?_
    rw [hp2]
    exact h w' _ (I.tok _) rw'
theorem d_in {Q:Value→Shared→Prop} (hu:A.units+1<cLine) (I:Inv X pins σ H s) (g:DGet H a y o) (ry:RelV y u) (h:∀ s',Inv X pins σ H s'→Q (.bool o.isSome) s') :
    wpAny (model X.prog X.w) A (compareOp .In u (.ref a)) Q E s:=by
  rcases g with ⟨kvs,k,e,ey,l⟩ | ⟨kvs,k,b,e,ey,eb,l⟩
  · subst ey
    obtain ⟨z,hd,vs,rel,dd⟩:=dk_rd I.hok e
    refine wpAny_in_of (kV_is ry) hd dd.mapOf ?_
    rw [← (rel.val k).isSome_eq,← l]
    exact h _ (I.tok _)
  · subst ey
    cases (show u=Value.ref b from ry)
    obtain ⟨z,hd,xs,rel,dd⟩:=dt_rd I.hok e
    refine wpAny_in_heap (tupleKind_room_in1 hu) (key_of I.hok eb) hd dd ?_
    have q:=(rel.val k).isSome_eq
    rw [Option.isSome_map] at q
    rw [← q,← l]
    exact h _ (I.tok _)
theorem d_write {h':Heap} {t':Nat} {ob:HO} (I:Inv X pins σ H s) (mu:Mut (H a)) (hs:Heap.SameBut a s.heap h') (he:∃ q,h'.get? a=some q) (new:ObjOk X.prog X.w (upd H a ob) h' a ob) :
    Inv X pins σ (upd H a ob) { s with heap:=h',toks:=t' } :=
  I.write (x:=a) (e:=a) mu (.inl rfl) (fun b q hb z=>(hs.2 b hb).trans z) he new
theorem dk_new {P:Program} {w:World} {H':Hp} {h':Heap} {kvs:List (Key×V)} {vs:List (Key×Value)} (z:kvs.length≤sizeLine) (hd:(a == sysModules)=false) (rel:KV kvs vs) (dd:h'.DictOf (mixKind P w) a vs) :
    ObjOk P w H' h' a (.dK kvs):=⟨z,hd,vs,rel,dd⟩
theorem d_setItem {H':Hp} {Q:Unit→Shared→Prop} (hu:A.units+1<cLine) (I:Inv X pins σ H s) (g:DPut H a y v H') (ry:RelV y u) (rv:RelV v r) (h:∀ s',Inv X pins σ H' s'→Q () s') :
    wpAny (model X.prog X.w) A (setItem (.ref a) u r) Q E s:=by
  rcases g with ⟨kvs,k,e,ey,l,eH⟩ | ⟨kvs,k,b,e,ey,eb,l,eH⟩
  · subst ey eH
    obtain ⟨z,hd,vs,rel,dd⟩:=dk_of I.hok e
    have hz:vs.length≤sizeLine:=by rw [← rel.length]; exact z
    have hl:(putK kvs k v).length≤sizeLine:=by have:=length_putK kvs k v; omega
    refine wpAny_setItem_pairs (hsz:=hz) (kV_is ry) dd fun h' dd' hs=>h _ ?_
    have he:∃ q,h'.get? a=some q:=let ⟨q,_,_,hq,_⟩:=dd'; ⟨q,hq⟩
    exact d_write I (by rw [e]; exact True.intro) hs he (dk_new hl hd (rel.put k rv) dd')
  · subst ey eH
    cases (show u=Value.ref b from ry)
    obtain ⟨z,hd,xs,rel,dd⟩:=dt_of I.hok e
    have hz:xs.length≤sizeLine:=by rw [← Paired.length rel]; exact z
    have hl:(putK kvs k v).length≤sizeLine:=by have:=length_putK kvs k v; omega
    refine wpAny_setItem_heap (hsz:=hz) (tupleKind_room_in1 hu) (key_of I.hok eb) dd fun h' dd' hs=>h _ ?_
    obtain ⟨q,es,ep,hq,h2,h3,h4,_,h5⟩:=dd'
    refine d_write I (by rw [e]; exact True.intro) hs ⟨q,hq⟩ ⟨hl,hd,_,(rel.put k eb rv).keeps fun c ys ec=>?_,q,es,ep,hq,h2,h3,h4,h5⟩
    rw [upd_ne (ne_of ec e (fun z=>nomatch z))]
    exact ec
end
section
variable {X:Cx} {pins:List (Addr×Obj)} {σ:St} {H:Hp} {s:Shared} {a:Addr} {kvs:List (Key×V)} {k:Key} {u:Value} {A:Around} {E:Value→Shared→Prop}
theorem d_pop {v:V} {more:List Value} {Q:Value→Shared→Prop} (I:Inv X pins σ H s) (e:H a=some (.dK kvs)) (ry:RelV (kV k) u) (l:valV kvs k=some v) (hm:more=[]∨∃ x,more=[x])
    (h:∀ w' s',Inv X pins σ (upd H a (.dK (dropK kvs k))) s'→RelV v w'→Q w' s'):wpAny (model X.prog X.w) A (call (.builtin "dict.pop") (.ref a :: u :: more)) Q E s:=by
  obtain ⟨z,hd,vs,rel,dd⟩:=dk_of I.hok e
  obtain ⟨w',hw,rw'⟩:=RelO.some_of (v:=v) (o:=valueAt vs k) (by rw [← l]; exact rel.val k)
  have hp:(keyPart u).isSome=true:=by
    cases k with
    | inl i=>obtain ⟨t,q⟩:=(show ∃ t,u=Value.int i t from ry); subst q; rfl
    | inr x=>obtain ⟨t,q⟩:=(show ∃ t,u=Value.str x t from ry); subst q; rfl
  have ha:argsOk "dict.pop" ⟨.ref a :: u :: more,[]⟩:=by
    rcases hm with q | ⟨x,q⟩
    · subst q; exact PySem.F.args_dict_pop_2 _ _
    · subst q; exact PySem.F.args_dict_pop_3 _ _ _
  refine call_meetsIn PySem.F.slot_dict_pop dd.typeIs PySem.F.entry_dict_pop ha (meets_dict_pop_there (mixKind X.prog X.w) a (kV_is ry) more hm hp)
    ⟨vs,w',dd,by rw [← rel.length]; exact z,hw,fun h' dd' hs=>h w' _ ?_ rw'⟩
  have he:∃ q,h'.get? a=some q:=let ⟨q,_,_,hq,_⟩:=dd'; ⟨q,hq⟩
  exact d_write I (by rw [e]; exact True.intro) hs he (dk_new (Nat.le_trans (dropK_le kvs k) z) hd (rel.drop k) dd')
end
def NoSl (i:Expr):Prop:=∀ ov iv,subscripted i false ov iv=operate [ov,iv] (getItem ov iv)
theorem subD_of {prog:Program} {w:World} {A:Around} {E:Value→Shared→Prop} {s:Shared} {env:Env} {value slice:Expr} {pos:Pos} {T id:String} {Q:Value→Shared→Prop}
    (hl:typeLookup (.type T) "__getitem__" = pure (some (.builtin id))) (hs:NoSl slice)
    (h:wpAny (model prog w) A (eval value env) (fun o s₁=>wpAny (model prog w) A (eval slice env) (fun i s₂=>s₂.TypeIs o T∧wpAny (model prog w) A (getItem o i) Q E s₂) E s₁) E s) :
    wpAny (model prog w) A (eval (.Subscript value slice pos) env) Q E s:=by
  refine Subscript_ (wpAny_mono h (fun o s₁ h₁=>wpAny_mono h₁ (fun i s₂ h₂=>?_) fun _ _ x=>x) fun _ _ x=>x)
  obtain ⟨hT,h₂⟩:=h₂
  unfold subscriptTail
  refine wpAny_bind ?_
  rw [getitemInPython_of_ne hT.not_modules]
  refine wpAny_bind (wpAny_specialOf hT hl ?_)
  have fin:wpAny (model prog w) A (subscripted slice false o i) (fun r s₃=>wpAny (model prog w) A (letTemporaryGo value o r >>= fun _=>pure r) Q E s₃) E s₂:=by
    rw [hs o i]
    exact wpAny_operating (wpAny_mono h₂ (fun r s₃ h₃=>wpAny_bind (wpAny_letTemporaryGo (wpAny_pure h₃))) fun _ _ x=>x)
  first
    | exact wpAny_pure (wpAny_bind fin)
    | exact wpAny_bind (wpAny_pure (wpAny_bind fin))
    | exact wpAny_bind fin
theorem dict_typeIs {X:Cx} {pins:List (Addr×Obj)} {σ:St} {H:Hp} {s:Shared} {a:Addr} {y:V} {o:Option V} (I:Inv X pins σ H s) (g:DGet H a y o):s.TypeIs (.ref a) "dict" := by
  rcases g with ⟨kvs,k,e,_,_⟩ | ⟨kvs,k,b,e,_,_,_⟩
  · obtain ⟨_,_,vs,_,dd⟩:=dk_rd I.hok e
    exact dd.typeIs
  · obtain ⟨_,_,xs,_,dd⟩:=dt_rd I.hok e
    exact dd.typeIs
def tDGet (td ty:TE):TE:=fun σ H Q=>td σ H fun x H1=>ty σ H1 fun y H2=>∃ a v,x=.ref a∧DGet H2 a y (some v)∧Q v H2
def tDIn (ty td:TE):TE:=fun σ H Q=>ty σ H fun y H1=>td σ H1 fun x H2=>∃ a o,x=.ref a∧DGet H2 a y o∧Q (.bl o.isSome) H2
def sDPut (td ty tv:TE):TS:=fun D σ H=>tv σ H fun v H1=>td σ H1 fun x H2=>ty σ H2 fun y H3=>∃ a H4,x=.ref a∧DPut H3 a y v H4∧D.nx σ H4
def sDAug (td ty tv:TE) (rd:V→V→Hp→VK→Prop):TS:=fun D σ H=>td σ H fun x H1=>ty σ H1 fun y H2=>∃ a v,x=.ref a∧DGet H2 a y (some v) ∧
  tv σ H2 fun y2 H3=>rd v y2 H3 fun z H4=>∃ H5,DPut H4 a y z H5∧D.nx σ H5
section
variable {X:Cx} {o i e value:Expr} {pos pos' tpos:Pos} {td ty tv:TE}
theorem pe_dget (hu:X.A.units+1<cLine) (ho:PE X o td) (hi:PE X i ty) (hs:NoSl i):PE X (.Subscript o i pos) (tDGet td ty):=by
  intro pins s σ H Q I h
  refine subD_of PySem.F.slot_dict_getitem.lookup hs (thn (ho pins s σ H _ I h) fun u s1 ⟨x,H1,I1,rx,q1⟩=>thn (hi pins s1 σ H1 _ I1 q1) fun iv s2 ⟨y,H2,I2,ry,a,v,ex,g,q2⟩=>?_)
  subst ex
  obtain rfl:u=Value.ref a:=rx
  exact ⟨dict_typeIs I2 g,d_getItem hu I2 g ry fun w' s3 I3 rw'=>⟨v,H2,I3,rw',q2⟩⟩
theorem pc_din (hu:X.A.units+1<cLine) (hi:PE X i ty) (ho:PE X o td):PC X .In i o (tDIn ty td):=by
  intro pins s σ H Q I h
  refine thn (hi pins s σ H _ I h) fun iv s1 ⟨y,H1,I1,ry,q1⟩=>thn (ho pins s1 σ H1 _ I1 q1) fun u s2 ⟨x,H2,I2,rx,a,ov,ex,g,q2⟩=>?_
  subst ex
  obtain rfl:u=Value.ref a:=rx
  exact d_in hu I2 g ry fun s3 I3=>⟨.bl ov.isSome,H2,I3,rfl,q2⟩
theorem ps_dput (hu:X.A.units+1<cLine) (ho:PE X o td) (hi:PE X i ty) (hv:PE X value tv) (hs:swapsWith value (some (.Subscript o i pos')) pos.line X.env=pure false) :
    PS X (.Assign [.Subscript o i pos'] value pos) (sDPut td ty tv):=by
  intro pins s σ H D I h
  refine wpAny_Assign_Subscript (thn (hv pins s σ H _ I h) fun r s1 ⟨v,H1,I1,rv,q1⟩=>thn (ho pins s1 σ H1 _ I1 q1) fun u s2 ⟨x,H2,I2,rx,q2⟩=>thn (hi pins s2 σ H2 _ I2 q2) fun iv s3 ⟨y,H3,I3,ry,a,H4,ex,g,q3⟩=>?_) hs
  subst ex
  obtain rfl:u=Value.ref a:=rx
  exact d_setItem hu I3 g ry rv fun s4 I4=>⟨σ,H4,I4,q3⟩
theorem ps_daug {op:Operator} {rd:V→V→Hp→VK→Prop} (hu:X.A.units+1<cLine) (ho:PE X o td) (hi:PE X i ty) (hv:PE X value tv) (hop:InOp X op rd)
    (ha:∀ ov iv new,augStore i ov iv new=(do holding [new,ov,iv] (setItem ov iv new); release [new,ov,iv] []; pure .next)):PS X (.AugAssign (.Subscript o i tpos) op value pos) (sDAug td ty tv rd):=by
  intro pins s σ H D I h
  refine wpAny_AugAssign_SubscriptAny (thn (ho pins s σ H _ I h) fun u s1 ⟨x,H1,I1,rx,q1⟩=>thn (hi pins s1 σ H1 _ I1 q1) fun iv s2 ⟨y,H2,I2,ry,a,v,ex,g,q2⟩=>?_) ha
  subst ex
  obtain rfl:u=Value.ref a:=rx
  refine d_getItem hu I2 g ry fun w' s3 I3 rw'=>thn (hv pins s3 σ H2 _ I3 q2) fun w2 s4 ⟨y2,H3,I4,ry2,q3⟩=>thn (hop pins s4 σ H3 v y2 w' w2 _ I4 rw' ry2 q3) fun w3 s5 ⟨z,H4,I5,rz,H5,g5,q4⟩=>?_
  exact d_setItem hu I5 g5 ry rz fun s6 I6=>⟨σ,H5,I6,q4⟩
end
theorem dk_empty {P:Program} {w:World} {H:Hp} (h:Heap) (hb:sysModules<h.objs.size):ObjOk P w H (h.push { cls:=.type "dict",data:=.dict #[] }) h.objs.size (.dK []) :=
  ⟨Nat.zero_le _,beq_eq_false_iff_ne.mpr (Ne.symm (Nat.ne_of_lt hb)),[],.nil,Heap.DictOf.new h⟩
def tDNewK:TE:=fun _ H Q=>∀ p,H p=none→Q (.ref p) (upd H p (.dK []))
section
variable {X:Cx} {pos:Pos}
theorem pe_dnewK:PE X (.Dict [] [] pos) tDNewK:=fun pins s σ H Q I h =>
  wpAny_Dict_empty ⟨.ref s.heap.objs.size,_,I.laid (a:=s.heap.objs.size) (o:=.dK []) (t':=s.toks) (fun _ _ q=>Heap.get?_push_of_some _ q) (Nat.le_refl _) (dk_empty s.heap I.big),rfl,h _ (I.hok.fresh (Nat.le_refl _))⟩
end
def tPairs:List (TE×TE)→St→Hp→(List (V×V)→Hp→Prop)→Prop
  | [],_,H,Q=>Q [] H
  | (tk,tv) :: r,σ,H,Q=>tk σ H fun x H1=>tv σ H1 fun y H2=>tPairs r σ H2 fun ps H3=>Q ((x,y) :: ps) H3
abbrev VV:List (V×V)→List (Value×Value)→Prop:=Paired fun p q=>RelV p.1 q.1∧RelV p.2 q.2
def PPs (X:Cx) (pos:Pos) (keys:List (Option Expr)) (values:List Expr) (trs:List (TE×TE)):Prop :=
  ∀ (pins:List (Addr×Obj)) (s:Shared) (σ:St) (H:Hp) (Q:List (V×V)→Hp→Prop),Inv X pins σ H s→tPairs trs σ H Q →
    wpAny (model X.prog X.w) X.A (evalPairs (pairTrees keys values X.env pos)) (fun vs s'=>∃ ps H',Inv X pins σ H' s'∧VV ps vs∧Q ps H') X.xe s
theorem pps_nil {X:Cx} {pos:Pos}:PPs X pos [] [] []:=fun pins s σ H Q I h=>pairTrees_nil_walk ⟨[],H,I,.nil,h⟩
theorem pps_cons {X:Cx} {pos:Pos} {k v:Expr} {ks:List (Option Expr)} {vs:List Expr} {tk tv:TE} {trs:List (TE×TE)} (hk:PE X k tk) (hv:PE X v tv) (hr:PPs X pos ks vs trs) :
    PPs X pos (some k :: ks) (v :: vs) ((tk,tv) :: trs):=fun pins s σ H Q I h =>
  pairTrees_cons_walk (thn (hk pins s σ H _ I h) fun u s1 ⟨x,H1,I1,rx,q1⟩=>thn (hv pins s1 σ H1 _ I1 q1) fun w2 s2 ⟨y,H2,I2,ry,q2⟩ =>
    thn (hr pins s2 σ H2 _ I2 q2) fun ws s3 ⟨ps,H3,I3,rel,q3⟩=>⟨(x,y) :: ps,H3,I3,.cons ⟨rx,ry⟩ rel,q3⟩)
def mergeK (kvs more:List (Key×V)):List (Key×V):=more.foldl (fun acc kv=>putK acc kv.1 kv.2) kvs
theorem KV.merge:∀ {more:List (Key×V)} {rs:List (Key×Value)} {kvs:List (Key×V)} {vs:List (Key×Value)},KV more rs→KV kvs vs→KV (mergeK kvs more) (merged vs rs):=by
  intro more rs kvs vs r
  unfold KV at r
  induction r generalizing kvs vs with
  | nil=>intro q; exact q
  | @cons p q ps qs h t ih =>
    intro r0
    have e:KV (putK kvs p.1 p.2) (stored vs q.1 q.2):=by
      have:=r0.put p.1 h.2
      rw [← h.1]; exact this
    exact ih e
theorem length_mergeK:∀ (more kvs:List (Key×V)),(mergeK kvs more).length≤kvs.length+more.length
  | [],kvs=>by show kvs.length≤kvs.length+0; omega
  | p :: r,kvs=>by
    have h1:=length_mergeK r (putK kvs p.1 p.2)
    have h2:=length_putK kvs p.1 p.2
    show (mergeK (putK kvs p.1 p.2) r).length≤_
    rw [List.length_cons]; omega
theorem carries_of {P:Program} {w:World}:∀ {kvs:List (Key×V)} {ws:List (Value×Value)},VV (kvs.map fun kv=>(kV kv.1,kv.2)) ws→∃ rs,Carries (mixKind P w) ws rs∧KV kvs rs
  | [],_,r=>by rw [List.map_nil] at r; cases r; exact ⟨[],True.intro,.nil⟩
  | p :: kvs,_,r=>by
    rw [List.map_cons] at r
    cases r with
    | @cons a b as bs h t =>
      obtain ⟨rs,c,q⟩:=carries_of (P:=P) (w:=w) t
      obtain ⟨b1,b2⟩:=b
      exact ⟨(p.1,b2) :: rs,⟨kV_is h.1,rfl,c⟩,.cons ⟨rfl,h.2⟩ q⟩
def tDisp (trs:List (TE×TE)):TE:=fun σ H Q=>∀ p,H p=none→tPairs trs σ (upd H p (.dK [])) fun ps H2=>H2 p=some (.dK [])∧∃ kvs:List (Key×V),ps=kvs.map (fun kv=>(kV kv.1,kv.2))∧kvs.length≤15∧Q (.ref p) (upd H2 p (.dK (mergeK [] kvs)))
theorem pe_disp {X:Cx} {pos:Pos} {keys:List (Option Expr)} {values:List Expr} {trs:List (TE×TE)} (h:PPs X pos keys values trs) (hall:keys.all (·.isSome)=true) (hl:keys.length=values.length) (h0:keys≠[])
    (h15:keys.length≤15):PE X (.Dict keys values pos) (tDisp trs):=by
  intro pins s σ H Q I q
  have hn:=I.hok.fresh (Nat.le_refl s.heap.objs.size)
  have I1:=I.laid (a:=s.heap.objs.size) (o:=.dK []) (h':=s.heap.push { cls:=.type "dict",data:=.dict #[] }) (t':=s.toks) (fun _ _ q=>Heap.get?_push_of_some _ q) (Nat.le_refl _) (dk_empty s.heap I.big)
  refine wpAny_Dict_walk (knd:=mixKind X.prog X.w) hall hl h0 h15 (thn (h pins _ σ _ _ I1 (q _ hn)) fun ws s2 ⟨ps,H2,I2,rel,e,kvs,ep,lk,q2⟩=>?_)
  subst ep
  obtain ⟨rs,c,rk⟩:=carries_of (P:=X.prog) (w:=X.w) rel
  obtain ⟨z,hd,vs0,r0,dd⟩:=dk_of I2.hok e
  cases r0
  refine ⟨rs,c,dd,fun h' dd' hs=>⟨.ref s.heap.objs.size,_,?_,rfl,q2⟩⟩
  have hz:(mergeK [] kvs).length≤sizeLine:=by
    have h1:=length_mergeK kvs []
    rw [List.length_nil] at h1
    rw [sizeLine_eq]; omega
  have he:∃ q,h'.get? s.heap.objs.size=some q:=let ⟨q,_,_,hq,_⟩:=dd'; ⟨q,hq⟩
  exact d_write I2 (by rw [e]; exact True.intro) hs he (dk_new hz hd (rk.merge .nil) dd')
structure M1 (X:Cx) (o:Expr) (m:Str) (apos:Pos) (e:Expr) (cpos:Pos):Prop where
  base:attributeBase o m X.env (eval o X.env)=eval o X.env
  few:((backTo cpos (starEach [e] X.env)).all (fun x=>!x.1) && (backToKw cpos (keywordEach [] X.env)).all (fun x=>x.1.isSome)
    && decide (([e]:List Expr).length+([]:List Keyword).length+(if ([]:List Keyword).isEmpty then 0 else 1)<30))=true
  line:(apos.endLine == cpos.line)=true
  trees:backTo cpos (starEach [e] X.env)=[(false,eval e X.env)]
def IsD (H:Hp) (a:Addr):Prop:=(∃ kvs,Rd H a (.dK kvs))∨∃ kvs,Rd H a (.dT kvs)
theorem isD_at {X:Cx} {pins:List (Addr×Obj)} {σ:St} {H:Hp} {s:Shared} {a:Addr} (I:Inv X pins σ H s) (d:IsD H a) :
    s.TypeIs (.ref a) "dict" ∧ (∀ b,Value.ref a=.ref b→∃ ob,s.heap.get? b=some ob∧ob.dict=none)∧(a == sysModules)=false:=by
  rcases d with ⟨kvs,e⟩ | ⟨kvs,e⟩
  · obtain ⟨_,hd,vs,_,dd⟩:=dk_rd I.hok e
    refine ⟨dd.typeIs,fun b q=>?_,hd⟩
    cases q
    obtain ⟨ob,_,_,h1,h2,_⟩:=dd
    exact ⟨ob,h1,h2.2.1⟩
  · obtain ⟨_,hd,xs,_,dd⟩:=dt_rd I.hok e
    refine ⟨dd.typeIs,fun b q=>?_,hd⟩
    cases q
    obtain ⟨ob,_,_,h1,h2,_⟩:=dd
    exact ⟨ob,h1,h2.2.1⟩
def tDPop1 (td ty:TE):TE:=fun σ H Q=>td σ H fun x H1=>∃ a,x=.ref a∧IsD H1 a∧ty σ H1 fun y H2=>∃ kvs k v,H2 a=some (.dK kvs)∧y=kV k∧valV kvs k=some v∧Q v (upd H2 a (.dK (dropK kvs k)))
section
variable {X:Cx} {o e f:Expr} {apos cpos:Pos} {td ty tx:TE}
theorem pe_dpop1 (ho:PE X o td) (he:PE X e ty) (m:M1 X o "pop" apos e cpos):PE X (.Call (.Attribute o "pop" apos) [e] [] cpos) (tDPop1 td ty):=by
  intro pins s σ H Q I h
  refine wpAny_Call_method m.base m.few m.line PySem.F.plainAttrs_dict PySem.F.slot_dict_pop PySem.F.type_dict_pop (thn (ho pins s σ H _ I h) fun u s1 ⟨x,H1,I1,rx,a,ex,d,q1⟩=>?_)
  subst ex
  obtain rfl:u=Value.ref a:=rx
  obtain ⟨t1,t2,_⟩:=isD_at I1 d
  refine ⟨t1,t2,?_⟩
  rw [m.trees]
  refine Calls.callWith_builtin rfl (Calls.evalArgs_plain (Calls.spliced_cons (thn (he pins s1 σ H1 _ I1 q1) fun iv s2 ⟨y,H2,I2,ry,kvs,k,v,ea,ey,l,q2⟩=>Calls.spliced_nil ?_)))
  subst ey
  exact d_pop I2 ea ry l (.inl rfl) fun w' s3 I3 rw'=>⟨v,_,I3,rw',q2⟩
end
end L2
namespace L2
open PySem PySem.Spec PyProof.Rows
section
variable {κ:Type} [DecidableEq κ]
theorem nd_snoc:∀ {l:List κ} {k:κ},l.Nodup→¬ k∈l→(l++[k]).Nodup
  | [],k,_,_=>by simp
  | a :: r,k,h,hk=>by
    obtain ⟨h1,h2⟩:=List.nodup_cons.mp h
    show (a :: (r++[k])).Nodup
    refine List.nodup_cons.mpr ⟨fun m=>?_,nd_snoc h2 fun m=>hk (List.mem_cons.mpr (Or.inr m))⟩
    rcases List.mem_append.mp m with q | q
    · exact h1 q
    · exact hk (List.mem_cons.mpr (Or.inl (List.mem_singleton.mp q).symm))
theorem dropK_pos {p:κ×V} {r:List (κ×V)} {k:κ} (e:p.1=k):dropK (p :: r) k=dropK r k:=by
  unfold dropK
  rw [List.filter_cons,if_neg (by simp [e])]
theorem dropK_neg {p:κ×V} {r:List (κ×V)} {k:κ} (e:¬ p.1=k):dropK (p :: r) k=p :: dropK r k:=by
  unfold dropK
  rw [List.filter_cons,if_pos (by simp [e])]
end
end L2
set_option Elab.async false
set_option linter.all false
set_option maxRecDepth 100000
set_option maxHeartbeats 4000000
namespace L2
open PySem PySem.Spec PyProof.Rows
theorem relV_key {P:Program} {w:World} {k:Key} {u:Value} (h:(mixKind P w).is k u=true):RelV (kV k) u:=by
  rw [mixKind_is] at h
  rcases keyIs_shape h with ⟨i,t,rfl,rfl⟩ | ⟨x,t,rfl,rfl⟩
  · exact ⟨t,rfl⟩
  · exact ⟨t,rfl⟩
end L2
set_option Elab.async false
set_option linter.all false
set_option maxRecDepth 100000
set_option maxHeartbeats 4000000
namespace L2
open PySem PySem.Spec PyProof.Rows
structure Src (P0:Program) (w0:World) (it l:Addr) (its:Array Value) (pos:Nat→Heap→Prop) (sq:Heap→Prop):Prop where
  item:∀ {A0:Around} {E0:Value→Shared→Prop} {t:Shared} {i:Nat} {x:Value} {Q0:Value→Shared→Prop},pos i t.heap→sq t.heap→its[i]?=some x→(∀ g,pos (i+1) g→Heap.SameBut it t.heap g→Q0 x { t with heap:=g })→wpAny (model P0 w0) A0 (Builtin.SmallTypes.nextOf (.ref it)) Q0 E0 t
  stop:∀ {A0:Around} {E0:Value→Shared→Prop} {t:Shared} {i:Nat} {Q0:Value→Shared→Prop},A0.handled=none→pos i t.heap→sq t.heap→its[i]?=none→(∀ g e,Heap.ExtBut it t.heap g→(∃ o,g.get? e=some o∧o.cls=.type "StopIteration")→E0 (.ref e) { t with heap:=g })→wpAny (model P0 w0) A0 (Builtin.SmallTypes.nextOf (.ref it)) Q0 E0 t
  pmove:∀ {i:Nat} {g g':Heap},pos i g→(∀ o,g.get? it=some o→g'.get? it=some o)→pos i g'
  smove:∀ {g g':Heap},sq g→(∀ o,g.get? l=some o→g'.get? l=some o)→sq g'
  obj:∀ {i:Nat} {g:Heap},pos i g→∃ o,g.get? it=some o∧∀ v,o.data≠.cell v
section
variable {P0:Program} {w0:World} {A0:Around} {E0:Value→Shared→Prop} {t:Shared}
theorem tupIter_item {it a:Addr} {i:Nat} {its:Array Value} {x:Value} {Q0:Value→Shared→Prop} (st:t.heap.IsTupleIter it a i) (tp:t.heap.IsTuple a its) (hx:its[i]?=some x)
    (k:∀ g,g.IsTupleIter it a (i+1)→Heap.SameBut it t.heap g→Q0 x { t with heap:=g }):wpAny (model P0 w0) A0 (Builtin.SmallTypes.nextOf (.ref it)) Q0 E0 t:=by
  obtain ⟨oi,gi,ci,di⟩:=id st
  obtain ⟨oa,ga,_,n,da⟩:=tp
  unfold Builtin.SmallTypes.nextOf
  refine wpAny_bind (wpAny_callSpecial?_slot (name:=Str.ofString "__next__") st.typeIs F.slot_tuple_iterator_next (wpAny_call_entry F.slot_tuple_iterator_next st.typeIs F.entry_tuple_iterator_next ?_ (F.args_tuple_iterator_next_1 _)))
  show wpAny _ _ (field (.ref it) 0 >>= _) _ _ t
  refine wpAny_bind (wpAny_field gi di (x:=.ref a) rfl ?_)
  show wpAny _ _ (if (Value.ref a == Value.none)=true then _ else _) _ _ t
  rw [if_neg (show ¬ ((Value.ref a == Value.none)=true) from Bool.false_ne_true)]
  show wpAny _ _ (field (.ref it) 1 >>= _) _ _ t
  refine wpAny_bind (wpAny_field gi di (x:=.int i 0) rfl ?_)
  show wpAny _ _ (seqItems? (.ref a) >>= _) _ _ t
  refine wpAny_bind (wpAny_seqItems ga da ?_)
  simp only [hx,Int.toNat_natCast]
  refine wpAny_bind (wpAny_setField gi di (by simp) (wpAny_pure ⟨x,rfl,wpAny_pure (k _ ⟨_,Heap.get?_update_self _ gi (Obj.isFreed_of_fields (Obj.data_mapFields di _)),(Obj.cls_mapFields ..).trans ci,?_⟩ (Heap.SameBut.update ..))⟩))
  rw [Obj.data_mapFields di]
  simp [rawInt]
theorem tupIter_stop {it a:Addr} {i:Nat} {its:Array Value} {Q0:Value→Shared→Prop} (hA:A0.handled=none) (st:t.heap.IsTupleIter it a i) (tp:t.heap.IsTuple a its) (hx:its[i]?=none)
    (k:∀ g e,Heap.ExtBut it t.heap g→(∃ o,g.get? e=some o∧o.cls=.type "StopIteration")→E0 (.ref e) { t with heap:=g }):wpAny (model P0 w0) A0 (Builtin.SmallTypes.nextOf (.ref it)) Q0 E0 t:=by
  obtain ⟨oi,gi,ci,di⟩:=id st
  obtain ⟨oa,ga,_,n,da⟩:=tp
  unfold Builtin.SmallTypes.nextOf
  refine wpAny_bind (wpAny_callSpecial?_slot (name:=Str.ofString "__next__") st.typeIs F.slot_tuple_iterator_next (wpAny_call_entry F.slot_tuple_iterator_next st.typeIs F.entry_tuple_iterator_next ?_ (F.args_tuple_iterator_next_1 _)))
  show wpAny _ _ (field (.ref it) 0 >>= _) _ _ t
  refine wpAny_bind (wpAny_field gi di (x:=.ref a) rfl ?_)
  show wpAny _ _ (if (Value.ref a == Value.none)=true then _ else _) _ _ t
  rw [if_neg (show ¬ ((Value.ref a == Value.none)=true) from Bool.false_ne_true)]
  show wpAny _ _ (field (.ref it) 1 >>= _) _ _ t
  refine wpAny_bind (wpAny_field gi di (x:=.int i 0) rfl ?_)
  show wpAny _ _ (seqItems? (.ref a) >>= _) _ _ t
  refine wpAny_bind (wpAny_seqItems ga da ?_)
  simp only [hx,Int.toNat_natCast]
  refine wpAny_bind (wpAny_rule (wpAny_bind (wpAny_setField gi di (by simp) ?_)))
  show wpAny _ _ (newExc (.type "StopIteration") [] >>= _) _ _ _
  refine wpAny_bind ?_
  simp only [newTuple,newExc]
  refine wpAny_bind (wpAny_newObj_type (wpAny_bind (m:=firstArgMember _ _) (wpAny_of_eq (a:=Value.none) (by first | rfl | (simp only [firstArgMember]; rfl)) (wpAny_newObj_type ?_ (by size_fits)))) (by size_fits))
  simp only [raiseNew]
  refine wpAny_bind (wpAny_handled ?_)
  first | rw [show A0.in1.handled=none from hA] | rw [hA]
  exact wpAny_bind (wpAny_pure (wpAny_throw (k _ _ (((Heap.SameBut.update ..).extBut.push _).push _) ⟨_,Heap.get?_push_size _ rfl,rfl⟩)))
end
theorem tupIter_obj {h:Heap} {it l:Addr} {i:Nat} (x:h.IsTupleIter it l i):∃ o,h.get? it=some o∧∀ v,o.data≠.cell v:=by
  obtain ⟨o,e,c,d⟩:=x
  exact ⟨o,e,fun v z=>by rw [d] at z; cases z⟩
theorem src_tup {P0:Program} {w0:World} (it l:Addr) (its:Array Value):Src P0 w0 it l its (fun i h=>h.IsTupleIter it l i) (fun h=>h.IsTuple l its) where
  item:=fun a b c d=>tupIter_item a b c d
  stop:=fun a b c d e=>tupIter_stop a b c d e
  pmove:=fun a b=>a.at b
  smove:=fun a b=>by obtain ⟨o,e,r⟩:=a; exact ⟨o,b o e,r⟩
  obj:=fun a=>tupIter_obj a
section
variable {P0:Program} {w0:World} {A0:Around} {E0:Value→Shared→Prop} {t:Shared} {z TI TO ia ib la lb:Addr} {p1 p2:Nat→Heap→Prop} {q1 q2:Heap→Prop} {xs ys:Array Value}
theorem zipN_item {k:Nat} {x y u v:Value} {Q0:Value→Shared→Prop} (S1:Src P0 w0 ia la xs p1 q1) (S2:Src P0 w0 ib lb ys p2 q2) (D:ZipApart z TI TO ia ib la lb)
    (zz:IsZip t.heap z TI TO .none) (zI:IsPair t.heap TI (.ref ia) (.ref ib)) (zO:IsPair t.heap TO u v) (a1:p1 k t.heap) (a2:p2 k t.heap) (b1:q1 t.heap) (b2:q2 t.heap) (hx:xs[k]?=some x) (hy:ys[k]?=some y)
    (fin:∀ g,IsZip g z TI TO (rawInt t.heap.objs.size)→IsPair g TO x y→p1 (k+1) g→p2 (k+1) g→IsPair g t.heap.objs.size x y→g.objs.size=t.heap.objs.size+1 →
      (∀ c o,c≠z→c≠TO→c≠ia→c≠ib→t.heap.get? c=some o→g.get? c=some o)→Q0 (.ref t.heap.objs.size) { t with heap:=g }) :
    wpAny (model P0 w0) A0 (Builtin.«zip.__next__» ⟨[.ref z],[]⟩) (fun f s'=>∃ v,f=.done (.ret v)∧Q0 v s') E0 t:=by
  show wpAny _ _ (field (.ref z) 2 >>= _) _ _ _
  refine wpAny_bind (wpAny_field zz rfl (x:=.bool false) rfl ?_)
  show wpAny _ _ (field (.ref z) 3 >>= _) _ _ _
  refine wpAny_bind (wpAny_field zz rfl (x:=.ref TI) rfl (wpAny_bind (wpAny_seqItems zI rfl ?_)))
  show wpAny _ _ (Builtin.SmallTypes.ownedTupleIsFree (.ref z) >>= _) _ _ _
  refine wpAny_bind ?_
  unfold Builtin.SmallTypes.ownedTupleIsFree
  refine wpAny_bind (wpAny_field zz rfl (x:=.none) rfl (wpAny_pure ?_))
  simp only [if_true]
  refine wpAny_bind (wpAny_rule (wpAny_bind (wpAny_field zz rfl (x:=.ref TO) rfl (wpAny_bind (wpAny_setField_rec zz (by simp) fun g1 z1 c1=>?_)))))
  replace z1:IsZip g1 z TI TO .ellipsis:=z1
  refine wpAny_bind ?_
  simp only [List.forIn_cons,List.forIn_nil,List.zipIdx_cons,List.zipIdx_nil]
  refine wpAny_bind (wpAny_bind (wpAny_onRaise ?_))
  show wpAny _ _ (Builtin.SmallTypes.nextOf (.ref ia) >>= _) _ _ _
  refine wpAny_bind (S1.item (S1.pmove a1 fun o e=>c1.extBut _ o D.i1z e) (S1.smove b1 fun o e=>c1.extBut _ o D.l1z e) hx fun g2 a12 c2=>wpAny_pure ?_)
  have o2:IsPair g2 TO u v:=c2.extBut _ _ D.TOi1 (c1.extBut _ _ D.TOz zO)
  refine wpAny_bind (wpAny_seqItems o2 rfl (wpAny_bind (wpAny_updateSeq_pair o2 fun g3 o3 c3=>?_)))
  replace o3:IsPair g3 TO x v:=o3
  refine wpAny_bind (wpAny_letGo (wpAny_pure ?_))
  refine wpAny_bind (wpAny_bind (wpAny_onRaise ?_))
  show wpAny _ _ (Builtin.SmallTypes.nextOf (.ref ib) >>= _) _ _ _
  have m3:∀ c o,c≠z→c≠ia→c≠TO→t.heap.get? c=some o→g3.get? c=some o:=fun c o n1 n2 n3 e=>c3.extBut _ _ n3 (c2.extBut _ _ n2 (c1.extBut _ _ n1 e))
  refine wpAny_bind (S2.item (S2.pmove a2 fun o e=>m3 _ o D.i2z D.i12.symm D.TOi2.symm e) (S2.smove b2 fun o e=>m3 _ o D.l2z D.l2i1 D.l2TO e) hy fun g4 a24 c4=>wpAny_pure ?_)
  have o4:IsPair g4 TO x v:=c4.extBut _ _ D.TOi2 o3
  refine wpAny_bind (wpAny_seqItems o4 rfl (wpAny_bind (wpAny_updateSeq_pair o4 fun g5 o5 c5=>?_)))
  replace o5:IsPair g5 TO x y:=o5
  refine wpAny_bind (wpAny_letGo (wpAny_pure (wpAny_pure ?_)))
  refine wpAny_bind (wpAny_seqItems o5 rfl (wpAny_bind (wpAny_newTuple ?_)))
  have sz:g5.objs.size=t.heap.objs.size:=by rw [c5.1,c4.1,c3.1,c2.1,c1.1]
  have m5:∀ c o,c≠z→c≠TO→c≠ia→c≠ib→t.heap.get? c=some o→g5.get? c=some o:=fun c o n1 n2 n3 n4 e=>c5.extBut _ _ n2 (c4.extBut _ _ n4 (m3 c o n1 n3 n2 e))
  have z5:IsZip g5 z TI TO .ellipsis:=c5.extBut _ _ D.TOz.symm (c4.extBut _ _ D.i2z.symm (c3.extBut _ _ D.TOz.symm (c2.extBut _ _ D.i1z.symm z1)))
  have a15:p1 (k+1) g5:=S1.pmove a12 fun o e=>c5.extBut _ o D.TOi1.symm (c4.extBut _ o D.i12 (c3.extBut _ o D.TOi1.symm e))
  have a25:p2 (k+1) g5:=S2.pmove a24 fun o e=>c5.extBut _ o D.TOi2.symm e
  have zlt:z<g5.objs.size:=Heap.lt_size z5
  show wpAny _ _ (Builtin.SmallTypes.ownedTupleHandOut (.ref z) (.ref g5.objs.size) >>= _) _ _ _
  refine wpAny_bind ?_
  unfold Builtin.SmallTypes.ownedTupleHandOut
  have z6:IsZip (g5.push { cls:=.type "tuple",data:=.seq #[x,y] }) z TI TO .ellipsis:=Heap.get?_push_of_some _ z5
  refine wpAny_bind (wpAny_setField_rec z6 (by simp) fun g7 z7 c7=>?_)
  replace z7:IsZip g7 z TI TO (rawInt g5.objs.size):=z7
  refine wpAny_setField_rec z7 (by simp) fun g8 z8 c8=>?_
  replace z8:IsZip g8 z TI TO (rawInt g5.objs.size):=z8
  have m8:∀ c o,c≠z→g5.get? c=some o→g8.get? c=some o:=fun c o n1 e=>c8.extBut _ _ n1 (c7.extBut _ _ n1 (Heap.get?_push_of_some _ e))
  have t8:IsPair g8 g5.objs.size x y:=c8.extBut _ _ (Nat.ne_of_gt zlt) (c7.extBut _ _ (Nat.ne_of_gt zlt) (Heap.get?_push_size _ rfl))
  have s8:g8.objs.size=g5.objs.size+1:=by rw [c8.1,c7.1,Heap.size_push]
  rw [sz] at z8 t8 s8
  refine wpAny_pure ⟨_,rfl,?_⟩
  show Q0 (.ref g5.objs.size) _
  rw [sz]
  exact fin g8 z8 (m8 _ _ D.TOz o5) (S1.pmove a15 fun o e=>m8 _ o D.i1z e) (S2.pmove a25 fun o e=>m8 _ o D.i2z e) t8 s8 fun c o n1 n2 n3 n4 e=>m8 c o n1 (m5 c o n1 n2 n3 n4 e)
theorem zipN_stop {k:Nat} {u v:Value} {Q0:Fin→Shared→Prop} (hA:A0.handled=none) (S1:Src P0 w0 ia la xs p1 q1) (S2:Src P0 w0 ib lb ys p2 q2) (D:ZipApart z TI TO ia ib la lb)
    (zz:IsZip t.heap z TI TO .none) (zI:IsPair t.heap TI (.ref ia) (.ref ib)) (zO:IsPair t.heap TO u v) (a1:p1 k t.heap) (b1:q1 t.heap) (hx:xs[k]?=none)
    (fin:∀ g e,(∀ c o,c≠z→c≠TO→c≠ia→c≠ib→t.heap.get? c=some o→g.get? c=some o)→(∃ o,g.get? e=some o∧o.cls=.type "StopIteration")→E0 (.ref e) { t with heap:=g }) :
    wpAny (model P0 w0) A0 (Builtin.«zip.__next__» ⟨[.ref z],[]⟩) Q0 E0 t:=by
  show wpAny _ _ (field (.ref z) 2 >>= _) _ _ _
  refine wpAny_bind (wpAny_field zz rfl (x:=.bool false) rfl ?_)
  show wpAny _ _ (field (.ref z) 3 >>= _) _ _ _
  refine wpAny_bind (wpAny_field zz rfl (x:=.ref TI) rfl (wpAny_bind (wpAny_seqItems zI rfl ?_)))
  show wpAny _ _ (Builtin.SmallTypes.ownedTupleIsFree (.ref z) >>= _) _ _ _
  refine wpAny_bind ?_
  unfold Builtin.SmallTypes.ownedTupleIsFree
  refine wpAny_bind (wpAny_field zz rfl (x:=.none) rfl (wpAny_pure ?_))
  simp only [if_true]
  refine wpAny_bind (wpAny_rule (wpAny_bind (wpAny_field zz rfl (x:=.ref TO) rfl (wpAny_bind (wpAny_setField_rec zz (by simp) fun g1 z1 c1=>?_)))))
  replace z1:IsZip g1 z TI TO .ellipsis:=z1
  refine wpAny_bind ?_
  simp only [List.forIn_cons,List.forIn_nil,List.zipIdx_cons,List.zipIdx_nil]
  refine wpAny_bind (wpAny_bind (wpAny_onRaise ?_))
  show wpAny _ _ (Builtin.SmallTypes.nextOf (.ref ia) >>= _) _ _ _
  refine wpAny_bind (S1.stop hA (S1.pmove a1 fun o e=>c1.extBut _ o D.i1z e) (S1.smove b1 fun o e=>c1.extBut _ o D.l1z e) hx fun g2 e c2 he=>?_)
  obtain ⟨oe,g2e,ce⟩:=he
  have z2:IsZip g2 z TI TO .ellipsis:=c2 _ _ D.i1z.symm z1
  have ne:e≠z:=fun q=>by rw [q,z2] at g2e; cases g2e; simp at ce
  exact wpAny_setField_rec z2 (by simp) fun g3 _ c3=>fin g3 e (fun c o n1 _ n3 _ q=>c3.extBut _ _ n1 (c2 _ _ n3 (c1.extBut _ _ n1 q))) ⟨oe,c3.extBut _ _ ne g2e,ce⟩
theorem nextZip_item {k:Nat} {x y u v:Value} {Q0:Option Value→Shared→Prop} (S1:Src P0 w0 ia la xs p1 q1) (S2:Src P0 w0 ib lb ys p2 q2) (D:ZipApart z TI TO ia ib la lb)
    (zz:IsZip t.heap z TI TO .none) (zI:IsPair t.heap TI (.ref ia) (.ref ib)) (zO:IsPair t.heap TO u v) (a1:p1 k t.heap) (a2:p2 k t.heap) (b1:q1 t.heap) (b2:q2 t.heap) (hx:xs[k]?=some x) (hy:ys[k]?=some y)
    (fin:∀ g,IsZip g z TI TO (rawInt t.heap.objs.size)→IsPair g TO x y→p1 (k+1) g→p2 (k+1) g→IsPair g t.heap.objs.size x y→g.objs.size=t.heap.objs.size+1 →
      (∀ c o,c≠z→c≠TO→c≠ia→c≠ib→t.heap.get? c=some o→g.get? c=some o)→Q0 (some (.ref t.heap.objs.size)) { t with heap:=g }):wpAny (model P0 w0) A0 (pyNext (.ref z)) Q0 E0 t:=by
  have ty:t.TypeIs (.ref z) "zip" := ⟨_,zz,rfl⟩
  unfold pyNext
  exact wpAny_bind (wpAny_attempt (wpAny_callSpecial?_slot (name:=Str.ofString "__next__") ty F.slot_zip_next (wpAny_call_entry F.slot_zip_next ty F.entry_zip_next (zipN_item S1 S2 D zz zI zO a1 a2 b1 b2 hx hy fun g r1 r2 r3 r4 r5 r6 r7=>wpAny_pure (fin g r1 r2 r3 r4 r5 r6 r7)) (F.args_zip_next_1 _))))
theorem nextZip_stop {k:Nat} {u v:Value} {Q0:Option Value→Shared→Prop} (hA:A0.handled=none) (S1:Src P0 w0 ia la xs p1 q1) (S2:Src P0 w0 ib lb ys p2 q2) (D:ZipApart z TI TO ia ib la lb)
    (zz:IsZip t.heap z TI TO .none) (zI:IsPair t.heap TI (.ref ia) (.ref ib)) (zO:IsPair t.heap TO u v) (a1:p1 k t.heap) (b1:q1 t.heap) (hx:xs[k]?=none)
    (fin:∀ g,(∀ c o,c≠z→c≠TO→c≠ia→c≠ib→t.heap.get? c=some o→g.get? c=some o)→Q0 none { t with heap:=g }):wpAny (model P0 w0) A0 (pyNext (.ref z)) Q0 E0 t:=by
  have ty:t.TypeIs (.ref z) "zip" := ⟨_,zz,rfl⟩
  unfold pyNext
  refine wpAny_bind (wpAny_attempt (wpAny_callSpecial?_slot (name:=Str.ofString "__next__") ty F.slot_zip_next (wpAny_call_entry F.slot_zip_next ty F.entry_zip_next (zipN_stop hA S1 S2 D zz zI zO a1 b1 hx fun g e kp he=>?_) (F.args_zip_next_1 _))))
  obtain ⟨oe,ge,ce⟩:=he
  exact wpAny_bind (wpAny_isInstance (T := "StopIteration") (b:=true) ⟨oe,ge,ce⟩ isSubtype_stop (wpAny_pure (fin _ kp)))
end
abbrev zt1 (h:Heap) (a:Addr):Heap:=h.push { cls:=.type "tuple_iterator",data:=.fields #[.ref a,.int 0 0] }
abbrev zt2 (h:Heap) (a b:Addr):Heap:=(zt1 h a).push { cls:=.type "tuple_iterator",data:=.fields #[.ref b,.int 0 0] }
abbrev zt3 (h:Heap) (a b:Addr):Heap:=(zt2 h a b).push { cls:=.type "tuple",data:=.seq #[.ref h.objs.size,.ref (zt1 h a).objs.size] }
abbrev zt4 (h:Heap) (a b:Addr):Heap:=(zt3 h a b).push { cls:=.type "tuple",data:=.seq #[.none,.none] }
abbrev zt5 (h:Heap) (a b:Addr):Heap:=(zt4 h a b).push { cls:=.type "zip",data:=.fields #[.none,.bool false,.bool false,.ref (zt2 h a b).objs.size,.ref (zt3 h a b).objs.size] }
theorem meets_zipT (a b:Addr) (xs ys:Array Value) :
    Meets (Builtin.«zip.__new__» ⟨[.type "zip",.ref a,.ref b],[]⟩) (fun _ R s=>s.heap.IsTuple a xs∧s.heap.IsTuple b ys∧R (.ok (.ret (.ref (zt4 s.heap a b).objs.size))) { s with heap:=zt5 s.heap a b }) :=
  .of_wp fun P0 w0 A0 R t h=>by
    obtain ⟨hp,gn,dr,tk,os⟩:=t
    obtain ⟨ta,tb,h⟩:=h
    have sub:=sub_zip
    have qa:Heap.IsTuple (Shared.heap ⟨hp,gn,dr,tk,os⟩) a xs:=ta
    have qb:Heap.IsTuple (Shared.heap ⟨hp.push { cls:=.type "tuple_iterator",data:=.fields #[.ref a,.int 0 0] },gn,dr,tk,os⟩) b ys:=Heap.IsTuple.push tb _
    wp_walk using wpAny_pyIter_tuple qa,wpAny_pyIter_tuple qb
    exact ⟨_,rfl,h⟩
theorem call_zipT {P0:Program} {w0:World} {A0:Around} {E0:Value→Shared→Prop} {t:Shared} {a b:Addr} {xs ys:Array Value} {Q0:Value→Shared→Prop} (ta:t.heap.IsTuple a xs) (tb:t.heap.IsTuple b ys)
    (h:∀ g,IsZip g (t.heap.objs.size+4) (t.heap.objs.size+2) (t.heap.objs.size+3) .none→IsPair g (t.heap.objs.size+2) (.ref t.heap.objs.size) (.ref (t.heap.objs.size+1))→IsPair g (t.heap.objs.size+3) .none .none →
      g.IsTupleIter t.heap.objs.size a 0→g.IsTupleIter (t.heap.objs.size+1) b 0→(∀ c o,t.heap.get? c=some o→g.get? c=some o)→Q0 (.ref (t.heap.objs.size+4)) { t with heap:=g }) :
    wpAny (model P0 w0) A0 (call (.type "zip") [.ref a,.ref b]) Q0 E0 t:=by
  refine callType_new F.called_zip (by decide) (F.typeCall_zip_2 _ _) (F.newCall_zip_2 _ _) (fun obj=>F.args_object_init_3 obj _ _) F.entry_zip_new (meets_zipT a b xs ys) ⟨ta,tb,?_⟩
  have n1:(zt1 t.heap a).objs.size=t.heap.objs.size+1:=Heap.size_push ..
  have n2:(zt2 t.heap a b).objs.size=t.heap.objs.size+2:=by rw [Heap.size_push,n1]
  have n3:(zt3 t.heap a b).objs.size=t.heap.objs.size+3:=by rw [Heap.size_push,n2]
  have n4:(zt4 t.heap a b).objs.size=t.heap.objs.size+4:=by rw [Heap.size_push,n3]
  have r5:(zt5 t.heap a b).get? (zt4 t.heap a b).objs.size=some _:=Heap.get?_push_size _ rfl
  have r4:(zt5 t.heap a b).get? (zt3 t.heap a b).objs.size=some _:=Heap.get?_push_of_some _ (Heap.get?_push_size _ rfl)
  have r3:(zt5 t.heap a b).get? (zt2 t.heap a b).objs.size=some _:=Heap.get?_push_of_some _ (Heap.get?_push_of_some _ (Heap.get?_push_size _ rfl))
  have r2:(zt5 t.heap a b).get? (zt1 t.heap a).objs.size=some _:=Heap.get?_push_of_some _ (Heap.get?_push_of_some _ (Heap.get?_push_of_some _ (Heap.get?_push_size _ rfl)))
  have r1:(zt5 t.heap a b).get? t.heap.objs.size=some _:=Heap.get?_push_of_some _ (Heap.get?_push_of_some _ (Heap.get?_push_of_some _ (Heap.get?_push_of_some _ (Heap.get?_push_size _ rfl))))
  show _∧_
  rw [n2,n3,n4] at r5
  rw [n1,n2] at r3
  rw [n3] at r4
  rw [n1] at r2
  rw [n4]
  refine ⟨⟨_,r5,rfl⟩,h _ r5 r3 r4 ⟨_,r1,rfl,rfl⟩ ⟨_,r2,rfl,rfl⟩ fun c o q=>?_⟩
  iterate 5 refine Heap.get?_push_of_some _ ?_
  exact q
def Itzt (K:PySem.W.Frag) (a b:Addr):It :=
  ⟨fun i H=>∃ xs ys x y,SqT K H a xs∧SqT K H b ys∧xs[i]?=some x∧ys[i]?=some y,
   fun i H v H'=>∃ t x y,H t=none∧v=.ref t∧H'=upd H t (.tup [x,y])∧(∀ xs,SqT K H a xs→xs[i]?=some x)∧∀ ys,SqT K H b ys→ys[i]?=some y,
   fun i H=>∃ xs,SqT K H a xs∧(∃ ys,SqT K H b ys)∧xs.length≤i⟩
theorem turn_zipT {P:Program} {w:World} {K:PySem.W.Frag} {elts:List PySem.Expr} {x1} {pos:Pos} (z TI TO i1 i2 a b:Addr) (D:ZipApart z TI TO i1 i2 a b) :
    Turn P w K (.Tuple elts x1 pos) (Itzt K a b) [z,TI,TO,i1,i2] z (fun i h=>IsZip h z TI TO .none∧IsPair h TI (.ref i1) (.ref i2)∧(∃ u v,IsPair h TO u v)∧h.IsTupleIter i1 a i∧h.IsTupleIter i2 b i) where
  mem:=by simp
  obj:=fun i h st c hc=>by
    obtain ⟨hz,hTI,⟨u,v,hTO⟩,h1,h2⟩:=st
    simp only [List.mem_cons,List.not_mem_nil,or_false] at hc
    rcases hc with rfl | rfl | rfl | rfl | rfl
    · exact ⟨_,hz,fun v e=>by cases e⟩
    · exact ⟨_,hTI,fun v e=>by cases e⟩
    · exact ⟨_,hTO,fun v e=>by cases e⟩
    · exact tupIter_obj h1
    · exact tupIter_obj h2
  keep:=fun i h h' st k=>by
    obtain ⟨hz,hTI,⟨u,v,hTO⟩,h1,h2⟩:=st
    exact ⟨k z (by simp) _ hz,k TI (by simp) _ hTI,⟨u,v,k TO (by simp) _ hTO⟩,h1.at fun o e=>k i1 (by simp) o e,h2.at fun o e=>k i2 (by simp) o e⟩
  item:=by
    intro X hP hw hK hc i pins s σ H E I hf st hg
    subst hP hw hK
    obtain ⟨xs,ys,x,y,hqa,hqb,hx,hy⟩:=hg
    obtain ⟨hz,hTI,⟨u0,v0,hTO⟩,h1,h2⟩:=st
    obtain ⟨itsa,ra,pa,za⟩:=I.tuple hqa
    obtain ⟨itsb,rb,pb,zb⟩:=I.tuple hqb
    obtain ⟨ux,hux,rux⟩:=ra.get hx
    obtain ⟨uy,huy,ruy⟩:=rb.get hy
    refine nextZip_item (src_tup i1 a itsa.toArray) (src_tup i2 b itsb.toArray) D hz hTI hTO h1 h2 (show s.heap.IsTuple a itsa.toArray from pa) (show s.heap.IsTuple b itsb.toArray from pb) (x:=ux) (y:=uy) (by simpa using hux) (by simpa using huy) fun h' a1 a2 a3 a4 a5 a6 a7=>?_
    refine ⟨.ref s.heap.objs.size,rfl,?_⟩
    refine wpAny_letOwnedTupleGo_zip a1 fun h2' hz' hs'=>?_
    have hzlt:z<s.heap.objs.size:=Heap.lt_size hz
    have kk:∀ c o,c∉[z,TI,TO,i1,i2]→s.heap.get? c=some o→h2'.get? c=some o:=fun c o hc e=>by
      simp only [List.mem_cons,List.not_mem_nil,or_false,not_or] at hc
      exact hs'.extBut c o hc.1 (a7 c o hc.1 hc.2.2.1 hc.2.2.2.1 hc.2.2.2.2 e)
    have tp:h2'.get? s.heap.objs.size=some { cls:=.type "tuple",data:=.seq #[ux,uy] }:=hs'.extBut _ _ (Nat.ne_of_gt hzlt) a5
    have I1:Inv X pins σ (upd H s.heap.objs.size (.tup [x,y])) { s with heap:=h2',toks:=s.toks } :=
      I.laidCh hf kk ⟨by show 2≤sizeLine; decide,[ux,uy],.cons rux (.cons ruy .nil),⟨_,tp,rfl,_,rfl⟩⟩
    have TIk:h2'.get? TI=s.heap.get? TI:=by
      rw [hTI]
      exact hs'.extBut _ _ D.TIz (a7 _ _ D.TIz D.TITO D.TIi1 D.TIi2 hTI)
    refine ⟨.ref s.heap.objs.size,_,I1,rfl,⟨s.heap.objs.size,x,y,I.hok.fresh (Nat.le_refl _),rfl,rfl,fun xs' h=>by rw [I.tuple_inj h hqa]; exact hx,fun ys' h=>by rw [I.tuple_inj h hqb]; exact hy⟩,⟨hz',?_,⟨ux,uy,hs'.extBut _ _ D.TOz a2⟩,a3.at fun o e=>hs'.extBut _ o D.i1z e,a4.at fun o e=>hs'.extBut _ o D.i2z e⟩,fun c hc=>?_⟩
    · show h2'.get? TI=_
      rw [TIk]; exact hTI
    · have hc':=hc
      have hlt:c<s.heap.objs.size:=by
        simp only [List.mem_cons,List.not_mem_nil,or_false] at hc'
        rcases hc' with rfl | rfl | rfl | rfl | rfl
        · exact hzlt
        · exact Heap.lt_size hTI
        · exact Heap.lt_size hTO
        · obtain ⟨o,e,_⟩:=tupIter_obj h1; exact Heap.lt_size e
        · obtain ⟨o,e,_⟩:=tupIter_obj h2; exact Heap.lt_size e
      rw [upd_ne (Nat.ne_of_lt hlt)]
      exact (hf c hc).1
  done:=by
    intro X hP hw hK hc i pins s σ H E I hf st hg
    subst hP hw hK
    obtain ⟨xs,hqa,⟨ys,hqb⟩,hend⟩:=hg
    obtain ⟨hz,hTI,⟨u0,v0,hTO⟩,h1,h2⟩:=st
    obtain ⟨itsa,ra,pa,za⟩:=I.tuple hqa
    obtain ⟨itsb,rb,pb,zb⟩:=I.tuple hqb
    have la:=ra.length
    refine nextZip_stop (I.ok.hd hc) (src_tup i1 a itsa.toArray) (src_tup i2 b itsb.toArray) D hz hTI hTO h1 (show s.heap.IsTuple a itsa.toArray from pa) (by simp; omega) fun h' hk=>⟨rfl,?_⟩
    refine I.turnedCh (t':=s.toks) hf fun c o hc e=>?_
    simp only [List.mem_cons,List.not_mem_nil,or_false,not_or] at hc
    exact hk c o hc.1 hc.2.2.1 hc.2.2.2.1 hc.2.2.2.2 e
  self:=fun _ _ _ _ _ st h=>wpAny_pyIter_zip st.1 h
def iZipS (K:PySem.W.Frag) (ta:TA):TI:=fun σ H R=>ta σ H fun vs H1=>∃ a b,vs=[.ref a,.ref b]∧((∃ xs ys,SqL K H1 a xs∧SqL K H1 b ys∧R (Itz K a b) H1)∨∃ xs ys,SqT K H1 a xs∧SqT K H1 b ys∧R (Itzt K a b) H1)
section
variable {X:Cx}
theorem pi_zipS {elts:List PySem.Expr} {x1} {tpos:Pos} {a b:PySem.Expr} {ta:TA} {p pos:Pos} (hg:Gl X "zip") (hm:X.mg "zip" = none) (ha:PA X [a,b] ta) (hs:starEach [a,b] X.env=[(false,eval a X.env),(false,eval b X.env)]:=by rfl) (hs2:starEach [b] X.env=[(false,eval b X.env)]:=by rfl) :
    PI X (.Tuple elts x1 tpos) (.Call (.Name "zip" p) [a,b] [] pos) (iZipS X.K ta):=by
  intro pins s σ H R I h
  refine Call_ (ld_blt I hg hm boot_zip (PyProof.Rows.callWith_type1 (thn (ha pos pins s σ H _ I h) fun us s1 ⟨vs,H1,I1,r1,q1⟩=>?_) (by rw [hs,hs2]) (by rw [hs2]; rfl)))
  obtain ⟨l1,l2,e,q⟩:=q1
  subst e
  obtain ⟨v1,v2,rfl,r,r'⟩:=vals2 r1
  cases r
  cases r'
  have big:∀ c,c∈[s1.heap.objs.size+4,s1.heap.objs.size+2,s1.heap.objs.size+3,s1.heap.objs.size,s1.heap.objs.size+1]→s1.heap.objs.size≤c:=fun c hc=>by
    simp only [List.mem_cons,List.not_mem_nil,or_false] at hc
    rcases hc with rfl | rfl | rfl | rfl | rfl <;> first | exact Nat.le_refl _ | exact Nat.le_add_right _ _
  rcases q with ⟨xs,ys,hqa,hqb,q⟩ | ⟨xs,ys,hqa,hqb,q⟩
  · obtain ⟨itsa,ra,pa,za⟩:=I1.list hqa
    obtain ⟨itsb,rb,pb,zb⟩:=I1.list hqb
    have lt1:l1<s1.heap.objs.size:=by obtain ⟨o,e,_⟩:=pa.isList; exact Heap.lt_size e
    have lt2:l2<s1.heap.objs.size:=by obtain ⟨o,e,_⟩:=pb.isList; exact Heap.lt_size e
    refine call_zip_2 pa.isList pb.isList fun h' g5 g3 g4 g1 g2 hsz kp=>wpAny_pyIter_zip g5 ?_
    exact ⟨_,[_,_,_,_,_],_,_,H1,rfl,I1.kept (t':=s1.toks) kp,turn_zip _ _ _ _ _ l1 l2 (zip_apart s1.heap.objs.size l1 l2 lt1 lt2),⟨g5,g3,⟨_,_,g4⟩,g1,g2⟩,fun c hc=>I1.fpOk (big c hc) (I1.hok.fresh (big c hc)),q⟩
  · obtain ⟨itsa,ra,pa,za⟩:=I1.tuple hqa
    obtain ⟨itsb,rb,pb,zb⟩:=I1.tuple hqb
    have lt1:l1<s1.heap.objs.size:=tup_lt pa
    have lt2:l2<s1.heap.objs.size:=tup_lt pb
    refine call_zipT (show s1.heap.IsTuple l1 itsa.toArray from pa) (show s1.heap.IsTuple l2 itsb.toArray from pb) fun h' g5 g3 g4 g1 g2 kp=>wpAny_pyIter_zip g5 ?_
    exact ⟨_,[_,_,_,_,_],_,_,H1,rfl,I1.kept (t':=s1.toks) kp,turn_zipT _ _ _ _ _ l1 l2 (zip_apart s1.heap.objs.size l1 l2 lt1 lt2),⟨g5,g3,⟨_,_,g4⟩,g1,g2⟩,fun c hc=>I1.fpOk (big c hc) (I1.hok.fresh (big c hc)),q⟩
end
theorem comp_zipT {K:PySem.W.Frag} {a b:Addr} {xs zs:List V} {l:Addr} {g:TG} {tc:TT} {te:TE} {σ0:St} {H0:Hp} {Qf:Hp→Prop} (hlen:xs.length=zs.length) (Pv:Nat→List V→St→Hp→Prop) (h0:Pv 0 [] σ0 H0)
    (hl:∀ i ys σ' H',i≤xs.length→Pv i ys σ' H'→SqT K H' a xs∧SqT K H' b zs)
    (hs:∀ i x z t ys σ' H',i<xs.length→xs[i]?=some x→zs[i]?=some z→ys.length≤i→Pv i ys σ' H'→H' t=none→g (.ref t) σ' (upd H' t (.tup [x,z])) fun σ2 H3=>tc σ2 H3 fun b H4=>if b=true then te σ2 H4 fun y H5=>CNx xs.length l Pv i ys σ2 y H5 else CNo xs.length Pv i ys σ2 H4)
    (hd:∀ ys σ' H',ys.length≤xs.length→Pv xs.length ys σ' H'→Qf H') :
    ∃ W:Nat→Nat→List V→St→Hp→Prop,(∃ m,W 0 m [] σ0 H0)∧∀ i m ys σ' H',W i m ys σ' H' →
    ((Itzt K a b).stop i H'∧Qf H')∨((Itzt K a b).go i H'∧∀ x H2,(Itzt K a b).yld i H' x H2→g x σ' H2 fun σ2 H3=>tc σ2 H3 fun b H4 =>
      if b=true then te σ2 H4 fun y H5=>H5 l=some (.lst ys)∧ys.length<sizeLine∧∃ m',m'<m∧W (i+1) m' (ys++[y]) σ2 (upd H5 l (.lst (ys++[y])))
      else ∃ m',m'<m∧W (i+1) m' ys σ2 H4):=by
  refine ⟨fun i m ys σ' H'=>m=xs.length - i∧i≤xs.length∧ys.length≤i∧Pv i ys σ' H',⟨xs.length,rfl,Nat.zero_le _,Nat.le_refl _,h0⟩,?_⟩
  rintro i m ys σ' H' ⟨rfl,hi,hy,p⟩
  obtain ⟨qa,qb⟩:=hl i ys σ' H' hi p
  by_cases hlt:i<xs.length
  · have hlt':i<zs.length:=by omega
    refine .inr ⟨⟨xs,zs,xs[i],zs[i],qa,qb,by simp [hlt],by simp [hlt']⟩,fun x H2 zq=>?_⟩
    obtain ⟨t,u,v,ht,rfl,rfl,z1,z2⟩:=zq
    exact hs i u v t ys σ' H' hlt (z1 xs qa) (z2 zs qb) hy p ht
  · have e:i=xs.length:=by omega
    subst e
    exact .inl ⟨⟨xs,qa,⟨zs,qb⟩,Nat.le_refl _⟩,hd ys σ' H' hy p⟩
end L2
set_option Elab.async false
set_option linter.all false
set_option maxRecDepth 100000
set_option maxHeartbeats 4000000
namespace L2
open PySem PySem.Spec PyProof.Rows
section
variable {X:Cx} {K:PySem.W.Frag} {tg:PySem.Expr}
theorem pi_listK (hK:X.K=K) {l:PySem.Expr} {tl:TE} (hl:PE X l tl):PI X tg l (iList K tl):=hK ▸ pi_list hl
end
end L2
set_option Elab.async false
set_option linter.all false
set_option maxRecDepth 100000
set_option maxHeartbeats 4000000
namespace L2
open PySem PySem.Spec PyProof.Rows
def EqD (K:PySem.W.Frag) (H:Hp):Nat→V→V→Bool→Prop
  | 0,x,y,b=>flatV x=true∧flatV y=true∧b=eqV x y
  | n+1,x,y,b=>(flatV x=true∧flatV y=true∧b=eqV x y)∨∃ (a c:Addr) (xs ys:List V) (e:Nat→Bool),x=.ref a∧y=.ref c∧(∀ (i:Nat) (u v:V),xs[i]?=some u→ys[i]?=some v→EqD K H n u v (e i)) ∧
      ((SqL K H a xs∧SqL K H c ys∧((xs.length=ys.length∧b=(List.range xs.length).all e)∨(xs.length≠ys.length∧b=false))) ∨
       (SqT K H a xs∧SqT K H c ys∧b=((List.range (min xs.length ys.length)).all e && xs.length == ys.length)))
theorem eqV_self {x:V} (h:flatV x=true):eqV x x=true:=by
  cases x with
  | non=>rfl
  | bl b=>exact beq_self_eq_true b
  | int i=>exact beq_self_eq_true i
  | str z=>exact beq_self_eq_true z
  | _=>exact absurd h Bool.false_ne_true
section
variable {X:Cx} {pins:List (Addr×Obj)} {σ:St} {H:Hp} {s:Shared}
theorem eqD_self (I:Inv X pins σ H s):∀ (n:Nat) (x:V) (b:Bool),EqD X.K H n x x b→b=true
  | 0,x,b,⟨h1,_,h2⟩=>by rw [h2]; exact eqV_self h1
  | n+1,x,b,h=>by
    rcases h with ⟨h1,_,h2⟩ | ⟨a,c,xs,ys,e,rfl,h2,hi,⟨ha,hc,hb⟩ | ⟨ha,hc,hb⟩⟩
    · rw [h2]; exact eqV_self h1
    · cases h2
      have exy:ys=xs:=I.list_inj hc ha
      subst exy
      rcases hb with ⟨_,hb⟩ | ⟨hb,_⟩
      · rw [hb,List.all_eq_true]
        intro i hi'
        have hlt:=List.mem_range.mp hi'
        exact eqD_self I n ys[i] (e i) (hi i ys[i] ys[i] (List.getElem?_eq_getElem hlt) (List.getElem?_eq_getElem hlt))
      · exact absurd rfl hb
    · cases h2
      have exy:ys=xs:=I.tuple_inj hc ha
      subst exy
      rw [hb,Nat.min_self,beq_self_eq_true,Bool.and_true,List.all_eq_true]
      intro i hi'
      have hlt:=List.mem_range.mp hi'
      exact eqD_self I n ys[i] (e i) (hi i ys[i] ys[i] (List.getElem?_eq_getElem hlt) (List.getElem?_eq_getElem hlt))
theorem at_rel {xs:List V} {us:List Value} (r:Vals xs us) {j:Nat} (h:j<us.toArray.size):∃ x,xs[j]?=some x∧RelV x us.toArray[j]:=by
  have hj:j<us.length:=by simpa using h
  have hx:j<xs.length:=by rw [r.length]; exact hj
  obtain ⟨u,hu,ru⟩:=r.get (i:=j) (x:=xs[j]) (List.getElem?_eq_getElem hx)
  rw [List.getElem?_eq_getElem hj] at hu
  cases hu
  exact ⟨xs[j],List.getElem?_eq_getElem hx,by simpa using ru⟩
theorem eqD_at (I:Inv X pins σ H s):∀ (n:Nat) (A:Around) (x y:V) (u v:Value) (b:Bool),A.units+n<cLine→RelV x u→RelV y v→EqD X.K H n x y b→SeqAt.EqAt A s u v b
  | 0,A,x,y,u,v,b,hu,rx,ry,⟨h1,h2,h3⟩=>by rw [h3]; exact eqAt_V rx ry h1 h2
  | n+1,A,x,y,u,v,b,hu,rx,ry,h=>by
    rcases h with ⟨h1,h2,h3⟩ | ⟨a,c,xs,ys,e,rfl,rfl,hi,hh⟩
    · rw [h3]; exact eqAt_V rx ry h1 h2
    · cases rx
      cases ry
      by_cases hac:a=c
      · subst hac
        have hb:b=true:=eqD_self I (n+1) (.ref a) b (.inr ⟨a,a,xs,ys,e,rfl,rfl,hi,hh⟩)
        rw [hb]
        exact SeqAt.EqAt.same _
      · have hu0:A.units<cLine:=by omega
        have hu1:A.in1.units+n<cLine:=by
          have q:A.in1.units=A.units+1:=rfl
          rw [q]; omega
        refine SeqAt.EqAt.of_refs hac ?_
        rcases hh with ⟨ha,hc,hb⟩ | ⟨ha,hc,hb⟩
        · obtain ⟨its,r1,p1,_⟩:=I.list ha
          obtain ⟨its2,r2,p2,_⟩:=I.list hc
          have l1:=r1.length
          have l2:=r2.length
          rcases hb with ⟨hl,hb⟩ | ⟨hl,hb⟩
          · have q:=SeqAt.RcAt.lists (A:=A) (e:=e) p1.isList p2.isList (by simp; omega) hu0 fun j h1 h2=>by
              obtain ⟨x,hx,rx⟩:=at_rel r1 h1
              obtain ⟨y,hy,ry⟩:=at_rel r2 h2
              exact eqD_at I n A.in1 x y _ _ (e j) hu1 rx ry (hi j x y hx hy)
            rw [List.size_toArray,← l1,← hb] at q
            exact q
          · rw [hb]
            exact SeqAt.RcAt.lists_lengths p1.isList p2.isList (by simp; omega) hu0
        · obtain ⟨its,r1,p1,_⟩:=I.tuple ha
          obtain ⟨its2,r2,p2,_⟩:=I.tuple hc
          have l1:=r1.length
          have l2:=r2.length
          have q:=SeqAt.RcAt.tuples (A:=A) (e:=e) (show s.heap.IsTuple a its.toArray from p1) (show s.heap.IsTuple c its2.toArray from p2) hu0 fun j h1 h2=>by
            obtain ⟨x,hx,rx⟩:=at_rel r1 h1
            obtain ⟨y,hy,ry⟩:=at_rel r2 h2
            exact eqD_at I n A.in1 x y _ _ (e j) hu1 rx ry (hi j x y hx hy)
          rw [List.size_toArray,List.size_toArray,← l1,← l2,← hb] at q
          exact q
end
section
variable {X:Cx} {K:PySem.W.Frag}
def rEqD (K:PySem.W.Frag) (n:Nat) (neg:Bool):R2:=fun x y H Q=>∃ (a c:Addr) (xs ys:List V) (e:Nat→Bool),x=.ref a∧y=.ref c∧(∀ (i:Nat) (u v:V),xs[i]?=some u→ys[i]?=some v→EqD K H n u v (e i))∧SqL K H a xs∧SqL K H c ys ∧
  ((xs.length=ys.length∧Q (.bl (if neg then !(List.range xs.length).all e else (List.range xs.length).all e)) H)∨(xs.length≠ys.length∧Q (.bl neg) H))
theorem op_eqD (n:Nat) (hu:X.A.units+1+n<cLine) (hK:X.K=K):OpR X (compareOp .Eq) (rEqD K n false):=by
  subst hK
  intro pins s σ H x y v u Q I rx ry h
  obtain ⟨a,c,xs,ys,e,rfl,rfl,hi,ha,hc,q⟩:=h
  cases rx
  cases ry
  obtain ⟨its,r1,p1,_⟩:=I.list ha
  obtain ⟨its2,r2,p2,_⟩:=I.list hc
  have l1:=r1.length
  have l2:=r2.length
  have hu1:X.A.in1.units+n<cLine:=hu
  rcases q with ⟨hl,q⟩ | ⟨hl,q⟩
  · refine SeqAt.eq_listAt (e:=e) p1.isList p2.isList (by simp; omega) (by omega) (fun j h1 h2=>?_) ⟨.bl _,H,I,rfl,?_⟩
    · obtain ⟨x,hx,rx⟩:=at_rel r1 h1
      obtain ⟨y,hy,ry⟩:=at_rel r2 h2
      exact eqD_at I n X.A.in1 x y _ _ (e j) hu1 rx ry (hi j x y hx hy)
    · rw [List.size_toArray,← l1]; exact q
  · exact SeqAt.eq_list_lengthsAt p1.isList p2.isList (by simp; omega) (by omega) ⟨.bl false,H,I,rfl,q⟩
theorem hu_to {A:Around} {k:Nat} (hr:Room k A) (n:Nat) (h:n≤60):A.units+1+n<cLine:=by have:=hr.units; omega
end
end L2
set_option Elab.async false
set_option linter.all false
set_option maxRecDepth 100000
set_option maxHeartbeats 4000000
namespace L2
open PySem PySem.Spec PyProof.Rows
theorem boot_setT:bootBuiltins "set" = some (.type "set"):=by first | rfl | decide +kernel | kernel_rfl
end L2
set_option Elab.async false
set_option linter.all false
set_option maxRecDepth 100000
set_option maxHeartbeats 4000000
namespace L2
open PySem PySem.Spec PyProof.Rows
end L2
set_option Elab.async false
set_option linter.all false
set_option maxRecDepth 100000
set_option maxHeartbeats 4000000
namespace L2.Stb
open PySem PySem.Spec PyProof.Rows
def Rk (ρ:Keyed→Nat) (xs:Array Keyed) (i:Nat):Nat:=(xs[i]?).elim 0 ρ
theorem Rk_congr {ρ:Keyed→Nat} {xs ys:Array Keyed} {i j:Nat} (h:xs[i]?=ys[j]?):Rk ρ xs i=Rk ρ ys j:=by unfold Rk; rw [h]
def VLt (ρ:Keyed→Nat) (xs:Array Keyed) (i j:Nat):Prop:=K xs i<K xs j∨(K xs i=K xs j∧Rk ρ xs i<Rk ρ xs j)
theorem VLt.trans {ρ:Keyed→Nat} {xs:Array Keyed} {i j k:Nat} (h1:VLt ρ xs i j) (h2:VLt ρ xs j k):VLt ρ xs i k:=by
  unfold VLt at *
  omega
def Inc (ρ:Keyed→Nat) (xs:Array Keyed) (n:Nat):Prop:=∀ i j,i<j→j<n→VLt ρ xs i j
def Dec (ρ:Keyed→Nat) (xs:Array Keyed) (n:Nat):Prop:=∀ i j,i<j→j<n→VLt ρ xs j i
def Idn (ρ:Keyed→Nat) (xs:Array Keyed) (n:Nat):Prop:=∀ i,n≤i→i<xs.size→Rk ρ xs i=i
theorem Idn.mono {ρ:Keyed→Nat} {xs:Array Keyed} {m n:Nat} (h:Idn ρ xs m) (l:m≤n):Idn ρ xs n:=fun i hi hs=>h i (Nat.le_trans l hi) hs
theorem Rk_get {ρ:Keyed→Nat} {xs:Array Keyed} {i:Nat} (h:i<xs.size):(xs.toList.map ρ)[i]?=some (Rk ρ xs i):=by
  unfold Rk
  rw [List.getElem?_map,Array.getElem?_toList,Array.getElem?_eq_getElem h]
  rfl
structure Inj (ρ:Keyed→Nat) (xs:Array Keyed):Prop where
  inj:∀ i j,i<xs.size→j<xs.size→Rk ρ xs i=Rk ρ xs j→i=j
  lt:∀ i,i<xs.size→Rk ρ xs i<xs.size
theorem inj_of {ρ:Keyed→Nat} {xs a₀:Array Keyed} (p:xs.Perm a₀) (h0:Idn ρ a₀ 0):Inj ρ xs:=by
  have e0:a₀.toList.map ρ=List.range a₀.size:=by
    apply List.ext_getElem?
    intro i
    by_cases h:i<a₀.size
    · rw [Rk_get h,List.getElem?_range h,h0 i (Nat.zero_le _) h]
    · rw [List.getElem?_eq_none (by simpa using h),List.getElem?_eq_none (by simpa using h)]
  have pm:(xs.toList.map ρ).Perm (List.range a₀.size):=by rw [← e0]; exact (Array.perm_iff_toList_perm.mp p).map ρ
  have nd:(xs.toList.map ρ).Nodup:=pm.nodup_iff.mpr List.nodup_range
  refine ⟨fun i j hi hj e=>?_,fun i hi=>?_⟩
  · refine (List.getElem?_inj (by rw [List.length_map,Array.length_toList]; exact hi) nd).mp ?_
    rw [Rk_get hi,Rk_get hj,e]
  · have m:Rk ρ xs i∈xs.toList.map ρ:=List.mem_of_getElem? (Rk_get hi)
    have:=List.mem_range.mp (pm.mem_iff.mp m)
    rw [p.size_eq]
    exact this
theorem Inj.below {ρ:Keyed→Nat} {xs:Array Keyed} (I:Inj ρ xs) {n:Nat} (h:Idn ρ xs n) {i:Nat} (hi:i<n) (hs:i<xs.size):Rk ρ xs i<n:=by
  by_cases c:Rk ρ xs i<n
  · exact c
  · have l:=I.lt i hs
    have e:=h (Rk ρ xs i) (by omega) l
    have:=I.inj _ _ l hs e
    omega
theorem Rk_bubble {ρ:Keyed→Nat} {xs:Array Keyed} {src d:Nat} (hs:src<xs.size) (hd:d≤src) (k:Nat) :
    Rk ρ (bubble xs src d) k=if k=src - d then Rk ρ xs src else if src - d<k∧k≤src then Rk ρ xs (k - 1) else Rk ρ xs k:=by
  have e:=getElem?_bubble hs d hd k
  by_cases h1:k=src - d
  · rw [if_pos h1] at e ⊢
    exact Rk_congr e
  · rw [if_neg h1] at e ⊢
    by_cases h2:src - d<k∧k≤src
    · rw [if_pos h2] at e ⊢
      exact Rk_congr e
    · rw [if_neg h2] at e ⊢
      exact Rk_congr e
theorem Rk_mirror {ρ:Keyed→Nat} {xs:Array Keyed} {i j:Nat} (hj:j≤xs.size) (k:Nat) :
    Rk ρ (mirror xs i j ((j - i) / 2)) k=if i≤k∧k<j then Rk ρ xs (i+j - 1 - k) else Rk ρ xs k:=by
  have e:=getElem?_mirror_all (i:=i) hj k
  by_cases h1:i≤k∧k<j
  · rw [if_pos h1] at e ⊢
    exact Rk_congr e
  · rw [if_neg h1] at e ⊢
    exact Rk_congr e
section
variable {prog:Program} {w:World} {A:Around} {E:Value→Shared→Prop} {s:Shared} {a₀:Array Keyed} {ρ:Keyed→Nat}
theorem SB.inj {st:SortSt} (h:SBase a₀ st) (hr:Idn ρ a₀ 0):Inj ρ (arrOf st):=inj_of h.perm hr
theorem bin_ok {st:SortSt} {n ok:Nat} {Q:Bool→SortSt→Prop} (h0:IntKeys a₀) (hr:Idn ρ a₀ 0) (hn:n≤a₀.size) (hok:ok≤n) (h1k:1≤ok) (hB:SBase a₀ st) (hs:Inc ρ (arrOf st) ok) (hI:Idn ρ (arrOf st) ok)
    (h:∀ st',SBase a₀ st'→Inc ρ (arrOf st') n→Q true st'):wpS (model prog w) A E s (binarySort' 0 n ok) Q st:=by
  rw [binarySort'_eq]
  simp only [Nat.zero_add]
  refine wpS_bind (wpS_mono (wpS_forRange (I:=fun k c st1=>c=(none,())∧SBase a₀ st1∧Inc ρ (arrOf st1) (min k n)∧Idn ρ (arrOf st1) (min k n))
    (Q:=fun c st1=>c=(none,())∧SBase a₀ st1∧Inc ρ (arrOf st1) n) ?turn ?last ?first) ?after)
  case after =>
    rintro c st1 ⟨rfl,b1,i1⟩
    exact wpS_pure (h st1 b1 i1)
  case first =>
    rw [show min (max ok 1) n=ok by omega]
    exact ⟨rfl,hB,hs,hI⟩
  case last =>
    rintro c st1 ⟨hc,b1,i1,_⟩
    rw [show min (max (max ok 1) n) n=n by omega] at i1
    exact ⟨hc,b1,i1⟩
  case turn =>
    rintro k c st1 hak hkn ⟨rfl,b1,i1,d1⟩
    rw [show min k n=k by omega] at i1 d1
    have hk:k<a₀.size:=by omega
    have sz:=b1.size
    have J:=SB.inj b1 hr
    have rk:Rk ρ (arrOf st1) k=k:=d1 k (Nat.le_refl _) (by omega)
    have lo:∀ m,m<k→¬ K (arrOf st1) k<K (arrOf st1) m→VLt ρ (arrOf st1) m k:=fun m hm c=>by
      have:=J.below d1 hm (by omega)
      unfold VLt
      omega
    refine wpS_bind (wpS_mono (wpS_forRange (I:=fun x c st2=>st2=st1∧∃ l r,c=(none,l,r)∧l≤r∧r≤k∧r - l≤k - x∧(∀ i,i<l→VLt ρ (arrOf st1) i k)∧(∀ i,r≤i→i<k→VLt ρ (arrOf st1) k i))
      (Q:=fun c st2=>st2=st1∧∃ l r,c=(none,l,r)∧l≤k∧(∀ i,i<l→VLt ρ (arrOf st1) i k)∧(∀ i,l≤i→i<k→VLt ρ (arrOf st1) k i)) ?iturn ?ilast ?ifirst) ?iafter)
    case ifirst=>exact ⟨rfl,0,k,rfl,by omega,by omega,by omega,fun i hi=>absurd hi (by omega),fun i p q=>absurd q (by omega)⟩
    case ilast =>
      rintro c st2 ⟨rfl,l,r,rfl,hlr,hrk,hm,u1,u2⟩
      have e:l=r:=by omega
      subst e
      exact ⟨rfl,l,l,rfl,hrk,u1,u2⟩
    case iturn =>
      rintro x c st2 _ hxk ⟨rfl,l,r,rfl,hlr,hrk,hm,u1,u2⟩
      dsimp only
      by_cases hge:l ≥ r
      · rw [if_pos hge]
        have e:l=r:=by omega
        subst e
        exact wpS_pure ⟨rfl,l,l,rfl,hrk,u1,u2⟩
      · rw [if_neg hge]
        refine wpS_bind (wpS_ltK b1 h0 hk (by omega) ?_)
        by_cases c:K (arrOf st2) k<K (arrOf st2) ((l+r) / 2)
        · simp only [c,decide_true,if_true]
          refine wpS_pure ⟨rfl,l,(l+r) / 2,rfl,by omega,by omega,by omega,u1,fun i p q=>?_⟩
          by_cases e:i=(l+r) / 2
          · subst e; exact .inl c
          · exact VLt.trans (.inl c) (i1 _ _ (by omega) q)
        · simp only [c,decide_false,Bool.false_eq_true,if_false]
          refine wpS_pure ⟨rfl,(l+r) / 2+1,r,rfl,by omega,by omega,by omega,fun i p=>?_,u2⟩
          have v:=lo _ (by omega) c
          by_cases e:i=(l+r) / 2
          · subst e; exact v
          · exact VLt.trans (i1 _ _ (by omega) (by omega)) v
    case iafter =>
      rintro c st2 ⟨rfl,l,r,rfl,hlk,u1,u2⟩
      show wpS _ _ _ _ (do moveDown' k l; pure (ForInStep.yield (none,()))) _ _
      rw [moveDown'_eq]
      refine wpS_bind (wpS_modify (wpS_pure ⟨rfl,b1.setArr (bubble_perm _ _ _),?_,?_⟩))
      · rw [show min (k+1) n=k+1 by omega]
        have hks:k<(arrOf st2).size:=by omega
        intro i j hij hj
        show VLt ρ (bubble (arrOf st2) k (k - l)) i j
        unfold VLt
        rw [K_bubble hks (by omega),K_bubble hks (by omega),Rk_bubble hks (by omega),Rk_bubble hks (by omega),show k - (k - l)=l by omega]
        by_cases a1:i=l
        · have b1':¬ j=l:=by omega
          have b2':l<j∧j≤k:=by omega
          rw [if_pos a1,if_pos a1,if_neg b1',if_neg b1',if_pos b2',if_pos b2']
          exact u2 _ (by omega) (by omega)
        · rw [if_neg a1,if_neg a1]
          by_cases a2:j=l
          · have b1':¬ (l<i∧i≤k):=by omega
            rw [if_pos a2,if_pos a2,if_neg b1',if_neg b1']
            exact u1 _ (by omega)
          · rw [if_neg a2,if_neg a2]
            by_cases a3:l<i∧i≤k
            · have b1':l<j∧j≤k:=by omega
              rw [if_pos a3,if_pos a3,if_pos b1',if_pos b1']
              exact i1 _ _ (by omega) (by omega)
            · rw [if_neg a3,if_neg a3]
              by_cases a4:l<j∧j≤k
              · rw [if_pos a4,if_pos a4]
                by_cases a5:i<j - 1
                · exact i1 _ _ a5 (by omega)
                · exfalso; omega
              · rw [if_neg a4,if_neg a4]
                exact i1 _ _ (by omega) (by omega)
      · rw [show min (k+1) n=k+1 by omega]
        intro i hi hs'
        have hs2:i<(arrOf st2).size:=by
          have:(arrOf (setArr st2 (bubble (arrOf st2) k (k - l)))).size=(arrOf st2).size:=bubble_size _ _ _
          omega
        show Rk ρ (bubble (arrOf st2) k (k - l)) i=i
        rw [Rk_bubble (by omega) (by omega),if_neg (by omega),if_neg (by omega)]
        exact d1 i (by omega) hs2
theorem asc_ok {st:SortSt} {a nrem:Nat} {Q:AscSt→SortSt→Prop} (h0:IntKeys a₀) (hr:Idn ρ a₀ 0) (hn:nrem≤a₀.size) (ha:1≤a) (han:a≤nrem) (hB:SBase a₀ st) (hs:Inc ρ (arrOf st) a) (hI:Idn ρ (arrOf st) a)
    (h:∀ n,a≤n→n≤nrem→Inc ρ (arrOf st) n→(n=nrem∨K (arrOf st) n<K (arrOf st) (n - 1))→Q (none,n) st):wpS (model prog w) A E s (ascLoop a nrem) Q st:=by
  unfold ascLoop
  have sz:=hB.size
  have J:=SB.inj hB hr
  refine wpS_forRange (I:=fun x c st1=>st1=st∧c=(none,x)∧Inc ρ (arrOf st) x) ?turn ?last ⟨rfl,rfl,hs⟩
  case last =>
    rintro c st1 ⟨rfl,rfl,i1⟩
    rw [show max a nrem=nrem by omega] at i1 ⊢
    exact h nrem han (Nat.le_refl _) i1 (.inl rfl)
  case turn =>
    rintro x c st1 hax hxn ⟨rfl,rfl,i1⟩
    dsimp only
    refine wpS_bind (wpS_ltK hB h0 (by omega) (by omega) ?_)
    by_cases c:K (arrOf st1) x<K (arrOf st1) (x - 1)
    · simp only [c,decide_true,if_true]
      exact wpS_pure (h x hax (by omega) i1 (.inr c))
    · simp only [c,decide_false,Bool.false_eq_true,if_false]
      refine wpS_pure ⟨rfl,rfl,fun i j hij hj=>?_⟩
      by_cases hjx:j<x
      · exact i1 i j hij hjx
      · have ej:j=x:=by omega
        subst ej
        have dx:=hI.mono hax
        have r1:=J.below dx (i:=j - 1) (by omega) (by omega)
        have r2:=dx j (Nat.le_refl _) (by omega)
        have v:VLt ρ (arrOf st1) (j - 1) j:=by unfold VLt; omega
        by_cases e:i=j - 1
        · subst e; exact v
        · exact VLt.trans (i1 i (j - 1) (by omega) (by omega)) v
theorem tail_ok {st:SortSt} {n nrem:Nat} {Q:Option Nat→SortSt→Prop} (h0:IntKeys a₀) (hr:Idn ρ a₀ 0) (hn:nrem≤a₀.size) (h1:1≤n) (hnn:n≤nrem) (hB:SBase a₀ st) (hs:Dec ρ (arrOf st) n) (hI:Idn ρ (arrOf st) n)
    (h:∀ m st',SBase a₀ st'→1≤m→m≤nrem→Inc ρ (arrOf st') m→Idn ρ (arrOf st') m→Q (some m) st'):wpS (model prog w) A E s (tail3 n nrem) Q st:=by
  unfold tail3
  have sz:=hB.size
  refine wpS_bind (wpS_reverse ?_)
  have b1:SBase a₀ (setArr st (mirror (arrOf st) 0 n ((n - 0) / 2))):=hB.setArr (mirror_perm _ _ _ _)
  have d1:Idn ρ (mirror (arrOf st) 0 n ((n - 0) / 2)) n:=fun i hi hs'=>by
    rw [mirror_size] at hs'
    rw [Rk_mirror (by omega),if_neg (by omega)]
    exact hI i hi hs'
  refine wpS_bind (asc_ok h0 hr hn h1 hnn b1 ?_ d1 fun m m1 m2 i2 _=>wpS_pure (h m _ b1 (by omega) m2 i2 (d1.mono m1)))
  intro i j hij hj
  show VLt ρ (mirror (arrOf st) 0 n ((n - 0) / 2)) i j
  unfold VLt
  rw [K_mirror (by omega),K_mirror (by omega),Rk_mirror (by omega),Rk_mirror (by omega),if_pos (by omega),if_pos (by omega),if_pos (by omega),if_pos (by omega)]
  exact hs _ _ (by omega) (by omega)
structure DI (ρ:Keyed→Nat) (xs:Array Keyed) (x q:Nat):Prop where
  l:q+1≤x
  sz:x≤xs.size
  d:Dec ρ xs (x - (q+1))
  u:∀ i j,i<x - (q+1)→x - (q+1)≤j→j<x→K xs j<K xs i
  e:∀ i,x - (q+1)≤i→i<x→K xs i=K xs (x - 1)
  f:Idn ρ xs (x - (q+1))
theorem DI.dec0 {xs:Array Keyed} {x:Nat} (h:DI ρ xs x 0):Dec ρ xs x:=fun i j hij hj=>by
  by_cases c:j<x - (0+1)
  · exact h.d i j hij c
  · exact .inl (h.u i j (by omega) (by omega) hj)
theorem DI.rev {xs:Array Keyed} {x q:Nat} (h:DI ρ xs x q):Dec ρ (mirror xs (x - (q+1)) x ((x - (x - (q+1))) / 2)) x∧Idn ρ (mirror xs (x - (q+1)) x ((x - (x - (q+1))) / 2)) x:=by
  have hl:=h.l
  have hz:=h.sz
  refine ⟨fun i j hij hj=>?_,fun i hi hs=>?_⟩
  · have ke:=K_mirror_equal (i:=x - (q+1)) hz h.e
    unfold VLt
    rw [ke,ke,Rk_mirror hz,Rk_mirror hz]
    by_cases c1:j<x - (q+1)
    · rw [if_neg (by omega),if_neg (by omega)]
      exact h.d i j hij c1
    · by_cases c2:i<x - (q+1)
      · exact .inl (h.u i j c2 (by omega) hj)
      · rw [if_pos (by omega),if_pos (by omega)]
        refine .inr ⟨(h.e j (by omega) hj).trans (h.e i (by omega) (by omega)).symm,?_⟩
        rw [h.f _ (by omega) (by omega),h.f _ (by omega) (by omega)]
        omega
  · rw [mirror_size] at hs
    rw [Rk_mirror hz,if_neg (by omega)]
    exact h.f i (by omega) hs
theorem DI.of {xs:Array Keyed} {x:Nat} (hx:1≤x) (hz:x<xs.size) (hd:Dec ρ xs x) (hf:Idn ρ xs x) (hk:K xs x<K xs (x - 1)):DI ρ xs (x+1) 0:=by
  refine ⟨by omega,by omega,hd,fun i j hi hj hj'=>?_,fun i hi hi'=>?_,hf⟩
  · have ej:j=x:=by omega
    subst ej
    by_cases e:i=j - 1
    · subst e; exact hk
    · have v:=hd i (j - 1) (by omega) (by omega)
      unfold VLt at v
      omega
  · have ei:i=x:=by omega
    subst ei
    rfl
theorem DI.more {xs:Array Keyed} {x q:Nat} (h:DI ρ xs x q) (hz:x<xs.size) (hk:K xs x=K xs (x - 1)):DI ρ xs (x+1) (q+1):=by
  have hl:=h.l
  have e0:x+1 - (q+1+1)=x - (q+1):=by omega
  refine ⟨by omega,by omega,by rw [e0]; exact h.d,fun i j hi hj hj'=>?_,fun i hi hi'=>?_,by rw [e0]; exact h.f⟩
  · rw [e0] at hi hj
    by_cases c:j<x
    · exact h.u i j hi hj c
    · have ej:j=x:=by omega
      subst ej
      rw [hk]
      exact h.u i (j - 1) hi (by omega) (by omega)
  · rw [show x+1 - 1=x by omega]
    by_cases c:i<x
    · rw [hk]; exact h.e i (by omega) c
    · have ei:i=x:=by omega
      subst ei
      rfl
theorem desc_ok {st:SortSt} {n nrem:Nat} {Q:DescSt→SortSt→Prop} (h0:IntKeys a₀) (hn:nrem≤a₀.size) (hnn:n≤nrem) (hB:SBase a₀ st) (hs:DI ρ (arrOf st) n 0)
    (h:∀ m q st',SBase a₀ st'→m≤nrem→DI ρ (arrOf st') m q→Q (none,m,q) st'):wpS (model prog w) A E s (descLoop n nrem) Q st:=by
  unfold descLoop
  refine wpS_forRange (I:=fun x c st1=>∃ q,c=(none,x,q)∧SBase a₀ st1∧DI ρ (arrOf st1) x q) ?turn ?last ⟨0,rfl,hB,hs⟩
  case last =>
    rintro c st1 ⟨q,rfl,b1,d1⟩
    rw [show max n nrem=nrem by omega] at d1 ⊢
    exact h nrem q st1 b1 (Nat.le_refl _) d1
  case turn =>
    rintro x c st1 hax hxn ⟨q,rfl,b1,d1⟩
    dsimp only
    have sz:=b1.size
    have hl:=d1.l
    refine wpS_bind (wpS_ltK b1 h0 (by omega) (by omega) ?_)
    by_cases c:K (arrOf st1) x<K (arrOf st1) (x - 1)
    · simp only [c,decide_true,if_true]
      by_cases hq:q > 0
      · rw [if_pos hq]
        obtain ⟨r1,r2⟩:=d1.rev
        refine wpS_bind (wpS_reverse (wpS_pure ⟨0,rfl,b1.setArr (mirror_perm _ _ _ _),DI.of (by omega) (by show x<(mirror _ _ _ _).size; rw [mirror_size]; omega) r1 r2 ?_⟩))
        show K (mirror _ _ _ _) x<K (mirror _ _ _ _) (x - 1)
        rw [K_mirror_equal d1.sz d1.e,K_mirror_equal d1.sz d1.e]
        exact c
      · rw [if_neg hq]
        have e:q=0:=by omega
        subst e
        exact wpS_pure ⟨0,rfl,b1,DI.of (by omega) (by omega) d1.dec0 (d1.f.mono (by omega)) c⟩
    · simp only [c,decide_false,Bool.false_eq_true,if_false]
      refine wpS_bind (wpS_ltK b1 h0 (by omega) (by omega) ?_)
      by_cases c2:K (arrOf st1) (x - 1)<K (arrOf st1) x
      · simp only [c2,decide_true,if_true]
        exact wpS_pure (h x q st1 b1 (by omega) d1)
      · simp only [c2,decide_false,Bool.false_eq_true,if_false]
        exact wpS_pure ⟨q+1,rfl,b1,d1.more (by omega) (by omega)⟩
theorem part_ok {st:SortSt} {n nrem:Nat} {Q:Option Nat→SortSt→Prop} (h0:IntKeys a₀) (hr:Idn ρ a₀ 0) (hn:nrem≤a₀.size) (hnn:n+1≤nrem) (hB:SBase a₀ st) (hs:DI ρ (arrOf st) (n+1) 0)
    (h:∀ m st',SBase a₀ st'→1≤m→m≤nrem→Inc ρ (arrOf st') m→Idn ρ (arrOf st') m→Q (some m) st'):wpS (model prog w) A E s (descPart n nrem) Q st:=by
  unfold descPart
  refine wpS_bind (wpS_lift (wpAny_rule ⟨rfl,?_⟩))
  refine wpS_bind (desc_ok h0 hn hnn hB hs fun m q st1 b1 m2 d1=>?_)
  dsimp only
  have hl:=d1.l
  by_cases hq:q > 0
  · rw [if_pos hq]
    obtain ⟨r1,r2⟩:=d1.rev
    exact wpS_bind (wpS_reverse (tail_ok h0 hr hn (by omega) m2 (b1.setArr (mirror_perm _ _ _ _)) r1 r2 h))
  · rw [if_neg hq]
    have e:q=0:=by omega
    subst e
    exact tail_ok h0 hr hn (by omega) m2 b1 d1.dec0 (d1.f.mono (by omega)) h
theorem count_ok {st:SortSt} {nrem:Nat} {Q:Option Nat→SortSt→Prop} (h0:IntKeys a₀) (hr:Idn ρ a₀ 0) (hn:nrem≤a₀.size) (h1:1≤nrem) (hB:SBase a₀ st) (hI:Idn ρ (arrOf st) 0)
    (h:∀ m st',SBase a₀ st'→1≤m→m≤nrem→Inc ρ (arrOf st') m→Idn ρ (arrOf st') m→Q (some m) st'):wpS (model prog w) A E s (countRun' 0 nrem) Q st:=by
  rw [countRun0_eq]
  have sz:=hB.size
  refine wpS_bind (asc_ok h0 hr hn (Nat.le_refl 1) h1 hB (fun i j hij hj=>absurd hj (by omega)) (hI.mono (Nat.zero_le _)) fun n n1 n2 i1 hor=>?_)
  dsimp only
  by_cases e:n=nrem
  · rw [if_pos (by simpa using e)]
    exact wpS_pure (h n st hB n1 n2 i1 (hI.mono (Nat.zero_le _)))
  · rw [if_neg (by simpa using e)]
    have lt:K (arrOf st) n<K (arrOf st) (n - 1):=hor.resolve_left e
    by_cases g:n > 1
    · rw [if_pos g]
      refine wpS_bind (wpS_ltK hB h0 (by omega) (by omega) ?_)
      by_cases c:K (arrOf st) 0<K (arrOf st) (n - 1)
      · simp only [c,decide_true,if_true]
        exact wpS_pure (h n st hB n1 n2 i1 (hI.mono (Nat.zero_le _)))
      · simp only [c,decide_false,Bool.false_eq_true,if_false]
        have all:∀ k,0≤k→k<n→K (arrOf st) k=K (arrOf st) (n - 1):=by
          intro k _ hk
          have a1:k=0∨VLt ρ (arrOf st) 0 k:=by
            by_cases z:k=0
            · exact .inl z
            · exact .inr (i1 0 k (by omega) hk)
          have a2:k=n - 1∨VLt ρ (arrOf st) k (n - 1):=by
            by_cases z:k=n - 1
            · exact .inl z
            · exact .inr (i1 k (n - 1) (by omega) (by omega))
          have a3:=i1 0 (n - 1) (by omega) (by omega)
          unfold VLt at a1 a2 a3
          rcases a1 with a1 | a1
          · subst a1; omega
          · rcases a2 with a2 | a2
            · subst a2; rfl
            · omega
        have ke:=K_mirror_equal (xs:=arrOf st) (i:=0) (j:=n) (by omega) all
        refine wpS_bind (wpS_reverse (part_ok h0 hr hn (by omega) (hB.setArr (mirror_perm _ _ _ _)) (DI.of (by omega) (by show n<(mirror _ _ _ _).size; rw [mirror_size]; omega) (fun i j hij hj=>?_) (fun i hi hs=>?_) ?_) h))
        · show VLt ρ (mirror (arrOf st) 0 n ((n - 0) / 2)) j i
          unfold VLt
          rw [ke,ke,all i (by omega) (by omega),all j (by omega) hj,Rk_mirror (by omega),Rk_mirror (by omega),if_pos (by omega),if_pos (by omega),hI _ (by omega) (by omega),hI _ (by omega) (by omega)]
          omega
        · have hs':i<(mirror (arrOf st) 0 n ((n - 0) / 2)).size:=hs
          rw [mirror_size] at hs'
          show Rk ρ (mirror (arrOf st) 0 n ((n - 0) / 2)) i=i
          rw [Rk_mirror (by omega),if_neg (by omega)]
          exact hI i (by omega) hs'
        · show K (mirror (arrOf st) 0 n ((n - 0) / 2)) n<K (mirror (arrOf st) 0 n ((n - 0) / 2)) (n - 1)
          rw [ke,ke]
          exact lt
    · rw [if_neg g]
      have en:n=1:=by omega
      subst en
      exact part_ok h0 hr hn (by omega) hB (DI.of (by omega) (by omega) (fun i j hij hj=>absurd hj (by omega)) (hI.mono (Nat.zero_le _)) lt) h
def SEnd (ρ:Keyed→Nat) (a₀:Array Keyed) (st:SortSt):Prop:=(arrOf st).Perm a₀∧failedOf st=none∧pendingOf st=#[(0,a₀.size,0)]∧Inc ρ (arrOf st) a₀.size
theorem SEnd.of {st:SortSt} (hB:SBase a₀ st) (hs:Inc ρ (arrOf st) a₀.size):SEnd ρ a₀ (setPending st ((pendingOf st).push (0,a₀.size,0))) :=
  ⟨hB.perm,hB.failed,by show (pendingOf st).push _=_; rw [hB.pend]; rfl,hs⟩
theorem runs_ok {st:SortSt} {Q:Unit→SortSt→Prop} (h0:IntKeys a₀) (hr:Idn ρ a₀ 0) (hB:SBase a₀ st) (hI:Idn ρ (arrOf st) 0) (h2:2≤a₀.size) (h64:a₀.size<64)
    (h:∀ st',(arrOf st').Perm a₀→failedOf st'=none→Inc ρ (arrOf st') a₀.size→Q () st'):wpS (model prog w) A E s sortRuns' Q st:=by
  rw [sortRuns'_eq]
  refine wpS_bind (wpS_get ?_)
  dsimp only
  have mr:minRun' a₀.size a₀.size 0=a₀.size:=by
    obtain ⟨f,hf⟩:∃ f,a₀.size=f+1:=⟨a₀.size - 1,by omega⟩
    have e:minRun' (f+1) a₀.size 0=a₀.size:=by
      rw [minRun'_succ,if_pos h64]
      rfl
    rwa [← hf] at e
  simp only [hB.size,mr]
  refine wpS_bind (wpS_mono (wpS_forRange
    (I:=fun x c st1=>(x=0∧c=(none,0)∧SBase a₀ st1∧Idn ρ (arrOf st1) 0)∨(1≤x∧c=(none,a₀.size)∧SEnd ρ a₀ st1))
    (Q:=fun c st1=>c=(none,a₀.size)∧SEnd ρ a₀ st1) ?turn ?last (.inl ⟨rfl,rfl,hB,hI⟩)) ?after)
  case last =>
    rintro c st1 (⟨hx,_⟩ | ⟨_,hc,hD⟩)
    · omega
    · exact ⟨hc,hD⟩
  case turn =>
    rintro x c st1 _ hx (⟨rfl,rfl,b1,i1⟩ | ⟨hx1,rfl,hD⟩)
    · dsimp only
      rw [if_neg (by omega)]
      simp only [Nat.sub_zero,Nat.min_self,Nat.zero_add]
      refine wpS_bind (count_ok h0 hr (Nat.le_refl _) (by omega) b1 i1 fun m st2 b2 m1 m2 s2 d2=>?_)
      dsimp only
      by_cases lt:m<a₀.size
      · rw [if_pos lt]
        refine wpS_bind (wpS_lift (wpAny_rule ⟨rfl,?_⟩))
        refine wpS_bind (bin_ok h0 hr (Nat.le_refl _) m2 m1 b2 s2 d2 fun st3 b3 s3=>?_)
        simp only [Bool.not_true,Bool.false_eq_true,if_false]
        refine wpS_bind (wpS_get ?_)
        have hb:(pendingOf st3).back?=none:=by
          rw [b3.pend]
          rfl
        rw [hb]
        dsimp only
        exact wpS_bind (wpS_modify (wpS_pure (.inr ⟨by omega,rfl,SEnd.of b3 s3⟩)))
      · rw [if_neg lt]
        have em:m=a₀.size:=by omega
        subst em
        refine wpS_bind (wpS_get ?_)
        have hb:(pendingOf st2).back?=none:=by
          rw [b2.pend]
          rfl
        rw [hb]
        dsimp only
        exact wpS_bind (wpS_modify (wpS_pure (.inr ⟨by omega,rfl,SEnd.of b2 s2⟩)))
    · dsimp only
      rw [if_pos (Nat.le_refl _)]
      exact wpS_pure ⟨rfl,hD⟩
  case after =>
    rintro c st1 ⟨rfl,hD⟩
    dsimp only
    refine wpS_bind (wpS_mono (wpS_forRange (I:=fun _ c st2=>st2=st1∧c=(none,())) (Q:=fun c st2=>st2=st1∧c=(none,())) ?_ (fun _ _ hh=>hh) ⟨rfl,rfl⟩) ?_)
    · rintro x c st2 _ _ ⟨rfl,rfl⟩
      refine wpS_bind (wpS_get ?_)
      rw [if_pos (by rw [hD.2.2.1]; exact Nat.le_refl 1)]
      exact wpS_pure ⟨rfl,rfl⟩
    · rintro c st2 ⟨rfl,rfl⟩
      exact wpS_pure (h _ hD.1 hD.2.1 hD.2.2.2)
end
end L2.Stb
set_option Elab.async false
set_option linter.all false
set_option maxRecDepth 100000
set_option maxHeartbeats 4000000
namespace L2
open PySem PySem.Spec PyProof.Rows
def BMod (base:Heap) (mg:Str→Option Value):Prop:=∃ bm o,mg "__builtins__" = some (.ref bm)∧bm≠builtinsNs∧bm≠mainGlobals∧base.get? bm=some o∧o.cls=.type "module" ∧ o.dict=some builtinsNs∧o.data=.plain
section
variable {X:Cx} {pins:List (Addr×Obj)} {σ:St} {H:Hp} {s:Shared}
theorem Inv.grown {P c':Addr} {pos:Pos} {qual:Str} {ps:Array Value} {h':Heap} {tk:Nat} (I:Inv X pins σ H s) (hP:H P=some (.tbl pos qual)) (hx:Heap.ExtBut P s.heap h') (hge:s.heap.objs.size≤c') (hrec:h'.CodeRec (.ref c') qual)
    (htr:TriplesOk ps.toList) (hnf:codeAmong pos ps.toList=none) (htb:h'.get? P=some { cls:=.none,data:=.fields (ps++#[rawInt pos.line,rawInt pos.col,.ref c']) }) :
    ∃ oc vs t,h'.get? c'=some oc∧oc.data=.fields vs∧vs[1]?=some (.str qual t)∧Inv X pins σ (upd H c' (.frz oc (.own P))) { s with heap:=h',toks:=tk }:=by
  obtain ⟨c,oc,vs,t,z,hoc,hd,hv⟩:=hrec
  cases z
  have fr:H c'=none:=I.hok.fresh hge
  have nP:∀ b,H b=none→b≠P:=fun b n z=>by rw [z,hP] at n; cases n
  have nc:∀ b u,H b=some u→b≠c':=fun b u e=>ne_of_none e fr
  have nh:∀ b o,s.heap.get? b=some o→b≠c':=fun b o e=>Nat.ne_of_lt (Nat.lt_of_lt_of_le (Heap.lt_size e) hge)
  have cP:c'≠P:=fun z=>by rw [z,hP] at fr; cases fr
  refine ⟨oc,vs,t,hoc,hd,hv,I.step (g':=s.gens) (d':=s.drawn) (t':=tk) (ch:=[]) (h':=h') (H':=upd H c' (.frz oc (.own P))) (fun _ z=>nomatch z) (fun b o _ _ _ e n=>hx b o (nP b n) e) (fun b o _ _ _ e n=>⟨o.slots,hx b o (nP b n) e⟩)
    (fun b o _ e n=>by rw [upd_ne (nh b o e)]; exact n) (fun b o _ e=>?_) (fun b xs e=>by rw [upd_ne (nc b _ e)]; exact e) (fun b o u e=>by rw [upd_ne (nc b _ e)]; exact e) (fun b p q e=>by rw [upd_ne (nc b _ e)]; exact e) (fun m hm=>?_) (fun b u e=>?_) I.bare⟩
  · by_cases hb:b=P
    · subst hb; exact ⟨_,htb⟩
    · exact ⟨o,hx b o hb e⟩
  · obtain ⟨o,es,ep,ho,r⟩:=hm
    exact ⟨o,es,ep,hx _ o (nP _ I.free) ho,r⟩
  · by_cases hb:b=c'
    · subst hb
      rw [upd_same] at e
      cases e
      exact ⟨hoc,_,hoc⟩
    · rw [upd_ne hb] at e
      by_cases hbP:b=P
      · subst hbP
        rw [hP] at e
        cases e
        have e1:(ps++#[rawInt pos.line,rawInt pos.col,Value.ref c']).toList=ps.toList++[rawInt pos.line,rawInt pos.col,.ref c']:=by simp
        refine ⟨_,htb,?_,fun cv hc=>?_⟩
        · rw [e1]; exact TriplesOk_snoc _ _ _ _ htr
        · rw [e1,codeAmong_snoc _ htr hnf] at hc
          cases hc
          exact ⟨c',oc,vs,t,rfl,upd_same,hd,hv⟩
      · refine (I.hok b u e).stay (fun d v hd' q=>hx d v ?_ q) (fun d q=>by rw [upd_ne (nc d _ q)]; exact q) (fun d xs q=>by rw [upd_ne (nc d _ q)]; exact q) fun d oz q=>by rw [upd_ne (nc d _ q)]; exact q
        rcases hd' with rfl | hd'
        · exact hbP
        · intro z; rw [z,hP] at hd'; cases hd'
structure LamOk (X:Cx) (scope:Scope) (x:Str) (fr:List Str) (js:List Nat):Prop where
  kind:scope.kind=.function
  co:scope.isCoroutine=false
  gen:scope.isGenerator=false
  nocell:∀ y∈scope.names,y.2≠.cell
  par:scope.names.lookup x=some .local
  free:∀ y∈scope.names,y.2=.free→X.env.kindOf y.1=some .cell∨X.env.kindOf y.1=some .free
  len:fr.length=js.length
  js:∀ (k j:Nat),js[k]?=some j→fr[k]?=X.N[j]?
  jf:∀ (k:Nat) (y:Str),fr[k]?=some y→scope.names.lookup y=some .free
def cxLam (X:Cx) (A:Around) (N:List Str) (qual:Str) (scope:Scope) (f:Addr) (cd:Value) (cl:List (Str×Addr)) (s:Shared) (H:Hp):Cx where
  prog:=X.prog
  w:=X.w
  K:=X.K
  mg:=X.mg
  base:=X.base
  A:=A.deeper (PySem.W.envX qual scope s.heap.objs.size f cd cl)
  N:=N
  s₀:=s
  H₀:=H
  env:=PySem.W.envX qual scope s.heap.objs.size f cd cl
  outer:=X.stack
  stack:=PySem.W.envX qual scope s.heap.objs.size f cd cl :: X.stack
  ex:=[]
  calm:=true
  fn:=fun _=>false
  pn:=[]
  xe:=fun _ _=>False
theorem inv_lam {A:Around} {x:Str} {fr:List Str} {js:List Nat} {qual:Str} {scope:Scope} {f:Addr} {cd:Value} {cl:List (Str×Addr)} {s1:Shared} {u:Value} {v:V} (c:LamOk X scope x fr js) (I:Inv X pins σ H s) (hA:A.frames=some X.stack) (hh:A.handled=none)
    (cl1:∀ x c,cl.lookup x=some c→X.env.cells.lookup x=some c) (cl2:∀ p∈scope.names,p.2=.free→∃ c,cl.lookup p.1=some c) (r:RelV v u)
    (hn:s1.heap.Ns s.heap.objs.size fun y=>[(x,u)].reverse.lookup y) (hk:∀ b o,s.heap.get? b=some o→s1.heap.get? b=some o) (hos:s1.os=s.os) (hg:s1.gens=s.gens) :
    Inv (cxLam X A (x :: fr) qual scope f cd cl s H) [] (some v :: js.map fun j=>(σ[j]?).join) H s1:=by
  have noA:∀ b:Addr,b∉(cxLam X A (x :: fr) qual scope f cd cl s H).ex:=fun b z=>absurd (show b∈([]:List Addr) from z) (by simp)
  have ok:(cxLam X A (x :: fr) qual scope f cd cl s H).Ok:=by
    refine ⟨I.ok.mod,c.kind,rfl,rfl,Nat.le_refl _,fun y z d e1 e2=>I.ok.inj y z d (cl1 _ _ e1) (cl1 _ _ e2),fun y hy=>?_,fun y d z _=>absurd z (by simp [cxLam]),fun _=>hh,Around.frames_deeper hA,.inr ⟨rfl,rfl⟩,fun b z=>absurd z (noA b),I.bs,Nat.le_trans I.ok.bsz I.sz,fun b _ _=>noA b,fun b z=>absurd z (noA b),I.stack,I.stkFree⟩
    have hy:scope.names.lookup y=some .cell∨scope.names.lookup y=some .free:=hy
    rcases hy with hy | hy
    · exact absurd rfl (c.nocell _ (lookup_mem hy))
    · exact cl2 _ (lookup_mem hy) rfl
  refine ⟨ok,hos,by rw [hg]; exact I.bare,Un.kept hk,⟨_,hn,fun i y v' e1 e2 e3=>?_⟩,fun y d e=>?_,I.hok.fresh (Nat.le_refl _),fun y d e=>I.freeC y d (cl1 y d e),fun p hp=>absurd (show p∈([]:List (Addr×Obj)) from hp) (by simp),I.hok.kept hk,?_⟩
  · cases i with
    | zero =>
      have e1':x=y:=by simpa [cxLam] using e1
      have e2':v=v':=by simpa using e2
      subst e1'
      subst e2'
      refine ⟨u,r,.inl ⟨c.par,?_⟩⟩
      show ([(x,u)]:List (Str×Value)).reverse.lookup x=some u
      simp
    | succ k =>
      have e1':fr[k]?=some y:=by simpa [cxLam] using e1
      rw [List.getElem?_cons_succ,List.getElem?_map] at e2
      cases q:js[k]? with
      | none=>rw [q] at e2; cases e2
      | some j =>
        rw [q] at e2
        have e2':(σ[j]?).join=some v':=by simpa using e2
        have e4:σ[j]?=some (some v'):=by
          cases z:σ[j]? with
          | none=>rw [z] at e2'; cases e2'
          | some o=>rw [z] at e2'; rw [show o=some v' from e2']
        have hXN:X.N[j]?=some y:=(c.js k j q).symm.trans e1'
        have hfr:=c.jf k y e1'
        have hk2:=c.free _ (lookup_mem hfr) rfl
        have vis:Vis X.env.scope y:=by
          rcases hk2 with z | z
          · exact .inr (.inl z)
          · exact .inr (.inr z)
        obtain ⟨m,_,hl⟩:=I.loc
        obtain ⟨u',r',l⟩:=hl j y v' hXN e4 vis
        refine ⟨u',r',?_⟩
        rcases l with ⟨z,_⟩ | ⟨_,d,e,⟨od,ho,hd⟩⟩
        · rcases hk2 with y' | y'
          · rw [show X.env.kindOf y=_ from z] at y'; cases y'
          · rw [show X.env.kindOf y=_ from z] at y'; cases y'
        · obtain ⟨d',e'⟩:=cl2 _ (lookup_mem hfr) rfl
          have z':=cl1 _ _ e'
          have:d'=d:=by rw [e] at z'; exact (Option.some.inj z').symm
          subst this
          exact .inr ⟨.inr hfr,d',e',⟨od,hk _ _ ho,hd⟩⟩
  · obtain ⟨v',⟨o,ho,hd⟩⟩:=I.cell y d (cl1 y d e)
    exact ⟨v',o,hk _ _ ho,hd⟩
  · show (some v :: _:List (Option V)).length=(x :: fr).length
    rw [List.length_cons,List.length_cons,List.length_map,c.len]
theorem lam_call {A:Around} {x:Str} {fr:List Str} {js:List Nat} {name qual:Str} {params:Arguments} {body:PySem.Expr} {scope:Scope} {f:Addr} {pm cd ct:Value} {cl:List (Str×Addr)} {u:Value} {v:V} {te:TE} {Q:VK} {E:Value→Shared→Prop} {of:Obj} (c:LamOk X scope x fr js) (I:Inv X pins σ H s)
    (hA:A.frames=some X.stack) (hh:A.handled=none) (hdep:A.depth<recursionLimit)
    (cl1:∀ x c,cl.lookup x=some c→X.env.cells.lookup x=some c) (cl2:∀ p∈scope.names,p.2=.free→∃ c,cl.lookup p.1=some c)
    (ho:s.heap.get? f=some of) (hof:of.data=.func (PySem.W.kla_fn name qual params body scope cl pm cd ct)) (hcd:s.heap.CodeRec cd qual)
    (hb:∀ u,bindArgs (PySem.W.kla_fn name qual params body scope cl pm cd ct) ⟨[u],[]⟩=pure [(x,u)]) (r:RelV v u)
    (he:∀ s,PE (cxLam X A (x :: fr) qual scope f cd cl s H) body te) (h:te (some v :: js.map fun j=>(σ[j]?).join) H Q) :
    wpAny (model X.prog X.w) A (call (.ref f) [u]) (EP X pins σ Q) E s:=by
  refine wpAny_call (codeAny_mono (R:=fun r s'=>∃ u',r=.ok (.ret u')∧CE X.stack X.prog X.w H s Q u' s') (PySem.W.kla_callFunE hdep ho hof c.co c.gen rfl hcd (by
    rw [hb u]
    refine wpAny_pure ?_
    refine wpAny_newFunctionEnv c.nocell (fun y hy=>by rw [List.mem_singleton.mp hy]; exact c.par) (fun h₁ hns hsb=>?_) c.kind
    have hk₁:∀ b o,s.heap.get? b=some o→h₁.get? b=some o:=fun b o e=>hsb.extBut b o (Nat.ne_of_lt (Heap.lt_size e)) (Heap.get?_push_of_some _ e)
    refine ⟨I.nolimit.keeps hk₁,?_⟩
    have J:=inv_lam (qual:=qual) (f:=f) (cd:=cd) (s1:={ s with heap:=h₁,toks:=s.toks+[(x,u)].length }) c I hA hh cl1 cl2 r hns hk₁ rfl rfl
    refine PySem.W.kla_codeExpr (wpAny_mono (he s [] _ _ H Q J h) (fun u' s' hq=>?_) fun _ _ z=>z.elim)
    obtain ⟨v',H',J',rv,q⟩:=hq
    exact ⟨u',rfl,v',H',J'.os,J'.bare,J'.base,J'.hok,rv,q⟩)) fun r s' hq=>?_)
  obtain ⟨u',rfl,hq⟩:=hq
  exact I.after hq
theorem lam_make {P c0:Addr} {x:Str} {fr:List Str} {js:List Nat} {params:Arguments} {body:PySem.Expr} {scope:Scope} {pos:Pos} {R:Value→Shared→Prop} (c:LamOk X scope x fr js) (I:Inv X pins σ H s) (hc0:X.env.code=.ref c0) (hcd:PySem.W.codeHdIn X.K c0 P=true)
    (bm:BMod X.base X.mg) (hP:H P=some (.tbl pos (X.env.qual ++ "<lambda>"))) (hd0:params.defaults=[]) (hk0:params.kw_defaults=[])
    (h:∀ f cl cd pm ct of H' s',Inv X pins σ H' s'→Same H H'→(∀ x c,cl.lookup x=some c→X.env.cells.lookup x=some c)→(∀ p∈scope.names,p.2=.free→∃ c,cl.lookup p.1=some c) → 
      H' f=some (.frz of (.own 0))→of.data=.func (PySem.W.kla_fn "<lambda>" (X.env.qual ++ "<lambda>") params body scope cl pm cd ct)→(∃ c' oc vs t,cd=.ref c'∧H' c'=some (.frz oc (.own P))∧oc.data=.fields vs∧vs[1]?=some (.str (X.env.qual ++ "<lambda>") t))→R (.ref f) s') :
    wpAny (model X.prog X.w) X.A (eval (.Lambda params body scope pos) X.env) R X.xe s:=by
  obtain ⟨cl,e1,cl1,_,cl2⟩:=closure_for (env:=X.env) scope.names [] (fun p hp hf=>I.ok.has _ (c.free p hp hf)) (fun x d e=>by simp at e)
  have hclos:closureFor scope X.env=pure cl:=by
    unfold closureFor
    refine (congrArg (fun z=>z >>= fun cs=>pure cs) e1).trans ?_
    rfl
  have CH:=PySem.W.codeHd_of_K I.kIn hcd
  obtain ⟨ps,hps,htr,hcode⟩:=(show ObjOk X.prog X.w H s.heap P (.tbl pos (X.env.qual ++ "<lambda>")) from I.hok P _ hP)
  have hg:=I.ok.mod.glob.keeps I.bk
  have hgP:mainGlobals≠P:=fun q=>by
    obtain ⟨o,es,ep,e,hd,_⟩:=hg
    rw [q,hps] at e; cases e; cases hd
  have hb:s.heap.BuiltinsAt X.mg P:=by
    obtain ⟨b,o,a1,a2,a3,a4,a5,a6,a7⟩:=bm
    have e:=I.bk _ _ a4
    exact ⟨b,o,a1,a2,a3,(fun z=>by rw [z,hps] at e; cases e; cases a5),e,a5,a6,a7⟩
  rw [arm_eval_Lambda,defaultsOf_eq,hd0,hk0]
  show wpAny _ _ (do let dv ← evalAll (evalEach [] X.env); let kdv ← holding dv (evalAllOpt []); makeFunction "<lambda>" (X.env.qual ++ "<lambda>") params (.expr body) scope X.env dv kdv [] pos pos.line) _ _ s
  refine wpAny_bind (evalAll_nil ?_)
  refine wpAny_bind (wpAny_holding (wpAny_pure ?_))
  cases hf:codeAmong pos ps.toList with
  | some cv =>
    obtain ⟨c',oc,vs,t,rfl,hH,hd,hv⟩:=hcode cv hf
    refine PySem.W.kla_makeFunctionHit hclos I.ok.glob hg hc0 CH hps htr hf hb fun ctv h' tk hk hsz=>?_
    have I1:=I.laid (a:=h'.objs.size) (t':=tk) (o:=.frz { cls:=.type "function",data:=.func (PySem.W.kla_fn "<lambda>" (X.env.qual ++ "<lambda>") params body scope cl ((X.mg "__name__").getD .none) (.ref c') ctv) } (.own 0)) (h':=h'.push { cls:=.type "function",data:=.func (PySem.W.kla_fn "<lambda>" (X.env.qual ++ "<lambda>") params body scope cl ((X.mg "__name__").getD .none) (.ref c') ctv) }) (fun b o e=>Heap.get?_push_of_some _ (hk b o e)) hsz ⟨Heap.get?_push_size _ rfl,_,Heap.get?_push_size _ rfl⟩
    have fr:=I.hok.fresh hsz
    exact h _ cl _ _ _ _ _ _ I1 (same_upd fr _) cl1 cl2 upd_same rfl ⟨c',oc,vs,t,rfl,by rw [upd_ne (ne_of_none hH fr)]; exact hH,hd,hv⟩
  | none =>
    refine PySem.W.kla_makeFunction hclos I.ok.glob hg hc0 CH hps htr hf hgP hb fun c' ctv h' tk hx hge hlt hrec htb=>?_
    obtain ⟨oc,vs,t,hoc,hd,hv,I1⟩:=I.grown (tk:=tk) hP hx hge hrec htr hf htb
    have fr:H c'=none:=I.hok.fresh hge
    have fr2:upd H c' (.frz oc (.own P)) h'.objs.size=none:=I1.hok.fresh (Nat.le_refl _)
    have I2:=I1.laid (a:=h'.objs.size) (t':=tk) (o:=.frz (PySem.W.kla_obj "<lambda>" (X.env.qual ++ "<lambda>") params body scope cl ((X.mg "__name__").getD .none) c' ctv) (.own 0)) (h':=h'.push (PySem.W.kla_obj "<lambda>" (X.env.qual ++ "<lambda>") params body scope cl ((X.mg "__name__").getD .none) c' ctv)) (fun b o e=>Heap.get?_push_of_some _ e) (Nat.le_refl _) ⟨Heap.get?_push_size _ rfl,_,Heap.get?_push_size _ rfl⟩
    exact h _ cl _ _ _ _ _ _ I2 ((same_upd fr _).trans (same_upd fr2 _)) cl1 cl2 upd_same rfl ⟨c',oc,vs,t,rfl,by rw [upd_ne (ne_of_none upd_same fr2)]; exact upd_same,hd,hv⟩
end
end L2
set_option Elab.async false
set_option linter.all false
set_option maxRecDepth 100000
set_option maxHeartbeats 4000000
namespace L2
open PySem PySem.Spec PyProof.Rows L2.Stb
def KLt (key:Int→Int) (ns:List Int) (a b:Int):Prop:=key a<key b∨(key a=key b∧ns.idxOf a<ns.idxOf b)
theorem vals_map {l:List Keyed} (h:∀ p∈l,∃ t,p.2=.int (numOf p.2) t):Vals ((l.map fun p=>numOf p.2).map V.int) (l.map (·.2)):=by
  induction l with
  | nil=>exact .nil
  | cons p r ih =>
    obtain ⟨t,e⟩:=h p List.mem_cons_self
    exact .cons ⟨t,e⟩ (ih fun q hq=>h q (List.mem_cons_of_mem _ hq))
theorem ints_get {vs:List Value} {ns:List Int} (h:IntsAre vs ns):∀ {i:Nat} {v:Value},vs[i]?=some v→∃ n t,ns[i]?=some n∧v=.int n t:=by
  induction h with
  | nil=>intro i v e; simp at e
  | cons n t _ ih =>
    intro i v e
    cases i with
    | zero=>exact ⟨n,t,rfl,by simpa using e.symm⟩
    | succ i=>exact ih (by simpa using e)
theorem idx_nd:∀ {ns:List Int},ns.Nodup→∀ {i:Nat} {n:Int},ns[i]?=some n→ns.idxOf n=i
  | [],_,_,_,e=>by simp at e
  | x :: r,nd,0,n,e=>by
    have e':x=n:=by simpa using e
    subst e'
    simp
  | x :: r,nd,i+1,n,e=>by
    obtain ⟨h1,h2⟩:=List.nodup_cons.mp nd
    have e':r[i]?=some n:=by simpa using e
    have ne:x≠n:=fun z=>h1 (z ▸ List.mem_of_getElem? e')
    rw [List.idxOf_cons,show (x == n)=false by simpa using ne]
    show r.idxOf n+1=i+1
    rw [idx_nd h2 e']
theorem sort_out {keys:Array Value} {vs:List Value} {ns:List Int} {key:Int→Int} (hk:IntsAre keys.toList (ns.map key)) (hv:IntsAre vs ns) (nd:ns.Nodup) :
    Idn (fun p=>ns.idxOf (numOf p.2)) (keys.zip vs.toArray) 0∧∀ xs:Array Keyed,xs.Perm (keys.zip vs.toArray)→Inc (fun p=>ns.idxOf (numOf p.2)) xs xs.size →
      ∃ os:List Int,Vals (os.map V.int) (xs.map (·.2)).toList∧os.Perm ns∧os.Pairwise (KLt key ns):=by
  have lk:keys.size=ns.length:=by have:=hk.length; rw [Array.length_toList,List.length_map] at this; omega
  have lv:vs.length=ns.length:=by have:=hv.length; omega
  have at0:∀ (i:Nat) (p:Keyed),(keys.zip vs.toArray)[i]?=some p→∃ n t t',ns[i]?=some n∧p=(Value.int (key n) t,Value.int n t'):=fun i p e=>by
    have e':(keys.toList.zip vs)[i]?=some p:=by rw [← ksk_zip,Array.getElem?_toList]; exact e
    rw [List.getElem?_zip_eq_some] at e'
    obtain ⟨n1,t1,q1,r1⟩:=ints_get hk e'.1
    obtain ⟨n2,t2,q2,r2⟩:=ints_get hv e'.2
    rw [List.getElem?_map,q2] at q1
    have q1':key n2=n1:=by simpa using q1
    exact ⟨n2,t1,t2,q2,Prod.ext (by rw [r1,q1']) r2⟩
  have mem0:∀ p∈(keys.zip vs.toArray).toList,∃ n t t',n∈ns∧p=(Value.int (key n) t,Value.int n t'):=fun p hp=>by
    obtain ⟨i,e⟩:=List.getElem?_of_mem hp
    rw [Array.getElem?_toList] at e
    obtain ⟨n,t,t',q,r⟩:=at0 i p e
    exact ⟨n,t,t',List.mem_of_getElem? q,r⟩
  refine ⟨fun i _ hi=>?_,fun xs hp hi=>?_⟩
  · obtain ⟨n,t,t',q,r⟩:=at0 i _ (Array.getElem?_eq_getElem hi)
    unfold Rk
    rw [Array.getElem?_eq_getElem hi,r]
    show ns.idxOf n=i
    exact idx_nd nd q
  · have pm:=Array.perm_iff_toList_perm.mp hp
    have memx:∀ p∈xs.toList,∃ n t t',n∈ns∧p=(Value.int (key n) t,Value.int n t'):=fun p hp'=>mem0 p (pm.mem_iff.mp hp')
    refine ⟨xs.toList.map fun p=>numOf p.2,?_,?_,?_⟩
    · rw [Array.toList_map]
      refine vals_map fun p hp'=>?_
      obtain ⟨n,t,t',_,rfl⟩:=memx p hp'
      exact ⟨t',rfl⟩
    · have e:(keys.zip vs.toArray).toList.map (fun p=>numOf p.2)=ns:=by
        apply List.ext_getElem?
        intro i
        rw [List.getElem?_map,Array.getElem?_toList]
        by_cases hlt:i<(keys.zip vs.toArray).size
        · obtain ⟨n,t,t',q,r⟩:=at0 i _ (Array.getElem?_eq_getElem hlt)
          rw [Array.getElem?_eq_getElem hlt,r,q]
          rfl
        · have lz:(keys.zip vs.toArray).size=ns.length:=by rw [Array.size_zip,lk,List.size_toArray,lv,Nat.min_self]
          rw [Array.getElem?_eq_none (by omega),List.getElem?_eq_none (by omega)]
          rfl
      rw [← e]
      exact pm.map _
    · rw [List.pairwise_iff_getElem]
      intro i j hi' hj' hij
      have hi2:i<xs.size:=by simpa using hi'
      have hj2:j<xs.size:=by simpa using hj'
      have v:=hi i j hij hj2
      obtain ⟨n1,t1,t1',_,r1⟩:=memx xs[i] (by simp)
      obtain ⟨n2,t2,t2',_,r2⟩:=memx xs[j] (by simp)
      have k1:K xs i=key n1:=by rw [K_eq hi2,r1]; rfl
      have k2:K xs j=key n2:=by rw [K_eq hj2,r2]; rfl
      have q1:Rk (fun p=>ns.idxOf (numOf p.2)) xs i=ns.idxOf n1:=by unfold Rk; rw [Array.getElem?_eq_getElem hi2,r1]; rfl
      have q2:Rk (fun p=>ns.idxOf (numOf p.2)) xs j=ns.idxOf n2:=by unfold Rk; rw [Array.getElem?_eq_getElem hj2,r2]; rfl
      have g1:(xs.toList.map fun p=>numOf p.2)[i]=n1:=by simp [r1,numOf]
      have g2:(xs.toList.map fun p=>numOf p.2)[j]=n2:=by simp [r2,numOf]
      rw [g1,g2]
      unfold VLt at v
      rw [k1,k2,q1,q2] at v
      exact v
section
variable {X:Cx} {pins:List (Addr×Obj)} {σ:St} {H:Hp} {s:Shared} {d:Addr} {xs:List V} {o:Obj}
theorem Inv.thawedL (I:Inv X pins σ H s) (h:H d=some (.frz o (.lst xs))) (h0:∀ o' u,X.H₀ d≠some (.frz o' u)):Inv X pins σ (upd H d (.lst xs)) s:=by
  have ne:∀ b u,H b=some u→u≠.frz o (.lst xs)→b≠d:=fun b u e n z=>by rw [z,h] at e; exact n (Option.some.inj e).symm
  have nn:∀ b,H b=none→b≠d:=fun b e z=>by rw [z,h] at e; cases e
  refine ⟨I.ok,I.os,I.bare,⟨I.base.keep,I.base.slot,fun b o' e n hx=>?_,I.base.there,fun b ys e=>?_,fun b o' u e=>?_,fun b p r e=>?_⟩,I.loc,I.cell,?_,fun x c e=>?_,fun p hp=>?_,fun b u e=>?_,I.len⟩
  · have q:=I.base.free b o' e n hx
    rw [upd_ne (nn b q)]
    exact q
  · have q:=I.base.tups b ys e
    rw [upd_ne (ne b _ q (by intro z; cases z))]
    exact q
  · have q:=I.base.frzs b o' u e
    rw [upd_ne (fun z=>h0 o' u (by rw [← z]; exact e))]
    exact q
  · have q:=I.base.tbls b p r e
    rw [upd_ne (ne b _ q (by intro z; cases z))]
    exact q
  · rw [upd_ne (nn _ I.free)]
    exact I.free
  · rw [upd_ne (nn _ (I.freeC x c e))]
    exact I.freeC x c e
  · obtain ⟨a1,a2,a3⟩:=I.pin p hp
    exact ⟨a1,by rw [upd_ne (nn _ a2)]; exact a2,a3⟩
  · by_cases hb:b=d
    · subst hb
      rw [upd_same] at e
      cases e
      exact (I.hok b _ h).2
    · rw [upd_ne hb] at e
      exact (I.hok b u e).stay (fun _ _ _ z=>z) (fun c z=>by rw [upd_ne (ne c _ z (by intro y; cases y))]; exact z) (fun c ys z=>by rw [upd_ne (ne c _ z (by intro y; cases y))]; exact z) fun c oz z=>by rw [upd_ne (ne c _ z (by intro y; cases y))]; exact z
theorem tail_key {a kS:Addr} {st:SortSt} {e1:Nat} {H1:Hp} {ns:List Int} {key:Int→Int} {keys:Array Value} {its:List Value} {ks:List V} {A:Around} {E:Value→Shared→Prop} {R:PySem.Fin→Shared→Prop} (I:Inv X pins σ H1 s) (hk:IntsAre keys.toList (ns.map key)) (hv:IntsAre its ns) (nd:ns.Nodup) (h64:ns.length<64)
    (ha:H1 a=some (.frz (seqObj "list" #[] e1) (.lst []))) (h0:∀ o' u,X.H₀ a≠some (.frz o' u)) (hkS:H1 kS=some (.lst ks)) (hlk:ks.length≤64) (hp:(arrOf st).Perm (keys.zip its.toArray)) (hi:Inc (fun p=>ns.idxOf (numOf p.2)) (arrOf st) (arrOf st).size) (hf:failedOf st=none)
    (h:∀ (H':Hp) (s':Shared) (os:List Int),Inv X pins σ H' s'→(∀ b,b≠a→b≠kS→H' b=H1 b)→H' a=some (.lst (os.map V.int))→os.Perm ns→os.Pairwise (KLt key ns)→R (.done (.ret .none)) s') :
    wpAny (model X.prog X.w) A (ksk_tail a false e1 (.ref kS) st) R E s:=by
  have nak:a≠kS:=fun z=>by rw [z,hkS] at ha; cases ha
  obtain ⟨os,vo,po,so⟩:=(sort_out hk hv nd).2 _ hp hi
  have lo:=po.length_eq
  unfold ksk_tail
  try dsimp only
  obtain ⟨_,itsK,n,rK,hlK,eK⟩:=I.lstM hkS
  have lK:itsK.length≤64:=by have:=rK.length; omega
  refine wpAny_bind (listUpdate_at eK rfl ?_ (by rw [List.size_toArray,sizeLine_eq]; omega) (Nat.zero_le _))
  have I6:=I.lset (t':=s.toks) (f:=fun _=>#[]) (its':=[]) (ys:=[]) hkS eK rfl .nil (Nat.zero_le _)
  have ha6:upd H1 kS (.lst []) a=some (.frz (seqObj "list" #[] e1) (.lst [])):=by rw [upd_ne nak]; exact ha
  have oa:=(I6.hok a _ ha6).1
  refine wpAny_bind (wpAny_letGo ?_)
  refine wpAny_bind (seqEpoch_at oa rfl ?_)
  have lo2:((arrOf st).map (·.2)).size=ns.length:=by
    have e:=vo.length
    rw [List.length_map] at e
    have e2:((arrOf st).map (·.2)).toList.length=((arrOf st).map (·.2)).size:=Array.length_toList
    omega
  refine wpAny_bind (listUpdate_at oa rfl ?_ (Nat.zero_le _) (by simp only [Bool.false_eq_true,if_false]; rw [lo2,sizeLine_eq]; omega))
  rw [hf]
  simp only [bne_self_eq_false,Bool.false_eq_true,if_false]
  have I7:=I6.thawedL ha6 h0
  have I8:=I7.lset (t':=s.toks) (f:=fun _=>(arrOf st).map (·.2)) (its:=[]) (its':=((arrOf st).map (·.2)).toList) (ys:=os.map V.int) upd_same oa (by exact (Array.toArray_toList).symm) vo (by rw [List.length_map,sizeLine_eq]; omega)
  refine wpAny_pure (h _ _ os I8 (fun b n1 n2=>?_) upd_same po so)
  rw [upd_ne n1,upd_ne n1,upd_ne n2]
theorem end_key {a kS:Addr} {e1:Nat} {H1:Hp} {ns:List Int} {key:Int→Int} {keys:Array Value} {its:List Value} {ks:List V} {A:Around} {E:Value→Shared→Prop} {R:PySem.Fin→Shared→Prop} (I:Inv X pins σ H1 s) (hk:IntsAre keys.toList (ns.map key)) (hv:IntsAre its ns) (nd:ns.Nodup) (h64:ns.length<64)
    (ha:H1 a=some (.frz (seqObj "list" #[] e1) (.lst []))) (h0:∀ o' u,X.H₀ a≠some (.frz o' u)) (hkS:H1 kS=some (.lst ks)) (hlk:ks.length≤64)
    (h:∀ (H':Hp) (s':Shared) (os:List Int),Inv X pins σ H' s'→(∀ b,b≠a→b≠kS→H' b=H1 b)→H' a=some (.lst (os.map V.int))→os.Perm ns→os.Pairwise (KLt key ns)→R (.done (.ret .none)) s') :
    wpAny (model X.prog X.w) A (ksk_end a false its.toArray e1 (.ref kS) keys) R E s:=by
  have lk:keys.size=ns.length:=by have:=hk.length; rw [Array.length_toList,List.length_map] at this; omega
  have lv:its.length=ns.length:=by have:=hv.length; omega
  have hzs:(keys.zip its.toArray).size=ns.length:=by rw [Array.size_zip,lk,List.size_toArray,lv,Nat.min_self]
  obtain ⟨idn,_⟩:=sort_out hk hv nd
  unfold ksk_end
  simp only [Bool.false_eq_true,if_false]
  by_cases h2:its.toArray.size<2
  · rw [if_pos h2,if_pos h2]
    refine wpAny_bind (wpAny_pure ?_)
    rw [StateT.run_pure]
    refine wpAny_bind (wpAny_pure ?_)
    try dsimp only
    refine tail_key (st:=SortSt.mk' general' (keys.zip its.toArray) #[] 7 none) I hk hv nd h64 ha h0 hkS hlk (Array.Perm.refl _) (fun i j hij hj=>?_) rfl h
    have hj2:j<(keys.zip its.toArray).size:=hj
    rw [List.size_toArray] at h2
    omega
  · rw [if_neg h2,if_neg h2]
    rw [List.size_toArray] at h2
    rw [ksk_kind hk (by rw [lk]; omega)]
    refine wpAny_bind (wpAny_pure ?_)
    refine wpAny_bind (wpAny_mono (runs_ok (ρ:=fun p=>ns.idxOf (numOf p.2)) (a₀:=keys.zip its.toArray) (st:=SortSt.mk' oneType' (keys.zip its.toArray) #[] 7 none)
      (Q:=fun _ st1=>(arrOf st1).Perm (keys.zip its.toArray)∧failedOf st1=none∧Inc (fun p=>ns.idxOf (numOf p.2)) (arrOf st1) (keys.zip its.toArray).size)
      (ksk_intKeys hk) idn ⟨Array.Perm.refl _,rfl,rfl,rfl⟩ idn (by rw [hzs]; omega) (by rw [hzs]; exact h64) fun st1 a1 a2 a3=>⟨a1,a2,a3⟩) ?_ fun _ _ e=>e)
    rintro ⟨⟨⟩,st1⟩ s1 ⟨rfl,hp,hf,hs⟩
    try dsimp only
    exact tail_key I hk hv nd h64 ha h0 hkS hlk hp (by rw [hp.size_eq]; exact hs) hf h
theorem sort_key {l f:Addr} {ns:List Int} {key:Int→Int} {Q:VK} {E:Value→Shared→Prop} (I:Inv X pins σ H s) (hq:SqL X.K H l (ns.map V.int)) (h64:ns.length<64) (nd:ns.Nodup)
    (turn:∀ z∈ns,∀ H1 s1 u,Same H H1→Inv X pins σ H1 s1→RelV (.int z) u→wpAny (model X.prog X.w) X.A.in1.in1 (call (.ref f) [u]) (EP X pins σ fun v H'=>v=.int (key z)∧H'=H1) (fun _ _=>False) s1)
    (q:∀ (D:Addr) (H':Hp) (os:List Int),H D=none→Same H H'→H' D=some (.lst (os.map V.int))→os.Perm ns→os.Pairwise (KLt key ns)→Q (.ref D) H') :
    wpAny (model X.prog X.w) X.A (call (.builtin "sorted") [.ref l] [(Str.ofString "key",.ref f)]) (EP X pins σ Q) E s:=by
  obtain ⟨its,rv,pl,hz⟩:=I.list hq
  have hv:=intsAre_of rv
  have lv:its.length=ns.length:=by have:=rv.length; rw [List.length_map] at this; exact this.symm
  refine call_function_entry_kw kind_sorted plain_sorted entry_sorted (ksk_s1 _ _) ?_
  unfold Builtin.«sorted»
  refine wpAny_bind (m:=checkCount "sorted" 1 1 _) (wpAny_pure ?_)
  refine wpAny_bind (collect_list pl.isList ?_ (by rw [sizeLine_eq]; omega))
  refine wpAny_bind (wpAny_newList ?_ (by rw [sizeLine_eq]; omega))
  have hsz:((s.heap.push (seqObj "list" #[] 0)).update s.heap.objs.size (Obj.mapSeq (·++its.toArray))).objs.size=s.heap.objs.size+1:=by
    rw [Heap.size_update,size_push']
  have hoL:(((s.heap.push (seqObj "list" #[] 0)).update s.heap.objs.size (Obj.mapSeq (·++its.toArray))).push (seqObj "list" its.toArray 0)).get? (s.heap.objs.size+1)=some (seqObj "list" its.toArray 0):=by
    rw [← hsz]
    exact Heap.get?_push_size _ rfl
  have keep:∀ b o,s.heap.get? b=some o→(((s.heap.push (seqObj "list" #[] 0)).update s.heap.objs.size (Obj.mapSeq (·++its.toArray))).push (seqObj "list" its.toArray 0)).get? b=some o:=fun b o e=>by
    have lt:b<s.heap.objs.size:=Heap.lt_size e
    rw [Heap.get?_push_ne _ _ _ (by rw [hsz]; exact Nat.ne_of_lt (Nat.lt_succ_of_lt lt)),Heap.get?_update_ne _ _ _ _ (Nat.ne_of_lt lt),Heap.get?_push_ne _ _ _ (Nat.ne_of_lt lt)]
    exact e
  show wpAny _ _ _ _ _ { s with heap:=((s.heap.push (seqObj "list" #[] 0)).update s.heap.objs.size (Obj.mapSeq (·++its.toArray))).push (seqObj "list" its.toArray 0) }
  rw [hsz]
  have hsz1:(((s.heap.push (seqObj "list" #[] 0)).update s.heap.objs.size (Obj.mapSeq (·++its.toArray))).push (seqObj "list" its.toArray 0)).objs.size=s.heap.objs.size+2:=by rw [size_push',hsz]
  generalize ((s.heap.push (seqObj "list" #[] 0)).update s.heap.objs.size (Obj.mapSeq (·++its.toArray))).push (seqObj "list" its.toArray 0)=h1 at *
  refine wpAny_bind (wpAny_holding (wpAny_call_entry_kw slot_list_sort ⟨_,hoL,rfl⟩ entry_list_sort ?body (ksk_l1 _ _)))
  case body =>
    show wpAny (model X.prog X.w) X.A.in1.in1 (Builtin.«list.sort» ⟨[.ref (s.heap.objs.size+1)],[(Str.ofString "key",.ref f)]⟩) _ _ _
    rw [ksk_t1]
    unfold ksk_tree
    refine wpAny_bind (listItems_at hoL rfl ?_)
    refine wpAny_bind (listUpdate_at hoL rfl ?_ (by rw [List.size_toArray,sizeLine_eq]; omega) (Nat.zero_le _))
    obtain ⟨e1,ho1⟩:∃ e1,(h1.update (s.heap.objs.size+1) (Obj.mapSeq fun _=>(#[]:Array Value))).get? (s.heap.objs.size+1)=some (seqObj "list" #[] e1):=⟨_,get?_update_seq hoL fun _=>#[]⟩
    have keep2:∀ b o,s.heap.get? b=some o→(h1.update (s.heap.objs.size+1) (Obj.mapSeq fun _=>(#[]:Array Value))).get? b=some o:=fun b o e=>by
      have lt:b<s.heap.objs.size:=Heap.lt_size e
      rw [Heap.get?_update_ne _ _ _ _ (Nat.ne_of_lt (Nat.lt_succ_of_lt lt))]
      exact keep b o e
    generalize h1.update (s.heap.objs.size+1) (Obj.mapSeq fun _=>(#[]:Array Value))=h2 at *
    refine wpAny_bind (seqEpoch_at ho1 rfl ?_)
    refine wpAny_bind (wpAny_newTuple ?_ (by show its.length≤_; rw [sizeLine_eq]; omega))
    refine wpAny_bind (wpAny_newList ?_ (Nat.zero_le _))
    refine wpAny_holding ?_
    have fr:H (s.heap.objs.size+1)=none:=I.hok.fresh (Nat.le_succ _)
    have h0:∀ o' u,X.H₀ (s.heap.objs.size+1)≠some (.frz o' u):=fun o' u e=>by rw [I.base.frzs _ _ _ e] at fr; cases fr
    have ho2:(h2.push (seqObj "tuple" its.toArray 0)).get? (s.heap.objs.size+1)=some (seqObj "list" #[] e1):=Heap.get?_push_of_some _ ho1
    have I3:=I.laid (a:=s.heap.objs.size+1) (t':=s.toks) (o:=.frz (seqObj "list" #[] e1) (.lst [])) (h':=h2.push (seqObj "tuple" its.toArray 0)) (fun b o e=>Heap.get?_push_of_some _ (keep2 b o e)) (Nat.le_succ _) ⟨ho2,Nat.zero_le _,[],e1,.nil,ho2⟩
    have fr3:=I3.hok.fresh (Nat.le_refl _)
    have I4:=I3.laid (t':=s.toks) (o:=.lst []) (h':=(h2.push (seqObj "tuple" its.toArray 0)).push (seqObj "list" #[] 0)) (fun b o e=>Heap.get?_push_of_some _ e) (Nat.le_refl _) ⟨Nat.zero_le _,[],0,.nil,Heap.get?_push_size _ rfl⟩
    have nak:s.heap.objs.size+1≠(h2.push (seqObj "tuple" its.toArray 0)).objs.size:=ne_of_none upd_same fr3
    have sm:Same H (upd (upd H (s.heap.objs.size+1) (.frz (seqObj "list" #[] e1) (.lst []))) (h2.push (seqObj "tuple" its.toArray 0)).objs.size (.lst [])):=(same_upd fr _).trans (same_upd fr3 _)
    have frK:H (h2.push (seqObj "tuple" its.toArray 0)).objs.size=none:=(same_upd fr _).free fr3
    have hkS0:upd (upd H (s.heap.objs.size+1) (.frz (seqObj "list" #[] e1) (.lst []))) (h2.push (seqObj "tuple" its.toArray 0)).objs.size (.lst []) (h2.push (seqObj "tuple" its.toArray 0)).objs.size=some (.lst []):=upd_same
    have ha0:upd (upd H (s.heap.objs.size+1) (.frz (seqObj "list" #[] e1) (.lst []))) (h2.push (seqObj "tuple" its.toArray 0)).objs.size (.lst []) (s.heap.objs.size+1)=some (.frz (seqObj "list" #[] e1) (.lst [])):=by rw [upd_ne nak]; exact upd_same
    generalize upd (upd H (s.heap.objs.size+1) (.frz (seqObj "list" #[] e1) (.lst []))) (h2.push (seqObj "tuple" its.toArray 0)).objs.size (.lst [])=H4 at *
    show wpAny (model X.prog X.w) X.A.in1.in1 (ksk_rest (s.heap.objs.size+1) (.ref f) false its.toArray e1 (.ref (h2.push (seqObj "tuple" its.toArray 0)).objs.size)) _ _ { s with heap:=(h2.push (seqObj "tuple" its.toArray 0)).push (seqObj "list" #[] 0) }
    generalize (h2.push (seqObj "tuple" its.toArray 0)).objs.size=kS at *
    generalize (h2.push (seqObj "tuple" its.toArray 0)).push (seqObj "list" #[] 0)=h4 at *
    unfold ksk_rest
    refine wpAny_bind (wpAny_rule ?_)
    rw [List.forIn_toArray]
    refine wpAny_bind (ksk_fold (fun i s1=>∃ H1:Hp,Inv X pins σ H1 s1∧Same H H1∧H1 (s.heap.objs.size+1)=some (.frz (seqObj "list" #[] e1) (.lst []))∧H1 kS=some (.lst (((ns.take i).map key).map V.int))) its 0 _
      ⟨H4,I4,sm,ha0,hkS0⟩ ?step ?done)
    case step =>
      rintro j x s1 hx ⟨H1,I1,s1',a1,k1⟩
      simp only [Nat.zero_add] at k1 ⊢
      obtain ⟨z,t,hz',rfl⟩:=ints_get hv hx
      have hj:j<ns.length:=(List.getElem?_eq_some_iff.mp hz').1
      refine wpAny_bind (wpAny_attempt (wpAny_mono (turn z (List.mem_of_getElem? hz') H1 s1 _ s1' I1 ⟨t,rfl⟩) (fun v s2 he=>?_) fun _ _ hF=>hF.elim))
      obtain ⟨v',H',I2,r2,rfl,rfl⟩:=he
      try dsimp only
      obtain ⟨_,itsK,n,rK,hlK,eK⟩:=I2.lstM k1
      have lK:itsK.length≤ns.length:=by
        have:=rK.length
        rw [List.length_map,List.length_map,List.length_take] at this
        omega
      refine wpAny_bind (listUpdate_at eK rfl ?_ (by rw [List.size_toArray,sizeLine_eq]; omega) (by rw [Array.size_push,List.size_toArray,sizeLine_eq]; omega))
      have ek:ns.take (j+1)=ns.take j++[z]:=by rw [List.take_succ,hz']; rfl
      have I5:=I2.lset (t':=s2.toks) (f:=(·.push v)) (its':=itsK++[v]) (ys:=((ns.take (j+1)).map key).map V.int) k1 eK (by simp) (by rw [ek,List.map_append,List.map_append]; exact rK.append (.cons r2 .nil)) (by rw [List.length_map,List.length_map,List.length_take,sizeLine_eq]; omega)
      refine wpAny_pure ⟨rfl,_,I5,fun b o y=>?_,?_,upd_same⟩
      · rw [upd_ne (ne_of_none y frK)]
        exact s1' _ _ y
      · rw [upd_ne nak]
        exact a1
    case done =>
      rintro s1 ⟨H1,I1,s1',a1,k1⟩
      rw [Nat.zero_add,lv,List.take_length] at k1
      obtain ⟨_,itsK,n,rK,hlK,eK⟩:=I1.lstM k1
      try dsimp only
      refine wpAny_bind (listItems_at eK rfl ?_)
      refine end_key (ns:=ns) (key:=key) I1 (by simpa using intsAre_of rK) hv nd h64 a1 h0 k1 (by rw [List.length_map,List.length_map]; omega) fun H' s2 os I2 oth hD po so=>⟨_,rfl,?_⟩
      refine wpAny_pure ⟨_,rfl,.ref (s.heap.objs.size+1),H',I2,rfl,q _ H' os fr (fun b o y=>?_) hD po so⟩
      rw [oth b (ne_of_none y fr) (ne_of_none y frK)]
      exact s1' _ _ y
end
end L2
set_option Elab.async false
set_option linter.all false
set_option maxRecDepth 100000
set_option maxHeartbeats 4000000
namespace L2
open PySem PySem.Spec PyProof.Rows
structure MDef (P:Program) (w:World) (K:PySem.W.Frag) (mg:Str→Option Value) (base:Heap) (C:Addr) (m:Str) (k:Nat) (ps:List Str) (sp:Sp):Prop where
  ex:∃ (f:Addr) (fd:FuncData),FnOk P w K mg base CX0 k f fd ps sp∧Meth K C m f∧Binds K fd ps []
structure KDef (P:Program) (w:World) (K:PySem.W.Frag) (mg:Str→Option Value) (base:Heap) (C:Addr) (x:Str) (k:Nat) (ps:List Str) (sp:Sp):Prop where
  ex:∃ (f:Addr) (fd:FuncData),FnOk P w K mg base CX0 k f fd ps sp∧Mk K C f∧mg x=some (.ref C)∧Binds K fd ps []
section
variable {X:Cx} {x m:Str} {p pos apos:Pos} {e o:PySem.Expr} {es:List PySem.Expr} {ta:TE} {t:TA} {k:Nat} {ps:List Str} {sp:Sp} {C:Addr}
theorem pe_methN {pl:Sem Bool} (M:MDef X.prog X.w X.K X.mg X.base C m k ps sp) (hr:Room k X.A) (c:Cls X.K C) (he:PE X o ta) (ha:PA X (e :: es) t) (hn:NSs (e :: es):=by repeat' (first | exact True.intro | refine ⟨?_,?_⟩))
    (ht:eval (.Call (.Attribute o m apos) (e :: es) [] pos) X.env=(do
      let ov ← eval o X.env
      standAt apos.atName
      let (f,first) ← holding [ov] (getMethod ov m pl)
      callWith pos f first (backTo pos (starEach (e :: es) X.env)) (backToKw pos (keywordEach [] X.env))):=by rfl) :
    PE X (.Call (.Attribute o m apos) (e :: es) [] pos) (tMeth C m sp [] E0 ta t):=by
  obtain ⟨f,fd,F,hm,hb⟩:=M.ex
  exact pe_meth he c hm F hr hb .nil pass0 ha (star_ns hn.1) (back_ns hn.2) ht
theorem pe_makeN (M:KDef X.prog X.w X.K X.mg X.base C x k ps sp) (hr:Room (k+1) X.A) (hg:Gl X x) (ha:PA X (e :: es) t) (hn:NSs (e :: es):=by repeat' (first | exact True.intro | refine ⟨?_,?_⟩)) (hd:(x == ("__debug__" : Str))=false:=by decide) :
    PE X (.Call (.Name x p) (e :: es) [] pos) (tMake C sp [] E0 t):=by
  obtain ⟨f,fd,F,M',hm,hb⟩:=M.ex
  exact pe_make M' F hr hg hm hb .nil pass0 ha (hdb:=hd) (he:=star_ns hn.1) (hpl:=back_ns hn.2)
def tNo:TS:=fun _ _ _=>False
theorem ps_no {st:Stmt}:PS X st tNo:=fun _ _ _ _ _ _ h=>False.elim h
end
theorem Fun.okC {P:Program} {w:World} {K:PySem.W.Frag} {mg:Str→Option Value} {base:Heap} {x qual:Str} {st:Stmt} {f:Addr} {fd:FuncData} {N ps:List Str} {k:Nat} {sp:Sp} (F:Fun K x qual st f fd) (S:FnScope N ps (defScope st)) (len:∀ vs H Q E,sp vs H Q E→vs.length=ps.length)
    (hbody:∀ (cdv:Value) (A:Around) (outer:List Env) (s:Shared) (H:Hp) (vs:List V) (Q:VK) (E:XK),fd.code=cdv→Room k (A.deeper (envOfC qual (defScope st) s.heap.objs.size f cdv))→sp vs H Q E →
      ∃ t,PSs (cxOf CX0 P w K mg base N qual (defScope st) f cdv A outer s H E).nox (defBody st) t∧t { nx:=fun _ H'=>Q .non H',rt:=Q } (start N vs) H):FnOk P w K mg base CX0 (k+1) f fd ps sp:=by
  obtain ⟨oc,od,kV,doc,pm,an,cdv,ct,osl,rfl,lk,hcd⟩:=F.ex
  refine fn_of lk hcd S len fun A outer s H vs Q E hr hsp=>?_
  obtain ⟨t,h,q⟩:=hbody cdv A outer s H vs Q E rfl hr hsp
  exact ⟨t,h.nox,q⟩
structure PPq (X:Cx) (pos:Pos) (keys:List (Option PySem.Expr)) (values:List PySem.Expr) (trs:List (TE×TE)):Prop where
  run:PPs X pos keys values trs
theorem pq_nil {X:Cx} {pos:Pos}:PPq X pos [] [] []:=⟨pps_nil⟩
theorem pq_cons {X:Cx} {pos:Pos} {k v:PySem.Expr} {ks:List (Option PySem.Expr)} {vs:List PySem.Expr} {tk tv:TE} {trs:List (TE×TE)} (hk:PE X k tk) (hv:PE X v tv) (hr:PPq X pos ks vs trs):PPq X pos (some k :: ks) (v :: vs) ((tk,tv) :: trs):=⟨pps_cons hk hv hr.run⟩
theorem pe_dispQ {X:Cx} {pos:Pos} {keys:List (Option PySem.Expr)} {values:List PySem.Expr} {trs:List (TE×TE)} (h:PPq X pos keys values trs) (hall:keys.all (·.isSome)=true) (hl:keys.length=values.length) (h0:keys≠[]) (h15:keys.length≤15):PE X (.Dict keys values pos) (tDisp trs):=pe_disp h.run hall hl h0 h15
theorem pe_fldK {X:Cx} {K:PySem.W.Frag} {e:PySem.Expr} {f:Str} {pos:Pos} {ta:TE} (hK:X.K=K) (he:PE X e ta) (hb:attributeBase e f X.env (eval e X.env)=eval e X.env):PE X (.Attribute e f pos) (tFld K ta f):=by
  subst hK
  exact pe_fld he hb
def lamB (osc:Scope) (oN:List Str) (scope:Scope) (x:Str) (fr:List Str) (js:List Nat):Bool :=
  scope.kind == .function && !scope.isCoroutine && !scope.isGenerator && scope.names.all (fun y=>y.2 != .cell) && scope.names.lookup x == some .local &&
  scope.names.all (fun y=>y.2 != .free || (osc.names.lookup y.1 == some .cell || osc.names.lookup y.1 == some .free)) && fr.length == js.length &&
  (js.map fun j=>oN[j]?) == fr.map some && fr.all fun y=>scope.names.lookup y == some .free
theorem lamOk_of {X:Cx} {osc:Scope} {oN:List Str} {scope:Scope} {x:Str} {fr:List Str} {js:List Nat} (h:lamB osc oN scope x fr js=true) (hs:X.env.scope=osc) (hN:X.N=oN):LamOk X scope x fr js:=by
  unfold lamB at h
  simp only [Bool.and_eq_true,List.all_eq_true,Bool.or_eq_true,beq_iff_eq,bne_iff_ne,ne_eq,Bool.not_eq_true'] at h
  obtain ⟨⟨⟨⟨⟨⟨⟨⟨h1,h2⟩,h3⟩,h4⟩,h5⟩,h6⟩,h7⟩,h8⟩,h9⟩:=h
  refine ⟨h1,h2,h3,h4,h5,fun y hy hf=>?_,h7,fun k j e=>?_,fun k y e=>h9 y (List.mem_of_getElem? e)⟩
  · rcases h6 y hy with q | q
    · exact absurd hf q
    · show X.env.scope.names.lookup y.1=_∨X.env.scope.names.lookup y.1=_
      rw [hs]; exact q
  · rw [hN]
    have z:=congrArg (fun l=>l[k]?) h8
    simp only [List.getElem?_map,e,Option.map_some] at z
    cases q:fr[k]? with
    | none=>rw [q] at z; cases z
    | some y=>rw [q] at z; exact (Option.some.inj z).symm
theorem hu_lam {A:Around} {k:Nat} {env:Env} (hr:Room k A):(A.in1.in1.deeper env).units+1<cLine:=by
  have:=hr.un
  show A.units+1+1+3+1<cLine
  omega
def rSortK (K:PySem.W.Frag) (P:Addr) (lpos:Pos) (qual:Str) (js:List Nat) (te:TE) (σ:St) (Q:VK) (x:V) (H1:Hp):Prop:=∃ (l:Addr) (ns:List Int) (key:Int→Int),x=.ref l∧SqL K H1 l (ns.map V.int)∧ns.length<64∧ns.Nodup∧H1 P=some (.tbl lpos qual) ∧
  (∀ z∈ns,∀ H2,Same H1 H2→te (some (.int z) :: js.map fun j=>(σ[j]?).join) H2 fun v H'=>v=.int (key z)∧H'=H2) ∧
  ∀ (D:Addr) (H':Hp) (os:List Int),H1 D=none→Same H1 H'→H' D=some (.lst (os.map V.int))→os.Perm ns→os.Pairwise (KLt key ns)→Q (.ref D) H'
def tSortK (K:PySem.W.Frag) (P:Addr) (lpos:Pos) (qual:Str) (js:List Nat) (txs te:TE):TE:=fun σ H Q=>txs σ H fun x H1=>rSortK K P lpos qual js te σ Q x H1
section
variable {X:Cx}
theorem pe_sortK {K:PySem.W.Frag} {P c0:Addr} {k:Nat} {y:Str} {fr:List Str} {js:List Nat} {qual:Str} {params:Arguments} {body xs:PySem.Expr} {scope:Scope} {p pos lpos kpos:Pos} {txs te:TE} (hK:X.K=K) (hr:Room k X.A) (hcl:X.calm=true) (hg:Gl X "sorted") (hm:X.mg "sorted" = none)
    (c:LamOk X scope y fr js) (hc0:X.env.code=.ref c0) (hcd:PySem.W.codeHdIn X.K c0 P=true) (bm:BMod X.base X.mg) (hq:X.env.qual ++ "<lambda>" = qual) (hd0:params.defaults=[]) (hk0:params.kw_defaults=[])
    (hb:∀ cl pm cd ct u,bindArgs (PySem.W.kla_fn "<lambda>" qual params body scope cl pm cd ct) ⟨[u],[]⟩=pure [(y,u)]) (ha:PE X xs txs)
    (he:∀ f cd cl s H,PE (cxLam X X.A.in1.in1 (y :: fr) qual scope f cd cl s H) body te) (hn:NSs [xs]:=by repeat' (first | exact True.intro | refine ⟨?_,?_⟩)) :
    PE X (.Call (.Name "sorted" p) [xs] [⟨some "key",.Lambda params body scope lpos,kpos⟩] pos) (tSortK K P lpos qual js txs te):=by
  subst hK
  subst hq
  intro pins s σ H Q I h
  refine wpAny_Call_Name_kw (ld_blt I hg hm boot_sorted ?_ (by decide) (by decide))
  refine callWith_kw (thn ((pc ha pa_nil hn.1) pos pins s σ H (fun vs H1=>match vs with | [x]=>rSortK X.K P lpos (X.env.qual ++ "<lambda>") js te σ Q x H1 | _=>False) I h) fun us s1 ⟨vs,H1,I1,r1,q1⟩=>?_) (by rw [star_ns hn.1]; rfl) (by rw [star_ns hn.1]; rfl) rfl rfl
  match vs,r1,q1 with
  | [],_,z=>exact z.elim
  | _ :: _ :: _,_,z=>exact z.elim
  | [x],r1,q1 =>
    obtain ⟨l,ns,key,rfl,hS,h64,nd,hP,ht,q⟩:=q1
    obtain ⟨u,rfl,ru⟩:=vals1 r1
    cases ru
    show wpAny _ _ (evalAll [(do let v ← eval (.Lambda params body scope lpos) X.env; standAt pos; pure v)]) _ _ s1
    refine wpAny_evalAll_cons (wpAny_bind (lam_make c I1 hc0 hcd bm hP hd0 hk0 fun f cl cd pm ct of H2 s2 I2 sm cl1 cl2 hf hof hcode=>wpAny_bind (wpAny_standAt (wpAny_pure (wpAny_evalAll_nil ?_)))))
    show wpAny _ _ (call (.builtin "sorted") [.ref l] [(Str.ofString "key",.ref f)]) _ _ s2
    refine sort_key I2 (sm.seq hS) h64 nd (fun z hz H3 s3 u sm3 I3 ru=>?_) fun D H' os hD sm' hl po so=>q D H' os (sm.free hD) (sm.trans sm') hl po so
    have of3:=(I3.hok f _ (sm3 _ _ hf)).1
    obtain ⟨c',oc,vs',t',rfl,hc',hd',hv'⟩:=hcode
    have oc3:=(I3.hok c' _ (sm3 _ _ hc')).1
    exact lam_call (A:=X.A.in1.in1) c I3 I3.ok.frames (I3.ok.hd hcl) hr.depth cl1 cl2 of3 hof ⟨c',oc,vs',t',rfl,oc3,hd',hv'⟩ (hb cl pm _ ct) ru (fun s=>he f _ cl s H3) (ht z hz H3 (sm.trans sm3))
end
end L2
set_option Elab.async false
set_option linter.all false
set_option maxRecDepth 100000
set_option maxHeartbeats 4000000
namespace L2
open PySem PySem.Spec PyProof.Rows
theorem law_callT {P:Program} {w:World} {K:PySem.W.Frag} {mg mb:Str→Option Value} {CX:CXT} {k:Nat} {fa a tp c0:Addr} {pos:Pos} {qual:Str} {fd:FuncData} {x:Str} {sp:Sp} {s₁:Shared} {vs:List Value} {ns:List Int}
    (KX:K.In s₁.heap) (hns:s₁.heap.Ns mainGlobals mg) (hb:s₁.heap.Ns builtinsNs mb) (hbb:∀ x:Str,x ≠ "__name__" → mb x=bootBuiltins x) (hlim:s₁.heap.NoLimit) (hg:s₁.gens=#[])
    (ha:s₁.heap.get? a=some { cls:=.type "list",data:=.seq vs.toArray }) (hi:IntsAre vs ns) (hl:ns.length≤sizeLine) (hr:Room k callerA)
    (htp:s₁.heap.get? tp=some { cls:=.none,data:=.fields #[] }) (hch:PySem.W.codeHdIn K c0 tp=true) (hKt:K.lookup tp=none)
    (hbm:BMod s₁.heap mg) (F:∀ base:Heap,K.In base→base.Ns mainGlobals mg→BMod base mg→FnOk P w K mg base CX k fa fd [x] sp) (hbind:∀ (s:Shared) (u:Value),BindsTo s fd ⟨[u],[]⟩ [(x,u)])
    (hsp:∀ H:Hp,H tp=some (.tbl pos qual)→SqL K H a (ns.map V.int)→sp [.ref a] H (fun v _=>v=.bl true) fun _ _ _=>False)
    (hCX:∀ H e s',CX [] H s₁ (fun _ _ _=>False) e s'→False) :
    codeAny (model P w) callerA (.call (.ref fa) ⟨[.ref a],[]⟩) (fun r s'=>r=.ok (.ret (.bool true))∧OldK s₁.heap s'.heap∧s'.os=s₁.os∧AllBare s'.gens) s₁:=by
  have rv:=vals_ints hi
  have lenV:=hi.length
  have nat:a≠tp:=fun z=>by rw [z,htp] at ha; cases ha
  have core:∀ H:Hp,H tp=some (.tbl pos qual)→SqL K H a (ns.map V.int)→HOk P w H s₁.heap→(∀ b,H b≠none→b=tp∨(b=a∧∃ o xs,H b=some (.frz o (.lst xs))))→(H a≠none→K.lookup a=none) →
      codeAny (model P w) callerA (.call (.ref fa) ⟨[.ref a],[]⟩) (fun r s'=>r=.ok (.ret (.bool true))∧OldK s₁.heap s'.heap∧s'.os=s₁.os∧AllBare s'.gens) s₁:=by
    intro H hT hS hok hA hK
    have noD:∀ {b:Addr} {o:Obj} {es:Array DictEntry} {ep:Nat},s₁.heap.get? b=some o→o.data=.dict es ep→H b=none:=fun {b o es ep} e d=>by
      cases q:H b with
      | none=>rfl
      | some u =>
        rcases hA b (by rw [q]; simp) with z | ⟨z,_⟩
        · rw [z,htp] at e
          cases e
          cases d
        · rw [z,ha] at e
          cases e
          cases d
    have nsK:∀ {b:Addr} {m:Str→Option Value},s₁.heap.Ns b m→(hidT s₁.heap H).Ns b m:=fun {b m} ⟨o,es,ep,e,d,r⟩=>⟨o,es,ep,hidT_get e (noD e d),d,r⟩
    have hKb:K.In (hidT s₁.heap H):=fun b o e=>hidT_get (KX b o e) (by
      cases q:H b with
      | none=>rfl
      | some u =>
        rcases hA b (by rw [q]; simp) with z | ⟨z,_⟩
        · rw [z,hKt] at e
          cases e
        · have n:H a≠none:=by rw [← z,q]; simp
          rw [z,hK n] at e
          cases e)
    have hM:Mod K mg (hidT s₁.heap H):=⟨hKb,nsK hns,⟨mb,nsK hb,hbb⟩,let ⟨mc,h1,h2⟩:=hlim; ⟨mc,nsK h1,h2⟩⟩
    have e0:Env0 P w K mg (hidT s₁.heap H) callerA [] s₁ H:=⟨rfl,hM,fun b o e=>of_hidT e,Nat.le_of_eq (hidT_size _ _),trivial,fun b hb=>absurd (show b∈([]:List Addr) from hb) (by simp),hok,.of_eq hg⟩
    have hB:BMod (hidT s₁.heap H) mg:=by
      obtain ⟨b,o,a1,a2,a3,a4,a5,a6,a7⟩:=hbm
      refine ⟨b,o,a1,a2,a3,hidT_get a4 ?_,a5,a6,a7⟩
      cases q:H b with
      | none=>rfl
      | some u =>
        rcases hA b (by rw [q]; simp) with z | ⟨z,_⟩
        · rw [z,htp] at a4
          cases a4
          cases a5
        · rw [z,ha] at a4
          cases a4
          have a8:Value.type "list" = Value.type "module" := a5
          injection a8 with a8
          exact absurd a8 (by decide)
    refine codeAny_mono ((F _ hKb (nsK hns) hB).run callerA [] s₁ H ⟨[.ref a],[]⟩ [.ref a] [.ref a] _ _ hr e0 (hbind s₁ (.ref a)) (.cons rfl .nil) (hsp H hT hS)) fun r s' h=>?_
    cases r with
    | error e=>exact (hCX H e s' h).elim
    | ok fl =>
      cases fl with
      | next=>exact False.elim h
      | brk=>exact False.elim h
      | cont=>exact False.elim h
      | ret u =>
        obtain ⟨v,H',os,bare,un,hok',r',q⟩:=h
        have q':v=.bl true:=q
        subst q'
        obtain rfl:u=Value.bool true:=r'
        have tab:=(PySem.W.codeHd_of_K KX hch).tab htp
        have t2:=hok' tp _ (un.tbls _ _ _ hT)
        obtain ⟨ps,hps,_⟩:=t2
        have old:∀ b o,s₁.heap.get? b=some o→b≠tp→s'.heap.get? b=some o:=fun b o e nb=>by
          cases q:H b with
          | none=>exact un.keep b o e q (by intro z; exact absurd (show b∈([]:List Addr) from z) (by simp)) (by simp)
          | some u =>
            rcases hA b (by rw [q]; simp) with z | ⟨_,ob,xs,z⟩
            · exact absurd z nb
            · have z2:=un.frzs b ob _ z
              obtain ⟨e1,_⟩:=hok b _ z
              obtain ⟨e2,_⟩:=hok' b _ z2
              rw [e] at e1
              cases e1
              exact e2
        refine ⟨rfl,⟨fun b o e=>?_,fun b o e=>?_⟩,os,bare⟩
        · by_cases nb:b=tp
          · subst nb
            rw [htp] at e
            cases e
            exact .inr (.inl ⟨tab.isCodeTable,rfl,#[],ps,rfl,by rw [hps]; simp⟩)
          · exact .inl (old b o e nb)
        · by_cases nb:b=tp
          · subst nb
            exact ⟨_,hps⟩
          · exact ⟨o,old b o e nb⟩
  have tb:∀ H:Hp,ObjOk P w H s₁.heap tp (.tbl pos qual):=fun H=>⟨#[],htp,True.intro,fun cv e=>by cases e⟩
  cases hk:K.lookup a with
  | some o =>
    have e:=KX a o hk
    rw [ha] at e
    cases e
    refine core (fun b=>if b=tp then some (.tbl pos qual) else none) (if_pos rfl) (.inr ⟨_,vs.toArray,_,hk,rfl,rfl,rfl,by rw [List.size_toArray,lenV]; exact hl,by simpa using rv⟩) (fun b u z=>?_) (fun b z=>?_) fun z=>absurd (if_neg nat) z
    · by_cases hb:b=tp
      · have z':=(if_pos hb).symm.trans z
        cases z'
        subst hb
        exact tb _
      · have z':=(if_neg hb).symm.trans z
        cases z'
    · by_cases hb:b=tp
      · exact .inl hb
      · exact absurd (if_neg hb) z
  | none =>
    refine core (fun b=>if b=tp then some (.tbl pos qual) else if b=a then some (.frz { cls:=.type "list",data:=.seq vs.toArray } (.lst (ns.map V.int))) else none) (if_pos rfl) (.inl (.inr ⟨{ cls:=.type "list",data:=.seq vs.toArray },(if_neg nat).trans (if_pos rfl)⟩)) (fun b u z=>?_) (fun b z=>?_) fun _=>hk
    · by_cases hb:b=tp
      · have z':=(if_pos hb).symm.trans z
        cases z'
        subst hb
        exact tb _
      · have z':=(if_neg hb).symm.trans z
        by_cases hb2:b=a
        · have z2:=(if_pos hb2).symm.trans z'
          cases z2
          subst hb2
          exact ⟨ha,by rw [List.length_map]; exact hl,vs,_,rv,ha⟩
        · have z2:=(if_neg hb2).symm.trans z'
          cases z2
    · by_cases hb:b=tp
      · exact .inl hb
      · by_cases hb2:b=a
        · exact .inr ⟨hb2,_,_,(if_neg hb).trans (if_pos hb2)⟩
        · exact absurd (by show (if b=tp then _ else if b=a then _ else none)=none; rw [if_neg hb,if_neg hb2]) z
theorem walk_ofT {l:PySem.W.OpenLaw} {n k:Nat} {q:Program} {loose:List Str} {XP:(Str→Option Value)→Heap→Prop} {YP:World→Heap→Prop} {d:DefRec} {K:Params→PySem.W.Frag} {CX:World→CXT} {sp:World→Sp} {x:Str} {tp:Addr} {pos:Pos} {qual:Str} {G:World→Prop}
    (hn:l.most=some n) (hn2:n≤sizeLine) (hdf:d.params.defaults=[]) (hr:Room k callerA)
    (hY:∀ (w:World) (h:Heap),YP w h→(K w.params).In h∧h.get? tp=some { cls:=.none,data:=.fields #[] })
    (F:∀ (w:World) (mg:Str→Option Value) (fa:Addr) (h:Heap),(K w.params).In h→h.Ns mainGlobals mg→mg d.name=some (.ref fa) →
      G w∧(∃ c0,PySem.W.codeHdIn (K w.params) c0 tp=true)∧(K w.params).lookup tp=none∧∃ fd:FuncData,(∀ (s:Shared) (u:Value),BindsTo s fd ⟨[u],[]⟩ [(x,u)]) ∧
        ∀ base:Heap,(K w.params).In base→base.Ns mainGlobals mg→BMod base mg→FnOk l.prog w (K w.params) mg base (CX w) k fa fd [x] (sp w))
    (hsp:∀ (w:World) (H:Hp) (a:Addr) (ns:List Int),G w→ns.length≤n→H tp=some (.tbl pos qual)→SqL (K w.params) H a (ns.map V.int)→sp w [.ref a] H (fun v _=>v=.bl true) fun _ _ _=>False)
    (hCX:∀ (w:World) (H:Hp) (s:Shared) (e:Value) (s':Shared),CX w [] H s (fun _ _ _=>False) e s'→False) :
    PySem.W.WalkO q loose XP YP l.row.toRowW d [] (fun f vs=>PySem.call f vs):=by
  refine Att.attach_call hn hdf fun w s₀ s₁ mg mb fa o pm cd doc a vs ns G' Y ho hd hcd hmg hobj hints hlen hg=>?_
  obtain ⟨KX,htp⟩:=hY w _ Y
  obtain ⟨g,⟨c0,hc⟩,hk,fd,hb,hF⟩:=F w mg fa _ KX G'.T.g hmg
  have hbm:BMod s₁.heap mg:=by
    obtain ⟨bm,ob,b1,b2,b3,b4,b5,b6⟩:=G'.T.bmain
    refine ⟨bm,ob,b1,b2,fun z=>?_,b3,b4,b5,b6⟩
    obtain ⟨o,es,ep,e,hd',_⟩:=G'.T.g
    rw [z,e] at b3
    cases b3
    rw [hd'] at b6
    cases b6
  exact law_callT KX G'.T.g G'.T.b G'.T.builtins G'.T.nolimit hg hobj hints (Nat.le_trans hlen hn2) hr htp hc hk hbm hF hb (fun H hT hS=>hsp w H a ns g hlen hT hS) fun H e s'=>hCX w H s₁ e s'
def clsOf (K:PySem.W.Frag) (x:Str):Addr:=match PySem.W.nsIn K mainGlobals x with
  | some (some (.ref C))=>C
  | _=>0
def tabOf (K:PySem.W.Frag) (x m:Str):Addr:=match PySem.W.findIn K (.ref (clsOf K x)) m with
  | some (some (.ref f))=>(match K.lookup f with
    | some ⟨_,_,.func fd,_⟩=>(match fd.code with
      | .ref c=>(match K.lookup c with
        | some ⟨_,_,.fields vs,_⟩=>(match (vs[11]?:Option Value) with
          | some (.ref P)=>P
          | _=>0)
        | _=>0)
      | _=>0)
    | _=>0)
  | _=>0
theorem clsOf_eq {K:PySem.W.Frag} {x:Str} {C:Addr} (h:PySem.W.nsIn K mainGlobals x=some (some (.ref C))):clsOf K x=C:=by
  unfold clsOf
  rw [h]
theorem tabOf_eq {K:PySem.W.Frag} {x m:Str} {f c P:Addr} {oc:Value} {od:Option Addr} {fd:FuncData} {sl:Array (Option Value)} (h1:PySem.W.findIn K (.ref (clsOf K x)) m=some (some (.ref f))) (h2:K.lookup f=some ⟨oc,od,.func fd,sl⟩) (h3:fd.code=.ref c)
    (h4:PySem.W.codeHdIn K c P=true):tabOf K x m=P:=by
  unfold PySem.W.codeHdIn at h4
  split at h4
  · rename_i vs _ hk
    simp only [Bool.and_eq_true] at h4
    obtain ⟨⟨⟨⟨⟨e1,_⟩,_⟩,_⟩,_⟩,_⟩:=h4
    split at e1
    · rename_i P' h11
      have hP:P'=P:=beq_iff_eq.mp e1
      subst hP
      unfold tabOf
      simp only [h1,h2,h3,hk,h11]
    · cases e1
  · cases h4
end L2
set_option Elab.async false
set_option linter.all false
set_option maxRecDepth 100000
set_option maxHeartbeats 4000000
namespace L2
open PySem PySem.Spec PyProof.Rows
end L2
set_option Elab.async false
set_option linter.all false
set_option maxRecDepth 100000
set_option maxHeartbeats 4000000
namespace L2
open PySem PySem.F PyProof.Rows PySem.MeetsSeq
variable {K:PySem.W.Frag} {X:Cx} {pins:List Pin} {σ:St} {H:Hp} {s:Shared}
def rSorted (K:PySem.W.Frag):List V→Hp→VK→Prop:=fun xs H Q=>∃ (p:Addr) (ns:List Int),xs=[.ref p]∧SqL K H p (ns.map V.int)∧ns.length<64 ∧
  ∀ (D:Addr) (os:List Int),H D=none→os.Perm ns→os.Pairwise (·≤·)→Q (.ref D) (upd H D (.lst (os.map V.int)))
theorem call_sorted (hK:X.K=K):CallR X (.builtin "sorted") (rSorted K):=by
  subst hK
  intro pins s σ H xs us Q I r h
  obtain ⟨p,ns,rfl,hq,h64,q⟩:=h
  obtain ⟨u,rfl,rx⟩:=vals1 r
  cases rx
  obtain ⟨its,rv,pl,hz⟩:=I.list hq
  have hv:=intsAre_of rv
  have lv:its.length=ns.length:=by have:=rv.length; rw [List.length_map] at this; exact this.symm
  refine sorted_ints pl.isList hv (by omega) fun out ns' hi hp hs=>?_
  obtain ⟨e,he⟩:=sortedAll_at s.heap its out
  have fr:H (s.heap.objs.size+1)=none:=I.hok.fresh (Nat.le_succ _)
  have lo:=hp.length_eq
  refine ⟨.ref (s.heap.objs.size+1),_,I.laid (a:=s.heap.objs.size+1) (t':=s.toks) (o:=.lst (ns'.map V.int)) (fun b o z=>sortedAll_old z) (Nat.le_succ _) ⟨by rw [List.length_map,lo,sizeLine_eq]; omega,out.toList,e,vals_ints hi,he⟩,rfl,q _ ns' fr hp hs⟩
def rmSp (l:Addr) (items:Array Value) (n:Nat) (x:Value) (j:Nat):PySem.Spec:=fun A R s =>
  s.heap.get? l=some { cls:=.type "list",dict:=none,data:=.seq items n,slots:=#[] }∧(∀ (m:Nat) (hm:m<items.size),m≤j→SeqAt.EqAt A.in1 s items[m] x (decide (m=j))) ∧
    R (.ok (.ret .none)) { s with heap:=s.heap.update l (Obj.mapSeq fun xs=>xs.eraseIdxIfInBounds j) }
theorem rm_loop {l:Addr} {items:Array Value} {n:Nat} {x:Value} {j:Nat} (hj:j<items.size) (hz:items.size≤sizeLine):∀ (d i:Nat),i+d=j→Meets (Builtin.«list.remove.loop» ⟨[.ref l,x,rawInt i],[]⟩) (rmSp l items n x j)
  | 0,i,hd=>by
    rintro prog w A R ⟨hp,g,dd,tk,os⟩ ⟨hl,heq,hR⟩
    obtain rfl:i=j:=by omega
    wp_walk using wpAny_loadPart' hl
    rw [show items[((i:Nat):Int).toNat]?=some items[i] by simp [hj]]
    refine wpAny_bind (heq i hj (Nat.le_refl _) prog w _ _ ?_)
    rw [decide_eq_true rfl]
    have z2:=Nat.le_trans (size_erased items i) (Nat.le_succ_of_le hz)
    wp_walk using (wpAny_updateSeq hl rfl (hz:=hz) (_hz':=z2)),wpAny_loadPart' hl
    simpa using hR
  | d+1,i,hd=>by
    rintro prog w A R ⟨hp,g,dd,tk,os⟩ ⟨hl,heq,hR⟩
    have lt:i<items.size:=by omega
    wp_walk using wpAny_loadPart' hl
    rw [show items[((i:Nat):Int).toNat]?=some items[i] by simp [lt]]
    refine wpAny_bind (heq i lt (by omega) prog w _ _ ?_)
    rw [decide_eq_false (by omega:¬ i=j)]
    wp_walk
    rw [show ((i:Int)+1)=((i+1:Nat):Int) by push_cast; rfl]
    refine ⟨plainId_quiet plain_remove_loop _,codeAny_builtin entry_remove_loop ?_⟩
    rw [Around.under_plainId plain_remove_loop _]
    exact rm_loop hj hz d (i+1) (by omega) prog w A R _ ⟨hl,heq,hR⟩
theorem rm_meets {l:Addr} {items:Array Value} {n:Nat} {x:Value} {j:Nat} (hj:j<items.size) (hz:items.size≤sizeLine):Meets (Builtin.«list.remove» ⟨[.ref l,x],[]⟩) (rmSp l items n x j):=by
  rintro prog w A R ⟨hp,g,dd,tk,os⟩ ⟨hl,heq,hR⟩
  wp_walk using wpAny_loadPart' hl
  refine ⟨plainId_quiet plain_remove_loop _,codeAny_builtin entry_remove_loop ?_⟩
  rw [Around.under_plainId plain_remove_loop _]
  exact rm_loop hj hz j 0 (by omega) prog w A R _ ⟨hl,heq,hR⟩
def rRemoveD (K:PySem.W.Frag) (n:Nat):V→List V→Hp→VK→Prop:=fun x vs H Q=>∃ (l:Addr) (xs:List V) (y:V) (j:Nat),x=.ref l∧vs=[y]∧H l=some (.lst xs)∧j<xs.length∧(∀ (i:Nat) (u:V),i≤j→xs[i]?=some u→EqD K H n u y (decide (i=j)))∧Q .non (upd H l (.lst (xs.eraseIdx j)))
theorem mt_removeD (n:Nat) (hu:X.A.units+1+n<cLine) (hK:X.K=K):MtM X "list.remove" (rRemoveD K n):=by
  subst hK
  intro pins s σ H x vs v us Q I rx rv h
  obtain ⟨l,xs,y,j,rfl,rfl,hH,hj,he,q⟩:=h
  cases rx
  obtain ⟨u,rfl,ru⟩:=rv.one
  obtain ⟨z,its,m,r,hl,e⟩:=I.lstM hH
  refine call_meets F.slot_list_remove ⟨_,e,rfl⟩ F.entry_list_remove (F.args_list_remove_2 _ _) (rm_meets (items:=its.toArray) (n:=m) (j:=j) (by simpa [← hl] using hj) (by simpa [← hl] using z)) ⟨e,fun i hi hij=>?_,?_⟩
  · obtain ⟨x',e1,r1⟩:=at_rel r hi
    exact eqD_at I n _ _ _ _ _ _ (by show X.A.units+1+n<cLine; exact hu) r1 ru (he i x' hij e1)
  · refine ⟨.non,_,I.lset (its':=its.eraseIdx j) (ys:=xs.eraseIdx j) hH e ?_ ?_ ?_,rfl,q⟩
    · rw [List.eraseIdxIfInBounds_toArray]
    · exact vals_erase j r
    · exact Nat.le_trans (List.length_eraseIdx_le ..) z
theorem pe_bmC {e:PySem.Expr} {T:String} {r:V→List V→Hp→VK→Prop} {to:TE} {t:TA} (hK:X.K=K) (h:PE X e (tBM X.K T r to t)):PE X e (tBM K T r to t):=by
  subst hK; exact h
def tNev:TS:=fun _ _ _=>False
end L2
set_option Elab.async false
set_option linter.all false
set_option maxRecDepth 100000
set_option maxHeartbeats 4000000
namespace L2
open PySem PySem.Calls PyProof.Rows PySem.MeetsSeq PySem.W
variable {K:PySem.W.Frag} {X:Cx} {pins:List Pin} {σ:St} {H:Hp} {s:Shared}
def rSortedD:List V→Hp→VK→Prop:=fun xs H Q=>∃ (d:Addr) (kvs:List (Key×V)) (ns:List Int),xs=[.ref d]∧H d=some (.dK kvs)∧kvs.map Prod.fst=ns.map Sum.inl∧ns.length<64 ∧
  ∀ (D:Addr) (os:List Int),H D=none→os.Perm ns→os.Pairwise (·≤·)→Q (.ref D) (upd H D (.lst (os.map V.int)))
theorem vals_at:∀ {xs:List V} {us:List Value},xs.length=us.length→(∀ (i:Nat) x u,xs[i]?=some x→us[i]?=some u→RelV x u)→Vals xs us
  | [],[],_,_=>.nil
  | [],_ :: _,h,_=>nomatch h
  | _ :: _,[],h,_=>nomatch h
  | x :: xs,u :: us,h,k=>.cons (k 0 x u rfl rfl) (vals_at (by simpa using h) fun i x' u' h1 h2=>k (i+1) x' u' (by simpa using h1) (by simpa using h2))
theorem kv_get:∀ {kvs:List (Key×V)} {vs:List (Key×Value)},KV kvs vs→∀ {i:Nat} {p:Key×V} {q:Key×Value},kvs[i]?=some p→vs[i]?=some q→p.1=q.1
  | _,_,.nil,_,_,_,h,_=>nomatch h
  | _,_,.cons r t,0,_,_,h1,h2=>by cases h1; cases h2; exact r.1
  | _,_,.cons r t,i+1,_,_,h1,h2=>kv_get (i:=i) t (by simpa using h1) (by simpa using h2)
theorem keys_ints {P:Program} {w:World} {kvs:List (Key×V)} {vs:List (Key×Value)} {ns:List Int} {acc:Array Value} (r:KV kvs vs) (e:kvs.map Prod.fst=ns.map Sum.inl) (h:ItemsOf (fun i v=>∃ k x,vs[i]?=some (k,x)∧(mixKind P w).is k v=true) acc vs.length):IntsAre acc.toList ns:=by
  have lv:kvs.length=vs.length:=Paired.length r
  have ln:kvs.length=ns.length:=by have:=congrArg List.length e; simpa using this
  refine intsAre_of (vals_at (by have l3:acc.toList.length=acc.size:=Array.length_toList; have l4:=h.1; rw [List.length_map]; omega) fun i x u hx hu=>?_)
  rw [Array.getElem?_toList] at hu
  obtain ⟨k,y,h1,h2⟩:=h.2 i u hu
  have hi:i<kvs.length:=by rw [lv]; exact (List.getElem?_eq_some_iff.mp h1).1
  have e1:=kv_get r (List.getElem?_eq_getElem hi) h1
  have e2:(kvs.map Prod.fst)[i]?=some k:=by rw [List.getElem?_map,List.getElem?_eq_getElem hi]; exact congrArg some e1
  rw [e,List.getElem?_map] at e2
  rw [List.getElem?_map] at hx
  cases g:ns[i]? with
  | none=>rw [g] at hx; cases hx
  | some z =>
    rw [g] at hx e2
    cases hx; cases e2
    exact relV_key h2
theorem call_sortedD (hc:X.calm=true):CallR X (.builtin "sorted") rSortedD:=by
  intro pins s σ H xs us Q I r h
  obtain ⟨d,kvs,ns,rfl,hd,hk,h64,q⟩:=h
  obtain ⟨u,rfl,rx⟩:=vals1 r
  cases rx
  obtain ⟨hz,hs,vs,rv,hD⟩:=I.hok d _ hd
  obtain ⟨ep,hat⟩:=hD.dictAt
  have hl:vs.length=ns.length:=by have l1:kvs.length=vs.length:=Paired.length rv; have l2:=congrArg List.length hk; simp at l2; omega
  refine call_function_entry kind_sorted plain_sorted entry_sorted (args_sorted1 _) ?_
  unfold Builtin.«sorted»
  refine wpAny_bind (m:=checkCount "sorted" 1 1 _) (wpAny_pure ?_)
  refine wpAny_bind (kdu_collect (A:=X.A.in1) (kdl_dict (knd:=mixKind X.prog X.w) (kvs:=vs) (ep:=ep) hs) (show X.A.in1.handled=none from I.ok.hd hc) hat (by rw [sizeLine_eq]; omega) fun h' tk acc hk' hacc=>?_)
  have hI:=keys_ints rv hk hacc
  have la:acc.toList.length=ns.length:=by rw [Array.length_toList,hacc.1,hl]
  refine wpAny_bind (wpAny_newList ?_ (by rw [la,sizeLine_eq]; omega))
  have hoL:(h'.push (seqObj "list" acc.toList.toArray 0)).get? h'.objs.size=some (seqObj "list" acc.toList.toArray 0):=Heap.get?_push_size _ rfl
  have I1:=I.kept (t':=tk) hk'
  show wpAny _ _ _ _ _ { s with heap:=h'.push (seqObj "list" acc.toList.toArray 0),toks:=tk }
  refine wpAny_bind (wpAny_holding (wpAny_call_entry slot_list_sort ⟨_,hoL,rfl⟩ entry_list_sort (list_sort_tree hoL hI (by omega) fun out ns' a1 a2 a3=>⟨_,rfl,?_⟩) (args_list_sort _)))
  refine wpAny_pure ⟨_,rfl,?_⟩
  obtain ⟨e,he⟩:=sortedHeap_at (out:=out) hoL
  have fr:H h'.objs.size=none:=I1.hok.fresh (Nat.le_refl _)
  have lo:=a2.length_eq
  refine ⟨.ref h'.objs.size,_,I1.laid (a:=h'.objs.size) (t':=tk) (o:=.lst (ns'.map V.int)) (fun b o z=>?_) (Nat.le_refl _) ⟨by rw [List.length_map,lo,sizeLine_eq]; omega,out.toList,e,vals_ints a1,he⟩,rfl,q _ ns' fr a2 a3⟩
  have z':h'.get? b=some o:=z
  have lt:=Heap.lt_size z'
  rw [sortedHeap_old (Nat.ne_of_lt lt) (by rw [size_push']; exact Nat.lt_succ_of_lt lt),Heap.get?_push_ne _ _ _ (Nat.ne_of_lt lt)]
  exact z'
theorem pe_methN0 {C:Addr} {m:Str} {k:Nat} {ps:List Str} {sp:Sp} {o:PySem.Expr} {ta:TE} {apos pos:Pos} {pl:Sem Bool} (M:MDef X.prog X.w X.K X.mg X.base C m k ps sp) (hr:Room k X.A) (c:Cls X.K C) (he:PE X o ta)
    (ht:eval (.Call (.Attribute o m apos) [] [] pos) X.env=(do
      let ov ← eval o X.env
      standAt apos.atName
      let (f,first) ← holding [ov] (getMethod ov m pl)
      callWith pos f first (backTo pos (starEach [] X.env)) (backToKw pos (keywordEach [] X.env))):=by rfl) :
    PE X (.Call (.Attribute o m apos) [] [] pos) (tMeth C m sp [] E0 ta tNil):=by
  obtain ⟨f,fd,F,hm,hb⟩:=M
  exact pe_meth0 he c hm F hr hb .nil (fun _ _ _ _ _ _ _ z=>z.elim) ht
end L2
set_option Elab.async false
set_option linter.all false
set_option maxRecDepth 100000
set_option maxHeartbeats 4000000
namespace L2
open PySem PySem.Calls PySem.Spec PyProof.Rows PySem.W
structure Flies (P:Program) (w:World) (l:List Env) (H:Hp) (s:Shared) (H':Hp) (a C:Addr) (s':Shared):Prop where
  os:s'.os=s.os
  bare:AllBare s'.gens
  ex:∃ (h0 B:Heap) (t:Addr),Un (frs l) [] H H' s.heap h0∧HOk P w H' h0∧(∀ b∈frs l,H' b=none∧∃ o,h0.get? b=some o∧∀ vs,o.data≠.fields vs) ∧
    (∀ b o,h0.get? b=some o→b∉frs l→((∃ o1,s.heap.get? b=some o1)∨H' b≠none)→B.get? b=some o)∧Heap.FlyingW B l a (.ref C) (.ref t) s'.heap∧h0.UpToSlots s'.heap
section
variable {P:Program} {w:World} {l:List Env} {H H':Hp} {s s':Shared} {a C:Addr}
theorem Flies.un (f:Flies P w l H s H' a C s'):Un (frs l) [] H H' s.heap s'.heap:=by
  obtain ⟨h0,B,t,u,hok,hf,hB,fl,up⟩:=f.ex
  refine ⟨fun b o e n nf nx=>fl.1 _ _ (hB b o (u.keep b o e n nf nx) nf (.inl ⟨o,e⟩)),fun b o e n hb nx=>?_,u.free,fun b o e nx=>?_,u.tups,u.frzs,u.tbls⟩
  · obtain ⟨sl,e0⟩:=u.slot b o e n hb nx
    obtain ⟨_,o',e',hd⟩:=hf b hb
    rw [e0] at e'
    cases e'
    obtain ⟨sl2,e2⟩:=up b _ e0 hd
    exact ⟨sl2,e2⟩
  · obtain ⟨o0,e0⟩:=u.there b o e nx
    by_cases hb:b∈frs l
    · obtain ⟨_,o',e',hd⟩:=hf b hb
      rw [e0] at e'
      cases e'
      obtain ⟨sl2,e2⟩:=up b _ e0 hd
      exact ⟨_,e2⟩
    · exact ⟨o0,fl.1 _ _ (hB b o0 e0 hb (.inl ⟨o,e⟩))⟩
theorem Flies.hok (f:Flies P w l H s H' a C s'):HOk P w H' s'.heap:=fun b u e=>by
  obtain ⟨h0,B,t,_,hok,hf,hB,fl,_⟩:=f.ex
  have kp:∀ c v,H' c≠none→h0.get? c=some v→s'.heap.get? c=some v:=fun c v n ev=>fl.1 _ _ (hB c v ev (fun z=>n (hf c z).1) (.inr n))
  refine (hok b u e).stay (fun c v hc ev=>kp c v ?_ ev) (fun _ z=>z) (fun _ _ z=>z)
  rcases hc with rfl | hc
  · rw [e]; exact Option.some_ne_none _
  · rw [hc]; exact Option.some_ne_none _
end
def CXr (P:Program) (w:World):CXT:=fun outer H s E e s'=>∃ a C H',e=.ref a∧Flies P w outer H s H' a C s'∧E (.ref C) (some a) H'
def XP (m:Prop) (X:Cx) (pins:List (Addr×Obj)) (Ex:St→Hp→Addr→Addr→Prop) (e:Value) (s':Shared):Prop :=
  ∃ a C σ H',e=.ref a∧Ex σ H' C a∧((∃ H0 s0,Inv X pins σ H0 s0∧Flies X.prog X.w X.stack H0 s0 H' a C s')∨(m∧∃ s0 vs,Inv X pins σ H' s0∧s'.os=s0.os∧s'.gens=s0.gens∧Heap.MadeExcOf s0.heap s'.heap a (.ref C) vs))
def PX (m:Prop) (X:Cx) (st:Stmt) (t:(St→Hp→Addr→Addr→Prop)→TS):Prop :=
  ∀ (pins:List (Addr×Obj)) (s:Shared) (σ:St) (H:Hp) (D:Ends) (Ex:St→Hp→Addr→Addr→Prop),Inv X pins σ H s→t Ex D σ H→wpAny (model X.prog X.w) X.A (exec st X.env) (SP X pins D) (XP m X pins Ex) s
def PXs (m:Prop) (X:Cx) (st:List Stmt) (t:(St→Hp→Addr→Addr→Prop)→TS):Prop :=
  ∀ (pins:List (Addr×Obj)) (s:Shared) (σ:St) (H:Hp) (D:Ends) (Ex:St→Hp→Addr→Addr→Prop),Inv X pins σ H s→t Ex D σ H→wpAny (model X.prog X.w) X.A (execs st X.env) (SP X pins D) (XP m X pins Ex) s
section
variable {X:Cx}
variable {m:Prop}
abbrev XK':=St→Hp→Addr→Addr→Prop
def PEx (m:Prop) (X:Cx) (e:PySem.Expr) (t:XK'→TE):Prop :=
  ∀ (pins:List (Addr×Obj)) (s:Shared) (σ:St) (H:Hp) (Q:VK) (Ex:XK'),Inv X pins σ H s→t Ex σ H Q→wpAny (model X.prog X.w) X.A (eval e X.env) (EP X pins σ Q) (XP m X pins Ex) s
theorem pxs_cons {st:Stmt} {rest:List Stmt} {t u:XK'→TS} (h1:PX m X st t) (h2:PXs m X rest u):PXs m X (st :: rest) (fun Ex=>tSeq (t Ex) (u Ex)):=by
  intro pins s σ H D Ex I h
  refine wpAny_execs_cons (thn (h1 pins s σ H { D with nx:=u Ex D } Ex I h) fun f s1 q=>?_)
  cases f with
  | next=>obtain ⟨σ',H',I',q'⟩:=q; exact h2 pins s1 σ' H' D Ex I' q'
  | brk=>exact q
  | cont=>exact q
  | ret u=>exact q
theorem pxs_one {st:Stmt} {t:XK'→TS} (h1:PX m X st t):PXs m X [st] t:=by
  intro pins s σ H D Ex I h
  refine wpAny_execs_cons (thn (h1 pins s σ H D Ex I h) fun f s1 q=>?_)
  cases f with
  | next=>exact wpAny_execs_nil q
  | brk=>exact q
  | cont=>exact q
  | ret u=>exact q
theorem px_if {c:PySem.Expr} {a b:List Stmt} {pos:Pos} {tc:TT} {t u:XK'→TS} (hx:∀ e s,¬ X.xe e s) (hc:PT X c tc) (ha:PXs m X a t) (hb:PXs m X b u):PX m X (.If c a b pos) (fun Ex=>tIfS tc (t Ex) (u Ex)):=by
  intro pins s σ H D Ex I h
  refine wpAny_If (wpAny_mono (hc pins s σ H _ I h) (fun d s1 ⟨H1,I1,q1⟩=>?_) fun e s' z=>absurd z (hx e s'))
  cases d with
  | true=>exact ha pins s1 σ H1 D Ex I1 (by rw [if_pos rfl] at q1; exact q1)
  | false=>exact hb pins s1 σ H1 D Ex I1 (by rw [if_neg Bool.false_ne_true] at q1; exact q1)
theorem px_set {i:Nat} {x:Str} {e:PySem.Expr} {te:XK'→TE} {pos pos':Pos} (hN:X.N.Nodup) (hi:X.N[i]?=some x) (hl:Loc X.env.scope x) (hf:X.fn x=true∨X.env.scope.names.lookup x=some .local) (he:PEx m X e te) (hs:swapsWith e (some (.Name x pos')) pos.line X.env=pure false:=by rfl) :
    PX m X (.Assign [.Name x pos'] e pos) (fun Ex=>tAsg (te Ex) (gName i)):=by
  intro pins s σ H D Ex I h
  refine wpAny_Assign_Name (thn (he pins s σ H _ Ex I h) fun v s1 ⟨y,H1,I1,r1,q1⟩=>?_) hs
  exact store_ok I1 hN hi hl r1 (fun s2 I2=>⟨_,H1,I2,q1⟩) hf
theorem px_expr {e:PySem.Expr} {te:XK'→TE} {pos:Pos} (he:PEx m X e te) (hs:swapsWith e none pos.line X.env=pure false:=by rfl):PX m X (.Expr e pos) (fun Ex=>tDrop (te Ex)):=by
  intro pins s σ H D Ex I h
  exact wpAny_Expr_any (thn (he pins s σ H _ Ex I h) fun v s1 ⟨x,H1,I1,r1,q1⟩=>⟨σ,H1,I1,q1⟩) I.quiet hs
def tMethX (C:Addr) (m:Str) (sp:Sp) (ta:TE) (t:TA) (Ex:XK'):TE:=fun σ H Q=>ta σ H fun x H1=>∃ a dx fs,x=.ref a∧H1 a=some (.ins C dx fs)∧fs.lookup m=none ∧
  t σ H1 fun vs H2=>sp (x :: vs) H2 Q (fun c a' H3=>∃ C' a1,c=.ref C'∧a'=some a1∧Ex σ H3 C' a1)
theorem run_fnx {pins:List (Addr×Obj)} {σ:St} {H:Hp} {s:Shared} {Q:VK} {us:List Value} {vs:List V} {k:Nat} {f:Addr} {fd:FuncData} {ps:List Str} {sp:Sp} {Ex:XK'} (F:FnOk X.prog X.w X.K X.mg X.base (CXr X.prog X.w) k f fd ps sp) (hr:Room k X.A) (hb:Binds X.K fd ps [])
    (I:Inv X pins σ H s) (r:Vals vs us) (h:sp vs H Q (fun c a' H3=>∃ C' a1,c=.ref C'∧a'=some a1∧Ex σ H3 C' a1)):wpAny (model X.prog X.w) X.A (call (.ref f) us) (EP X pins σ Q) (XP m X pins Ex) s:=by
  have hl:us.length=ps.length:=by rw [← r.length]; exact F.len _ _ _ _ h
  have hb':=hb s us I.kIn (by rw [List.append_nil]; exact hl)
  rw [List.append_nil] at hb'
  refine wpAny_call (codeAny_mono (F.run X.A X.stack s H ⟨us,[]⟩ us vs Q _ hr I.env0 hb' r h) fun r s' hq=>?_)
  cases r with
  | error e =>
    obtain ⟨a,C,H',rfl,fl,C',a1,e1,e2,q⟩:=hq
    cases e1; cases e2
    exact ⟨a,C,σ,H',rfl,q,.inl ⟨H,s,I,fl⟩⟩
  | ok fl =>
    cases fl with
    | ret u=>exact I.after hq
    | next=>exact False.elim hq
    | brk=>exact False.elim hq
    | cont=>exact False.elim hq
theorem pex_meth {C:Addr} {mt:Str} {k:Nat} {f:Addr} {fd:FuncData} {ps:List Str} {sp:Sp} {o e:PySem.Expr} {es:List PySem.Expr} {ta:TE} {t:TA} {apos pos:Pos} {pl:Sem Bool} (hx:∀ e s,¬ X.xe e s) (he:PE X o ta) (c:Cls X.K C) (hm:Meth X.K C mt f) (F:FnOk X.prog X.w X.K X.mg X.base (CXr X.prog X.w) k f fd ps sp) (hr:Room k X.A) (hb:Binds X.K fd ps []) (ha:PA X (e :: es) t)
    (hst:starEach (e :: es) X.env=(false,eval e X.env) :: starEach es X.env) (hpl:(backTo pos (starEach es X.env)).any (·.1)=false)
    (ht:eval (.Call (.Attribute o mt apos) (e :: es) [] pos) X.env=(do
      let ov ← eval o X.env
      standAt apos.atName
      let (f,first) ← holding [ov] (getMethod ov mt pl)
      callWith pos f first (backTo pos (starEach (e :: es) X.env)) (backToKw pos (keywordEach [] X.env))):=by rfl) :
    PEx m X (.Call (.Attribute o mt apos) (e :: es) [] pos) (tMethX C mt sp ta t):=by
  intro pins s σ H Q Ex I h
  have no:∀ {A:Type} (e:Value) (s':Shared),X.xe e s'→XP m X pins Ex e s':=fun e s' z=>absurd z (hx e s')
  refine PySem.W.methodCall_KW (pl:=pl) (wpAny_mono (he pins s σ H _ I h) (fun u s1 ⟨x,H1,I1,rx,a,dx,fs,ex,ea,l,q⟩=>?_) fun e s' z=>absurd z (hx e s')) ht
  subst ex
  obtain rfl:u=Value.ref a:=rx
  refine getmeth_ok I1 ea c hm l ?_
  refine PySem.W.callWith_K (first:=[.ref a]) (h₀:=X.base) I.ok.mod.kin hm.kp (wpAny_mono (ha pos pins s1 σ H1 _ I1 q) (fun us s2 ⟨vs,H2,I2,r,q2⟩=>⟨I2.kIn,?_⟩) fun e s' z=>absurd z (hx e s')) hst hpl
  exact run_fnx (us:=.ref a :: us) (vs:=.ref a :: vs) F hr hb I2 (.cons rfl r) q2
end
theorem un_out {X:Cx} {pins:List (Addr×Obj)} {σ:St} {H0 H':Hp} {s0:Shared} {h0:Heap} (I:Inv X pins σ H0 s0) (hex:X.ex=[]) (u:Un (frs X.stack) [] H0 H' s0.heap h0):Un (frs X.outer) [] X.H₀ H' X.s₀.heap h0:=by
  have ib:=I.base
  rw [hex] at ib
  have ne:∀ b o,X.s₀.heap.get? b=some o→b≠X.env.locals:=fun b o e z=>by have q1:=Heap.lt_size e; have q2:=I.ok.above; rw [← z] at q2; exact absurd q1 (Nat.not_lt.mpr q2)
  have st:∀ b,b∈frs X.stack→b=X.env.locals∨b∈frs X.outer:=fun b hb=>List.mem_cons.mp (I.stkSub b hb)
  have su:∀ b,b∈frs X.outer→b∈frs X.stack:=fun b hb=>by
    rcases I.ok.stk with e | ⟨e,_⟩
    · rw [e]; exact hb
    · rw [e]
      obtain ⟨v,hv,hf⟩:=List.mem_filterMap.mp hb
      exact List.mem_filterMap.mpr ⟨v,.tail _ hv,hf⟩
  refine ⟨fun b o e n nf nx=>u.keep b o (ib.keep b o e n nf nx) (ib.free b o e n nx) (fun z=>(st b z).elim (ne b o e) nf) nx,fun b o e n hb nx=>?_,fun b o e n nx=>?_,fun b o e nx=>?_,fun b xs e=>u.tups _ _ (ib.tups _ _ e),fun b o v e=>u.frzs _ _ _ (ib.frzs _ _ _ e),fun b p q e=>u.tbls _ _ _ (ib.tbls _ _ _ e)⟩
  · obtain ⟨sl,e1⟩:=ib.slot b o e n hb nx
    obtain ⟨sl2,e2⟩:=u.slot b _ e1 (ib.free b o e n nx) (su b hb) nx
    exact ⟨sl2,e2⟩
  · obtain ⟨o1,e1⟩:=ib.there b o e nx
    exact u.free b o1 e1 (ib.free b o e n nx) nx
  · obtain ⟨o1,e1⟩:=ib.there b o e nx
    exact u.there b o1 e1 nx
theorem xp_leave {P:Program} {w:World} {K:PySem.W.Frag} {mg:Str→Option Value} {base:Heap} {N:List Str} {qual:Str} {scope:Scope} {f:Addr} {cd:Value} {A:Around} {outer:List Env} {s:Shared} {H:Hp} {E:XK} {pins:List (Addr×Obj)} {e:Value} {s':Shared}
    (x:XP True (cxOf (CXr P w) P w K mg base N qual scope f cd A outer s H E).nox pins (fun _ H' C a=>E (.ref C) (some a) H') e s'):(cxOf (CXr P w) P w K mg base N qual scope f cd A outer s H E).xe e s':=by
  obtain ⟨a,C,σ,H',rfl,hE,h⟩:=x
  rcases h with ⟨H0,s0,I,fl⟩ | ⟨_,s0,vs,I,ho,hg,hx⟩
  · obtain ⟨h0,B,t,u,hok,hf,hB,fw,up⟩:=fl.ex
    have u2:=un_out I rfl u
    refine wpAny_leaves_onW (outer:=outer) I.ok.frames rfl fw fun h' fw' up'=>⟨a,C,H',rfl,⟨fl.os.trans I.os,fl.bare,h0,B,t,u2,hok,fun b hb=>hf b ?_,fun b o e nf hor=>?_,fw',up.trans up'⟩,hE⟩
    · obtain ⟨v,hv,hf'⟩:=List.mem_filterMap.mp hb
      exact List.mem_filterMap.mpr ⟨v,.tail _ hv,hf'⟩
    · have nb:b∉frs (cxOf (CXr P w) P w K mg base N qual scope f cd A outer s H E).nox.stack:=fun z=>by
        rcases List.mem_cons.mp (I.stkSub b z) with e1 | e1
        · rcases hor with ⟨o1,e2⟩ | n
          · have q1:=Heap.lt_size e2; have q2:=I.ok.above; rw [← e1] at q2; exact absurd q1 (Nat.not_lt.mpr q2)
          · exact n (hf b z).1
        · exact nf e1
      refine hB b o e nb (hor.imp (fun ⟨o1,e2⟩=>?_) id)
      exact I.base.there b o1 e2 (fun z=>nomatch z)
  · have E0:=I.env0
    have hin:∀ env∈(cxOf (CXr P w) P w K mg base N qual scope f cd A outer s H E).nox.stack,∀ b,env.frame=some b→b∈frs (cxOf (CXr P w) P w K mg base N qual scope f cd A outer s H E).nox.stack:=fun env he b hb=>List.mem_filterMap.mpr ⟨env,he,hb⟩
    refine wpAny_leaves_madeW (outer:=outer) (base:=hideAll s0.heap (frs (cxOf (CXr P w) P w K mg base N qual scope f cd A outer s H E).nox.stack)) I.ok.frames rfl (fun b o q=>of_hideAll _ q) (funFrames_hide E0.funs hin) hx fun h' t fw' tu nt up=>⟨a,C,H',rfl,⟨ho.trans I.os,by rw [hg]; exact I.bare,s0.heap,_,t,I.base,I.hok,fun b hb=>?_,fun b o e nf hor=>?_,fw',(Heap.UpToSlots.of_keeps hx.keeps).trans up⟩,hE⟩
    · have hb':b∈frs (cxOf (CXr P w) P w K mg base N qual scope f cd A outer s H E).nox.stack:=by
        obtain ⟨v,hv,hf'⟩:=List.mem_filterMap.mp hb
        exact List.mem_filterMap.mpr ⟨v,.tail _ hv,hf'⟩
      obtain ⟨_,o,e1,e2⟩:=E0.funs.mem hb'
      exact ⟨E0.frf b hb',o,e1,e2⟩
    · refine hideAll_get _ e fun z=>?_
      rcases List.mem_cons.mp (I.stkSub b z) with e1 | e1
      · rcases hor with ⟨o1,e2⟩ | n
        · have q1:=Heap.lt_size e2; have q2:=I.ok.above; rw [← e1] at q2; exact absurd q1 (Nat.not_lt.mpr q2)
        · exact n (E0.frf b z)
      · exact nf e1
theorem Fun.okx {P:Program} {w:World} {K:PySem.W.Frag} {mg:Str→Option Value} {base:Heap} {x qual:Str} {st:Stmt} {f:Addr} {fd:FuncData} {N ps:List Str} {k:Nat} {sp:Sp} (F:Fun K x qual st f fd) (S:FnScope N ps (defScope st)) (len:∀ vs H Q E,sp vs H Q E→vs.length=ps.length)
    (hb:∀ (cdv:Value) (A:Around) (outer:List Env) (s:Shared) (H:Hp) (vs:List V) (Q:VK) (E:XK),Room k (A.deeper (envOfC qual (defScope st) s.heap.objs.size f cdv))→sp vs H Q E →
      ∃ t,PXs True (cxOf (CXr P w) P w K mg base N qual (defScope st) f cdv A outer s H E).nox (defBody st) t∧t (fun _ H' C a=>E (.ref C) (some a) H') { nx:=fun _ H'=>Q .non H',rt:=Q } (start N vs) H):FnOk P w K mg base (CXr P w) (k+1) f fd ps sp:=by
  obtain ⟨oc,od,kV,doc,pm,an,cdv,ct,osl,rfl,lk,hcd⟩:=F.ex
  refine fn_of lk hcd S len fun A outer s H vs Q E hr hsp=>?_
  obtain ⟨t,h,q⟩:=hb cdv A outer s H vs Q E hr hsp
  refine ⟨t (fun _ H' C a=>E (.ref C) (some a) H'),fun pins s1 σ H1 D I hw=>?_,q⟩
  exact wpAny_mono (h pins s1 σ H1 D _ (I.wish _) hw) (fun _ _ z=>z.unwish) fun e s' z=>xp_leave z
end L2
set_option Elab.async false
set_option linter.all false
set_option maxRecDepth 100000
set_option maxHeartbeats 4000000
namespace L2
open PySem PySem.Calls PySem.Spec PyProof.Rows PySem.W
abbrev bmVE:List Value:=[.type "ValueError",.type "Exception",.type "BaseException",.type "object"]
structure XCls (K:PySem.W.Frag) (C:Addr):Prop where
  ex:∃ (nm q:Str) (N:Addr) (bs bm:List Value) (hdct:Bool) (sn:List Str) (sub:List Value) (ab:Bool) (col:Option Bool) (dd:Option Addr) (k0 k1 k2 k3 k5:Option Value),
    K.lookup C=some (excClassObj nm q C N bs bm hdct sn sub ab col dd k0 k1 k2 k3 k5 "ValueError.__new__")∧PySem.W.tailIn K bmVE bm=true∧PySem.W.nsOkIn K N=true∧PySem.W.nsIn K N "__init__" = some none
section
variable {X:Cx}
def tRaiseX (C:Addr) (t:TA) (Ex:XK'):TS:=fun _ σ H=>t σ H fun vs H1=>vs.length≤sizeLine∧∀ a,Ex σ H1 C a
theorem px_raise {x:Str} {C:Addr} {np cpos pos:Pos} {e:PySem.Expr} {es:List PySem.Expr} {t:TA} (hx:∀ e s,¬ X.xe e s) (hc:X.calm=true) (hg:Gl X x) (hm:X.mg x=some (.ref C)) (c:XCls X.K C) (ha:PA X (e :: es) t)
    (hst:starEach (e :: es) X.env=(false,eval e X.env) :: starEach es X.env:=by rfl) (hpl:(backTo cpos (starEach es X.env)).any (·.1)=false:=by rfl) (hd:(x == ("__debug__" : Str))=false:=by decide) :
    PX True X (.Raise (some (.Call (.Name x np) (e :: es) [] cpos)) none pos) (tRaiseX C t):=by
  intro pins s σ H D Ex I h
  obtain ⟨nm,q,N,bs,bm,hdct,sn,sub,ab,col,dd,k0,k1,k2,k3,k5,hl,ht,hn,hi⟩:=c.ex
  have T:=PySem.W.tail_of_in I.mod.kin ht
  refine wpAny_Raise_call_subU (C:=C) (nm:=nm) (q:=q) (N:=N) (bs:=bs) (bm:=bm) (hdct:=hdct) (sn:=sn) (sub:=sub) (ab:=ab) (col:=col) (dd:=dd) (k0:=k0) (k1:=k1) (k2:=k2) (k3:=k3) (k5:=k5)
    F.excBase_ValueError (by decide) F.excBase_ValueError (mN:=X.base.nsMap N) (T.hasType F.excBase_ValueError.hasBase) (I.ok.hd hc) (by rw [hst]; show (false || (backTo cpos (starEach es X.env)).any (·.1))=false; rw [hpl]; rfl)
    (PySem.W.nsMap_none_of_in I.mod.kin hn hi) (ld_glob I hg hm ⟨rfl,?_⟩ hd)
  have h1:=ha cpos pins s σ H _ I h
  rw [hst] at h1 ⊢
  refine Calls.evalArgs_plain (wpAny_mono h1 (fun us s1 ⟨vs,H1,I1,r,hv,q⟩=>⟨rfl,?_,I1.kIn _ _ hl,(Heap.Ns.of_isNs (PySem.W.isNs_of_in I.mod.kin hn)).keeps I1.bk,T.keeps I1.bk,fun h' a M=>?_⟩) fun e s' z=>absurd z (hx e s'))
  · show us.length≤sizeLine
    rw [← r.length]; exact hv
  · exact ⟨a,C,σ,H1,rfl,q a,.inr ⟨True.intro,s1,us,I1,rfl,rfl,M⟩⟩
def tFstr (ta:TE):TE:=fun σ H Q=>ta σ H fun x H1=>∃ i:Int,x=.int i∧i.natAbs<2 ^ 100∧∀ y:Str,Q (.str y) H1
theorem pe_fstr {a b:Str} {k1 k2:Nat} {p1 p2 p3 pos:Pos} {e:PySem.Expr} {ta:TE} (he:PE X e ta) (hl:a.length+b.length≤1000) :
    PE X (.JoinedStr [.Constant (.str a) k1 p1,.FormattedValue e (-1) none p2,.Constant (.str b) k2 p3] pos) (tFstr ta):=by
  intro pins s σ H Q I h
  refine wpAny_JoinedStr ?_
  show Joins _ _ _ [eval (.Constant (.str a) k1 p1) X.env,eval (.FormattedValue e (-1) none p2) X.env,eval (.Constant (.str b) k2 p3) X.env] _ _ _
  have hz:∀ n,n≤3000→n≤sizeLine:=fun n q=>Nat.le_trans q (by decide)
  refine Calls.Constant_str ⟨a,_,rfl,?_,?_⟩
  · rw [strLen_append]; exact hz _ (by have:Str.empty.length=0:=rfl; omega)
  refine wpAny_FormattedValue_plain (wpAny_mono (he pins _ σ H _ (I.tok _) h) (fun u s1 ⟨x,H1,I1,r,i,hx,hi,q⟩=>?_) fun _ _ z=>z)
  subst hx
  obtain ⟨tk,rfl⟩:=r
  have hd:i.natAbs.log2<1920:=by
    by_cases z:i.natAbs=0
    · rw [z]; decide
    · exact Nat.lt_of_lt_of_le ((Nat.log2_lt z).mpr hi) (by decide)
  have hlen:(Str.ofString (toString i)).length≤1930:=by
    have e:=int_text_length_le (k:=1920) (by decide) hd
    rw [PySem.ofString_length]; omega
  refine wpAny_formatField_int hd ⟨_,_,rfl,?_,?_⟩
  · rw [strLen_append,strLen_append]
    refine hz _ ?_
    have:Str.empty.length=0:=rfl
    have h2:((toString i:String):Str).length≤1930:=hlen
    omega
  refine Calls.Constant_str ⟨b,_,rfl,?_,?_,?_⟩
  · rw [strLen_append,strLen_append,strLen_append]
    refine hz _ ?_
    have:Str.empty.length=0:=rfl
    have h2:((toString i:String):Str).length≤1930:=hlen
    omega
  · rw [strLen_append,strLen_append,strLen_append]
    refine hz _ ?_
    have:Str.empty.length=0:=rfl
    have h2:((toString i:String):Str).length≤1930:=hlen
    omega
  · exact ⟨.str _,H1,(((I1.tok _).tok _).tok _),⟨_,rfl⟩,q _⟩
end
end L2
set_option Elab.async false
set_option linter.all false
set_option maxRecDepth 100000
set_option maxHeartbeats 4000000
namespace L2
open PySem PySem.Calls PySem.Spec PyProof.Rows PySem.W
theorem ObjOk.got {P:Program} {w:World} {H:Hp} {h:Heap} {a:Addr} {o:HO} (x:ObjOk P w H h a o):∃ ob,h.get? a=some ob:=by
  cases o with
  | lst xs=>obtain ⟨_,_,_,_,e⟩:=x; exact ⟨_,e⟩
  | tup xs=>obtain ⟨_,_,_,_,e,_⟩:=x; exact ⟨_,e⟩
  | dK kvs=>obtain ⟨_,_,_,_,o,_,_,e,_⟩:=x; exact ⟨_,e⟩
  | dT kvs=>obtain ⟨_,_,_,_,o,_,_,e,_⟩:=x; exact ⟨_,e⟩
  | set S n=>obtain ⟨o,_,_,_,e,_⟩:=x; exact ⟨_,e⟩
  | ins C dx fs=>obtain ⟨_,_,_,e,_⟩:=x; exact ⟨_,e⟩
  | own y=>obtain ⟨_,e⟩:=x; exact ⟨_,e⟩
  | xd fs=>obtain ⟨_,⟨_,_,_,e,_⟩,_⟩:=x; exact ⟨_,e⟩
  | rng lo hi=>obtain ⟨_,_,_,e⟩:=x; exact ⟨_,e⟩
  | frz ob u=>obtain ⟨e,_⟩:=x; exact ⟨_,e⟩
  | tbl p q=>obtain ⟨_,e,_⟩:=x; exact ⟨_,e⟩
  | met f y=>exact ⟨_,(show h.get? a=some _ from x)⟩
  | ext φ=>obtain ⟨_,e,_⟩:=x; exact e
def isX (a C:Addr):HO:=.ext fun h=>∃ ob,h.get? a=some ob∧ob.cls=.ref C
section
variable {P:Program} {w:World} {l:List Env} {H H':Hp} {s s':Shared} {a C:Addr}
theorem Flies.got (f:Flies P w l H s H' a C s'):∃ ob,s'.heap.get? a=some ob∧ob.cls=.ref C:=by
  obtain ⟨h0,B,t,u,hok,hf,hB,fl,up⟩:=f.ex
  exact fl.there
theorem Flies.fresh (f:Flies P w l H s H' a C s'):H' a=none∧s.heap.get? a=none:=by
  obtain ⟨h0,B,t,u,hok,hf,hB,fl,up⟩:=f.ex
  obtain ⟨oe,vs,he,_,hd,_⟩:=fl.first
  have nf:a∉frs l:=fun z=>by
    obtain ⟨_,o,e0,nd⟩:=hf a z
    obtain ⟨sl,e1⟩:=up a o e0 nd
    rw [he] at e1
    cases e1
    exact nd _ hd
  have nB:∀ o,B.get? a=some o→False:=fun o e=>by rw [fl.2.1] at e; cases e
  refine ⟨?_,?_⟩
  · cases e:H' a with
    | none=>rfl
    | some v=>obtain ⟨o,eo⟩:=(hok a v e).got; exact (nB o (hB a o eo nf (.inr (by rw [e]; exact Option.some_ne_none _)))).elim
  · cases e:s.heap.get? a with
    | none=>rfl
    | some v=>obtain ⟨o,eo⟩:=u.there a v e (fun z=>nomatch z); exact (nB o (hB a o eo nf (.inl ⟨v,e⟩))).elim
theorem Flies.unX (f:Flies P w l H s H' a C s'):Un (frs l) [] H (upd H' a (isX a C)) s.heap s'.heap∧HOk P w (upd H' a (isX a C)) s'.heap:=by
  obtain ⟨n1,n2⟩:=f.fresh
  have u:=f.un
  have ne:∀ {b:Addr} {v:HO},H' b=some v→b≠a:=fun q z=>by rw [z,n1] at q; cases q
  refine ⟨⟨u.keep,u.slot,fun b o e n nx=>?_,u.there,fun b xs e=>?_,fun b o v e=>?_,fun b p q e=>?_⟩,fun b v e=>?_⟩
  · rw [upd_ne (fun z=>by rw [z,n2] at e; cases e)]; exact u.free b o e n nx
  · rw [upd_ne (ne (u.tups b xs e))]; exact u.tups b xs e
  · rw [upd_ne (ne (u.frzs b o v e))]; exact u.frzs b o v e
  · rw [upd_ne (ne (u.tbls b p q e))]; exact u.tbls b p q e
  · by_cases hb:b=a
    · subst hb
      rw [upd_same] at e
      cases e
      obtain ⟨ob,g,c⟩:=f.got
      exact ⟨⟨ob,g,c⟩,⟨ob,g⟩,fun h1 h2 ⟨o,e,c⟩ k=>⟨o,k o e,c⟩⟩
    · rw [upd_ne hb] at e
      exact (f.hok b v e).stay (fun c x _ q=>q) (fun c q=>by rw [upd_ne (ne q)]; exact q) (fun c xs q=>by rw [upd_ne (ne q)]; exact q) fun c oz q=>by rw [upd_ne (ne q)]; exact q
theorem Flies.invX {X:Cx} {pins:List (Addr×Obj)} {σ:St} (I:Inv X pins σ H s) (f:Flies X.prog X.w X.stack H s H' a C s'):Inv X pins σ (upd H' a (isX a C)) s' :=
  I.call' f.os f.unX.1 f.unX.2 f.bare (fun b h=>nomatch h)
end
abbrev Cx.held (X:Cx) (a:Addr):Cx:={ X with A:=X.A.mark (some (.ref a)),calm:=false,xe:=fun _ _=>False }
section
variable {X:Cx} {pins:List (Addr×Obj)} {σ:St} {H H':Hp} {s s':Shared} {a C:Addr}
theorem Inv.held (I:Inv X pins σ H s) (a:Addr):Inv (X.held a) pins σ H s :=
  ⟨⟨I.ok.mod,I.ok.kind,I.ok.glob,I.ok.blt,I.ok.above,I.ok.inj,I.ok.has,I.ok.cab,(fun z=>nomatch z),I.ok.frames,I.ok.stk,I.ok.exf,I.ok.bs,I.ok.bsz,I.ok.noex,I.ok.exfs,I.ok.funs,I.ok.frf⟩,I.os,I.bare,I.base,I.loc,I.cell,I.free,I.freeC,I.pin,I.hok,I.len⟩
theorem Inv.unheld (I:Inv (X.held a) pins σ H s) (ok:X.Ok):Inv X pins σ H s :=
  ⟨ok,I.os,I.bare,I.base,I.loc,I.cell,I.free,I.freeC,I.pin,I.hok,I.len⟩
theorem goes_ok {M:Model} {A:Around} {E:Value→Shared→Prop} {i:Nat} {x:Str} {pos:Pos} {Q:Unit→Shared→Prop} (I:Inv X pins σ H s) (hN:X.N.Nodup) (hi:X.N[i]?=some x) (hk:X.env.kindOf x=some .local)
    (h:∀ s',Inv X pins (σ.set i none) H s'→Q () s'):wpAny M A (do bindName X.env x .none; unbindBehindTheSuite X.env x pos) Q E s:=by
  obtain ⟨m,hn,hl⟩:=id I.loc
  have hcls:(X.env.scope.kind == .class || (X.env.scope.kind == .module && X.env.locals != X.env.globals))=false:=by rw [I.ok.kind]; rfl
  have hiσ:i<σ.length:=by rw [I.len]; exact (List.getElem?_eq_some_iff.mp hi).1
  have cne:=I.cne
  refine wpAny_nameGoes_keeps hk hn hcls fun h' v hn' hs=>?_
  obtain ⟨oL,_,_,hoL,_⟩:=id hn
  have hok:HOk X.prog X.w H h':=fun b ob e=>by
    refine (I.hok b ob e).stay (fun c w' hc q=>(hs.2 c ?_).trans q) (fun _ q=>q) fun _ _ q=>q
    rintro rfl
    rcases hc with rfl | hc
    · rw [I.free] at e; cases e
    · rw [I.free] at hc; cases hc
  refine h _ ⟨I.ok,I.os,I.bare,⟨fun b o e n hb hx=>?_,fun b o e n hb hx=>?_,I.base.free,fun b o e hx=>?_,I.base.tups,I.base.frzs,I.base.tbls⟩,⟨_,hn',fun j y v' e1 e2 e3=>?_⟩,fun y c e=>?_,I.free,I.freeC,fun p hp=>?_,hok,by simpa using I.len⟩
  · exact (hs.2 b (Nat.ne_of_lt (Nat.lt_of_lt_of_le (Heap.lt_size e) I.ok.above))).trans (I.base.keep b o e n hb hx)
  · obtain ⟨sl,e1⟩:=I.base.slot b o e n hb hx
    exact ⟨sl,(hs.2 b (Nat.ne_of_lt (Nat.lt_of_lt_of_le (Heap.lt_size e) I.ok.above))).trans e1⟩
  · obtain ⟨o',e1⟩:=I.base.there b o e hx
    exact ⟨o',(hs.2 b (Nat.ne_of_lt (Nat.lt_of_lt_of_le (Heap.lt_size e) I.ok.above))).trans e1⟩
  · by_cases hj:j=i
    · subst hj
      rw [List.getElem?_set_self hiσ] at e2
      cases e2
    · rw [List.getElem?_set_ne (Ne.symm hj)] at e2
      obtain ⟨u',r',q⟩:=hl j y v' e1 e2 e3
      refine ⟨u',r',?_⟩
      rcases q with ⟨k,e⟩ | ⟨k,c,e,z⟩
      · refine .inl ⟨k,?_⟩
        have:y≠x:=fun e=>hj (nodup_ix hN e1 (e ▸ hi))
        simp [this,e]
      · exact .inr ⟨k,c,e,z.sameBut hs (cne y c e)⟩
  · obtain ⟨w',z⟩:=I.cell y c e
    exact ⟨w',z.sameBut hs (cne y c e)⟩
  · obtain ⟨e,n,ne,nf,d⟩:=I.pin p hp
    exact ⟨(hs.2 p.1 ne).trans e,n,ne,nf,d⟩
end
section
variable {X:Cx}
def tTryX (K:PySem.W.Frag) (D0:Addr) (i:Nat) (t:XK'→TS) (u:TS):TS:=fun D σ H =>
  t (fun σ1 H1 C a=>PySem.W.exmOne K (.ref C) (.ref D0)=some true∧∀ H2,H1 a=none→H2=upd H1 a (isX a C)→u { nx:=fun σ2 H3=>D.nx (σ2.set i none) H3,bk:=fun _ _=>False,ct:=fun _ _=>False,rt:=fun _ _=>False } (σ1.set i (some (.ref a))) H2) D σ H
theorem ps_tryx {body:List Stmt} {x n:Str} {D0:Addr} {i:Nat} {np hpos pos:Pos} {b0:Stmt} {suite:List Stmt} {t:XK'→TS} {u:TS} (hf:X.env.frame=some X.env.locals) (hsk:X.stack=X.env :: X.outer) (hg:Gl X x) (hm:X.mg x=some (.ref D0))
    (hN:X.N.Nodup) (hi:X.N[i]?=some n) (hl:X.env.scope.names.lookup n=some .local) (h:PXs False X body t) (hs:∀ a,PSs (X.held a) (b0 :: suite) u) (hd:(x == ("__debug__" : Str))=false:=by decide) :
    PS X (.Try body [.ExceptHandler (some (.Name x np)) (some n) (b0 :: suite) hpos] [] [] pos) (tTryX X.K D0 i t u):=by
  intro pins s σ H D I ht
  refine wpAny_Try_except (wpAny_mono (h pins s σ H D _ I ht) (fun f s1 q=>?_) fun e s1 q=>?_)
  · cases f with
    | next=>exact wpAny_execs_nil q
    | _=>exact q
  obtain ⟨a,C,σ1,H1,rfl,⟨hx,hk⟩,⟨H0,s0,I0,f⟩ | ⟨z,_⟩⟩:=q
  · have hfr:X.A.frames=some (X.env :: X.outer):=by rw [← hsk]; exact I.ok.frames
    obtain ⟨h0,B,tt,uu,hok,hff,hB,fl,u0⟩:=f.ex
    have fl':=fl
    rw [hsk] at fl'
    refine wpAny_looks_onW hfr hf fl' fun h4 hh4 up4=>?_
    refine wpAny_landsW hh4 fun h5 fl5 up5=>?_
    have f5:∀ tk,Flies X.prog X.w X.stack H0 s0 H1 a C { s1 with heap:=h5,toks:=tk }:=fun tk=>⟨f.os,f.bare,h0,B,tt,uu,hok,hff,hB,by rw [hsk]; exact fl5,(u0.trans up4).trans up5⟩
    have I5:=((f5 s1.toks).invX I0).held a
    refine wpAny_handleBy_cons (codeAny_handlers_test (ld_glob I5 hg hm ?_ hd)) (by intro q; cases q)
    obtain ⟨ob,hob,hc⟩:=(f5 s1.toks).got
    have LT:PySem.W.Looks (model X.prog X.w) h5 (typeOf (.ref a)) (.ref C):=hc ▸ (PySem.W.Looks.ld hob).andThen .now
    refine (PySem.W.exm_one I5.kIn LT hx).here (codeAny_handlers_suite_as ?_)
    refine lands_againW (show Heap.FlyingW B (X.env :: X.outer) a (.ref C) (.ref tt) h5 from fl5) fun h6 fl6 up6=>?_
    have f6:Flies X.prog X.w X.stack H0 s0 H1 a C { s1 with heap:=h6 }:=⟨f.os,f.bare,h0,B,tt,uu,hok,hff,hB,by rw [hsk]; exact fl6,((u0.trans up4).trans up5).trans up6⟩
    have I6:=(f6.invX I0).held a
    refine store_ok (X:=X.held a) I6 hN hi (.inl hl) (v:=.ref a) rfl (fun s7 I7=>?_) (.inr hl)
    refine wpAny_mono (hs a pins s7 _ _ _ I7 (hk _ f.fresh.1 rfl)) (fun fw s8 q=>?_) fun e s8 q=>q.elim
    cases fw with
    | next =>
      obtain ⟨σ2,H2,I8,q⟩:=q
      exact goes_ok (I8.unheld I.ok) hN hi hl fun s9 I9=>⟨_,_,I9,q⟩
    | brk=>obtain ⟨_,_,_,z⟩:=q; exact z.elim
    | cont=>obtain ⟨_,_,_,z⟩:=q; exact z.elim
    | ret v=>obtain ⟨_,_,_,_,_,z⟩:=q; exact z.elim
  · exact z.elim
end
end L2
set_option Elab.async false
set_option linter.all false
set_option maxRecDepth 100000
set_option maxHeartbeats 4000000
namespace L2
open PySem PySem.Calls PySem.Spec PyProof.Rows PySem.W Builtin Builtin.ObjectAttr Builtin.Getset_descriptor
structure XAsk (K:PySem.W.Frag) (C:Addr):Prop where
  ga:PySem.W.findIn K (.ref C) "__getattribute__" = some (some (.builtin "BaseException.__getattribute__"))
  gn:PySem.W.findIn K (.ref C) "__getattr__" = some none
  mb:PySem.W.mroIn K C (.type "BaseException")=some true
  cl:(PySem.W.clsIn K C).isSome=true
  ha:PySem.W.findIn K (.ref C) "__class__" = some (some (.builtin "object.__class__"))
  hn:PySem.W.specialIn K (.builtin "object.__class__") "__get__" = some (some (.builtin "getset_descriptor.__get__"))
  ht:PySem.W.takesIn K (.builtin "object.__class__")=some true
  hm:PySem.W.mroIn K C (.type "object")=some true
section
variable {K:PySem.W.Frag} {prog:Program} {w:World} {A:Around} {E:Value→Shared→Prop} {s:Shared} {x C:Addr}
def IsOf (x C:Addr) (h:Heap):Prop:=∃ ob,h.get? x=some ob∧ob.cls=.ref C
theorem IsOf.ty {M:Model} {h:Heap} (i:IsOf x C h):PySem.W.Looks M h (typeOf (.ref x)) (.ref C):=by
  obtain ⟨ob,e,c⟩:=i
  exact c ▸ (PySem.W.Looks.ld e).andThen .now
theorem XAsk.find {M:Model} {h:Heap} (k:XAsk K C) (X:K.In h):PySem.W.Looks M h (find (.ref x) (.ref C) "__class__") (.bind (.builtin "getset_descriptor.__get__") (.builtin "object.__class__")):=by
  have L2:PySem.W.Looks M h (getOf (some (.builtin "object.__class__"))) (some (.builtin "getset_descriptor.__get__")):=PySem.W.looks_specialIn X k.hn
  have L3:=PySem.W.looks_takesIn (M:=M) X k.ht
  exact (PySem.W.looks_findIn X k.ha).andThen (L2.andThen ((show PySem.W.Looks M h (dataDescriptor? (some _) (some _)) (some (_,_)) from L3.andThen .now).andThen (PySem.W.Looks.tag .now)))
theorem XAsk.get {R:Result→Shared→Prop} {tp:Value} (k:XAsk K C) (X:K.In s.heap) (i:IsOf x C s.heap) (h:R (.ok (.ret (.ref C))) s) :
    codeAny (model prog w) A (.call (.builtin "getset_descriptor.__get__") ⟨[.builtin "object.__class__",.ref x,tp],[]⟩) R s:=by
  obtain ⟨hh,g,dr,t,os⟩:=s
  have L0:=i.ty (M:=model prog w)
  have L1:=PySem.W.looks_mroIn (M:=model prog w) X k.hm
  refine codeAny_call_builtin KF.slot_gs.plain KF.entry_gs (KF.slot_gs.check _ _ _ _ _ _ _ _ KF.type_class (KF.args_gs _ _ _) ?_)
  unfold Builtin.«getset_descriptor.__get__» descrGet
  rw [dga_obj]
  refine wpAny_bind (wpAny_pure ?_)
  unfold descrGetter descrCheckInstance descrNameAndClass isInstance
  simp only [KF.owner_class]
  repeat lk
  refine ⟨Code.quiet_builtin _ (by decide +kernel),codeAny_builtin KF.entry_class ?_⟩
  unfold Builtin.«object.__class__» shownTypeOf
  repeat lk
  exact h
theorem XAsk.entry {tk:Tok} {Q:Fin→Shared→Prop} (k:XAsk K C) (X:K.In s.heap) (i:IsOf x C s.heap) (h:Q (.done (.ret (.ref C))) s):wpAny (model prog w) A (Builtin.«object.__getattribute__» ⟨[.ref x,.str "__class__" tk],[]⟩) Q E s:=by
  obtain ⟨hh,g,d,t,os⟩:=s
  have L0:=i.ty (M:=model prog w)
  have L2:=k.find (M:=model prog w) (x:=x) X
  unfold Builtin.«object.__getattribute__»
  refine wpAny_bind (wpAny_pure ?_)
  refine wpAny_bind (wpAny_pure (wpAny_bind (L0.at (wpAny_bind (L2.at ?_)))))
  show wpAny _ _ (holding [_] (call _ [_,.ref x,.ref C]) >>= ret) _ _ _
  exact wpAny_bind (wpAny_holding (wpAny_call (k.get (s:=⟨hh,g,d,t,os⟩) X i (wpAny_pure h))))
theorem XAsk.check {v:Value} {Q:Unit→Shared→Prop} (k:XAsk K C) (X:K.In s.heap) (i:IsOf x C s.heap) (h:Q () s):wpAny (model prog w) A (checkBuiltinCall "BaseException.__getattribute__" ⟨[.ref x,v],[]⟩) Q E s:=by
  have hk:builtinKind "BaseException.__getattribute__" = some .slot:=by decide +kernel
  have hsplit:splitId "BaseException.__getattribute__" = some ("BaseException", "__getattribute__"):=by decide +kernel
  have L0:=i.ty (M:=model prog w)
  have L1:=PySem.W.looks_mroIn (M:=model prog w) X k.mb
  have ha:=F.args_bexc_ga (.ref x) v
  obtain ⟨hh,g,d,t,os⟩:=s
  simp only [checkBuiltinCall,hk,hsplit]
  refine wpAny_bind ?_
  unfold isInstance
  repeat lk
  exact h
theorem XAsk.call {tk:Tok} {R:Result→Shared→Prop} (k:XAsk K C) (X:K.In s.heap) (i:IsOf x C s.heap) (h:R (.ok (.ret (.ref C))) s) :
    codeAny (model prog w) A (.call (.builtin "BaseException.__getattribute__") ⟨[.ref x,.str "__class__" tk],[]⟩) R s :=
  codeAny_call_builtin F.excAttr_ValueError.ga.plain F.entry_bexc_ga (k.check X i (k.entry X i h))
theorem XAsk.cls {Q:Option Value→Shared→Prop} (k:XAsk K C) (X:K.In s.heap) (i:IsOf x C s.heap) (h:Q (some (.ref C)) { s with toks:=s.toks+1 }):wpAny (model prog w) A (getAttr? (.ref x) "__class__") Q E s:=by
  obtain ⟨hh,g,d,t,os⟩:=s
  have L0:=i.ty (M:=model prog w)
  have L1:=PySem.W.looks_findIn (M:=model prog w) X k.ga
  have L3:=PySem.W.looks_findIn (M:=model prog w) X k.gn
  unfold getAttr? getAttrBy? getAttrBy
  refine wpAny_bind (wpAny_mkText (wpAny_bind (wpAny_attempt (wpAny_holding (wpAny_bind (L0.at (wpAny_bind (L1.at ?_))))))))
  show wpAny _ _ (getAttrByItsOwn _ _ _ _ _ _) _ _ _
  unfold getAttrByItsOwn
  refine wpAny_bind (L3.at (wpAny_bind (wpAny_attempt (wpAny_holding ?_))))
  show wpAny _ _ (boundAndCalled _ _ _) _ _ _
  unfold boundAndCalled
  rw [F.excAttr_ValueError.ga.bind]
  refine wpAny_bind (wpAny_pure (wpAny_call (k.call (s:=⟨hh,g,d,t+1,os⟩) X i ?_)))
  exact PySem.W.handed_on rfl (wpAny_pure h)
theorem XAsk.kit (k:XAsk K C):PySem.W.KitX K (.ref x) (.ref C) (IsOf x C) where
  ty:=fun _ _ _ i=>i.ty
  it:=fun _ _ X _=>by
    obtain ⟨cd,hc⟩:=Option.isSome_iff_exists.mp k.cl
    unfold PySem.W.clsIn at hc
    split at hc
    · rename_i ho
      intro A' Q' E' s' k q
      unfold isType loadHead
      exact wpAny_bind (wpAny_loadPart (k _ _ (X _ _ ho)) (wpAny_pure q))
    · cases hc
  ne:=fun h tp dd its n sl X htp=>by
    obtain ⟨cd,hc⟩:=Option.isSome_iff_exists.mp k.cl
    refine Bool.eq_false_iff.mpr fun q=>?_
    have e:C=tp:=Value.ref.inj (beq_iff_eq.mp q)
    subst e
    unfold PySem.W.clsIn at hc
    split at hc
    · rename_i ho
      have z:=(X _ _ ho).symm.trans htp
      cases z
    · cases hc
  ca:=fun X i q=>k.cls X i q
end
end L2
set_option Elab.async false
set_option linter.all false
set_option maxRecDepth 100000
set_option maxHeartbeats 4000000
namespace L2
open PySem PySem.Calls PySem.Spec PyProof.Rows PySem.W
def askIn (K:PySem.W.Frag) (C:Addr):Bool:=PySem.W.findIn K (.ref C) "__getattribute__" == some (some (.builtin "BaseException.__getattribute__")) && PySem.W.findIn K (.ref C) "__getattr__" == some none && PySem.W.mroIn K C (.type "BaseException") == some true && (PySem.W.clsIn K C).isSome && PySem.W.findIn K (.ref C) "__class__" == some (some (.builtin "object.__class__")) && PySem.W.specialIn K (.builtin "object.__class__") "__get__" == some (some (.builtin "getset_descriptor.__get__")) && PySem.W.takesIn K (.builtin "object.__class__") == some true && PySem.W.mroIn K C (.type "object") == some true
theorem ask_of {K:PySem.W.Frag} {C:Addr} (h:askIn K C=true):XAsk K C:=by
  unfold askIn at h
  simp only [Bool.and_eq_true,beq_iff_eq] at h
  obtain ⟨⟨⟨⟨⟨⟨⟨h0,h7⟩,h8⟩,h2⟩,h3⟩,h4⟩,h5⟩,h6⟩:=h
  exact ⟨h0,h7,h8,h2,h3,h4,h5,h6⟩
theorem cls_of {K:PySem.W.Frag} {C:Addr} (h:PySem.W.excIn K C bmVE "ValueError.__new__" = true):XCls K C:=by
  unfold PySem.W.excIn at h
  split at h
  · rename_i dd cd sl hl
    split at h
    · rename_i hm hs
      simp only [Bool.and_eq_true,beq_iff_eq,Bool.not_eq_true'] at h
      obtain ⟨⟨⟨⟨⟨h1,h2⟩,h3⟩,h4⟩,h5⟩,h6⟩:=h
      subst h1 h2
      cases cd
      cases sl
      simp only at hm hs h3 h5 h6
      subst hm hs h3
      exact ⟨_,_,_,_,_,_,_,_,_,_,_,_,_,_,_,_,hl,h4,h5,h6⟩
    · cases h
  · cases h
def xIn (K:PySem.W.Frag) (S:Addr) (Cs Ds:List Addr):Bool:=decide Cs.Nodup && Cs.all fun C=>PySem.W.excIn K C bmVE "ValueError.__new__" && askIn K C && PySem.W.exmOne K (.ref C) (.ref S) == some true &&
  (Cs.all fun D=>PySem.W.kitOne K (.ref C) (.ref D) == some (decide (C=D))) && (Ds.all fun D=>PySem.W.kitOne K (.ref C) (.ref D) == some false) && PySem.W.kitOne K (.ref C) (.type "ValueError") == some true
structure XOk (K:PySem.W.Frag) (S C:Addr) (Cs Ds:List Addr):Prop where
  n:Cs.Nodup
  c:XCls K C
  a:XAsk K C
  s:PySem.W.exmOne K (.ref C) (.ref S)=some true
  k:∀ D∈Cs,PySem.W.kitOne K (.ref C) (.ref D)=some (decide (C=D))
  d:∀ D∈Ds,PySem.W.kitOne K (.ref C) (.ref D)=some false
  v:PySem.W.kitOne K (.ref C) (.type "ValueError")=some true
theorem xok_of {K:PySem.W.Frag} {S C:Addr} {Cs Ds:List Addr} (h:xIn K S Cs Ds=true) (m:C∈Cs):XOk K S C Cs Ds:=by
  unfold xIn at h
  rw [Bool.and_eq_true,decide_eq_true_eq] at h
  have q:=List.all_eq_true.mp h.2 C m
  simp only [Bool.and_eq_true,beq_iff_eq,List.all_eq_true] at q
  obtain ⟨⟨⟨⟨⟨h1,h2⟩,h3⟩,h4⟩,h5⟩,h6⟩:=q
  exact ⟨h.1,cls_of h1,ask_of h2,h3,h4,h5,h6⟩
theorem any_false {K:PySem.W.Frag} {t:Value}:∀ {l:List Value},(∀ c∈l,PySem.W.kitOne K t c=some false)→PySem.W.kitAny K t l=some false
  | [],_=>rfl
  | c :: r,h=>by
    unfold PySem.W.kitAny
    rw [h c List.mem_cons_self]
    exact any_false fun x hx=>h x (List.mem_cons_of_mem _ hx)
section
variable {X:Cx} {K:PySem.W.Frag}
def rIsx (K:PySem.W.Frag):List V→Hp→VK→Prop:=fun xs H Q=>∃ (a C:Addr) (c:V) (u:Value) (b:Bool),xs=[.ref a,c]∧H a=some (isX a C)∧XAsk K C∧(∀ v,RelV c v→v=u)∧PySem.W.kitOne K (.ref C) u=some b∧Q (.bl b) H
theorem call_isx (hK:X.K=K):CallR X (.builtin "isinstance") (rIsx K):=by
  subst hK
  intro pins s σ H xs us Q I r h
  obtain ⟨a,C,c,u,b,rfl,ha,k,hu,hb,q⟩:=h
  obtain ⟨v1,v2,rfl,r1,r2⟩:=vals2 r
  cases r1
  obtain rfl:=hu _ r2
  obtain ⟨i,_⟩:=(show ObjOk X.prog X.w H s.heap a (isX a C) from I.hok a _ ha)
  exact PySem.W.kia_one k.kit I.kIn i hb (fun z=>nomatch z) fun tk=>⟨.bl b,H,I.tok tk,rfl,q⟩
theorem refs_of:∀ {Ds:List Addr} {us:List Value},Vals (Ds.map V.ref) us→us=Ds.map Value.ref
  | [],_,r=>by cases r; rfl
  | D :: Ds,_,r=>by
    cases r with
    | cons r1 r2=>cases r1; rw [refs_of r2]; rfl
def rIsxT (K:PySem.W.Frag):List V→Hp→VK→Prop:=fun xs H Q=>∃ (a C p:Addr) (Ds:List Addr) (b:Bool),xs=[.ref a,.ref p]∧H p=some (.tup (Ds.map V.ref))∧H a=some (isX a C)∧XAsk K C∧PySem.W.kitAny K (.ref C) (Ds.map Value.ref)=some b∧Q (.bl b) H
theorem call_isxT (hK:X.K=K):CallR X (.builtin "isinstance") (rIsxT K):=by
  subst hK
  intro pins s σ H xs us Q I r h
  obtain ⟨a,C,p,Ds,b,rfl,hp,ha,k,hb,q⟩:=h
  obtain ⟨v1,v2,rfl,r1,r2⟩:=vals2 r
  cases r1
  cases r2
  obtain ⟨i,_⟩:=(show ObjOk X.prog X.w H s.heap a (isX a C) from I.hok a _ ha)
  obtain ⟨_,its,rv,⟨o,ho,hcl,n,hdt⟩⟩:=(show ObjOk X.prog X.w H s.heap p (.tup (Ds.map V.ref)) from I.hok p _ hp)
  rw [refs_of rv] at hdt
  have htp:s.heap.get? p=some ⟨.type "tuple",o.dict,.seq (Ds.map Value.ref).toArray n,o.slots⟩:=by
    rw [ho]
    obtain ⟨oc,od,odt,osl⟩:=o
    cases hcl; cases hdt
    rfl
  exact PySem.W.kia_tup k.kit I.kIn i htp hb (fun z=>nomatch z) fun tk=>⟨.bl b,H,I.tok tk,rfl,q⟩
def isT:Value→Bool
  | .bool b=>b
  | _=>false
theorem bools_of:∀ {bs:List Bool} {us:List Value},Vals (bs.map V.bl) us→us=bs.map Value.bool
  | [],_,r=>by cases r; rfl
  | b :: bs,_,r=>by
    cases r with
    | cons r1 r2=>cases r1; rw [bools_of r2]; rfl
theorem isT_eq {A:Around} {s:Shared} {bs:List Bool}:∀ y,y∈(bs.map Value.bool).toArray→SeqAt.EqAt A s y (.bool true) (isT y):=fun y hy=>by
  rw [List.mem_toArray] at hy
  obtain ⟨b,_,rfl⟩:=List.mem_map.mp hy
  have q:=SeqAt.EqAt.bool_bool (A:=A) (s:=s) b true
  cases b <;> exact q
def rCountT:V→List V→Hp→VK→Prop:=fun x vs H Q=>∃ (l:Addr) (bs:List Bool),x=.ref l∧vs=[.bl true]∧H l=some (.lst (bs.map V.bl))∧Q (.int (bs.countP id:Nat)) H
theorem mt_countT:MtM X "list.count" rCountT:=by
  intro pins s σ H x vs v us Q I rx rv h
  obtain ⟨l,bs,rfl,rfl,hH,q⟩:=h
  cases rx
  obtain ⟨u,rfl,ru⟩:=rv.one
  cases ru
  obtain ⟨z,its,n,r,hl,e⟩:=I.lstM hH
  obtain rfl:=bools_of r
  refine call_meets F.slot_list_count ⟨_,e,rfl⟩ F.entry_list_count (F.args_list_count_2 _ _) (SeqAt.list_countAt l (bs.map Value.bool).toArray n none #[] (.bool true) isT) ⟨e,isT_eq,?_⟩
  have ec:((bs.map Value.bool).countP isT)=bs.countP id:=by rw [List.countP_map]; rfl
  exact ⟨.int (bs.countP id:Nat),H,I.tok _,⟨s.toks,by show Value.int ((bs.map Value.bool).countP isT:Nat) _=_; rw [ec]⟩,q⟩
def rIndexT:V→List V→Hp→VK→Prop:=fun x vs H Q=>∃ (l:Addr) (bs:List Bool) (j:Nat),x=.ref l∧vs=[.bl true]∧H l=some (.lst (bs.map V.bl))∧j<1000∧bs[j]?=some true∧(∀ m,m<j→bs[m]?=some false)∧Q (.int j) H
theorem mt_indexT:MtM X "list.index" rIndexT:=by
  intro pins s σ H x vs v us Q I rx rv h
  obtain ⟨l,bs,j,rfl,rfl,hH,hj,h1,h2,q⟩:=h
  cases rx
  obtain ⟨u,rfl,ru⟩:=rv.one
  cases ru
  obtain ⟨z,its,n,r,hl,e⟩:=I.lstM hH
  obtain rfl:=bools_of r
  have hb:=List.getElem?_eq_some_iff.mp h1
  refine call_meets F.slot_list_index ⟨_,e,rfl⟩ F.entry_list_index (F.args_list_index_2 _ _) (SeqAt.list_indexAt l (bs.map Value.bool).toArray n none #[] (.bool true) isT j (by simpa using hb.1) (by omega) ?_ fun m hm hlt=>?_) ⟨e,isT_eq,⟨.int _,H,I.tok _,⟨_,rfl⟩,q⟩⟩
  · have:=hb.2
    simp only [List.getElem_toArray,List.getElem_map,this]
    rfl
  · have:=(List.getElem?_eq_some_iff.mp (h2 m hlt)).2
    simp only [List.getElem_toArray,List.getElem_map,this]
    rfl
end
structure MDefX (P:Program) (w:World) (K:PySem.W.Frag) (mg:Str→Option Value) (base:Heap) (C:Addr) (m:Str) (k:Nat) (ps:List Str) (sp:Sp):Prop where
  ex:∃ (f:Addr) (fd:FuncData),FnOk P w K mg base (CXr P w) k f fd ps sp∧Meth K C m f∧Binds K fd ps []
section
variable {P:Program} {w:World} {K:PySem.W.Frag} {mg:Str→Option Value} {base:Heap} {k:Nat} {f:Addr} {fd:FuncData} {ps:List Str} {sp sp':Sp}
theorem FnOk.rise (F:FnOk P w K mg base CX0 k f fd ps sp):FnOk P w K mg base (CXr P w) k f fd ps sp :=
  ⟨F.len,fun A outer s H args us vs Q E hr he hb hv hs=>codeAny_mono (F.run A outer s H args us vs Q E hr he hb hv hs) fun r s' q=>by
    cases r with
    | error e=>exact q.elim
    | ok fl =>
      cases fl with
      | ret u=>exact q
      | next=>exact q
      | brk=>exact q
      | cont=>exact q⟩
def spOr (a b:Sp):Sp:=fun vs H Q E=>a vs H Q E∨b vs H Q E
theorem FnOk.or (F:FnOk P w K mg base (CXr P w) k f fd ps sp) (G:FnOk P w K mg base (CXr P w) k f fd ps sp'):FnOk P w K mg base (CXr P w) k f fd ps (spOr sp sp') :=
  ⟨fun vs H Q E h=>h.elim (F.len vs H Q E) (G.len vs H Q E),fun A outer s H args us vs Q E hr he hb hv hs=>hs.elim (F.run A outer s H args us vs Q E hr he hb hv) (G.run A outer s H args us vs Q E hr he hb hv)⟩
end
section
variable {X:Cx} {m:Prop} {mt:Str} {pos apos:Pos} {e o:PySem.Expr} {es:List PySem.Expr} {ta:TE} {t:TA} {k:Nat} {ps:List Str} {sp:Sp} {C:Addr}
theorem pex_methN {pl:Sem Bool} (M:MDefX X.prog X.w X.K X.mg X.base C mt k ps sp) (hx:∀ e s,¬ X.xe e s) (hr:Room k X.A) (c:Cls X.K C) (he:PE X o ta) (ha:PA X (e :: es) t) (hn:NSs (e :: es):=by repeat' (first | exact True.intro | refine ⟨?_,?_⟩))
    (ht:eval (.Call (.Attribute o mt apos) (e :: es) [] pos) X.env=(do
      let ov ← eval o X.env
      standAt apos.atName
      let (f,first) ← holding [ov] (getMethod ov mt pl)
      callWith pos f first (backTo pos (starEach (e :: es) X.env)) (backToKw pos (keywordEach [] X.env))):=by rfl) :
    PEx m X (.Call (.Attribute o mt apos) (e :: es) [] pos) (tMethX C mt sp ta t):=by
  obtain ⟨f,fd,F,hm,hb⟩:=M.ex
  exact pex_meth hx he c hm F hr hb ha (star_ns hn.1) (back_ns hn.2) ht
theorem pxs_nil:PXs m X [] (fun _=>tNext):=fun pins s σ H D Ex I q=>wpAny_execs_nil ⟨σ,H,I,q⟩
theorem pxs_nev {l:List Stmt}:PXs m X l (fun _=>tNev):=fun _ _ _ _ _ _ _ h=>h.elim
end
end L2
namespace L2
open PySem PySem.Calls PySem.Spec PyProof.Rows PySem.W
theorem ps_tryxK {X:Cx} {K:PySem.W.Frag} {body:List Stmt} {x n:Str} {D0:Addr} {i:Nat} {np hpos pos:Pos} {b0:Stmt} {suite:List Stmt} {t:XK'→TS} {u:TS} (hK:X.K=K) (hf:X.env.frame=some X.env.locals) (hsk:X.stack=X.env :: X.outer) (hg:Gl X x) (hm:X.mg x=some (.ref D0))
    (hN:X.N.Nodup) (hi:X.N[i]?=some n) (hl:X.env.scope.names.lookup n=some .local) (h:PXs False X body t) (hs:∀ a,PSs (X.held a) (b0 :: suite) u) (hd:(x == ("__debug__" : Str))=false:=by decide) :
    PS X (.Try body [.ExceptHandler (some (.Name x np)) (some n) (b0 :: suite) hpos] [] [] pos) (tTryX K D0 i t u):=by
  subst hK; exact ps_tryx hf hsk hg hm hN hi hl h hs hd
theorem boot_ValueErrorT:bootBuiltins "ValueError" = some (.type "ValueError"):=by first | rfl | decide +kernel | kernel_rfl
theorem pe_fstr2 {X:Cx} {a:Str} {k1:Nat} {p1 p2 pos:Pos} {e:PySem.Expr} {ta:TE} (he:PE X e ta) (hl:a.length≤1000) :
    PE X (.JoinedStr [.Constant (.str a) k1 p1,.FormattedValue e (-1) none p2] pos) (tFstr ta):=by
  intro pins s σ H Q I h
  refine wpAny_JoinedStr ?_
  show Joins _ _ _ [eval (.Constant (.str a) k1 p1) X.env,eval (.FormattedValue e (-1) none p2) X.env] _ _ _
  have hz:∀ n,n≤3000→n≤sizeLine:=fun n q=>Nat.le_trans q (by decide)
  refine Calls.Constant_str ⟨a,_,rfl,?_,?_⟩
  · rw [strLen_append]; exact hz _ (by have:Str.empty.length=0:=rfl; omega)
  refine wpAny_FormattedValue_plain (wpAny_mono (he pins _ σ H _ (I.tok _) h) (fun u s1 ⟨x,H1,I1,r,i,hx,hi,q⟩=>?_) fun _ _ z=>z)
  subst hx
  obtain ⟨tk,rfl⟩:=r
  have hd:i.natAbs.log2<1920:=by
    by_cases z:i.natAbs=0
    · rw [z]; decide
    · exact Nat.lt_of_lt_of_le ((Nat.log2_lt z).mpr hi) (by decide)
  have hlen:((toString i:String):Str).length≤1930:=by
    show (Str.ofString (toString i)).length≤1930
    have e:=int_text_length_le (k:=1920) (by decide) hd
    rw [PySem.ofString_length]; omega
  have e0:Str.empty.length=0:=rfl
  refine wpAny_formatField_int hd ⟨_,_,rfl,?_,?_,?_⟩
  · rw [strLen_append,strLen_append]; exact hz _ (by omega)
  · rw [strLen_append,strLen_append]; exact hz _ (by omega)
  · exact ⟨.str _,H1,((I1.tok _).tok _),⟨_,rfl⟩,q _⟩
end L2
set_option Elab.async false
set_option linter.all false
set_option maxRecDepth 100000
set_option maxHeartbeats 4000000
namespace L2
open PySem PySem.Calls PySem.Spec PyProof.Rows PySem.W
theorem Room.m {j k:Nat} {A:Around} (r:Room k A) (h:j≤k:=by first | decide | omega):Room j A:=r.mono h
section
variable {X:Cx} {pos:Pos}
theorem pgn (i:Nat) {x:Str} (hN:X.N.Nodup) (hi:X.N[i]?=some x:=by rfl) (hx:Loc X.env.scope x:=by first | exact Or.inl rfl | exact Or.inr rfl) (hf:X.fn x=true∨X.env.scope.names.lookup x=some .local:=by first | exact .inl rfl | exact .inr rfl | assumption):PG X (.Name x pos) (gName i):=pg_name hN hi hx hf
theorem pst (i:Nat) {x:Str} {e:PySem.Expr} {te:TE} {pos':Pos} (hN:X.N.Nodup) (he:PE X e te) (hi:X.N[i]?=some x:=by rfl) (hx:Loc X.env.scope x:=by first | exact Or.inl rfl | exact Or.inr rfl) (hs:swapsWith e (some (.Name x pos')) pos.line X.env=pure false:=by rfl) (hf:X.fn x=true∨X.env.scope.names.lookup x=some .local:=by first | exact .inl rfl | exact .inr rfl | assumption):PS X (.Assign [.Name x pos'] e pos) (tAsg te (gName i)):=ps_set hN hi hx he hs hf
end
end L2
set_option Elab.async false
set_option linter.all false
set_option maxRecDepth 100000
set_option maxHeartbeats 4000000
namespace L2
open PySem PySem.Calls PyProof.Rows PySem.MeetsSeq PySem.W PySem.Spec
def Up (xs:Array Nat):Prop:=∀ i j,i<j→(h:j<xs.size)→xs.getD i 0<xs.getD j 0
theorem below_go (xs:Array Nat) (j:Nat):∀ (f lo hi:Nat),hi - lo≤f→lo≤hi→hi≤xs.size→(∀ i,i<lo→xs.getD i 0<j)→(∀ i,hi≤i→i<xs.size→¬ xs.getD i 0<j)→Up xs →
    SetTable.below.go xs j f lo hi≤xs.size∧(∀ i,i<SetTable.below.go xs j f lo hi→xs.getD i 0<j)∧∀ i,SetTable.below.go xs j f lo hi≤i→i<xs.size→¬ xs.getD i 0<j
  | 0,lo,hi,h1,h2,h3,a,b,u=>by
    unfold SetTable.below.go
    have e:lo=hi:=by omega
    subst e
    exact ⟨h3,a,b⟩
  | f+1,lo,hi,h1,h2,h3,a,b,u=>by
    unfold SetTable.below.go
    by_cases c:lo<hi
    · rw [if_pos c]
      have m1:(lo+hi) / 2<hi:=by omega
      have m2:lo≤(lo+hi) / 2:=by omega
      have ms:(lo+hi) / 2<xs.size:=by omega
      have eD:xs.getD ((lo+hi) / 2) j=xs.getD ((lo+hi) / 2) 0:=by simp [Array.getD,ms]
      dsimp only
      rw [eD]
      by_cases d:xs.getD ((lo+hi) / 2) 0<j
      · rw [if_pos d]
        refine below_go xs j f _ _ (by omega) (by omega) h3 (fun i hi'=>?_) b u
        by_cases e:i=(lo+hi) / 2
        · rw [e]; exact d
        · exact Nat.lt_trans (u i _ (by omega) ms) d
      · rw [if_neg d]
        refine below_go xs j f _ _ (by omega) m2 (by omega) a (fun i h4 h5=>?_) u
        by_cases e:i=(lo+hi) / 2
        · rw [e]; exact d
        · have:=u _ i (by omega:(lo+hi) / 2<i) h5; omega
    · rw [if_neg c]
      have e:lo=hi:=by omega
      subst e
      exact ⟨h3,a,b⟩
theorem below_ok {xs:Array Nat} (j:Nat) (u:Up xs):SetTable.below xs j≤xs.size∧(∀ i,i<SetTable.below xs j→xs.getD i 0<j)∧∀ i,SetTable.below xs j≤i→i<xs.size→¬ xs.getD i 0<j :=
  below_go xs j xs.size 0 xs.size (by omega) (Nat.zero_le _) (Nat.le_refl _) (fun i h=>by omega) (fun i h h'=>by omega) u
theorem up_of_pairwise {xs:List Nat} (h:xs.Pairwise (·<·)):Up xs.toArray:=fun i j hij hj=>by
  have hj':j<xs.length:=by simpa using hj
  have hi':i<xs.length:=by omega
  have:=(List.pairwise_iff_getElem.mp h) i j hi' hj' hij
  simpa [Array.getD,hi',hj'] using this
theorem pairwise_of_up {xs:Array Nat} (u:Up xs):xs.toList.Pairwise (·<·):=by
  rw [List.pairwise_iff_getElem]
  intro i j hi hj hij
  have h1:i<xs.size:=by simpa using hi
  have h2:j<xs.size:=by simpa using hj
  have:=u i j hij h2; simpa [Array.getD,h1,h2] using this
theorem insertAt_list {α:Type} (xs:Array α) (p:Nat) (x:α) (h:p≤xs.size):(SetTable.insertAt xs p x).toList=xs.toList.take p++x :: xs.toList.drop p:=by
  unfold SetTable.insertAt
  simp [Array.toList_extract,List.extract_eq_drop_take]
  have:xs.size - p=(xs.toList.drop p).length:=by simp
  rw [this,List.take_length]
theorem up_insert {xs:Array Nat} {j:Nat} (u:Up xs) (hn:xs[SetTable.below xs j]?≠some j):Up (SetTable.insertAt xs (SetTable.below xs j) j):=by
  obtain ⟨a,b,c⟩:=below_ok j u
  have hl:=insertAt_list xs (SetTable.below xs j) j a
  have hp:=pairwise_of_up u
  generalize hq:SetTable.below xs j=p at *
  have e:SetTable.insertAt xs p j=(xs.toList.take p++j :: xs.toList.drop p).toArray:=by rw [← hl]
  rw [e]
  refine up_of_pairwise ?_
  rw [List.pairwise_append]
  refine ⟨hp.sublist (List.take_sublist _ _),?_,?_⟩
  · rw [List.pairwise_cons]
    refine ⟨fun y hy=>?_,hp.sublist (List.drop_sublist _ _)⟩
    obtain ⟨i,hi,rfl⟩:=List.mem_iff_getElem.mp hy
    rw [List.getElem_drop]
    have hi':p+i<xs.size:=by simp at hi; omega
    have h1:=c (p+i) (by omega) hi'
    have e1:xs.getD (p+i) 0=xs[p+i]:=by simp [Array.getD,hi']
    rw [e1] at h1
    show j<xs.toList[p+i]
    rw [Array.getElem_toList]
    rcases Nat.lt_or_ge j xs[p+i] with h | h
    · exact h
    · exfalso
      have e2:xs[p+i]=j:=by omega
      by_cases h0:i=0
      · subst h0
        exact hn (by rw [Array.getElem?_eq_getElem (show p<xs.size by omega)]; exact congrArg some e2)
      · have h3:=u p (p+i) (by omega) hi'
        have h4:=c p (Nat.le_refl _) (by omega)
        rw [e1] at h3
        omega
  · intro y hy z hz
    obtain ⟨i,hi,rfl⟩:=List.mem_iff_getElem.mp hy
    rw [List.getElem_take]
    have hip:i<p:=by simp at hi; omega
    have his:i<xs.size:=by omega
    have h1:=b i hip
    have e1:xs.getD i 0=xs[i]:=by simp [Array.getD,his]
    rw [e1] at h1
    rw [Array.getElem_toList]; rcases List.mem_cons.mp hz with rfl | hz
    · exact h1
    · obtain ⟨k,hk,rfl⟩:=List.mem_iff_getElem.mp hz
      rw [List.getElem_drop]
      have hk':p+k<xs.size:=by simp at hk; omega
      have:=u i (p+k) (by omega) hk'
      rw [e1] at this
      have e3:xs.getD (p+k) 0=xs[p+k]:=by simp [Array.getD,hk']
      rw [e3] at this
      rw [Array.getElem_toList]
      exact this
def Ris (t:SetTable):Prop:=Up t.place∧t.dummies=#[]
theorem up_range (n:Nat):Up (Array.range n):=fun i j hij hj=>by
  have hj':j<n:=by simpa using hj
  have hi':i<n:=by omega
  simpa [Array.getD,hi',hj'] using hij
theorem ris_stand (t:SetTable) (n:Nat):Ris (t.standIn n):=⟨up_range n,rfl⟩
theorem probe_go (t:SetTable) (f:Nat→Int) (h:Int) (hd:t.dummies=#[]):∀ (fu:Nat) (p:SetTable.Probe),p.dummy=none→∀ j d,SetTable.probe.go t f h fu p=some (.empty j d)→d=none∧t.place[SetTable.below t.place j]?≠some j
  | 0,p,h0,j,d,e=>by simp [SetTable.probe.go] at e
  | fu+1,p,h0,j,d,e=>by
    unfold SetTable.probe.go at e
    have ha:∀ q:SetTable.Probe,q.dummy=none→(t.advance q).dummy=none:=fun q hq=>by
      unfold SetTable.advance
      split
      · exact hq
      · exact hq
    cases hs:t.slot p.j with
    | empty =>
      rw [hs] at e
      simp only [Option.some.injEq,SetTable.Met.empty.injEq] at e
      obtain ⟨rfl,rfl⟩:=e
      refine ⟨h0,fun z=>?_⟩
      unfold SetTable.slot at hs
      simp [z] at hs
    | dummy =>
      exfalso
      unfold SetTable.slot at hs
      dsimp only at hs
      split at hs
      · cases hs
      · rw [hd] at hs
        simp [SetTable.has] at hs
    | live i =>
      rw [hs] at e
      dsimp only at e
      split at e
      · cases e
      · exact probe_go t f h hd fu _ (ha p h0) j d e
theorem ris_lay {t:SetTable} (r:Ris t) (es:Array (Int×Value)) (h:Int) (x:Value):Ris (layNew t es h x).2.1∧(layNew t es h x).2.1.led=t.led:=by
  unfold layNew
  cases hf:t.freeSlot h with
  | none=>exact ⟨ris_stand _ _,rfl⟩
  | some q =>
    obtain ⟨slot,was⟩:=q
    dsimp only
    have key:Ris (t.put slot).1∧(t.put slot).1.led=t.led:=by
      refine ⟨⟨?_,?_⟩,rfl⟩
      · refine up_insert r.1 ?_
        unfold SetTable.freeSlot SetTable.probe at hf
        cases hg:SetTable.probe.go t (fun _=>h+1) h (10 * SetTable.turns t.mask) (t.probeStart h) with
        | none=>rw [hg] at hf; cases hf
        | some m =>
          rw [hg] at hf
          cases m with
          | candidate a b c=>cases hf
          | empty j d =>
            obtain ⟨rfl,hn⟩:=probe_go t _ h r.2 _ _ rfl j d hg
            dsimp only at hf
            simp at hf
            obtain ⟨rfl,_⟩:=hf
            exact hn
      · show (if SetTable.has t.dummies slot=true then _ else t.dummies)=#[]
        rw [r.2]
        simp [SetTable.has]
    unfold SetTable.orStandIn
    split
    · exact key
    · exact ⟨ris_stand _ _,key.2⟩
theorem ris_relay {t:SetTable} (r:Ris t) (es:Array (Int×Value)) (n:Nat):Ris (relayAll t es n).2.1∧(relayAll t es n).2.1.led=t.led:=by
  unfold relayAll
  cases hl:t.relaid (es.map (·.1)) n with
  | none=>exact ⟨ris_stand _ _,rfl⟩
  | some q =>
    obtain ⟨t',order⟩:=q
    dsimp only
    have key:Ris t'∧t'.led=t.led:=by
      unfold SetTable.relaid SetTable.laid at hl
      cases ho:SetTable.layClean (SetTable.sizeAbove n - 1) (es.map (·.1)) with
      | none=>rw [ho] at hl; cases hl
      | some owner =>
        rw [ho] at hl
        have e:=(Prod.mk.inj (Option.some.inj hl)).1
        rw [← e]
        refine ⟨⟨?_,rfl⟩,rfl⟩
        refine up_of_pairwise ?_
        rw [List.pairwise_map,List.pairwise_filterMap]
        refine List.Pairwise.imp ?_ List.pairwise_lt_range
        intro a b hab c hc d hd
        simp only [Option.map_eq_some_iff] at hc hd
        obtain ⟨_,_,rfl⟩:=hc
        obtain ⟨_,_,rfl⟩:=hd
        exact hab
    split
    · exact key
    · exact ⟨ris_stand _ _,rfl⟩
theorem pick_go {α:Type} (f:Nat→Nat):∀ (n k:Nat) (left:List α) (out:Array α),left.length=n→(pickOrder.go f n k left out).toList.Perm (out.toList++left)
  | 0,k,left,out,h=>by
    have:left=[]:=List.eq_nil_of_length_eq_zero h
    subst this
    simp [pickOrder.go]
  | n+1,k,left,out,h=>by
    unfold pickOrder.go
    have hm:f k % left.length<left.length:=Nat.mod_lt _ (by omega)
    rw [List.getElem?_eq_getElem hm]
    dsimp only
    refine (pick_go f n (k+1) _ _ (by rw [List.length_eraseIdx,if_pos hm]; omega)).trans ?_
    rw [Array.toList_push,List.append_assoc]
    refine List.Perm.append_left _ ?_; show (left[f k % left.length] :: left.eraseIdx (f k % left.length)).Perm left
    generalize f k % left.length=i at hm ⊢
    have e:left.take i++left[i] :: left.drop (i+1)=left:=by rw [← List.drop_eq_getElem_cons hm,List.take_append_drop]
    rw [List.eraseIdx_eq_take_drop_succ]
    exact List.perm_middle.symm.trans (List.Perm.of_eq e)
theorem pick_perm {α:Type} (f:Nat→Nat) (xs:Array α):(pickOrder f xs).toList.Perm xs.toList:=by
  have:=pick_go f xs.size 0 xs.toList #[] (by simp)
  simpa [pickOrder] using this
def kOf:Int×Value→Int:=fun e=>match e.2 with | .int k _=>k | _=>0
structure SetG (P:Program) (w:World) (o:Obj) (es:Array (Int×Value)) (ep:Nat) (t:SetTable):Prop where
  ex:o.ExactSet
  dat:o.data=.set es ep t
  el:ElemsOf (intKind P w) es.toList
  nd:(es.toList.map kOf).Nodup
  fit:t.fits es.size=true
  ris:Ris t
  led:w.params.followText "set-order" = true∨t.led=true
  lit:es.size<scanBound
section
variable {P:Program} {w:World} {A:Around} {E:Value→Shared→Prop} {s:Shared} {a:Addr} {o:Obj} {es:Array (Int×Value)} {ep:Nat} {t:SetTable}
theorem is_kOf {e:Int×Value} {k:Int} (h:(intKind P w).is k e.2=true):kOf e=k:=by
  obtain ⟨tk,q⟩:=Value.isInt_shape (show Value.isInt k e.2=true from h)
  unfold kOf; rw [q]
theorem kOf_is {e:Int×Value} (h:(∃ k,(intKind P w).is k e.2=true∧e.1=(intKind P w).hash k)∧e.2.scannable=true):(intKind P w).is (kOf e) e.2=true:=by
  obtain ⟨⟨k,q,_⟩,_⟩:=h
  rw [is_kOf q]; exact q
theorem SetG.store (ho:s.heap.get? a=some o) (hx:o.ExactSet) (hd:o.data=.set es ep t) {es':Array (Int×Value)} {t':SetTable} (el:ElemsOf (intKind P w) es'.toList) (nd:(es'.toList.map kOf).Nodup) (f:t'.fits es'.size=true) (r:Ris t')
    (l:w.params.followText "set-order" = true∨t'.led=true) (b:es'.size<scanBound) :
    (s.heap.update a (Obj.putSet es' t')).get? a=some { o with data:=.set es' (ep+1) t' }∧SetG P w { o with data:=.set es' (ep+1) t' } es' (ep+1) t' :=
  ⟨(SetOf_store (knd:=intKind P w) (S':=fun k=>decide (∃ e∈es'.toList,(intKind P w).is k e.2=true)) ho hx hd el (fun k=>by simp) b f).1,⟨hx,rfl,el,nd,f,r,l,b⟩⟩
theorem addG {k:Int} {tk:Tok} {Q:Bool→Shared→Prop} (ho:s.heap.get? a=some o) (g:SetG P w o es ep t) (hr:es.size+1<scanBound)
    (h:∀ b h' o' es' ep' t',Heap.SameBut a s.heap h'→h'.get? a=some o'→SetG P w o' es' ep' t'→es'.size≤es.size+1→(∀ k',k'∈es'.toList.map kOf↔k'∈es.toList.map kOf∨k'=k)→Q b { s with heap:=h' }) :
    wpAny (model P w) A (setAddHashed a (.int k tk) ((intKind P w).hash k)) Q E s:=by
  have hk:(intKind P w).is k (.int k tk)=true:=intKind_is _ _ _ _
  have sc:(Value.int k tk).scannable=true:=rfl
  unfold setAddHashed setAddHashedIn; refine wpAny_holding (wpAny_bind (wpAny_setState_of ho g.dat g.fit ?_)); dsimp only
  rw [byScan_of sc g.lit g.el,if_pos rfl]
  unfold setAddByScan
  refine wpAny_bind (wpAny_bind (wpAny_rule (wpAny_bind (wpAny_setScan_of hk ho g.dat g.fit g.el ?_))))
  cases hf:List.findIdx? (fun e=>(intKind P w).is k e.2) es.toList with
  | some j =>
    refine wpAny_pure (wpAny_pure ?_); obtain ⟨hj,pj,_⟩:=List.findIdx?_eq_some_iff_getElem.mp hf
    have hm:k∈es.toList.map kOf:=List.mem_map.mpr ⟨_,List.getElem_mem hj,is_kOf pj⟩
    exact h _ s.heap o es ep t (Heap.SameBut.refl a s.heap) ho g (Nat.le_succ _) fun k'=>⟨.inl,fun z=>z.elim id fun e=>e ▸ hm⟩
  | none =>
    dsimp only
    have hno:k∉es.toList.map kOf:=fun z=>by
      obtain ⟨e,he,q⟩:=List.mem_map.mp z
      have:=List.findIdx?_eq_none_iff.mp hf e he
      rw [← q,kOf_is (g.el e he)] at this; cases this
    have hp:=layNew_perm t es ((intKind P w).hash k) (.int k tk)
    have hfit:=layNew_fits t es ((intKind P w).hash k) (.int k tk)
    have hris:=ris_lay g.ris es ((intKind P w).hash k) (.int k tk)
    generalize layNew t es ((intKind P w).hash k) (.int k tk)=L at hp hfit hris ⊢
    obtain ⟨es1,t1,was,gave⟩:=L
    dsimp only at hp hfit hris ⊢
    rw [Array.toList_push] at hp
    have el1:ElemsOf (intKind P w) es1.toList:=(g.el.push hk sc).perm hp
    have mp:=hp.map kOf
    rw [List.map_append,List.map_cons,List.map_nil,show kOf ((intKind P w).hash k,Value.int k tk)=k from rfl] at mp
    have nd1:(es1.toList.map kOf).Nodup:=mp.nodup_iff.mpr (by
      rw [List.nodup_append]
      exact ⟨g.nd,by simp,fun x hx y hy e=>hno (by rw [List.mem_singleton] at hy; rw [← hy,← e]; exact hx)⟩)
    have sz1:es1.size=es.size+1:=by rw [← Array.length_toList,hp.length_eq,List.length_append,Array.length_toList]; rfl
    have l1:w.params.followText "set-order" = true∨t1.led=true:=g.led.imp id fun z=>by rw [hris.2]; exact z
    have mem1:∀ k',k'∈es1.toList.map kOf↔k'∈es.toList.map kOf∨k'=k:=fun k'=>by rw [mp.mem_iff]; simp
    have gw:∀ (b:Bool) {s₁:Shared} {Q':Unit→Shared→Prop},Q' () s₁→wpAny (model P w) A (match b with | true=>rule "set.scan.the-table-gave-way" | false=>pure ()) Q' E s₁:=fun b s₁ Q' hq=>by
      cases b
      · exact wpAny_pure hq
      · exact wpAny_rule hq
    refine wpAny_bind (gw _ ?_)
    have pl:hashByValue 8 (.int k tk)=pure true:=hashByValue_scannable 8 sc
    have fin:∀ (X:Sem (Option Bool)),X=(do storeSet a es1 t1; (if (!was && t1.tooFull)=true then do (match (relayAll t1 es1 (SetTable.grown es1.size)).2.2 with | true=>rule "set.scan.the-table-gave-way" | false=>pure ()); storeSet a (relayAll t1 es1 (SetTable.grown es1.size)).1 (relayAll t1 es1 (SetTable.grown es1.size)).2.1; pure (some true) else pure (some true))) →
        wpAny (model P w) A X (fun r s'=>wpAny (model P w) A (match r with | some added=>pure added | none=>setAddHashedIn a (.int k tk) ((intKind P w).hash k) 99999) Q E s') E s:=by
      rintro X rfl
      refine wpAny_bind (wpAny_storeSet_of ho g.dat ?_ (fits_of_scanBound (by omega)))
      obtain ⟨ho1,g1⟩:=SetG.store (P:=P) (w:=w) (s:=s) ho g.ex g.dat el1 nd1 hfit hris.1 l1 (by omega)
      have sb1:=Heap.SameBut.update s.heap a (Obj.putSet es1 t1)
      split
      · have hp2:=relayAll_perm t1 es1 (SetTable.grown es1.size)
        have hf2:=relayAll_fits t1 es1 (SetTable.grown es1.size)
        have hr2:=ris_relay hris.1 es1 (SetTable.grown es1.size)
        generalize relayAll t1 es1 (SetTable.grown es1.size)=L2 at hp2 hf2 hr2 ⊢
        obtain ⟨es2,t2,gave2⟩:=L2
        dsimp only at hp2 hf2 hr2 ⊢
        have sz2:es2.size=es1.size:=by rw [← Array.length_toList,hp2.length_eq,Array.length_toList]
        refine wpAny_bind (gw _ (wpAny_bind (wpAny_storeSet_of ho1 rfl (wpAny_pure ?_) (fits_of_scanBound (by omega)))))
        obtain ⟨ho2,g2⟩:=SetG.store (P:=P) (w:=w) (s:={ s with heap:=s.heap.update a (Obj.putSet es1 t1) }) ho1 g.ex rfl (el1.perm hp2) ((hp2.map kOf).nodup_iff.mpr nd1) hf2 hr2.1 (l1.imp id fun z=>by rw [hr2.2]; exact z) (by omega)
        exact wpAny_pure (h _ _ _ _ _ _ (sb1.trans (Heap.SameBut.update _ a _)) ho2 g2 (by omega) fun k'=>(hp2.map kOf).mem_iff.trans (mem1 k'))
      · exact wpAny_pure (wpAny_pure (h _ _ _ _ _ _ sb1 ho1 g1 (by omega) mem1))
    split
    · refine wpAny_bind ?_
      rw [pl]
      refine wpAny_pure ?_
      rw [if_pos rfl]
      exact fin _ rfl
    · refine wpAny_bind (wpAny_pure ?_); rw [if_pos rfl]
      exact fin _ rfl
end
def GSet (P:Program) (w:World) (h:Heap) (a:Addr) (ns:List Int):Prop:=∃ o es ep t,h.get? a=some o∧SetG P w o es ep t∧es.size≤ns.length∧∀ k,k∈es.toList.map kOf↔k∈ns
theorem GSet.at {P:Program} {w:World} {h h':Heap} {a:Addr} {ns:List Int} (x:GSet P w h a ns) (k:∀ o,h.get? a=some o→h'.get? a=some o):GSet P w h' a ns:=by
  obtain ⟨o,es,ep,t,ho,r⟩:=x
  exact ⟨o,es,ep,t,k o ho,r⟩
section
variable {P:Program} {w:World} {A:Around} {R:Result→Shared→Prop} {I:Addr} {fp wr:List Addr} {G:Array GenState→Array GenState→Prop} {St:Nat→Shared→Prop} {ns:List Int} {Pv:Nat→Value→Prop}
theorem loopG (W:WalksS P w A.in1 I fp wr G ns.length Pv St) (S:Addr) (hS:S∉fp) (hv:∀ i v,Pv i v→∃ t,v=.int (ns.getD i 0) t) (hb:ns.length+1<scanBound) :
    ∀ (k i:Nat) (s:Shared),ns.length - i=k→i≤ns.length→St i s→GSet P w s.heap S (ns.take i) →
      (∀ s',Moved (S :: wr) G s s'→GSet P w s'.heap S ns→R (.ok (.ret .none)) s') →
      codeAny (model P w) A (.builtin "set.update.loop" ⟨[.ref S,.ref I],[]⟩) R s:=by
  have sw:S∉wr:=fun h=>hS (W.sub _ h)
  have up:∀ b∈wr,b∈S :: wr:=fun b h=>List.mem_cons_of_mem _ h
  intro k
  induction k with
  | zero =>
    intro i s hk hi st g hR
    obtain rfl:i=ns.length:=by omega
    refine codeAny_builtin F.entry_set_update_loop ?_; rw [Around.under_plainId F.plain_set_update_loop _]
    show wpAny _ A.in1 (pyNext (.ref I) >>= _) _ _ s; refine wpAny_bind (W.done s _ _ st fun s' m=>?_)
    show wpAny _ A.in1 (ret Value.none) _ _ s'; rw [List.take_length] at g
    exact wpAny_pure (hR s' (m.mono up) (g.at fun o e=>m.heap S o sw e))
  | succ k ih =>
    intro i s hk hi st g hR
    have lt:i<ns.length:=by omega
    refine codeAny_builtin F.entry_set_update_loop ?_; rw [Around.under_plainId F.plain_set_update_loop _]
    show wpAny _ A.in1 (pyNext (.ref I) >>= _) _ _ s; refine wpAny_bind (W.item i s _ _ lt st fun v s' hP st' m=>?_)
    obtain ⟨t,rfl⟩:=hv i v hP
    obtain ⟨o,es,ep,tb,ho,g',sz,mem⟩:=g.at (h':=s'.heap) fun o e=>m.heap S o sw e
    have sz':es.size≤i:=by rw [List.length_take] at sz; omega
    show wpAny _ A.in1 (holding [Value.int (ns.getD i 0) t] (setAdd S (.int (ns.getD i 0) t)) >>= _) _ _ s'
    refine wpAny_bind (wpAny_holding ?_); unfold setAdd
    refine wpAny_holding (wpAny_bind ((intKind P w).pyHash (k:=ns.getD i 0) (intKind_is _ _ _ _) ?_))
    refine addG (s:={ s' with toks:=s'.toks+1 }) ho g' (by omega) fun b h' o' es' ep' t' sb ho' g2 sz2 mem2=>?_
    have et:ns.take (i+1)=ns.take i++[ns.getD i 0]:=by rw [List.take_succ_eq_append_getElem lt]; simp [List.getD,lt]
    have gi:GSet P w h' S (ns.take (i+1)):=⟨o',es',ep',t',ho',g2,by rw [List.length_take]; omega,fun k'=>by rw [mem2 k',mem k',et]; simp⟩
    refine wpAny_pure ⟨plainId_quiet F.plain_set_update_loop _,ih (i+1) _ (by omega) lt (W.frame _ s' _ _ st' (Nat.le_succ _) fun b hb o e=>?_) gi fun s'' m'' gs=>?_⟩
    · rw [sb.2 b (fun h:b=S=>hS (h ▸ hb))]; exact e
    · refine hR s'' (Moved.trans W.gtrans ((m.mono up).then_heap (Nat.le_succ _) fun b o hb e=>?_) m'') gs
      rw [sb.2 b (fun h:b=S=>hb (h ▸ List.mem_cons_self))]; exact e
end
section
variable {P:Program} {w:World} {A:Around} {E:Value→Shared→Prop} {s:Shared}
theorem newG (a:Value) {Q:Value→Shared→Prop} (h:∀ led:Bool,(w.params.followText "set-order" = true∨led=true)→Q (.ref s.heap.objs.size) { s with heap:=s.heap.push { cls:=.type "set",dict:=none,data:=.set #[] 0 (.fresh 0 0 led) } }) :
    codeAny (model P w) A (.call (.builtin "set.__new__") ⟨[.type "set",a],[]⟩) (wants Q E) s:=by
  refine codeAny_of_tree ?_
  show wpAny _ A.in1 (checkBuiltinCall "set.__new__" ⟨[.type "set",a],[]⟩ >>= fun _=>again (.builtin "set.__new__" ⟨[.type "set",a],[]⟩)) _ _ s
  refine wpAny_bind (wpAny_of_eq (F.newCall_set_1 a) (wpAny_pure ⟨plainId_quiet F.plain_set_new _,codeAny_builtin F.entry_set_new ?_⟩)); rw [Around.under_plainId F.plain_set_new _]
  unfold Builtin.«set.__new__» Builtin.Frozenset.newClass; have hsub:=sub_set_self
  obtain ⟨hp,g,d,tk,os⟩:=s; dsimp only
  wp_walk
  refine wpAny_askSetting (wpAny_pure ?_); dsimp only; simp only [newObj]
  refine wpAny_bind (wpAny_alloc (wpAny_pure (wpAny_pure (h _ ?_))))
  cases e:w.params.followText "set-order"
  · exact .inr (by show (!(w.params.followText "set-order"))=true; rw [e]; rfl)
  · exact .inl rfl
theorem callG {l:Addr} {items:Array Value} {ns:List Int} {Q:Value→Shared→Prop} (hh:A.handled=none) (hl:s.heap.IsList l items) (hi:IntsAre items.toList ns) (hb:ns.length+1<scanBound)
    (h:∀ (h':Heap) (tk:Nat),GSet P w h' s.heap.objs.size ns→(∀ b o,b<s.heap.objs.size→s.heap.get? b=some o→h'.get? b=some o)→Q (.ref s.heap.objs.size) { s with heap:=h',toks:=tk }) :
    wpAny (model P w) A (call (.type "set") [.ref l]) Q E s:=by
  obtain ⟨c,tl,hmro⟩:=F.called_set.mro; have hmade:=F.called_set.made
  have hsub:=F.called_set.sub; refine wpAny_call (codeAny_of_tree ?_)
  show wpAny _ _ (callAny (.type "set") _) _ _ _; refine wpAny_pure ⟨Code.quiet_builtin _ (by decide +kernel),codeAny_builtin F.entry_type_call ?_⟩
  rw [Around.under_plain (weight_type_call_type "set" [.ref l] []) rfl]; have h1:=F.called_set.notType; have h2:=F.called_set.canCreate; have hct:=F.typeCall_set_1 (.ref l)
  (repeat (any_goals (first | assumption | wp_step)))
  refine codeAny_mono (newG (.ref l) (E:=E) (Q:=fun obj s₁=>∃ led:Bool,(w.params.followText "set-order" = true∨led=true)∧obj=.ref s.heap.objs.size∧s₁={ s with heap:=s.heap.push { cls:=.type "set",dict:=none,data:=.set #[] 0 (.fresh 0 0 led) } }) fun led z=>⟨led,z,rfl,rfl⟩) fun r s₁ hr=>?_
  cases r with
  | error e=>exact hr
  | ok fl =>
    cases fl with
    | ret obj =>
      obtain ⟨led,hled,rfl,rfl⟩:=hr
      generalize ez:({ cls:=.type "set",dict:=none,data:=.set #[] 0 (.fresh 0 0 led) }:Obj)=z
      have hS:(s.heap.push z).get? s.heap.objs.size=some z:=Heap.get?_push_size _ (by rw [← ez]; rfl)
      have hT:Shared.TypeIs { s with heap:=s.heap.push z } (.ref s.heap.objs.size) "set" := ⟨_,hS,by rw [← ez]⟩
      have g0:GSet P w (s.heap.push z) s.heap.objs.size []:=⟨z,#[],0,.fresh 0 0 led,hS,⟨by rw [← ez]; exact ⟨rfl,rfl,rfl⟩,by rw [← ez],fun e he=>by simp at he,by simp,rfl,⟨fun i j _ hj=>by simp [SetTable.fresh] at hj,rfl⟩,hled,by decide⟩,Nat.le_refl _,fun k=>by simp⟩
      have hli:=F.called_set.init.lookup; have hbi:=F.called_set.init.bind (.ref s.heap.objs.size)
      (repeat (any_goals (first | assumption | wp_step)))
      refine codeAny_mono (codeAny_call_builtin (R:=wants (fun r s₂=>r=.none∧∃ h' tk,s₂={ s with heap:=h',toks:=tk }∧GSet P w h' s.heap.objs.size ns∧∀ b o,b<s.heap.objs.size→s.heap.get? b=some o→h'.get? b=some o) E) F.called_set.init.plain F.entry_set_init (check_set_init_1 hT ?_)) fun r₂ s₂ hr₂=>?_
      · obtain ⟨ol,hol,hcl,nl,hdl⟩:=hl; obtain ⟨ocls,odict,odata,oslots⟩:=ol
        simp only at hcl hdl
        subst hcl; subst hdl
        have hol':=Heap.get?_push_of_some z hol
        have hsls:=F.sub_list_set; have hslf:=F.sub_list_frozenset
        have hne:(Value.type "list" == Value.type "dict")=false:=(by decide)
        have hl1:(s.heap.push z).IsList l items:=⟨_,hol',rfl,nl,rfl⟩
        subst ez
        unfold Builtin.«set.__init__» noKeywords Builtin.Frozenset.updateFrom; generalize hPI:pyIter=PI
        wp_walk
        subst hPI
        refine wpAny_pyIter_list hl1 ?_; refine wpAny_bind (wpAny_runValue ?_)
        generalize ez:({ cls:=.type "set",dict:=none,data:=.set #[] 0 (.fresh 0 0 led) }:Obj)=z at *
        have lS:l<s.heap.objs.size:=Heap.lt_size hol
        have h3:A.in1.in1.in1.handled=none:=by simp [hh]
        have sz:(s.heap.push z).objs.size=s.heap.objs.size+1:=Heap.size_push _ _
        have nI:l≠(s.heap.push z).objs.size:=by rw [sz]; exact Nat.ne_of_lt (Nat.lt_succ_of_lt lS)
        have hSf:s.heap.objs.size∉[(s.heap.push z).objs.size,l]:=by
          rw [sz]; simp only [List.mem_cons,List.not_mem_nil,or_false,not_or]
          exact ⟨Nat.ne_of_lt (Nat.lt_succ_self _),Nat.ne_of_gt lS⟩
        have hv:∀ (i:Nat) (v:Value),items[i]?=some v→∃ t,v=.int (ns.getD i 0) t:=fun i v q=>IntsAre.int_at hi i v (by rw [Array.getElem?_toList]; exact q)
        have ln:items.size=ns.length:=by rw [← Array.length_toList]; exact IntsAre.length hi
        have W:=(Walks.list (prog:=P) (w:=w) h3 _ l nI items).toS
        rw [ln] at W
        refine loopG W s.heap.objs.size hSf hv hb (ns.length - 0) 0 _ (by omega) (Nat.zero_le _) ⟨⟨_,Heap.get?_push_size _ rfl,rfl,rfl⟩,hl1.push _⟩ (g0.at fun o e=>Heap.get?_push_of_some _ e) fun s' m gs=>?_
        rw [Moved.eq_with m]
        refine wpAny_pure ?_
        show wpAny _ _ (ret Value.none) _ _ _; refine wpAny_pure ⟨rfl,s'.heap,s'.toks,rfl,gs,fun b o hb' e=>?_⟩
        refine m.heap b o ?_ (Heap.get?_push_of_some _ (Heap.get?_push_of_some _ e))
        rw [sz]; simp only [List.mem_cons,List.not_mem_nil,or_false,not_or]
        exact ⟨Nat.ne_of_lt hb',Nat.ne_of_lt (Nat.lt_succ_of_lt hb')⟩
      · cases r₂ with
        | error e=>exact hr₂
        | ok fl₂ =>
          cases fl₂ with
          | ret r =>
            obtain ⟨rfl,h',tk,rfl,gs,hk⟩:=hr₂
            (repeat (any_goals (first | assumption | wp_step)))
            exact h _ _ gs hk
          | _=>exact hr₂.elim
    | _=>exact hr.elim
end
theorem si_entry_iter0:entryFor table "set.__iter__" = some Builtin.«frozenset.__iter__»:=entryFor_alias (id' := "frozenset.__iter__") (by kernel_rfl) rfl (by decide +kernel) (by kernel_rfl)
theorem si_owner:Manifest.owners.lookup (String.ofList ['r','o','t','a','r','e','t','i','_','t','e','s'].reverse)=some Manifest.sig_set_iterator:=by kernel_rfl
theorem si_slot_next:Slot "set_iterator" "__next__" "set_iterator.__next__" := .of (owner := "set_iterator") (n := "__next__") (by rw [typeLookup_type,builtinLookup_eq_fast]; kernel_rfl) (by decide +kernel) (by decide +kernel) (by decide +kernel) (.inl (by decide +kernel)) (by rw [isSubtype_type]; kernel_rfl)
theorem si_entry_next:entryFor table "set_iterator.__next__" = some Builtin.«set_iterator.__next__»:=entryFor_of_tree (by kernel_rfl)
theorem si_args_next (a:Value):argsOk "set_iterator.__next__" ⟨[a],[]⟩:=by unfold argsOk; rw [signature?_of (id := "set_iterator.__next__") (n:=['_','_','t','x','e','n','_','_']) (o:=['r','o','t','a','r','e','t','i','_','t','e','s']) (by kernel_rfl) si_owner]; kernel_rfl
theorem si_slot_iter:Slot "set_iterator" "__iter__" "set_iterator.__iter__" := .of (owner := "set_iterator") (n := "__iter__") (by rw [typeLookup_type,builtinLookup_eq_fast]; kernel_rfl) (by decide +kernel) (by decide +kernel) (by decide +kernel) (.inl (by decide +kernel)) (by rw [isSubtype_type]; kernel_rfl)
theorem si_entry_iter:entryFor table "set_iterator.__iter__" = some Builtin.«dict_keyiterator.__iter__»:=entryFor_alias (id' := "dict_keyiterator.__iter__") (by kernel_rfl) rfl (by decide +kernel) (by kernel_rfl)
theorem si_args_iter (a:Value):argsOk "set_iterator.__iter__" ⟨[a],[]⟩:=by unfold argsOk; rw [signature?_of (id := "set_iterator.__iter__") (n:=['_','_','r','e','t','i','_','_']) (o:=['r','o','t','a','r','e','t','i','_','t','e','s']) (by kernel_rfl) si_owner]; kernel_rfl
theorem si_len:typeLookup (.type "set") "__len__" = pure (some (.builtin "set.__len__")):=F.slot_set_len.lookup
section
variable {P:Program} {w:World} {A:Around} {E:Value→Shared→Prop} {s:Shared} {a:Addr} {o:Obj} {es:Array (Int×Value)} {ep:Nat} {t:SetTable}
theorem wp_choose' {src:Source} {n:Nat} {Q:Nat→Shared→Prop} (hn:n≠0) (h:∀ i d,i<n→Q i { s with drawn:=d }):wpAny (model P w) A (choose src n) Q E s :=
  fun Γ p hΓ=>⟨hn,h _ _ (Nat.mod_lt _ (Nat.pos_of_ne_zero hn))⟩
theorem draw_ok {α:Type}:∀ (n:Nat) (xs:List α) (s:Shared) (Q:List α→Shared→Prop),xs.length=n→(∀ ys d,ys.Perm xs→Q ys { s with drawn:=d })→wpAny (model P w) A (drawOrder n xs) Q E s
  | 0,xs,s,Q,h,k=>by
    have:xs=[]:=List.eq_nil_of_length_eq_zero h
    subst this
    unfold drawOrder
    exact wpAny_pure (k [] s.drawn .nil)
  | n+1,[],s,Q,h,k=>nomatch h
  | n+1,x :: xs,s,Q,h,k=>by
    unfold drawOrder
    refine wpAny_bind (wp_choose' (by simp) fun i d hi=>?_)
    rw [List.getElem?_eq_getElem hi]
    dsimp only
    refine wpAny_bind (draw_ok n _ _ _ (by rw [List.length_eraseIdx,if_pos hi,h]; rfl) fun ys d' hp=>wpAny_pure (k _ d' ?_))
    have e:(x :: xs).take i++(x :: xs)[i] :: (x :: xs).drop (i+1)=x :: xs:=by rw [← List.drop_eq_getElem_cons hi,List.take_append_drop]
    refine (hp.cons _).trans ?_
    rw [List.eraseIdx_eq_take_drop_succ]
    exact List.perm_middle.symm.trans (List.Perm.of_eq e)
def itO (first:Value) (i n ep:Nat) (a:Addr):Obj:={ cls:=.type "set_iterator",dict:=none,data:=.fields #[first,.int i 0,.ref a,.int n 0,.int ep 0],slots:=#[] }
def slotAt (t:SetTable):Nat→Nat | 0=>0 | i+1=>t.place.getD i 0+1
theorem below_at {t:SetTable} (u:Up t.place):∀ i,i≤t.place.size→SetTable.below t.place (slotAt t i)=i
  | 0,h=>by
    obtain ⟨h1,h2,h3⟩:=below_ok 0 u
    rcases Nat.eq_zero_or_pos (SetTable.below t.place 0) with e | e
    · exact e
    · exact absurd (h2 0 e) (Nat.not_lt_zero _)
  | i+1,h=>by
    obtain ⟨h1,h2,h3⟩:=below_ok (t.place.getD i 0+1) u
    show SetTable.below t.place (t.place.getD i 0+1)=i+1
    generalize SetTable.below t.place (t.place.getD i 0+1)=b at h1 h2 h3 ⊢
    rcases Nat.lt_trichotomy b (i+1) with q | q | q
    · exact absurd (Nat.lt_succ_self _) (h3 i (by omega) (by omega))
    · exact q
    · have z1:=h2 (i+1) q
      have z2:=u i (i+1) (Nat.lt_succ_self _) (by omega)
      omega
inductive Way (w:World) (a:Addr) (es:Array (Int×Value)) (ep:Nat) (t:SetTable) (h:Heap):List (Int×Value)→Nat→Value→Prop
  | text {i j:Nat} (e:w.params.followText "set-order" = true):Way w a es ep t h (pickOrder (w.params.setOrder a ep) es).toList i (.int j 0)
  | place {i:Nat} (e:w.params.followText "set-order" = false) (d:(!t.plain && decide (es.size > 1))=false):Way w a es ep t h es.toList i (.int (slotAt t i:Nat) 0)
  | draw {i:Nat} {tp:Addr} {ot:Obj} {c:Nat} {ix:List Nat} (e:h.get? tp=some ot) (d:ot.data=.seq (ix.map fun (k:Nat)=>(Value.int k 0)).toArray c) (pm:ix.Perm (List.range es.size)):Way w a es ep t h (ix.filterMap fun k=>es[k]?) i (.ref tp)
theorem si_type {I:Addr} {first:Value} {i n:Nat} (h:s.heap.get? I=some (itO first i n ep a)):s.TypeIs (.ref I) "set_iterator" := ⟨_,h,rfl⟩
end
section
variable {P:Program} {w:World} {A:Around} {E:Value→Shared→Prop} {s:Shared} {a:Addr} {o:Obj} {es:Array (Int×Value)} {ep:Nat} {t:SetTable}
theorem next_text {j i:Nat} {Q:Option (Value×Nat)→Shared→Prop} (ha:s.heap.get? a=some o) (g:SetG P w o es ep t) (e:w.params.followText "set-order" = true) (h:Q (((pickOrder (w.params.setOrder a ep) es)[i]?).map fun e=>(e.2,j)) s) :
    wpAny (model P w) A (setNext a j i ep) Q E s:=by
  unfold setNext setsByText
  refine wpAny_bind (wpAny_setState_of ha g.dat g.fit ?_); dsimp only
  refine wpAny_bind (wpAny_bind (wpAny_askSetting (wpAny_pure ?_))); dsimp only
  rw [show (model P w).w.params.followText "set-order" = true from e,if_pos rfl,if_neg (by simp)]
  unfold setWalk setsByText
  refine wpAny_bind (wpAny_bind (wpAny_setState_of ha g.dat g.fit ?_)); dsimp only
  refine wpAny_bind (wpAny_bind (wpAny_askSetting (wpAny_pure ?_))); dsimp only
  rw [show (model P w).w.params.followText "set-order" = true from e,if_pos rfl]
  refine wpAny_bind (wpAny_askSetting (wpAny_pure (wpAny_pure ?_)))
  exact h
theorem next_place {j i:Nat} {Q:Option (Value×Nat)→Shared→Prop} (ha:s.heap.get? a=some o) (g:SetG P w o es ep t) (e:w.params.followText "set-order" = false) (d:(!t.plain && decide (es.size > 1))=false)
    (h:Q (match es[SetTable.below t.place j]?,t.place[SetTable.below t.place j]? with | some (_,x),some j=>some (x,j+1) | _,_=>none) s):wpAny (model P w) A (setNext a j i ep) Q E s:=by
  have hl:t.led=true:=g.led.elim (fun z=>by rw [e] at z; cases z) id
  unfold setNext setsByText
  refine wpAny_bind (wpAny_setState_of ha g.dat g.fit ?_); dsimp only
  refine wpAny_bind (wpAny_bind (wpAny_askSetting (wpAny_pure ?_))); dsimp only
  rw [show (model P w).w.params.followText "set-order" = false from e,if_neg (by decide)]
  show wpAny _ _ (if (!t.plain && decide (es.size > 1))=true then _ else _) _ _ _
  rw [d,if_neg (by decide)]
  refine wpAny_bind ?_
  show wpAny _ _ (if (!t.led && !es.isEmpty)=true then unsupported _ else pure ()) _ _ _
  rw [hl,if_neg (by simp)]; exact wpAny_pure (wpAny_pure h)
theorem SameBut_get {I:Addr} {h h':Heap} (x:Heap.SameBut I h h') {b:Addr} (hb:b≠I):h'.get? b=h.get? b:=x.2 b hb
theorem si_item {I:Addr} {out:List (Int×Value)} {first:Value} {i:Nat} {e:Int×Value} {Q:Option Value→Shared→Prop} (hI:s.heap.get? I=some (itO first i es.size ep a)) (ha:s.heap.get? a=some o) (g:SetG P w o es ep t) (y:Way w a es ep t s.heap out i first) (he:out[i]?=some e)
    (hQ:∀ h' f',Heap.SameBut I s.heap h'→h'.get? I=some (itO f' (i+1) es.size ep a)→Way w a es ep t h' out (i+1) f'→(∀ tp,f'=.ref tp→first=.ref tp)→Q (some e.2) { s with heap:=h' }):wpAny (model P w) A (pyNext (.ref I)) Q E s:=by
  have T:=si_type hI
  unfold pyNext
  refine wpAny_bind (wpAny_attempt (wpAny_callSpecial?_slot (name:=Str.ofString "__next__") T si_slot_next (wpAny_call_entry si_slot_next T si_entry_next ?_ (si_args_next _))))
  unfold Builtin.«set_iterator.__next__»
  refine wpAny_bind (wpAny_pure ?_); refine wpAny_bind (wpAny_fieldsOf hI rfl ?_)
  show wpAny _ _ (setEntries a >>= _) _ _ s
  refine wpAny_bind (wpAny_setEntries_of ha g.dat g.fit ?_); dsimp only
  rw [if_neg (by simp)]
  have two:∀ (x:Nat),wpAny (model P w) A.in1 (do setField (.ref I) 0 (rawInt x); setField (.ref I) 1 (rawInt ((i:Int)+1)); ret e.2) (fun fin s'=>∃ v,fin=Fin.done (Flow.ret v)∧∃ h',v=e.2∧Heap.SameBut I s.heap h'∧h'.get? I=some (itO (.int x 0) (i+1) es.size ep a)∧s'={ s with heap:=h' }) (fun _ _=>False) s:=fun x=>by
    refine wpAny_bind (wpAny_setField_rec hI (by simp) fun h1 e1 sb1=>?_)
    refine wpAny_bind (wpAny_setField_rec e1 (by simp) fun h2 e2 sb2=>?_)
    exact wpAny_pure ⟨_,rfl,h2,rfl,sb1.trans sb2,e2,rfl⟩
  cases y with
  | text eT =>
    rename_i j
    refine wpAny_bind (next_text ha g eT ?_)
    simp only [Int.toNat_natCast]
    rw [← Array.getElem?_toList,he]
    refine wpAny_mono (two (Int.toNat (j:Int))) (fun fin s' z=>?_) fun _ _ z=>z.elim
    obtain ⟨v,rfl,h',rfl,sb,gi,rfl⟩:=z
    exact ⟨_,rfl,wpAny_pure (hQ h' _ sb gi (.text eT) fun _ e=>nomatch e)⟩
  | place eT d =>
    have hsz:t.place.size=es.size:=by have:=g.fit; simp [SetTable.fits] at this; exact this.1
    have hi:i<es.size:=by have:=(List.getElem?_eq_some_iff.mp he).1; simpa using this
    refine wpAny_bind (next_place ha g eT d ?_)
    simp only [Int.toNat_natCast]
    rw [below_at g.ris.1 i (by omega)]
    rw [Array.getElem?_toList] at he
    rw [he,Array.getElem?_eq_getElem (show i<t.place.size by omega)]
    have ep:t.place[i]'(by omega)=t.place.getD i 0:=by simp [Array.getD,show i<t.place.size by omega]
    refine wpAny_mono (two (t.place[i]'(by omega)+1)) (fun fin s' z=>?_) fun _ _ z=>z.elim
    obtain ⟨v,rfl,h',rfl,sb,gi,rfl⟩:=z
    refine ⟨_,rfl,wpAny_pure (hQ h' _ sb gi ?_ fun _ e=>nomatch e)⟩
    rw [ep]
    exact .place (i:=i+1) eT d
  | draw et dt pm =>
    rename_i tp ot c ix
    have nI:tp≠I:=fun z=>by
      rw [z,hI] at et
      have:=Option.some.inj et
      rw [← this] at dt
      exact nomatch dt
    have full:∀ (l:List Nat),(∀ k∈l,k<es.size)→∀ (i:Nat) (e:Int×Value),(l.filterMap fun k=>es[k]?)[i]?=some e→∃ k:Nat,l[i]?=some k∧es[k]?=some e:=by
      intro l
      induction l with
      | nil=>intro _ i e z; simp at z
      | cons q l ih =>
        intro hq i e z
        have hq':q<es.size:=hq q (by simp)
        rw [List.filterMap_cons_some (Array.getElem?_eq_getElem hq')] at z
        cases i with
        | zero=>exact ⟨q,rfl,by rw [Array.getElem?_eq_getElem hq']; simpa using z⟩
        | succ i=>exact ih (fun k hk=>hq k (by simp [hk])) i e (by simpa using z)
    obtain ⟨k,hk,hek⟩:=full ix (fun k hk=>by have:=pm.mem_iff.mp hk; simpa using this) i e he
    refine wpAny_bind (wpAny_seqItems et dt ?_)
    have hx:((ix.map fun (k:Nat)=>(Value.int k 0)).toArray)[Int.toNat (i:Int)]?=some (.int k 0):=by
      rw [show (Int.toNat (i:Int))=i from rfl]
      simp [hk]
    dsimp only
    rw [hx]
    dsimp only
    unfold setNextDrawn
    refine wpAny_bind (wpAny_bind (wpAny_setState_of ha g.dat g.fit ?_)); dsimp only
    rw [if_neg (by simp),show (Int.toNat (k:Int))=k from rfl,hek]
    refine wpAny_pure ?_
    refine wpAny_bind (wpAny_setField_rec hI (by simp) fun h1 e1 sb1=>wpAny_pure ⟨_,rfl,wpAny_pure (hQ h1 _ sb1 e1 ?_ fun _ e=>e)⟩)
    exact .draw (by rw [SameBut_get sb1 nI]; exact et) dt pm
end
section
variable {P:Program} {w:World} {A:Around} {E:Value→Shared→Prop} {s:Shared} {a:Addr} {o:Obj} {es:Array (Int×Value)} {ep:Nat} {t:SetTable}
theorem stopG {α:Type} {Q:α→Shared→Prop} (hh:A.handled=none) (h:∀ h' e,(∀ b o,s.heap.get? b=some o→h'.get? b=some o)→Shared.TypeIs { s with heap:=h' } e "StopIteration" → E e { s with heap:=h' }) :
    wpAny (model P w) A (newExc (.type "StopIteration") [] >>= fun e=>(raiseNew e:Sem α)) Q E s:=by
  refine wpAny_bind ?_; simp only [newExc,newTuple]
  refine wpAny_bind (wpAny_newObj_type ?_ (by size_fits)); refine wpAny_bind (m:=firstArgMember _ _) (wpAny_of_eq (a:=Value.none) (by first | rfl | (simp only [firstArgMember]; rfl)) ?_)
  refine wpAny_newObj_type (wpAny_raiseNew_none hh (h _ _ (fun b o e=>Heap.get?_push_of_some _ (Heap.get?_push_of_some _ e)) ⟨_,Heap.get?_push_size _ rfl,rfl⟩)) (by size_fits)
theorem way_len {h:Heap} {out:List (Int×Value)} {i:Nat} {f:Value} (y:Way w a es ep t h out i f):out.Perm es.toList:=by
  cases y with
  | text _=>exact pick_perm _ _
  | place _ _=>exact .refl _
  | draw _ _ pm =>
    rename_i tp ot c ix et dt
    refine (pm.filterMap _).trans (List.Perm.of_eq ?_)
    refine List.ext_getElem? fun i=>?_
    have key:∀ (n:Nat),n≤es.size→((List.range n).filterMap fun k=>es[k]?)=es.toList.take n:=by
      intro n
      induction n with
      | zero=>intro _; simp
      | succ n ih =>
        intro hn
        rw [List.range_succ,List.filterMap_append,ih (by omega),List.take_succ_eq_append_getElem (show n<es.toList.length by rw [Array.length_toList]; omega)]
        rw [List.filterMap_cons_some (Array.getElem?_eq_getElem (show n<es.size by omega))]
        simp
    rw [key es.size (Nat.le_refl _),← Array.length_toList,List.take_length]
theorem si_done {I:Addr} {out:List (Int×Value)} {first:Value} {Q:Option Value→Shared→Prop} (hh:A.handled=none) (hI:s.heap.get? I=some (itO first es.size es.size ep a)) (ha:s.heap.get? a=some o) (g:SetG P w o es ep t) (y:Way w a es ep t s.heap out es.size first)
    (hQ:∀ h',(∀ b o,b≠I→s.heap.get? b=some o→h'.get? b=some o)→Q none { s with heap:=h' }):wpAny (model P w) A (pyNext (.ref I)) Q E s:=by
  have T:=si_type hI
  have lo:out.length=es.size:=by rw [(way_len y).length_eq,Array.length_toList]
  unfold pyNext
  refine wpAny_bind (wpAny_attempt (wpAny_callSpecial?_slot (name:=Str.ofString "__next__") T si_slot_next (wpAny_call_entry si_slot_next T si_entry_next ?_ (si_args_next _))))
  unfold Builtin.«set_iterator.__next__»
  refine wpAny_bind (wpAny_pure ?_); refine wpAny_bind (wpAny_fieldsOf hI rfl ?_)
  show wpAny _ _ (setEntries a >>= _) _ _ s
  refine wpAny_bind (wpAny_setEntries_of ha g.dat g.fit ?_); dsimp only
  rw [if_neg (by simp)]
  have h1:A.in1.handled=none:=by simp [hh]
  have fin:∀ (s1:Shared),(∀ b o,b≠I→s.heap.get? b=some o→s1.heap.get? b=some o)→s1={ s with heap:=s1.heap }→wpAny (model P w) A.in1 (newExc (.type "StopIteration") [] >>= fun e=>(raiseNew e:Sem PySem.Fin))
      (fun fin s'=>∃ v,fin=Fin.done (Flow.ret v)∧wpAny (model P w) A (pure (some v)) Q E s') (fun e s'=>wpAny (model P w) A (do let r ← isInstance e (Value.type "StopIteration"); if r=true then pure none else throw e) Q E s') s1:=fun s1 k1 e1=>by
    refine stopG h1 fun h' e k T'=>?_
    refine wpAny_bind (wpAny_isInstance (b:=true) T' isSubtype_stop ?_)
    rw [if_pos rfl]
    have:=hQ h' fun b o hb z=>k b o (k1 b o hb z)
    rw [e1]
    exact wpAny_pure this
  cases y with
  | text eT =>
    rename_i j
    refine wpAny_bind (next_text ha g eT ?_)
    simp only [Int.toNat_natCast]
    rw [← Array.getElem?_toList,List.getElem?_eq_none (by omega)]
    refine wpAny_bind (wpAny_setField_rec hI (by simp) fun h1 e1 sb1=>fin _ (fun b o hb z=>(sb1.2 b hb).trans z) rfl)
  | place eT d =>
    have hsz:t.place.size=es.size:=by have:=g.fit; simp [SetTable.fits] at this; exact this.1
    refine wpAny_bind (next_place ha g eT d ?_)
    simp only [Int.toNat_natCast]
    rw [below_at g.ris.1 es.size (by omega),Array.getElem?_eq_none (Nat.le_refl _)]
    refine wpAny_bind (wpAny_setField_rec hI (by simp) fun h1 e1 sb1=>fin _ (fun b o hb z=>(sb1.2 b hb).trans z) rfl)
  | draw et dt pm =>
    rename_i tp ot c ix
    have li:ix.length=es.size:=by rw [pm.length_eq,List.length_range]
    refine wpAny_bind (wpAny_seqItems et dt ?_)
    have hx:((ix.map fun (k:Nat)=>(Value.int k 0)).toArray)[Int.toNat (es.size:Int)]?=none:=by
      rw [Int.toNat_natCast,Array.getElem?_eq_none (by simp [li])]
    dsimp only
    rw [hx]
    refine wpAny_bind (wpAny_setField_rec hI (by simp) fun h1 e1 sb1=>?_)
    refine wpAny_bind (wpAny_setField_rec e1 (by simp) fun h2 e2 sb2=>fin _ (fun b o hb z=>(sb2.2 b hb).trans ((sb1.2 b hb).trans z)) rfl)
theorem iterG {Q:Value→Shared→Prop} (ha:s.heap.get? a=some o) (g:SetG P w o es ep t)
    (hQ:∀ h' d I first out,(∀ b o,s.heap.get? b=some o→h'.get? b=some o)→s.heap.get? I=none→h'.get? I=some (itO first 0 es.size ep a)→Way w a es ep t h' out 0 first→(∀ tp,first=.ref tp→s.heap.get? tp=none∧tp≠I)→Q (.ref I) { s with heap:=h',drawn:=d }) :
    wpAny (model P w) A (pyIter (.ref a)) Q E s:=by
  have T:s.TypeIs (.ref a) "set" := ⟨o,ha,g.ex.1⟩
  refine wpAny_pyIter_slot T F.slot_set_iter (wpAny_call_entry F.slot_set_iter T si_entry_iter0 ?_ (F.args_set_iter_1 _))
  unfold Builtin.«frozenset.__iter__» Builtin.Frozenset.slot0 Builtin.Frozenset.sizeOf setDrawn setsByText
  refine wpAny_bind (wpAny_bind (wpAny_pure (wpAny_pure ?_)))
  refine wpAny_bind (wpAny_bind (wpAny_setEntries_of ha g.dat g.fit (wpAny_pure ?_)))
  refine wpAny_bind (wpAny_bind (wpAny_setState_of ha g.dat g.fit ?_)); dsimp only
  refine wpAny_bind (wpAny_bind (wpAny_askSetting (wpAny_pure ?_))); dsimp only
  refine wpAny_pure ?_
  have fin:∀ (s1:Shared) (first:Value) (out:List (Int×Value)),(∀ b o,s.heap.get? b=some o→s1.heap.get? b=some o)→(∃ d,s1={ s with heap:=s1.heap,drawn:=d })→Way w a es ep t s1.heap out 0 first→(∀ tp,first=.ref tp→s.heap.get? tp=none)→s.heap.objs.size≤s1.heap.objs.size →
      wpAny (model P w) A.in1 (do let e ← setEpoch a; let r ← newFields "set_iterator" [first,rawInt 0,Value.ref a,rawInt es.size,rawInt e]; ret r) (fun fin s'=>∃ v,fin=Fin.done (Flow.ret v)∧∃ T' r,s'.TypeIs v T'∧typeLookup (Value.type T') (Str.ofString "__next__")=pure (some r)∧Q v s') E s1:=fun s1 first out k e1 y ft le=>by
    obtain ⟨d,e1⟩:=e1
    refine wpAny_bind (wpAny_setEpoch_of (k _ _ ha) g.dat g.fit ?_)
    refine wpAny_bind (wpAny_newObj_type ?_ (by size_fits)); have hI:(s1.heap.push (itO first 0 es.size ep a)).get? s1.heap.objs.size=some (itO first 0 es.size ep a):=Heap.get?_push_size _ rfl
    refine wpAny_pure ⟨_,rfl, "set_iterator",_,⟨_,hI,rfl⟩,si_slot_next.lookup,?_⟩
    have hn:s.heap.get? s1.heap.objs.size=none:=by
      cases z:s.heap.get? s1.heap.objs.size with
      | none=>rfl
      | some q=>exact absurd (Heap.lt_size z) (Nat.not_lt.mpr le)
    rw [e1]
    refine hQ _ d _ first out (fun b o z=>Heap.get?_push_of_some _ (k b o z)) hn hI ?_ fun tp e=>⟨ft tp e,fun z=>?_⟩
    · cases y with
      | text q=>exact .text q
      | place q r=>exact .place (i:=0) q r
      | draw q r pm=>exact .draw (Heap.get?_push_of_some _ q) r pm
    · subst e
      cases y with
      | draw q r pm=>exact absurd (Heap.lt_size q) (by rw [z]; exact Nat.lt_irrefl _)
  split
  · refine wpAny_bind (draw_ok es.size _ _ _ (by simp) fun ys d hp=>?_)
    refine wpAny_bind (wpAny_newObj_type ?_ (show (List.map (fun i:Nat=>rawInt (i:Int)) ys).toArray.size≤sizeLine by have:=hp.length_eq; simp at this; simp only [List.size_toArray,List.length_map]; exact fits_of_scanBound (by rw [this]; exact g.lit)))
    refine fin _ (.ref s.heap.objs.size) (ys.filterMap fun k=>es[k]?) (fun b o z=>Heap.get?_push_of_some _ z) ⟨d,rfl⟩ (.draw (Heap.get?_push_size _ rfl) rfl hp) (fun tp e=>?_) (by rw [Heap.size_push]; exact Nat.le_succ _)
    cases e
    cases z:s.heap.get? s.heap.objs.size with
    | none=>rfl
    | some q=>exact absurd (Heap.lt_size z) (Nat.lt_irrefl _)
  · rename_i hc
    refine wpAny_bind (wpAny_pure ?_)
    cases eT:w.params.followText "set-order" with
    | true=>exact fin s (.int (0:Nat) 0) _ (fun _ _ z=>z) ⟨s.drawn,rfl⟩ (.text eT) (fun _ e=>nomatch e) (Nat.le_refl _)
    | false =>
      refine fin s (.int (slotAt t 0:Nat) 0) _ (fun _ _ z=>z) ⟨s.drawn,rfl⟩ (.place (i:=0) eT ?_) (fun _ e=>nomatch e) (Nat.le_refl _)
      have hc':¬ ((!(w.params.followText "set-order") && (!t.plain && decide (es.size > 1)))=true):=hc
      rw [eT] at hc'
      simpa using hc'
end
section
variable {P:Program} {w:World} {A:Around} {E:Value→Shared→Prop} {s:Shared} {a:Addr} {o:Obj} {es:Array (Int×Value)} {ep:Nat} {t:SetTable}
theorem walkG (hh:A.handled=none) {I:Addr} {out:List (Int×Value)} {rest:List Addr} (g:SetG P w o es ep t) (po:out.length=es.size) (hne:a≠I) :
    WalksS P w A I (I :: a :: rest) [I] (fun x y=>y=x) es.size (fun i v=>∃ e,out[i]?=some e∧v=e.2) (fun i s=>s.heap.get? a=some o∧∃ f,s.heap.get? I=some (itO f i es.size ep a)∧Way w a es ep t s.heap out i f∧∀ tp,f=.ref tp→tp∈rest∧tp≠I) where
  sub:=fun c hc=>by simp at hc; simp [hc]
  grefl:=fun _=>rfl
  gtrans:=fun x y z h1 h2=>by rw [h2,h1]
  frame:=fun i s h' tk st _ k=>by
    obtain ⟨ha,f,hI,y,hf⟩:=st
    refine ⟨k a (by simp) _ ha,f,k I (by simp) _ hI,?_,hf⟩
    cases y with
    | text q=>exact .text q
    | place q r=>exact .place q r
    | draw q r pm=>exact .draw (k _ (by simp [(hf _ rfl).1]) _ q) r pm
  item:=fun i s Q E hi st hQ=>by
    obtain ⟨ha,f,hI,y,hf⟩:=st
    have he:out[i]?=some (out[i]'(by omega)):=List.getElem?_eq_getElem (by omega)
    refine si_item hI ha g y he fun h' f' sb gI y' yf=>hQ _ _ ⟨_,he,rfl⟩ ⟨by rw [sb.2 a hne]; exact ha,f',gI,y',fun tp e=>hf tp (yf tp e)⟩ ⟨fun b o hb z=>(sb.2 b (fun q=>hb (by simp [q]))).trans z,rfl,rfl,rfl,Nat.le_refl _⟩
  done:=fun s Q E st hQ=>by
    obtain ⟨ha,f,hI,y,hf⟩:=st
    exact si_done hh hI ha g y fun h' k=>hQ _ ⟨fun b o hb z=>k b o (fun q=>hb (by simp [q])) z,rfl,rfl,rfl,Nat.le_refl _⟩
  self:=fun i s Q E st hQ=>by
    obtain ⟨ha,f,hI,y,hf⟩:=st
    have T:=si_type hI
    refine wpAny_pyIter_slot T si_slot_iter (wpAny_call_entry si_slot_iter T si_entry_iter ?_ (si_args_iter _))
    show wpAny _ _ (ret (.ref I)) _ _ s
    exact wpAny_pure ⟨_,rfl, "set_iterator",_,T,si_slot_next.lookup,hQ⟩
theorem hintG {r:Addr} {Q:Bool→Shared→Prop} (hT:s.TypeIs (.ref r) "set") (h:Q false s):wpAny (model P w) A (Builtin.List.listLengthHint (.ref r)) Q E s:=by
  unfold Builtin.List.listLengthHint; refine wpAny_bind (wpAny_specialOf hT si_len ?_)
  generalize hid:("set.__len__" : String)=id0; wp_delta
  rw [show splitId id0=some ("set", "__len__") from by subst hid; decide +kernel]; subst hid
  refine wpAny_bind (wpAny_isInstance (T := "set") (b:=true) hT sub_set_self ?_)
  refine wpAny_ite_split (fun q=>absurd q (by decide)) fun _=>wpAny_ite_split (fun _=>?_) fun q=>absurd (by decide +kernel) q
  exact wpAny_bind (wpAny_typeOf hT (wpAny_pure h))
theorem collectG {Q:List Value→Shared→Prop} (hh:A.handled=none) (ha:s.heap.get? a=some o) (g:SetG P w o es ep t)
    (hQ:∀ h' tk d (out:List (Int×Value)),(∀ b o,s.heap.get? b=some o→h'.get? b=some o)→out.Perm es.toList→Q (out.map Prod.snd) { s with heap:=h',toks:=tk,drawn:=d }):wpAny (model P w) A (collect (.ref a)) Q E s:=by
  have T:s.TypeIs (.ref a) "set" := ⟨o,ha,g.ex.1⟩
  unfold collect
  refine wpAny_bind (wpAny_runValue (codeAny_builtin entry_proto_collect' ?_)); rw [Around.under_plainId PySem.F.plain_proto_collect _]
  show wpAny _ A.in1 (newList [] >>= fun l=>again (.builtin "list.__iadd__" ⟨[l,.ref a],[]⟩)) _ _ s
  refine wpAny_bind (wpAny_newObj_type (wpAny_pure ⟨plainId_quiet PySem.F.plain_list_iadd _,codeAny_builtin entry_list_iadd' ?_⟩)); rw [Around.under_plainId PySem.F.plain_list_iadd _]
  generalize hL:s.heap.objs.size=L
  generalize h1:s.heap.push { cls:=.type "list",data:=.seq ([]:List Value).toArray }=hp1
  have gL:hp1.get? L=some { cls:=.type "list",dict:=none,data:=.seq #[] 0,slots:=#[] }:=by rw [← h1,← hL]; exact Heap.get?_push_size _ rfl
  have k1:∀ b o,s.heap.get? b=some o→hp1.get? b=some o:=fun b o e=>by rw [← h1]; exact Heap.get?_push_of_some _ e
  have nL:∀ b o,s.heap.get? b=some o→b≠L:=fun b o e=>by rw [← hL]; exact Nat.ne_of_lt (Heap.lt_size e)
  show wpAny _ A.in1 (Builtin.List.listExtendWith (.ref L) (.ref a) (.ref L)) _ _ _
  unfold Builtin.List.listExtendWith; have T1:Shared.TypeIs { s with heap:=hp1 } (.ref a) "set" := ⟨o,k1 _ _ ha,g.ex.1⟩
  refine wpAny_bind (wpAny_typeOf T1 ?_)
  have sr:Builtin.List.listSameRef (.ref L) (.ref a)=false:=by simp [Builtin.List.listSameRef,(nL a o ha).symm]
  rw [sr,if_neg (by decide)]
  refine wpAny_bind (iterG (s:={ s with heap:=hp1 }) (k1 _ _ ha) g fun h' d I first out k nI gI y ft=>?_)
  have nIL:L≠I:=fun e=>by rw [e] at gL; rw [show hp1.get? I=none from nI] at gL; cases gL
  have nIa:a≠I:=fun e=>by have:=k1 _ _ ha; rw [e] at this; rw [show hp1.get? I=none from nI] at this; cases this
  have po:out.length=es.size:=by rw [(way_len y).length_eq,Array.length_toList]
  refine wpAny_bind (wpAny_holding (hintG ⟨o,k _ _ (k1 _ _ ha),g.ex.1⟩ ?_))
  obtain ⟨rest,hr1,hr2⟩:∃ rest:List Addr,(∀ tp,first=.ref tp→tp∈rest∧tp≠I)∧L∉I :: a :: rest:=by
    have n0:L∉[I,a]:=by simp only [List.mem_cons,List.not_mem_nil,or_false,not_or]; exact ⟨nIL,(nL a o ha).symm⟩
    cases first with
    | ref tp =>
      refine ⟨[tp],fun tp' e=>by cases e; exact ⟨by simp,(ft tp rfl).2⟩,?_⟩
      have nt:L≠tp:=fun e=>by rw [e] at gL; rw [show hp1.get? tp=none from (ft tp rfl).1] at gL; cases gL
      simp only [List.mem_cons,List.not_mem_nil,or_false,not_or]
      exact ⟨nIL,(nL a o ha).symm,nt⟩
    | _=>exact ⟨[],(fun _ e=>nomatch e),n0⟩
  have W:=walkG (A:=A.in1) (by simp [hh]) (I:=I) (out:=out) (rest:=rest) g po nIa
  rw [if_pos (by decide +kernel)]
  have key:∀ (h2:Heap) (c:Nat),(∀ b o,b≠L→h'.get? b=some o→h2.get? b=some o)→h2.get? L=some { cls:=.type "list",dict:=none,data:=.seq #[] c,slots:=#[] } →
      codeAny (model P w) A (.builtin "list.extend.loop" ⟨[.ref L,.ref I,.ref L],[]⟩) (fun r s'=>∃ (h3:Heap) (tk:Nat) (acc:Array Value) (c':Nat),r=.ok (.ret (.ref L))∧s'={ s with heap:=h3,toks:=tk,drawn:=d }∧(∀ b o,s.heap.get? b=some o→h3.get? b=some o)∧h3.get? L=some { cls:=.type "list",dict:=none,data:=.seq acc c',slots:=#[] }∧acc.toList=out.map Prod.snd) { s with heap:=h2,drawn:=d }:=fun h2 c k2 g2=>by
    refine codeAny_extend_loopS W (fits_of_scanBound g.lit) L hr2 (.ref L) es.size 0 _ #[] c (by omega) (Nat.zero_le _) ?_ g2 (ItemsOf.nil _) fun s' acc' c' m gL' hacc=>?_
    · refine ⟨k2 _ _ (nL a o ha) (k _ _ (k1 _ _ ha)),first,k2 _ _ nIL.symm gI,?_,hr1⟩
      cases y with
      | text q=>exact .text q
      | place q r=>exact .place (i:=0) q r
      | draw q r pm =>
        refine .draw (k2 _ _ (fun e=>hr2 ?_) q) r pm
        rw [← e]; simp [(hr1 _ rfl).1]
    · rw [Moved.eq_with m]
      refine ⟨s'.heap,s'.toks,acc',c',rfl,rfl,fun b o z=>m.heap b o ?_ (k2 b o (nL b o z) (k b o (k1 b o z))),gL',?_⟩
      · have nb:b≠I:=fun e=>by have:=k1 b o z; rw [e] at this; rw [show hp1.get? I=none from nI] at this; cases this
        simp only [List.mem_cons,List.not_mem_nil,or_false,not_or]
        exact ⟨nL b o z,nb⟩
      · refine List.ext_getElem? fun i=>?_
        by_cases hi:i<es.size
        · have hv:acc'.toList[i]?=some (acc'.toList[i]'(by rw [Array.length_toList,hacc.1]; exact hi)):=List.getElem?_eq_getElem _
          obtain ⟨e,he,hv2⟩:=hacc.2 i _ (by rw [← Array.getElem?_toList]; exact hv)
          rw [hv,hv2,List.getElem?_map,he]; rfl
        · rw [List.getElem?_eq_none (by rw [Array.length_toList,hacc.1]; omega),List.getElem?_eq_none (by rw [List.length_map]; omega)]
  refine wpAny_bind (wpAny_rule ?_); refine wpAny_bind ?_
  have gL1:h'.get? L=some { cls:=.type "list",dict:=none,data:=.seq #[] 0,slots:=#[] }:=k _ _ gL
  show wpAny _ _ (updateSeq L (·.push .none) >>= fun _=>updateSeq L (·.pop)) _ _ _
  refine wpAny_bind (wpAny_updateSeq gL1 rfl ?_)
  have gL2:=Heap.get?_update_self (Obj.mapSeq (·.push Value.none)) gL1 rfl
  refine wpAny_updateSeq (hz:=by seq_fits) gL2 rfl ?_
  have gL3:=Heap.get?_update_self (Obj.mapSeq (·.pop)) gL2 rfl
  refine wpAny_pure ⟨plainId_quiet PySem.F.plain_extend_loop _,?_⟩
  refine codeAny_mono (key _ _ (fun b o hb z=>(Heap.get?_update_other _ _ (Ne.symm hb)).trans ((Heap.get?_update_other _ _ (Ne.symm hb)).trans z)) gL3) fun r s' q=>?_
  obtain ⟨h3,tk,acc,c',rfl,rfl,k3,gL4,ea⟩:=q
  show wpAny _ A (load L >>= _) _ _ _
  refine wpAny_bind (wpAny_load gL4 ?_)
  have:=hQ h3 tk d out k3 (way_len y)
  rw [← ea] at this
  exact wpAny_pure this
end
section
variable {X:Cx}
def rSetG (P:Program) (w:World):List V→Hp→VK→Prop:=fun xs H Q=>∃ (l:Addr) (ns:List Int),xs=[.ref l]∧H l=some (.lst (ns.map V.int))∧ns.length<64∧∀ q,H q=none→Q (.ref q) (upd H q (.ext fun h=>GSet P w h q ns))
theorem call_setG (hc:X.calm=true):CallR X (.type "set") (rSetG X.prog X.w):=by
  intro pins s σ H xs us Q I r h
  obtain ⟨l,ns,rfl,hl,h64,q⟩:=h
  obtain ⟨u,rfl,rx⟩:=vals1 r
  cases rx
  obtain ⟨hz,its,n,rv,ho⟩:=I.hok l _ hl
  have hi:IntsAre its.toArray.toList ns:=by simpa using intsAre_of rv
  refine callG (items:=its.toArray) (ns:=ns) (I.ok.hd hc) ⟨_,ho,rfl,n,rfl⟩ hi (by show ns.length+1<4096; omega) fun h' tk g k=>?_
  have hn:H s.heap.objs.size=none:=I.hok.fresh (Nat.le_refl _); refine ⟨.ref s.heap.objs.size,_,I.laid (a:=s.heap.objs.size) (t':=tk) (o:=.ext fun h=>GSet X.prog X.w h s.heap.objs.size ns) (fun b o e=>k b o (Heap.lt_size e) e) (Nat.le_refl _) ⟨g,?_,fun h1 h2 g1 k1=>g1.at k1⟩,rfl,q _ hn⟩
  obtain ⟨o,_,_,_,e,_⟩:=g
  exact ⟨o,e⟩
def rSortedS (P:Program) (w:World):List V→Hp→VK→Prop:=fun xs H Q=>∃ (a:Addr) (ns:List Int),xs=[.ref a]∧H a=some (.ext fun h=>GSet P w h a ns)∧ns.length<64 ∧
  ∀ (D:Addr) (os:List Int),H D=none→os.Nodup→(∀ k,k∈os↔k∈ns)→os.Pairwise (·≤·)→Q (.ref D) (upd H D (.lst (os.map V.int)))
theorem ints_kOf {P:Program} {w:World}:∀ {l:List (Int×Value)},ElemsOf (intKind P w) l→IntsAre (l.map Prod.snd) (l.map kOf)
  | [],_=>.nil
  | e :: l,h=>by
    obtain ⟨tk,q⟩:=Value.isInt_shape (show Value.isInt (kOf e) e.2=true from kOf_is (h e (by simp)))
    have r:=ints_kOf (l:=l) fun x hx=>h x (by simp [hx])
    show IntsAre (e.2 :: l.map Prod.snd) (kOf e :: l.map kOf)
    rw [q]
    exact .cons _ _ r
theorem call_sortedS (hc:X.calm=true):CallR X (.builtin "sorted") (rSortedS X.prog X.w):=by
  intro pins s σ H xs us Q I r h
  obtain ⟨a,ns,rfl,ha,h64,q⟩:=h
  obtain ⟨u,rfl,rx⟩:=vals1 r
  cases rx
  obtain ⟨⟨o,es,ep,t,ho,g,sz,mem⟩,_⟩:=I.hok a _ ha
  refine call_function_entry kind_sorted plain_sorted entry_sorted (args_sorted1 _) ?_; unfold Builtin.«sorted»
  refine wpAny_bind (m:=checkCount "sorted" 1 1 _) (wpAny_pure ?_); refine wpAny_bind (collectG (A:=X.A.in1) (show X.A.in1.handled=none from I.ok.hd hc) ho g fun h' tk d out hk' hp=>?_)
  have el:ElemsOf (intKind X.prog X.w) out:=g.el.perm hp
  have hI:=ints_kOf el
  have lo:out.length=es.size:=by rw [hp.length_eq,Array.length_toList]
  refine wpAny_bind (wpAny_newList ?_ (by rw [List.length_map,lo,sizeLine_eq]; omega))
  have hoL:(h'.push (seqObj "list" (out.map Prod.snd).toArray 0)).get? h'.objs.size=some (seqObj "list" (out.map Prod.snd).toArray 0):=Heap.get?_push_size _ rfl
  have I0:Inv X pins σ H { s with drawn:=d }:=⟨I.ok,I.os,I.bare,I.base,I.loc,I.cell,I.free,I.freeC,I.pin,I.hok,I.len⟩
  have I1:=I0.kept (t':=tk) (h':=h') hk'
  show wpAny _ _ _ _ _ { s with heap:=h'.push (seqObj "list" (out.map Prod.snd).toArray 0),toks:=tk,drawn:=d }
  refine wpAny_bind (wpAny_holding (wpAny_call_entry slot_list_sort ⟨_,hoL,rfl⟩ entry_list_sort (list_sort_tree hoL (by simpa using hI) (by rw [List.length_map]; omega) fun out' ns' a1 a2 a3=>⟨_,rfl,?_⟩) (args_list_sort _)))
  refine wpAny_pure ⟨_,rfl,?_⟩; obtain ⟨e,he⟩:=sortedHeap_at (out:=out') hoL
  have fr:H h'.objs.size=none:=I1.hok.fresh (Nat.le_refl _)
  have lo':=a2.length_eq
  have pm:ns'.Perm (es.toList.map kOf):=a2.trans (hp.map kOf)
  refine ⟨.ref h'.objs.size,_,I1.laid (a:=h'.objs.size) (t':=tk) (o:=.lst (ns'.map V.int)) (fun b o z=>?_) (Nat.le_refl _) ⟨by rw [List.length_map,lo',List.length_map,lo,sizeLine_eq]; omega,out'.toList,e,vals_ints a1,he⟩,rfl,q _ ns' fr (pm.nodup_iff.mpr g.nd) (fun k=>pm.mem_iff.trans (mem k)) a3⟩
  have z':h'.get? b=some o:=z
  have lt:=Heap.lt_size z'
  rw [sortedHeap_old (Nat.ne_of_lt lt) (by rw [size_push']; exact Nat.lt_succ_of_lt lt),Heap.get?_push_ne _ _ _ (Nat.ne_of_lt lt)]
  exact z'
def tSS (t:TA):TE:=fun σ H Q=>t σ H fun vs H1=>∃ (l:Addr) (ns:List Int),vs=[.ref l]∧H1 l=some (.lst (ns.map V.int))∧ns.length<64 ∧
  ∀ (q D:Addr) (φ:Heap→Prop) (os:List Int),H1 q=none→H1 D=none→D≠q→os.Nodup→(∀ k,k∈os↔k∈ns)→os.Pairwise (·≤·)→Q (.ref D) (upd (upd H1 q (.ext φ)) D (.lst (os.map V.int)))
theorem pe_sset {p p':Pos} {pos pos':Pos} {e:Expr} {t:TA} (hc:X.calm=true) (hg:Gl X "sorted") (hm:X.mg "sorted" = none) (hg':Gl X "set") (hm':X.mg "set" = none) (ha:PA X [e] t) (hnn:NSs [e]:=by repeat' (first | exact True.intro | refine ⟨?_,?_⟩)) :
    PE X (.Call (.Name "sorted" p) [.Call (.Name "set" p') [e] [] pos'] [] pos) (tSS t):=by
  intro pins s σ H Q I h
  have hs:starEach [e] X.env=[(false,eval e X.env)]:=star_ns hnn.1
  have hs3:starEach [PySem.Expr.Call (.Name "set" p') [e] [] pos'] X.env=[(false,eval (PySem.Expr.Call (.Name "set" p') [e] [] pos') X.env)]:=star_ns (show NS (PySem.Expr.Call (.Name "set" p') [e] [] pos') from True.intro)
  refine Call_ (ld_blt I hg hm PyProof.Rows.boot_sorted (PyProof.Rows.callWith_builtin1 (Q:=EP X pins σ Q) ?_ hs3 rfl))
  rw [hs3]
  refine Calls.spliced_cons (Call_ (ld_blt I hg' hm' boot_setT (PyProof.Rows.callWith_type1 (thn (ha pos' pins s σ H _ I h) fun us s1 ⟨vs,H1,I1,r1,q1⟩=>?_) hs rfl)))
  obtain ⟨l,ns,rfl,hl,h64,q⟩:=q1
  refine thn (call_setG hc pins s1 σ H1 _ us (fun x H2=>∃ q,x=.ref q∧H1 q=none∧H2=upd H1 q (.ext fun h=>GSet X.prog X.w h q ns)) I1 r1 ⟨l,ns,rfl,hl,h64,fun q hq=>⟨q,rfl,hq,rfl⟩⟩) fun u s2 ⟨x,H2,I2,rx,q2⟩=>?_
  obtain ⟨q',rfl,hq',rfl⟩:=q2
  refine Calls.spliced_nil ?_
  refine call_sortedS hc pins s2 σ _ [.ref q'] [u] Q I2 (.cons rx .nil) ⟨q',ns,rfl,upd_same,h64,fun D os hD nd mem pw=>?_⟩
  have nD:D≠q':=fun e=>by rw [e,upd_same] at hD; cases hD
  rw [upd_ne nD] at hD
  exact q q' D _ os hq' hD nD nd mem pw
end
end L2
set_option Elab.async false
set_option linter.all false
set_option maxRecDepth 100000
set_option maxHeartbeats 4000000
namespace L2
open PySem PySem.Calls PyProof.Rows PySem.W PySem.Spec
end L2
set_option Elab.async false
set_option linter.all false
set_option maxRecDepth 100000
set_option maxHeartbeats 4000000
namespace L2
open PySem PySem.Calls PyProof.Rows PySem.W PySem.Spec
end L2
set_option Elab.async false
set_option linter.all false
set_option maxRecDepth 100000
set_option maxHeartbeats 4000000
namespace L2
open PySem PySem.F PyProof.Rows
variable {K:PySem.W.Frag} {X:Cx} {pins:List (Addr×Obj)} {σ:St} {H H':Hp} {s:Shared}
end L2
set_option Elab.async false
set_option linter.all false
set_option maxRecDepth 100000
set_option maxHeartbeats 4000000
namespace L2
open PySem PySem.F PyProof.Rows PySem.MeetsSeq
variable {K:PySem.W.Frag} {X:Cx}
end L2
set_option Elab.async false
set_option linter.all false
set_option maxRecDepth 100000
set_option maxHeartbeats 4000000
namespace L2
open PySem PySem.F PyProof.Rows
end L2
set_option Elab.async false
set_option linter.all false
set_option maxRecDepth 100000
set_option maxHeartbeats 4000000
namespace L2.Stg
open PySem PySem.Spec PyProof.Rows
structure RR where
  r:Keyed→Nat
  g:Keyed→Int
def Rk (ρ:RR) (xs:Array Keyed) (i:Nat):Nat:=(xs[i]?).elim 0 ρ.r
theorem Rk_congr {ρ:RR} {xs ys:Array Keyed} {i j:Nat} (h:xs[i]?=ys[j]?):Rk ρ xs i=Rk ρ ys j:=by unfold Rk; rw [h]
def Kg (ρ:RR) (xs:Array Keyed) (i:Nat):Int:=(xs[i]?).elim 0 ρ.g
theorem Kg_congr {ρ:RR} {xs ys:Array Keyed} {i j:Nat} (h:xs[i]?=ys[j]?):Kg ρ xs i=Kg ρ ys j:=by unfold Kg; rw [h]
theorem Kg_bubble {ρ:RR} {xs:Array Keyed} {src d:Nat} (hs:src<xs.size) (hd:d≤src) (k:Nat) :
    Kg ρ (bubble xs src d) k=if k=src - d then Kg ρ xs src else if src - d<k∧k≤src then Kg ρ xs (k - 1) else Kg ρ xs k:=by
  have e:=getElem?_bubble hs d hd k
  by_cases c:k=src - d
  · rw [if_pos c] at e ⊢; exact Kg_congr e
  · by_cases c2:src - d<k∧k≤src
    · rw [if_neg c,if_pos c2] at e ⊢; exact Kg_congr e
    · rw [if_neg c,if_neg c2] at e ⊢; exact Kg_congr e
theorem Kg_mirror {ρ:RR} {xs:Array Keyed} {i j:Nat} (hj:j≤xs.size) (k:Nat) :
    Kg ρ (mirror xs i j ((j - i) / 2)) k=if i≤k∧k<j then Kg ρ xs (i+j - 1 - k) else Kg ρ xs k:=by
  have e:=getElem?_mirror_all (i:=i) hj k
  by_cases c:i≤k∧k<j
  · rw [if_pos c] at e ⊢; exact Kg_congr e
  · rw [if_neg c] at e ⊢; exact Kg_congr e
theorem Kg_mirror_equal {ρ:RR} {xs:Array Keyed} {i j:Nat} (hj:j≤xs.size) (al:∀ k,i≤k→k<j→Kg ρ xs k=Kg ρ xs (j - 1)) (k:Nat):Kg ρ (mirror xs i j ((j - i) / 2)) k=Kg ρ xs k:=by
  rw [Kg_mirror hj]
  by_cases c:i≤k∧k<j
  · rw [if_pos c,al _ (by omega) (by omega),al k c.1 c.2]
  · rw [if_neg c]
structure GB (κ:SortKind) (a₀:Array Keyed) (st:SortSt):Prop where
  perm:(arrOf st).Perm a₀
  kn:kindOf st=κ
  failed:failedOf st=none
  pend:pendingOf st=#[]
theorem GB.size {κ:SortKind} {a₀:Array Keyed} {st:SortSt} (h:GB κ a₀ st):(arrOf st).size=a₀.size:=Array.Perm.size_eq h.perm
theorem GB.setArr {κ:SortKind} {a₀:Array Keyed} {st:SortSt} (h:GB κ a₀ st) {xs:Array Keyed} (hp:xs.Perm (arrOf st)):GB κ a₀ (setArr st xs):=⟨Array.Perm.trans hp h.perm,h.kn,h.failed,h.pend⟩
def Cmp (prog:Program) (w:World) (A:Around) (s:Shared) (κ:SortKind) (ρ:RR) (a₀:Array Keyed):Prop :=
  ∀ p,p∈a₀.toList→∀ q,q∈a₀.toList→∀ (E:Value→Shared→Prop) (Q:Bool→Shared→Prop),Q (decide (ρ.g p<ρ.g q)) s→wpAny (model prog w) A (keyLt' κ p.1 q.1) Q E s
theorem wpS_ltG {prog:Program} {w:World} {A:Around} {E:Value→Shared→Prop} {s:Shared} {κ:SortKind} {ρ:RR} {a₀:Array Keyed} {st:SortSt} {i j:Nat} {Q:Option Bool→SortSt→Prop} (hB:GB κ a₀ st) (h0:Cmp prog w A s κ ρ a₀) (hi:i<a₀.size) (hj:j<a₀.size)
    (h:Q (some (decide (Kg ρ (arrOf st) i<Kg ρ (arrOf st) j))) st):wpS (model prog w) A E s (ltAt' i j) Q st:=by
  have at':∀ k,k<a₀.size→∃ p,(arrOf st)[k]?=some p∧p∈a₀.toList∧Kg ρ (arrOf st) k=ρ.g p:=fun k hk=>by
    have hk':k<(arrOf st).size:=by rw [hB.size]; exact hk
    refine ⟨(arrOf st)[k],getElem?_pos _ k hk',(Array.perm_iff_toList_perm.mp hB.perm).mem_iff.mp (by simp),?_⟩
    unfold Kg
    rw [getElem?_pos _ k hk']
    rfl
  obtain ⟨p,ep,mp,kp⟩:=at' i hi
  obtain ⟨q,eq,mq,kq⟩:=at' j hj
  rw [kp,kq] at h
  rw [ltAt'_eq]
  refine wpS_bind (wpS_get ?_)
  show wpS _ _ _ _ (elem' (arrOf st) i >>= fun x=>elem' (arrOf st) j >>= fun y=>lt' x y) Q st
  rw [elem'_eq,elem'_eq,ep,eq]
  refine wpS_bind (wpS_pure (wpS_bind (wpS_pure ?_)))
  rw [lt'_eq]
  refine wpS_bind (wpS_get ?_)
  rw [hB.kn]
  exact wpS_bind (wpS_lift (wpAny_attempt (h0 p mp q mq _ _ ⟨rfl,wpS_pure h⟩)))
def VLt (ρ:RR) (xs:Array Keyed) (i j:Nat):Prop:=Kg ρ xs i<Kg ρ xs j∨(Kg ρ xs i=Kg ρ xs j∧Rk ρ xs i<Rk ρ xs j)
theorem VLt.trans {ρ:RR} {xs:Array Keyed} {i j k:Nat} (h1:VLt ρ xs i j) (h2:VLt ρ xs j k):VLt ρ xs i k:=by
  unfold VLt at *
  omega
def Inc (ρ:RR) (xs:Array Keyed) (n:Nat):Prop:=∀ i j,i<j→j<n→VLt ρ xs i j
def Dec (ρ:RR) (xs:Array Keyed) (n:Nat):Prop:=∀ i j,i<j→j<n→VLt ρ xs j i
def Idn (ρ:RR) (xs:Array Keyed) (n:Nat):Prop:=∀ i,n≤i→i<xs.size→Rk ρ xs i=i
theorem Idn.mono {ρ:RR} {xs:Array Keyed} {m n:Nat} (h:Idn ρ xs m) (l:m≤n):Idn ρ xs n:=fun i hi hs=>h i (Nat.le_trans l hi) hs
theorem Rk_get {ρ:RR} {xs:Array Keyed} {i:Nat} (h:i<xs.size):(xs.toList.map ρ.r)[i]?=some (Rk ρ xs i):=by
  unfold Rk
  rw [List.getElem?_map,Array.getElem?_toList,Array.getElem?_eq_getElem h]
  rfl
structure Inj (ρ:RR) (xs:Array Keyed):Prop where
  inj:∀ i j,i<xs.size→j<xs.size→Rk ρ xs i=Rk ρ xs j→i=j
  lt:∀ i,i<xs.size→Rk ρ xs i<xs.size
theorem inj_of {ρ:RR} {xs a₀:Array Keyed} (p:xs.Perm a₀) (h0:Idn ρ a₀ 0):Inj ρ xs:=by
  have e0:a₀.toList.map ρ.r=List.range a₀.size:=by
    apply List.ext_getElem?
    intro i
    by_cases h:i<a₀.size
    · rw [Rk_get h,List.getElem?_range h,h0 i (Nat.zero_le _) h]
    · rw [List.getElem?_eq_none (by simpa using h),List.getElem?_eq_none (by simpa using h)]
  have pm:(xs.toList.map ρ.r).Perm (List.range a₀.size):=by rw [← e0]; exact (Array.perm_iff_toList_perm.mp p).map ρ.r
  have nd:(xs.toList.map ρ.r).Nodup:=pm.nodup_iff.mpr List.nodup_range
  refine ⟨fun i j hi hj e=>?_,fun i hi=>?_⟩
  · refine (List.getElem?_inj (by rw [List.length_map,Array.length_toList]; exact hi) nd).mp ?_
    rw [Rk_get hi,Rk_get hj,e]
  · have m:Rk ρ xs i∈xs.toList.map ρ.r:=List.mem_of_getElem? (Rk_get hi)
    have:=List.mem_range.mp (pm.mem_iff.mp m)
    rw [p.size_eq]
    exact this
theorem Inj.below {ρ:RR} {xs:Array Keyed} (I:Inj ρ xs) {n:Nat} (h:Idn ρ xs n) {i:Nat} (hi:i<n) (hs:i<xs.size):Rk ρ xs i<n:=by
  by_cases c:Rk ρ xs i<n
  · exact c
  · have l:=I.lt i hs
    have e:=h (Rk ρ xs i) (by omega) l
    have:=I.inj _ _ l hs e
    omega
theorem Rk_bubble {ρ:RR} {xs:Array Keyed} {src d:Nat} (hs:src<xs.size) (hd:d≤src) (k:Nat) :
    Rk ρ (bubble xs src d) k=if k=src - d then Rk ρ xs src else if src - d<k∧k≤src then Rk ρ xs (k - 1) else Rk ρ xs k:=by
  have e:=getElem?_bubble hs d hd k
  by_cases h1:k=src - d
  · rw [if_pos h1] at e ⊢
    exact Rk_congr e
  · rw [if_neg h1] at e ⊢
    by_cases h2:src - d<k∧k≤src
    · rw [if_pos h2] at e ⊢
      exact Rk_congr e
    · rw [if_neg h2] at e ⊢
      exact Rk_congr e
theorem Rk_mirror {ρ:RR} {xs:Array Keyed} {i j:Nat} (hj:j≤xs.size) (k:Nat) :
    Rk ρ (mirror xs i j ((j - i) / 2)) k=if i≤k∧k<j then Rk ρ xs (i+j - 1 - k) else Rk ρ xs k:=by
  have e:=getElem?_mirror_all (i:=i) hj k
  by_cases h1:i≤k∧k<j
  · rw [if_pos h1] at e ⊢
    exact Rk_congr e
  · rw [if_neg h1] at e ⊢
    exact Rk_congr e
section
variable {prog:Program} {w:World} {A:Around} {E:Value→Shared→Prop} {s:Shared} {a₀:Array Keyed} {κ:SortKind} {ρ:RR}
theorem SB.inj {st:SortSt} (h:GB κ a₀ st) (hr:Idn ρ a₀ 0):Inj ρ (arrOf st):=inj_of h.perm hr
theorem bin_ok {st:SortSt} {n ok:Nat} {Q:Bool→SortSt→Prop} (h0:Cmp prog w A s κ ρ a₀) (hr:Idn ρ a₀ 0) (hn:n≤a₀.size) (hok:ok≤n) (h1k:1≤ok) (hB:GB κ a₀ st) (hs:Inc ρ (arrOf st) ok) (hI:Idn ρ (arrOf st) ok)
    (h:∀ st',GB κ a₀ st'→Inc ρ (arrOf st') n→Q true st'):wpS (model prog w) A E s (binarySort' 0 n ok) Q st:=by
  rw [binarySort'_eq]
  simp only [Nat.zero_add]
  refine wpS_bind (wpS_mono (wpS_forRange (I:=fun k c st1=>c=(none,())∧GB κ a₀ st1∧Inc ρ (arrOf st1) (min k n)∧Idn ρ (arrOf st1) (min k n))
    (Q:=fun c st1=>c=(none,())∧GB κ a₀ st1∧Inc ρ (arrOf st1) n) ?turn ?last ?first) ?after)
  case after =>
    rintro c st1 ⟨rfl,b1,i1⟩
    exact wpS_pure (h st1 b1 i1)
  case first =>
    rw [show min (max ok 1) n=ok by omega]
    exact ⟨rfl,hB,hs,hI⟩
  case last =>
    rintro c st1 ⟨hc,b1,i1,_⟩
    rw [show min (max (max ok 1) n) n=n by omega] at i1
    exact ⟨hc,b1,i1⟩
  case turn =>
    rintro k c st1 hak hkn ⟨rfl,b1,i1,d1⟩
    rw [show min k n=k by omega] at i1 d1
    have hk:k<a₀.size:=by omega
    have sz:=b1.size
    have J:=SB.inj b1 hr
    have rk:Rk ρ (arrOf st1) k=k:=d1 k (Nat.le_refl _) (by omega)
    have lo:∀ m,m<k→¬ Kg ρ (arrOf st1) k<Kg ρ (arrOf st1) m→VLt ρ (arrOf st1) m k:=fun m hm c=>by
      have:=J.below d1 hm (by omega)
      unfold VLt
      omega
    refine wpS_bind (wpS_mono (wpS_forRange (I:=fun x c st2=>st2=st1∧∃ l r,c=(none,l,r)∧l≤r∧r≤k∧r - l≤k - x∧(∀ i,i<l→VLt ρ (arrOf st1) i k)∧(∀ i,r≤i→i<k→VLt ρ (arrOf st1) k i))
      (Q:=fun c st2=>st2=st1∧∃ l r,c=(none,l,r)∧l≤k∧(∀ i,i<l→VLt ρ (arrOf st1) i k)∧(∀ i,l≤i→i<k→VLt ρ (arrOf st1) k i)) ?iturn ?ilast ?ifirst) ?iafter)
    case ifirst=>exact ⟨rfl,0,k,rfl,by omega,by omega,by omega,fun i hi=>absurd hi (by omega),fun i p q=>absurd q (by omega)⟩
    case ilast =>
      rintro c st2 ⟨rfl,l,r,rfl,hlr,hrk,hm,u1,u2⟩
      have e:l=r:=by omega
      subst e
      exact ⟨rfl,l,l,rfl,hrk,u1,u2⟩
    case iturn =>
      rintro x c st2 _ hxk ⟨rfl,l,r,rfl,hlr,hrk,hm,u1,u2⟩
      dsimp only
      by_cases hge:l ≥ r
      · rw [if_pos hge]
        have e:l=r:=by omega
        subst e
        exact wpS_pure ⟨rfl,l,l,rfl,hrk,u1,u2⟩
      · rw [if_neg hge]
        refine wpS_bind (wpS_ltG b1 h0 hk (by omega) ?_)
        by_cases c:Kg ρ (arrOf st2) k<Kg ρ (arrOf st2) ((l+r) / 2)
        · simp only [c,decide_true,if_true]
          refine wpS_pure ⟨rfl,l,(l+r) / 2,rfl,by omega,by omega,by omega,u1,fun i p q=>?_⟩
          by_cases e:i=(l+r) / 2
          · subst e; exact .inl c
          · exact VLt.trans (.inl c) (i1 _ _ (by omega) q)
        · simp only [c,decide_false,Bool.false_eq_true,if_false]
          refine wpS_pure ⟨rfl,(l+r) / 2+1,r,rfl,by omega,by omega,by omega,fun i p=>?_,u2⟩
          have v:=lo _ (by omega) c
          by_cases e:i=(l+r) / 2
          · subst e; exact v
          · exact VLt.trans (i1 _ _ (by omega) (by omega)) v
    case iafter =>
      rintro c st2 ⟨rfl,l,r,rfl,hlk,u1,u2⟩
      show wpS _ _ _ _ (do moveDown' k l; pure (ForInStep.yield (none,()))) _ _
      rw [moveDown'_eq]
      refine wpS_bind (wpS_modify (wpS_pure ⟨rfl,b1.setArr (bubble_perm _ _ _),?_,?_⟩))
      · rw [show min (k+1) n=k+1 by omega]
        have hks:k<(arrOf st2).size:=by omega
        intro i j hij hj
        show VLt ρ (bubble (arrOf st2) k (k - l)) i j
        unfold VLt
        rw [Kg_bubble hks (by omega),Kg_bubble hks (by omega),Rk_bubble hks (by omega),Rk_bubble hks (by omega),show k - (k - l)=l by omega]
        by_cases a1:i=l
        · have b1':¬ j=l:=by omega
          have b2':l<j∧j≤k:=by omega
          rw [if_pos a1,if_pos a1,if_neg b1',if_neg b1',if_pos b2',if_pos b2']
          exact u2 _ (by omega) (by omega)
        · rw [if_neg a1,if_neg a1]
          by_cases a2:j=l
          · have b1':¬ (l<i∧i≤k):=by omega
            rw [if_pos a2,if_pos a2,if_neg b1',if_neg b1']
            exact u1 _ (by omega)
          · rw [if_neg a2,if_neg a2]
            by_cases a3:l<i∧i≤k
            · have b1':l<j∧j≤k:=by omega
              rw [if_pos a3,if_pos a3,if_pos b1',if_pos b1']
              exact i1 _ _ (by omega) (by omega)
            · rw [if_neg a3,if_neg a3]
              by_cases a4:l<j∧j≤k
              · rw [if_pos a4,if_pos a4]
                by_cases a5:i<j - 1
                · exact i1 _ _ a5 (by omega)
                · exfalso; omega
              · rw [if_neg a4,if_neg a4]
                exact i1 _ _ (by omega) (by omega)
      · rw [show min (k+1) n=k+1 by omega]
        intro i hi hs'
        have hs2:i<(arrOf st2).size:=by
          have:(arrOf (setArr st2 (bubble (arrOf st2) k (k - l)))).size=(arrOf st2).size:=bubble_size _ _ _
          omega
        show Rk ρ (bubble (arrOf st2) k (k - l)) i=i
        rw [Rk_bubble (by omega) (by omega),if_neg (by omega),if_neg (by omega)]
        exact d1 i (by omega) hs2
theorem asc_ok {st:SortSt} {a nrem:Nat} {Q:AscSt→SortSt→Prop} (h0:Cmp prog w A s κ ρ a₀) (hr:Idn ρ a₀ 0) (hn:nrem≤a₀.size) (ha:1≤a) (han:a≤nrem) (hB:GB κ a₀ st) (hs:Inc ρ (arrOf st) a) (hI:Idn ρ (arrOf st) a)
    (h:∀ n,a≤n→n≤nrem→Inc ρ (arrOf st) n→(n=nrem∨Kg ρ (arrOf st) n<Kg ρ (arrOf st) (n - 1))→Q (none,n) st):wpS (model prog w) A E s (ascLoop a nrem) Q st:=by
  unfold ascLoop
  have sz:=hB.size
  have J:=SB.inj hB hr
  refine wpS_forRange (I:=fun x c st1=>st1=st∧c=(none,x)∧Inc ρ (arrOf st) x) ?turn ?last ⟨rfl,rfl,hs⟩
  case last =>
    rintro c st1 ⟨rfl,rfl,i1⟩
    rw [show max a nrem=nrem by omega] at i1 ⊢
    exact h nrem han (Nat.le_refl _) i1 (.inl rfl)
  case turn =>
    rintro x c st1 hax hxn ⟨rfl,rfl,i1⟩
    dsimp only
    refine wpS_bind (wpS_ltG hB h0 (by omega) (by omega) ?_)
    by_cases c:Kg ρ (arrOf st1) x<Kg ρ (arrOf st1) (x - 1)
    · simp only [c,decide_true,if_true]
      exact wpS_pure (h x hax (by omega) i1 (.inr c))
    · simp only [c,decide_false,Bool.false_eq_true,if_false]
      refine wpS_pure ⟨rfl,rfl,fun i j hij hj=>?_⟩
      by_cases hjx:j<x
      · exact i1 i j hij hjx
      · have ej:j=x:=by omega
        subst ej
        have dx:=hI.mono hax
        have r1:=J.below dx (i:=j - 1) (by omega) (by omega)
        have r2:=dx j (Nat.le_refl _) (by omega)
        have v:VLt ρ (arrOf st1) (j - 1) j:=by unfold VLt; omega
        by_cases e:i=j - 1
        · subst e; exact v
        · exact VLt.trans (i1 i (j - 1) (by omega) (by omega)) v
theorem tail_ok {st:SortSt} {n nrem:Nat} {Q:Option Nat→SortSt→Prop} (h0:Cmp prog w A s κ ρ a₀) (hr:Idn ρ a₀ 0) (hn:nrem≤a₀.size) (h1:1≤n) (hnn:n≤nrem) (hB:GB κ a₀ st) (hs:Dec ρ (arrOf st) n) (hI:Idn ρ (arrOf st) n)
    (h:∀ m st',GB κ a₀ st'→1≤m→m≤nrem→Inc ρ (arrOf st') m→Idn ρ (arrOf st') m→Q (some m) st'):wpS (model prog w) A E s (tail3 n nrem) Q st:=by
  unfold tail3
  have sz:=hB.size
  refine wpS_bind (wpS_reverse ?_)
  have b1:GB κ a₀ (setArr st (mirror (arrOf st) 0 n ((n - 0) / 2))):=hB.setArr (mirror_perm _ _ _ _)
  have d1:Idn ρ (mirror (arrOf st) 0 n ((n - 0) / 2)) n:=fun i hi hs'=>by
    rw [mirror_size] at hs'
    rw [Rk_mirror (by omega),if_neg (by omega)]
    exact hI i hi hs'
  refine wpS_bind (asc_ok h0 hr hn h1 hnn b1 ?_ d1 fun m m1 m2 i2 _=>wpS_pure (h m _ b1 (by omega) m2 i2 (d1.mono m1)))
  intro i j hij hj
  show VLt ρ (mirror (arrOf st) 0 n ((n - 0) / 2)) i j
  unfold VLt
  rw [Kg_mirror (by omega),Kg_mirror (by omega),Rk_mirror (by omega),Rk_mirror (by omega),if_pos (by omega),if_pos (by omega),if_pos (by omega),if_pos (by omega)]
  exact hs _ _ (by omega) (by omega)
structure DI (ρ:RR) (xs:Array Keyed) (x q:Nat):Prop where
  l:q+1≤x
  sz:x≤xs.size
  d:Dec ρ xs (x - (q+1))
  u:∀ i j,i<x - (q+1)→x - (q+1)≤j→j<x→Kg ρ xs j<Kg ρ xs i
  e:∀ i,x - (q+1)≤i→i<x→Kg ρ xs i=Kg ρ xs (x - 1)
  f:Idn ρ xs (x - (q+1))
theorem DI.dec0 {xs:Array Keyed} {x:Nat} (h:DI ρ xs x 0):Dec ρ xs x:=fun i j hij hj=>by
  by_cases c:j<x - (0+1)
  · exact h.d i j hij c
  · exact .inl (h.u i j (by omega) (by omega) hj)
theorem DI.rev {xs:Array Keyed} {x q:Nat} (h:DI ρ xs x q):Dec ρ (mirror xs (x - (q+1)) x ((x - (x - (q+1))) / 2)) x∧Idn ρ (mirror xs (x - (q+1)) x ((x - (x - (q+1))) / 2)) x:=by
  have hl:=h.l
  have hz:=h.sz
  refine ⟨fun i j hij hj=>?_,fun i hi hs=>?_⟩
  · have ke:=Kg_mirror_equal (i:=x - (q+1)) hz h.e
    unfold VLt
    rw [ke,ke,Rk_mirror hz,Rk_mirror hz]
    by_cases c1:j<x - (q+1)
    · rw [if_neg (by omega),if_neg (by omega)]
      exact h.d i j hij c1
    · by_cases c2:i<x - (q+1)
      · exact .inl (h.u i j c2 (by omega) hj)
      · rw [if_pos (by omega),if_pos (by omega)]
        refine .inr ⟨(h.e j (by omega) hj).trans (h.e i (by omega) (by omega)).symm,?_⟩
        rw [h.f _ (by omega) (by omega),h.f _ (by omega) (by omega)]
        omega
  · rw [mirror_size] at hs
    rw [Rk_mirror hz,if_neg (by omega)]
    exact h.f i (by omega) hs
theorem DI.of {xs:Array Keyed} {x:Nat} (hx:1≤x) (hz:x<xs.size) (hd:Dec ρ xs x) (hf:Idn ρ xs x) (hk:Kg ρ xs x<Kg ρ xs (x - 1)):DI ρ xs (x+1) 0:=by
  refine ⟨by omega,by omega,hd,fun i j hi hj hj'=>?_,fun i hi hi'=>?_,hf⟩
  · have ej:j=x:=by omega
    subst ej
    by_cases e:i=j - 1
    · subst e; exact hk
    · have v:=hd i (j - 1) (by omega) (by omega)
      unfold VLt at v
      omega
  · have ei:i=x:=by omega
    subst ei
    rfl
theorem DI.more {xs:Array Keyed} {x q:Nat} (h:DI ρ xs x q) (hz:x<xs.size) (hk:Kg ρ xs x=Kg ρ xs (x - 1)):DI ρ xs (x+1) (q+1):=by
  have hl:=h.l
  have e0:x+1 - (q+1+1)=x - (q+1):=by omega
  refine ⟨by omega,by omega,by rw [e0]; exact h.d,fun i j hi hj hj'=>?_,fun i hi hi'=>?_,by rw [e0]; exact h.f⟩
  · rw [e0] at hi hj
    by_cases c:j<x
    · exact h.u i j hi hj c
    · have ej:j=x:=by omega
      subst ej
      rw [hk]
      exact h.u i (j - 1) hi (by omega) (by omega)
  · rw [show x+1 - 1=x by omega]
    by_cases c:i<x
    · rw [hk]; exact h.e i (by omega) c
    · have ei:i=x:=by omega
      subst ei
      rfl
theorem desc_ok {st:SortSt} {n nrem:Nat} {Q:DescSt→SortSt→Prop} (h0:Cmp prog w A s κ ρ a₀) (hn:nrem≤a₀.size) (hnn:n≤nrem) (hB:GB κ a₀ st) (hs:DI ρ (arrOf st) n 0)
    (h:∀ m q st',GB κ a₀ st'→m≤nrem→DI ρ (arrOf st') m q→Q (none,m,q) st'):wpS (model prog w) A E s (descLoop n nrem) Q st:=by
  unfold descLoop
  refine wpS_forRange (I:=fun x c st1=>∃ q,c=(none,x,q)∧GB κ a₀ st1∧DI ρ (arrOf st1) x q) ?turn ?last ⟨0,rfl,hB,hs⟩
  case last =>
    rintro c st1 ⟨q,rfl,b1,d1⟩
    rw [show max n nrem=nrem by omega] at d1 ⊢
    exact h nrem q st1 b1 (Nat.le_refl _) d1
  case turn =>
    rintro x c st1 hax hxn ⟨q,rfl,b1,d1⟩
    dsimp only
    have sz:=b1.size
    have hl:=d1.l
    refine wpS_bind (wpS_ltG b1 h0 (by omega) (by omega) ?_)
    by_cases c:Kg ρ (arrOf st1) x<Kg ρ (arrOf st1) (x - 1)
    · simp only [c,decide_true,if_true]
      by_cases hq:q > 0
      · rw [if_pos hq]
        obtain ⟨r1,r2⟩:=d1.rev
        refine wpS_bind (wpS_reverse (wpS_pure ⟨0,rfl,b1.setArr (mirror_perm _ _ _ _),DI.of (by omega) (by show x<(mirror _ _ _ _).size; rw [mirror_size]; omega) r1 r2 ?_⟩))
        show Kg ρ (mirror _ _ _ _) x<Kg ρ (mirror _ _ _ _) (x - 1)
        rw [Kg_mirror_equal d1.sz d1.e,Kg_mirror_equal d1.sz d1.e]
        exact c
      · rw [if_neg hq]
        have e:q=0:=by omega
        subst e
        exact wpS_pure ⟨0,rfl,b1,DI.of (by omega) (by omega) d1.dec0 (d1.f.mono (by omega)) c⟩
    · simp only [c,decide_false,Bool.false_eq_true,if_false]
      refine wpS_bind (wpS_ltG b1 h0 (by omega) (by omega) ?_)
      by_cases c2:Kg ρ (arrOf st1) (x - 1)<Kg ρ (arrOf st1) x
      · simp only [c2,decide_true,if_true]
        exact wpS_pure (h x q st1 b1 (by omega) d1)
      · simp only [c2,decide_false,Bool.false_eq_true,if_false]
        exact wpS_pure ⟨q+1,rfl,b1,d1.more (by omega) (by omega)⟩
theorem part_ok {st:SortSt} {n nrem:Nat} {Q:Option Nat→SortSt→Prop} (h0:Cmp prog w A s κ ρ a₀) (hr:Idn ρ a₀ 0) (hn:nrem≤a₀.size) (hnn:n+1≤nrem) (hB:GB κ a₀ st) (hs:DI ρ (arrOf st) (n+1) 0)
    (h:∀ m st',GB κ a₀ st'→1≤m→m≤nrem→Inc ρ (arrOf st') m→Idn ρ (arrOf st') m→Q (some m) st'):wpS (model prog w) A E s (descPart n nrem) Q st:=by
  unfold descPart
  refine wpS_bind (wpS_lift (wpAny_rule ⟨rfl,?_⟩))
  refine wpS_bind (desc_ok h0 hn hnn hB hs fun m q st1 b1 m2 d1=>?_)
  dsimp only
  have hl:=d1.l
  by_cases hq:q > 0
  · rw [if_pos hq]
    obtain ⟨r1,r2⟩:=d1.rev
    exact wpS_bind (wpS_reverse (tail_ok h0 hr hn (by omega) m2 (b1.setArr (mirror_perm _ _ _ _)) r1 r2 h))
  · rw [if_neg hq]
    have e:q=0:=by omega
    subst e
    exact tail_ok h0 hr hn (by omega) m2 b1 d1.dec0 (d1.f.mono (by omega)) h
theorem count_ok {st:SortSt} {nrem:Nat} {Q:Option Nat→SortSt→Prop} (h0:Cmp prog w A s κ ρ a₀) (hr:Idn ρ a₀ 0) (hn:nrem≤a₀.size) (h1:1≤nrem) (hB:GB κ a₀ st) (hI:Idn ρ (arrOf st) 0)
    (h:∀ m st',GB κ a₀ st'→1≤m→m≤nrem→Inc ρ (arrOf st') m→Idn ρ (arrOf st') m→Q (some m) st'):wpS (model prog w) A E s (countRun' 0 nrem) Q st:=by
  rw [countRun0_eq]
  have sz:=hB.size
  refine wpS_bind (asc_ok h0 hr hn (Nat.le_refl 1) h1 hB (fun i j hij hj=>absurd hj (by omega)) (hI.mono (Nat.zero_le _)) fun n n1 n2 i1 hor=>?_)
  dsimp only
  by_cases e:n=nrem
  · rw [if_pos (by simpa using e)]
    exact wpS_pure (h n st hB n1 n2 i1 (hI.mono (Nat.zero_le _)))
  · rw [if_neg (by simpa using e)]
    have lt:Kg ρ (arrOf st) n<Kg ρ (arrOf st) (n - 1):=hor.resolve_left e
    by_cases g:n > 1
    · rw [if_pos g]
      refine wpS_bind (wpS_ltG hB h0 (by omega) (by omega) ?_)
      by_cases c:Kg ρ (arrOf st) 0<Kg ρ (arrOf st) (n - 1)
      · simp only [c,decide_true,if_true]
        exact wpS_pure (h n st hB n1 n2 i1 (hI.mono (Nat.zero_le _)))
      · simp only [c,decide_false,Bool.false_eq_true,if_false]
        have all:∀ k,0≤k→k<n→Kg ρ (arrOf st) k=Kg ρ (arrOf st) (n - 1):=by
          intro k _ hk
          have a1:k=0∨VLt ρ (arrOf st) 0 k:=by
            by_cases z:k=0
            · exact .inl z
            · exact .inr (i1 0 k (by omega) hk)
          have a2:k=n - 1∨VLt ρ (arrOf st) k (n - 1):=by
            by_cases z:k=n - 1
            · exact .inl z
            · exact .inr (i1 k (n - 1) (by omega) (by omega))
          have a3:=i1 0 (n - 1) (by omega) (by omega)
          unfold VLt at a1 a2 a3
          rcases a1 with a1 | a1
          · subst a1; omega
          · rcases a2 with a2 | a2
            · subst a2; rfl
            · omega
        have ke:=Kg_mirror_equal (xs:=arrOf st) (i:=0) (j:=n) (by omega) all
        refine wpS_bind (wpS_reverse (part_ok h0 hr hn (by omega) (hB.setArr (mirror_perm _ _ _ _)) (DI.of (by omega) (by show n<(mirror _ _ _ _).size; rw [mirror_size]; omega) (fun i j hij hj=>?_) (fun i hi hs=>?_) ?_) h))
        · show VLt ρ (mirror (arrOf st) 0 n ((n - 0) / 2)) j i
          unfold VLt
          rw [ke,ke,all i (by omega) (by omega),all j (by omega) hj,Rk_mirror (by omega),Rk_mirror (by omega),if_pos (by omega),if_pos (by omega),hI _ (by omega) (by omega),hI _ (by omega) (by omega)]
          omega
        · have hs':i<(mirror (arrOf st) 0 n ((n - 0) / 2)).size:=hs
          rw [mirror_size] at hs'
          show Rk ρ (mirror (arrOf st) 0 n ((n - 0) / 2)) i=i
          rw [Rk_mirror (by omega),if_neg (by omega)]
          exact hI i (by omega) hs'
        · show Kg ρ (mirror (arrOf st) 0 n ((n - 0) / 2)) n<Kg ρ (mirror (arrOf st) 0 n ((n - 0) / 2)) (n - 1)
          rw [ke,ke]
          exact lt
    · rw [if_neg g]
      have en:n=1:=by omega
      subst en
      exact part_ok h0 hr hn (by omega) hB (DI.of (by omega) (by omega) (fun i j hij hj=>absurd hj (by omega)) (hI.mono (Nat.zero_le _)) lt) h
def SEnd (ρ:RR) (a₀:Array Keyed) (st:SortSt):Prop:=(arrOf st).Perm a₀∧failedOf st=none∧pendingOf st=#[(0,a₀.size,0)]∧Inc ρ (arrOf st) a₀.size
theorem SEnd.of {st:SortSt} (hB:GB κ a₀ st) (hs:Inc ρ (arrOf st) a₀.size):SEnd ρ a₀ (setPending st ((pendingOf st).push (0,a₀.size,0))) :=
  ⟨hB.perm,hB.failed,by show (pendingOf st).push _=_; rw [hB.pend]; rfl,hs⟩
theorem runs_ok {st:SortSt} {Q:Unit→SortSt→Prop} (h0:Cmp prog w A s κ ρ a₀) (hr:Idn ρ a₀ 0) (hB:GB κ a₀ st) (hI:Idn ρ (arrOf st) 0) (h2:2≤a₀.size) (h64:a₀.size<64)
    (h:∀ st',(arrOf st').Perm a₀→failedOf st'=none→Inc ρ (arrOf st') a₀.size→Q () st'):wpS (model prog w) A E s sortRuns' Q st:=by
  rw [sortRuns'_eq]
  refine wpS_bind (wpS_get ?_)
  dsimp only
  have mr:minRun' a₀.size a₀.size 0=a₀.size:=by
    obtain ⟨f,hf⟩:∃ f,a₀.size=f+1:=⟨a₀.size - 1,by omega⟩
    have e:minRun' (f+1) a₀.size 0=a₀.size:=by
      rw [minRun'_succ,if_pos h64]
      rfl
    rwa [← hf] at e
  simp only [hB.size,mr]
  refine wpS_bind (wpS_mono (wpS_forRange
    (I:=fun x c st1=>(x=0∧c=(none,0)∧GB κ a₀ st1∧Idn ρ (arrOf st1) 0)∨(1≤x∧c=(none,a₀.size)∧SEnd ρ a₀ st1))
    (Q:=fun c st1=>c=(none,a₀.size)∧SEnd ρ a₀ st1) ?turn ?last (.inl ⟨rfl,rfl,hB,hI⟩)) ?after)
  case last =>
    rintro c st1 (⟨hx,_⟩ | ⟨_,hc,hD⟩)
    · omega
    · exact ⟨hc,hD⟩
  case turn =>
    rintro x c st1 _ hx (⟨rfl,rfl,b1,i1⟩ | ⟨hx1,rfl,hD⟩)
    · dsimp only
      rw [if_neg (by omega)]
      simp only [Nat.sub_zero,Nat.min_self,Nat.zero_add]
      refine wpS_bind (count_ok h0 hr (Nat.le_refl _) (by omega) b1 i1 fun m st2 b2 m1 m2 s2 d2=>?_)
      dsimp only
      by_cases lt:m<a₀.size
      · rw [if_pos lt]
        refine wpS_bind (wpS_lift (wpAny_rule ⟨rfl,?_⟩))
        refine wpS_bind (bin_ok h0 hr (Nat.le_refl _) m2 m1 b2 s2 d2 fun st3 b3 s3=>?_)
        simp only [Bool.not_true,Bool.false_eq_true,if_false]
        refine wpS_bind (wpS_get ?_)
        have hb:(pendingOf st3).back?=none:=by
          rw [b3.pend]
          rfl
        rw [hb]
        dsimp only
        exact wpS_bind (wpS_modify (wpS_pure (.inr ⟨by omega,rfl,SEnd.of b3 s3⟩)))
      · rw [if_neg lt]
        have em:m=a₀.size:=by omega
        subst em
        refine wpS_bind (wpS_get ?_)
        have hb:(pendingOf st2).back?=none:=by
          rw [b2.pend]
          rfl
        rw [hb]
        dsimp only
        exact wpS_bind (wpS_modify (wpS_pure (.inr ⟨by omega,rfl,SEnd.of b2 s2⟩)))
    · dsimp only
      rw [if_pos (Nat.le_refl _)]
      exact wpS_pure ⟨rfl,hD⟩
  case after =>
    rintro c st1 ⟨rfl,hD⟩
    dsimp only
    refine wpS_bind (wpS_mono (wpS_forRange (I:=fun _ c st2=>st2=st1∧c=(none,())) (Q:=fun c st2=>st2=st1∧c=(none,())) ?_ (fun _ _ hh=>hh) ⟨rfl,rfl⟩) ?_)
    · rintro x c st2 _ _ ⟨rfl,rfl⟩
      refine wpS_bind (wpS_get ?_)
      rw [if_pos (by rw [hD.2.2.1]; exact Nat.le_refl 1)]
      exact wpS_pure ⟨rfl,rfl⟩
    · rintro c st2 ⟨rfl,rfl⟩
      exact wpS_pure (h _ hD.1 hD.2.1 hD.2.2.2)
end
end L2.Stg
set_option Elab.async false
set_option linter.all false
set_option maxRecDepth 100000
set_option maxHeartbeats 4000000
namespace L2
open PySem PySem.Spec PyProof.Rows
section
open PySem.SeqAt
open PySem.AutoSeq1 (wpAny_loadPart')
open PySem.MeetsSeq PySem.MeetsSeq2 PySem.MeetsSeq3
theorem intsOf_at {vs:List Value} {ns:List Int} (h:IntsAre vs ns):∀ {i:Nat},i<vs.length→∃ t,vs[i]?=some (.int (ns.getD i 0) t)∧ns.drop i=ns.getD i 0 :: ns.drop (i+1):=by
  induction h with
  | nil=>intro i e; simp at e
  | cons n t _ ih =>
    intro i e
    cases i with
    | zero=>exact ⟨t,rfl,rfl⟩
    | succ i=>obtain ⟨t',a,b⟩:=ih (i:=i) (by simpa using e); exact ⟨t',by simpa using a,by simpa using b⟩
def LtlSp (l b:Addr) (us vs:List Value) (n n2:Nat) (sl sl2:Array (Option Value)) (z:Bool):PySem.Spec:=fun _ R s=>s.heap.get? l=some { cls:=.type "list",dict:=none,data:=.seq us.toArray n,slots:=sl }∧s.heap.get? b=some { cls:=.type "list",dict:=none,data:=.seq vs.toArray n2,slots:=sl2 }∧R (.ok (.ret (.bool z))) s
theorem ltl_loop {l b:Addr} {us vs:List Value} {n n2:Nat} {sl sl2:Array (Option Value)} {ns ms:List Int} (hi:IntsAre us ns) (hj:IntsAre vs ms):∀ (k i:Nat),us.length - i=k→i≤us.length→i≤vs.length→Meets (Builtin.«list.__eq__.loop» ⟨[.ref l,.ref b,rawInt i,rawInt 0],[]⟩) (LtlSp l b us vs n n2 sl sl2 (HT.lexLt (ns.drop i) (ms.drop i))):=by
  have l1:=hi.length
  have l2:=hj.length
  intro k
  induction k with
  | zero =>
    rintro i hk h1 h2 prog w A R ⟨hp,g,d,tk,os⟩ ⟨hl,hb,h⟩
    wp_walk using wpAny_loadPart' hl,wpAny_loadPart' hb
    have e1:us.toArray[((i:Nat):Int).toNat]?=none:=by simp; omega
    have ev:HT.lexLt (ns.drop i) (ms.drop i)=decide (us.length<vs.length):=by
      rw [List.drop_eq_nil_of_le (by omega:ns.length≤i)]
      cases hm:ms.drop i with
      | nil=>have:=List.drop_eq_nil_iff.mp hm; rw [HT.lexLt_nil_nil]; exact (decide_eq_false (by omega)).symm
      | cons y r =>
        have:i<ms.length:=by { rcases Nat.lt_or_ge i ms.length with c | c; { exact c }; { rw [List.drop_eq_nil_of_le c] at hm; cases hm } }
        rw [HT.lexLt_nil_cons]; exact (decide_eq_true (by omega)).symm
    rw [ev] at h
    rw [e1]
    wp_walk using wpAny_loadPart' hl,wpAny_loadPart' hb
    show R (.ok (.ret (.bool (decide (us.toArray.size<vs.toArray.size))))) _
    simpa using h
  | succ k ih =>
    rintro i hk h1 h2 prog w A R ⟨hp,g,d,tk,os⟩ ⟨hl,hb,h⟩
    have hlt:i<us.length:=by omega
    obtain ⟨t,a1,d1⟩:=intsOf_at hi hlt
    have e1:us.toArray[((i:Nat):Int).toNat]?=some (.int (ns.getD i 0) t):=by simpa using a1
    wp_walk using wpAny_loadPart' hl,wpAny_loadPart' hb
    rw [e1]
    rcases Nat.lt_or_ge i vs.length with c | c
    · obtain ⟨u,a2,d2⟩:=intsOf_at hj c
      have e2:vs.toArray[((i:Nat):Int).toNat]?=some (.int (ms.getD i 0) u):=by simpa using a2
      rw [e2]
      rw [d1,d2,HT.lexLt_cons] at h
      obtain ⟨e,he,hiff⟩:=HT.eqAt_int A.in1 ⟨hp,g,d,tk,os⟩ (ns.getD i 0) t (ms.getD i 0) u
      refine wpAny_bind (he prog w _ _ ?_)
      cases e with
      | true =>
        rw [if_pos (hiff.mp rfl)] at h
        wp_walk
        rw [show ((i:Int)+1)=((i+1:Nat):Int) by push_cast; rfl]
        refine ⟨plainId_quiet plain_eq_loop _,codeAny_builtin entry_eq_loop ?_⟩
        rw [Around.under_plainId plain_eq_loop _]
        exact ih (i+1) (by omega) (by omega) (by omega) prog w A R _ ⟨hl,hb,h⟩
      | false =>
        rw [if_neg (fun q=>absurd (hiff.mpr q) Bool.false_ne_true)] at h
        have hri:=HT.rcLt_int A.in1 ⟨hp,g,d,tk,os⟩ (ns.getD i 0) t (ms.getD i 0) u prog w
        wp_walk using wpAny_loadPart' hl,wpAny_loadPart' hb
        rw [e1,e2]
        wp_walk using hri
        simpa using h
    · have e2:vs.toArray[((i:Nat):Int).toNat]?=none:=by simp; omega
      rw [e2]
      rw [d1,List.drop_eq_nil_of_le (by omega:ms.length≤i),HT.lexLt_cons_nil] at h
      wp_walk using wpAny_loadPart' hl,wpAny_loadPart' hb
      have z:decide (us.length<vs.length)=false:=decide_eq_false (by omega)
      show R (.ok (.ret (.bool (decide (us.toArray.size<vs.toArray.size))))) _
      rw [List.size_toArray,List.size_toArray,z]
      exact h
theorem ltl_meets {l b:Addr} {us vs:List Value} {n n2:Nat} {sl sl2:Array (Option Value)} {ns ms:List Int} (hi:IntsAre us ns) (hj:IntsAre vs ms):Meets (Builtin.«list.__lt__» ⟨[.ref l,.ref b],[]⟩) (LtlSp l b us vs n n2 sl sl2 (HT.lexLt ns ms)):=by
  rintro prog w A R ⟨hp,g,d,tk,os⟩ ⟨hl,hb,h⟩
  have f3:=AutoSeq1.sub_list_list
  wp_walk using wpAny_loadPart' hl,wpAny_loadPart' hb
  refine ⟨plainId_quiet plain_eq_loop _,codeAny_builtin entry_eq_loop ?_⟩
  rw [Around.under_plainId plain_eq_loop _]
  exact ltl_loop hi hj _ 0 rfl (Nat.zero_le _) (Nat.zero_le _) prog w A R _ ⟨hl,hb,by simpa using h⟩
end
def kLt (a b:List Int×Int):Bool:=if a.1=b.1 then decide (a.2<b.2) else HT.lexLt a.1 b.1
theorem lex_self:∀ xs:List Int,HT.lexLt xs xs=false
  | []=>rfl
  | x :: r=>by rw [HT.lexLt_cons,if_pos rfl]; exact lex_self r
theorem lex_tri:∀ xs ys:List Int,xs=ys∨HT.lexLt xs ys=true∨HT.lexLt ys xs=true
  | [],[]=>.inl rfl
  | [],_ :: _=>.inr (.inl rfl)
  | _ :: _,[]=>.inr (.inr rfl)
  | x :: r,y :: q=>by
    rw [HT.lexLt_cons,HT.lexLt_cons]
    by_cases c:x=y
    · subst c
      rw [if_pos rfl,if_pos rfl]
      rcases lex_tri r q with h | h
      · exact .inl (by rw [h])
      · exact .inr h
    · rw [if_neg c,if_neg (Ne.symm c)]
      rcases Int.lt_or_gt_of_ne c with h | h
      · exact .inr (.inl (decide_eq_true h))
      · exact .inr (.inr (decide_eq_true h))
theorem lex_trans:∀ xs ys zs:List Int,HT.lexLt xs ys=true→HT.lexLt ys zs=true→HT.lexLt xs zs=true
  | [],[],_,h,_=>by cases h
  | [],_ :: _,[],_,h=>by cases h
  | [],_ :: _,_ :: _,_,_=>rfl
  | _ :: _,[],_,h,_=>by cases h
  | _ :: _,_ :: _,[],_,h=>by cases h
  | x :: r,y :: q,z :: p,h1,h2=>by
    rw [HT.lexLt_cons] at h1 h2 ⊢
    by_cases c:x=y
    · subst c
      rw [if_pos rfl] at h1
      by_cases c2:x=z
      · rw [if_pos c2] at h2 ⊢
        exact lex_trans r q p h1 h2
      · rw [if_neg c2] at h2 ⊢
        exact h2
    · rw [if_neg c] at h1
      have l1:x<y:=of_decide_eq_true h1
      by_cases c2:y=z
      · subst c2
        rw [if_neg c]
        exact h1
      · rw [if_neg c2] at h2
        have l2:y<z:=of_decide_eq_true h2
        rw [if_neg (by omega)]
        exact decide_eq_true (by omega)
theorem kLt_self (a:List Int×Int):kLt a a=false:=by unfold kLt; rw [if_pos rfl]; exact decide_eq_false (by omega)
theorem kLt_tri (a b:List Int×Int):a=b∨kLt a b=true∨kLt b a=true:=by
  unfold kLt
  by_cases c:a.1=b.1
  · rw [if_pos c,if_pos c.symm]
    rcases Int.lt_trichotomy a.2 b.2 with h | h | h
    · exact .inr (.inl (decide_eq_true h))
    · exact .inl (Prod.ext c h)
    · exact .inr (.inr (decide_eq_true h))
  · rw [if_neg c,if_neg (Ne.symm c)]
    exact (lex_tri a.1 b.1).imp (fun h=>absurd h c) id
theorem kLt_trans {a b c:List Int×Int} (h1:kLt a b=true) (h2:kLt b c=true):kLt a c=true:=by
  unfold kLt at *
  by_cases c1:a.1=b.1
  · rw [if_pos c1] at h1
    by_cases c2:b.1=c.1
    · rw [if_pos c2] at h2
      rw [if_pos (c1.trans c2)]
      have:=of_decide_eq_true h1
      have:=of_decide_eq_true h2
      exact decide_eq_true (by omega)
    · rw [if_neg c2] at h2
      rw [if_neg (by rw [c1]; exact c2),c1]
      exact h2
  · rw [if_neg c1] at h1
    by_cases c2:b.1=c.1
    · rw [if_neg (by rw [← c2]; exact c1),← c2]
      exact h1
    · rw [if_neg c2] at h2
      have q:=lex_trans _ _ _ h1 h2
      rw [if_neg (fun z=>by rw [z,lex_self] at q; cases q)]
      exact q
def kRk (ks:List (List Int×Int)) (k:List Int×Int):Int:=((ks.countP fun x=>kLt x k:Nat):Int)
theorem kRk_lt {ks:List (List Int×Int)} {a b:List Int×Int} (ha:a∈ks) (hb:b∈ks):decide (kRk ks a<kRk ks b)=kLt a b:=by
  have up:∀ {x y:List Int×Int},x∈ks→kLt x y=true→kRk ks x<kRk ks y:=fun {x y} hx h=>by
    unfold kRk
    have le:∀ l:List (List Int×Int),l.countP (fun z=>kLt z x)≤l.countP (fun z=>kLt z y):=fun l=>List.countP_mono_left fun z _ hz=>kLt_trans hz h
    have lt:∀ l:List (List Int×Int),x∈l→l.countP (fun z=>kLt z x)<l.countP (fun z=>kLt z y):=by
      intro l
      induction l with
      | nil=>intro m; cases m
      | cons z r ih =>
        intro m
        rw [List.countP_cons,List.countP_cons]
        rcases List.mem_cons.mp m with e | m
        · subst e
          rw [kLt_self,h]
          have:=le r
          simp only [Bool.false_eq_true,if_false,if_true]
          omega
        · have:=ih m
          cases c:kLt z x with
          | true=>rw [kLt_trans c h]; simp only [if_true]; omega
          | false=>simp only [Bool.false_eq_true,if_false]; split <;> omega
    have:=lt ks hx
    omega
  cases c:kLt a b with
  | true=>exact decide_eq_true (up ha c)
  | false =>
    refine decide_eq_false ?_
    rcases kLt_tri a b with e | e | e
    · subst e; omega
    · rw [c] at e; cases e
    · have:=up hb e; omega
def TupK (h:Heap) (v:Value) (k:List Int×Int):Prop:=∃ (a l:Addr) (us:List Value) (t:Tok),v=.ref a∧IsTup h a #[.ref l,.int k.2 t]∧PlainL h l us.toArray∧IntsAre us k.1
theorem TupK.keeps {h h':Heap} {v:Value} {k:List Int×Int} (x:TupK h v k) (hk:∀ b o,h.get? b=some o→h'.get? b=some o):TupK h' v k:=by
  obtain ⟨a,l,us,t,e,p,⟨o,n,q,r⟩,i⟩:=x
  exact ⟨a,l,us,t,e,p.keeps hk,⟨o,n,hk _ _ q,r⟩,i⟩
section
variable {prog:Program} {w:World} {A:Around} {s:Shared}
theorem ints_inj {us:List Value} {ns ms:List Int} (h:IntsAre us ns):IntsAre us ms→ns=ms:=by
  induction h generalizing ms with
  | nil=>intro h2; cases h2; rfl
  | cons n t _ ih=>intro h2; cases h2 with | cons m u h3=>rw [ih h3]
theorem eqAt_ints {p q:Addr} {us vs:List Value} {ns ms:List Int} (hp:PlainL s.heap p us.toArray) (hq:PlainL s.heap q vs.toArray) (hi:IntsAre us ns) (hj:IntsAre vs ms) (hu:A.units+1<cLine):∃ b,SeqAt.EqAt A s (.ref p) (.ref q) b∧(b=true↔ns=ms):=by
  have l1:=hi.length
  have l2:=hj.length
  by_cases c:p=q
  · subst c
    obtain ⟨o,n,e,_,_,d⟩:=hp
    obtain ⟨o',n',e',_,_,d'⟩:=hq
    rw [e] at e'
    cases e'
    rw [d] at d'
    have uv:us=vs:=by injection d' with x _; simpa using x
    subst uv
    exact ⟨true,SeqAt.EqAt.same _,fun _=>ints_inj hi hj,fun _=>rfl⟩
  · by_cases cl:us.length=vs.length
    · refine ⟨_,SeqAt.EqAt.of_refs c (SeqAt.RcAt.lists (e:=fun i=>ns.getD i 0 == ms.getD i 0) hp.isList hq.isList (by simpa using cl) (by omega) fun j h1 h2=>?_),?_⟩
      · obtain ⟨t,a1,_⟩:=intsOf_at hi (i:=j) (by simpa using h1)
        obtain ⟨u,a2,_⟩:=intsOf_at hj (i:=j) (by simpa using h2)
        have e1:us.toArray[j]=.int (ns.getD j 0) t:=by
          rw [List.getElem?_eq_getElem (by simpa using h1)] at a1
          simpa using a1
        have e2:vs.toArray[j]=.int (ms.getD j 0) u:=by
          rw [List.getElem?_eq_getElem (by simpa using h2)] at a2
          simpa using a2
        rw [e1,e2]
        exact SeqAt.EqAt.int_int _ _ _ _
      · rw [List.all_eq_true]
        refine ⟨fun h=>List.ext_getElem (by omega) fun i h1 h2=>?_,fun h i _=>by rw [h]; exact beq_self_eq_true _⟩
        have q:=h i (List.mem_range.mpr (by rw [List.size_toArray]; omega))
        have q':=eq_of_beq q
        rw [List.getD_eq_getElem?_getD,List.getD_eq_getElem?_getD,List.getElem?_eq_getElem h1,List.getElem?_eq_getElem h2] at q'
        exact q'
    · exact ⟨false,SeqAt.EqAt.of_refs c (SeqAt.RcAt.lists_lengths hp.isList hq.isList (by simpa using cl) (by omega)),fun h=>(by cases h),fun h=>by subst h; omega⟩
theorem oneLt_ints {p q:Addr} {us vs:List Value} {ns ms:List Int} {E:Value→Shared→Prop} {Q:Bool→Shared→Prop} (hp:PlainL s.heap p us.toArray) (hq:PlainL s.heap q vs.toArray) (hi:IntsAre us ns) (hj:IntsAre vs ms) (hu:A.units<cLine) (h:Q (HT.lexLt ns ms) s) :
    wpAny (model prog w) A (oneLt' true (.ref p) (.ref q)) Q E s:=by
  obtain ⟨⟨c1,d1,x1,s1⟩,n,e,hc,hd,hx⟩:=hp
  obtain ⟨⟨c2,d2,x2,s2⟩,n2,e2,hc2,hd2,hx2⟩:=hq
  simp only at hc hd hx hc2 hd2 hx2
  subst hc hd hx hc2 hd2 hx2
  rw [oneLt'_eq]
  simp only [if_true]
  refine wpAny_bind (wpAny_cRoomFor hu ?_)
  refine wpAny_bind (wpAny_callSpecialIfBound?_slot ⟨_,e,rfl⟩ PySem.F.slot_list_lt (call_meets PySem.F.slot_list_lt ⟨_,e,rfl⟩ PySem.F.entry_list_lt (PySem.F.args_list_lt_2 _ _) (ltl_meets hi hj) ⟨e,e2,?_⟩))
  exact wpAny_truthy_bool h
theorem cmpT {v v':Value} {k k':List Int×Int} {E:Value→Shared→Prop} {Q:Bool→Shared→Prop} (h1:TupK s.heap v k) (h2:TupK s.heap v' k') (hu:A.units+1<cLine) (h:Q (kLt k k') s):wpAny (model prog w) A (keyLt' (tuples' true) v v') Q E s:=by
  obtain ⟨a,l,us,t,rfl,⟨o,ho,hc,n,hd⟩,p,i⟩:=h1
  obtain ⟨a',l',us',t',rfl,⟨o',ho',hc',n',hd'⟩,p',i'⟩:=h2
  refine PySem.W.kat_lt ho hd ho' hd' (PySem.W.kat_cons ?_)
  obtain ⟨b,e,hb⟩:=eqAt_ints (A:=A) (s:=s) p p' i i' hu
  refine e prog w _ _ ?_
  unfold kLt at h
  cases b with
  | true =>
    rw [if_pos (hb.mp rfl)] at h
    refine PySem.W.kat_yes (PySem.W.kat_cons ?_)
    obtain ⟨b2,e2,hb2⟩:=HT.eqAt_int A s k.2 t k'.2 t'
    refine e2 prog w _ _ ?_
    cases b2 with
    | true =>
      have z:=hb2.mp rfl
      rw [decide_eq_false (by omega)] at h
      exact PySem.W.kat_yes (PySem.W.kat_nil h)
    | false=>exact PySem.W.kat_no (PySem.W.kat_one _ _ (lt_int h))
  | false =>
    rw [if_neg (fun z=>absurd (hb.mpr z) Bool.false_ne_true)] at h
    exact PySem.W.kat_no (oneLt_ints p p' i i' (by omega) h)
end
end L2
set_option Elab.async false
set_option linter.all false
set_option maxRecDepth 100000
set_option maxHeartbeats 4000000
namespace L2
open PySem PySem.Spec PyProof.Rows
section
variable {prog:Program} {w:World} {A:Around} {E:Value→Shared→Prop} {s:Shared}
def srtH (h:Heap) (a:Addr) (us:List Value):Heap:=((h.update a (Obj.mapSeq fun _=>#[])).push (seqObj "tuple" us.toArray 0)).push (seqObj "list" #[] 0)
theorem srtH_old {h:Heap} {a b:Addr} {us:List Value} {o:Obj} (n:b≠a) (e:h.get? b=some o):(srtH h a us).get? b=some o :=
  Heap.get?_push_of_some _ (Heap.get?_push_of_some _ (by rw [Heap.get?_update_ne _ _ _ _ n]; exact e))
theorem lsortG {a:Addr} {us:List Value} {m:Nat} {P:PySem.Fin→Shared→Prop} {κ:SortKind} {ρ:Stg.RR} (ho:s.heap.get? a=some (seqObj "list" us.toArray m)) (z:us.length<64) (hi:Stg.Idn ρ (pairsOf us) 0)
    (hk:2≤us.length→(∀ (E:Value→Shared→Prop) (Q:SortKind→Shared→Prop),Q κ { s with heap:=srtH s.heap a us }→wpAny (model prog w) A (keyKind' us.toArray) Q E { s with heap:=srtH s.heap a us })∧Stg.Cmp prog w A { s with heap:=srtH s.heap a us } κ ρ (pairsOf us))
    (g:∀ q:SortSt,(arrOf q).Perm (pairsOf us)→Stg.Inc ρ (arrOf q) (pairsOf us).size→P (.done (.ret .none)) { s with heap:=sortedHeap s.heap a us ((arrOf q).map (·.2)) }):wpAny (model prog w) A (Builtin.«list.sort» ⟨[.ref a],[]⟩) P E s:=by
  rw [list_sort_plain]
  have al:a<s.heap.objs.size:=Heap.lt_size ho
  obtain ⟨c,oc⟩:∃ c,(s.heap.update a (Obj.mapSeq fun _=>#[])).get? a=some (seqObj "list" #[] c):=⟨_,get?_update_seq ho (fun _=>#[])⟩
  have oc6:(srtH s.heap a us).get? a=some (seqObj "list" #[] c):=Heap.get?_push_of_some _ (Heap.get?_push_of_some _ oc)
  refine wpAny_bind (listItems_at ho rfl (wpAny_bind (listUpdate_at ho rfl (wpAny_bind (seqEpoch_at oc rfl (wpAny_bind (wpAny_newTuple (wpAny_bind (wpAny_newList (wpAny_holding ?_)))))))))) <;> try (rw [sizeLine_eq]; first | (rw [List.size_toArray]; omega) | omega)
  show wpAny (model prog w) A _ P E { s with heap:=srtH s.heap a us }
  dsimp only
  have us2:us.toArray.size=us.length:=List.size_toArray ..
  by_cases few:us.toArray.size<2
  · rw [if_pos few,if_pos few]
    refine wpAny_bind (wpAny_pure ?_)
    rw [StateT.run_pure]
    refine wpAny_bind (wpAny_pure (wpAny_bind (seqEpoch_at oc6 rfl (wpAny_bind (listUpdate_at oc6 rfl ?_ (hsz2:=by rw [Array.size_map]; show (pairsOf us).size≤_; rw [pairsOf_size,sizeLine_eq]; omega))))))
    simp only [bne_self_eq_false,Bool.false_eq_true,if_false]
    refine wpAny_pure (g (SortSt.mk' general' (us.toArray.zip us.toArray) #[] 7 none) (Array.Perm.refl _) fun i j hij hj=>?_)
    rw [pairsOf_size] at hj; omega
  · rw [if_neg few,if_neg few]
    have two:2≤us.length:=by omega
    obtain ⟨k1,k2⟩:=hk two
    refine wpAny_bind (k1 _ _ (wpAny_bind (wpAny_mono (Stg.runs_ok (a₀:=pairsOf us) (st:=SortSt.mk' κ (us.toArray.zip us.toArray) #[] 7 none) (Q:=fun _ q=>(arrOf q).Perm (pairsOf us)∧failedOf q=none∧Stg.Inc ρ (arrOf q) (pairsOf us).size) k2 hi ⟨Array.Perm.refl _,rfl,rfl,rfl⟩ hi (by rw [pairsOf_size]; exact two) (by rw [pairsOf_size]; exact z) fun q a1 a2 a3=>⟨a1,a2,a3⟩) ?_ fun _ _ e=>e)))
    rintro ⟨⟨⟩,q⟩ t ⟨rfl,hp,hf,hs⟩
    refine wpAny_bind (seqEpoch_at oc6 rfl (wpAny_bind (listUpdate_at oc6 rfl ?_ (hsz2:=by rw [Array.size_map,hp.size_eq,pairsOf_size,sizeLine_eq]; omega))))
    dsimp only
    rw [hf]
    simp only [bne_self_eq_false,Bool.false_eq_true,if_false]
    exact wpAny_pure (g q hp hs)
def srtG (h:Heap) (us:List Value):Heap:=((h.push (seqObj "list" #[] 0)).update h.objs.size (Obj.mapSeq (·++us.toArray))).push (seqObj "list" us.toArray 0)
theorem srtG_old {h:Heap} {b:Addr} {us:List Value} {o:Obj} (e:h.get? b=some o):(srtG h us).get? b=some o :=
  Heap.get?_push_of_some _ (by rw [Heap.get?_update_ne _ _ _ _ (Nat.ne_of_lt (Heap.lt_size e))]; exact Heap.get?_push_of_some _ e)
theorem sortedG {l:Addr} {us:List Value} {Q:Value→Shared→Prop} {κ:SortKind} {ρ:Stg.RR} (hl:s.heap.IsList l us.toArray) (z:us.length<64) (hi:Stg.Idn ρ (pairsOf us) 0)
    (hk:2≤us.length→∀ h':Heap,(∀ b o,s.heap.get? b=some o→h'.get? b=some o)→(∀ (E:Value→Shared→Prop) (Q:SortKind→Shared→Prop),Q κ { s with heap:=h' }→wpAny (model prog w) A.in1.in1 (keyKind' us.toArray) Q E { s with heap:=h' })∧Stg.Cmp prog w A.in1.in1 { s with heap:=h' } κ ρ (pairsOf us))
    (g:∀ q:SortSt,(arrOf q).Perm (pairsOf us)→Stg.Inc ρ (arrOf q) (pairsOf us).size→Q (.ref (s.heap.objs.size+1)) { s with heap:=sortedAll s.heap us ((arrOf q).map (·.2)) }):wpAny (model prog w) A (call (.builtin "sorted") [.ref l]) Q E s:=by
  have zz:us.length≤sizeLine:=by rw [sizeLine_eq]; omega
  refine Calls.call_function_entry kind_sorted plain_sorted entry_sorted (args_sorted1 _) ?_
  unfold Builtin.«sorted»
  refine wpAny_bind (m:=checkCount "sorted" 1 1 _) (wpAny_pure (wpAny_bind (collect_list hl (wpAny_bind (wpAny_newList ?_ zz)) zz)))
  have sz:((s.heap.push (seqObj "list" #[] 0)).update s.heap.objs.size (Obj.mapSeq (·++us.toArray))).objs.size=s.heap.objs.size+1:=by rw [Heap.size_update,size_push']
  have oL:(srtG s.heap us).get? (s.heap.objs.size+1)=some (seqObj "list" us.toArray 0):=by unfold srtG; rw [← sz]; exact Heap.get?_push_size _ rfl
  show wpAny _ _ _ _ _ { s with heap:=srtG s.heap us }
  rw [sz]
  refine wpAny_bind (wpAny_holding (wpAny_call_entry slot_list_sort ⟨_,oL,rfl⟩ entry_list_sort (lsortG (s:={ s with heap:=srtG s.heap us }) (κ:=κ) oL z hi (fun two=>hk two _ fun b o e=>srtH_old (Nat.ne_of_lt (Nat.lt_succ_of_lt (Heap.lt_size e))) (srtG_old e)) fun q a1 a2=>⟨_,rfl,?_⟩) (args_list_sort _)))
  exact wpAny_pure ⟨_,rfl,g q a1 a2⟩
end
abbrev ET:=Addr×Addr×List Int×Int
def eOf (es:List ET) (a:Addr):ET:=(es.find? fun e=>e.1 == a).getD (0,0,[],0)
def refA:Value→Addr
  | .ref a=>a
  | _=>0
theorem eOf_mem:∀ {es:List ET},(es.map (·.1)).Nodup→∀ {e:ET},e∈es→eOf es e.1=e
  | [],_,_,h=>by cases h
  | x :: r,nd,e,h=>by
    rw [List.map_cons] at nd
    obtain ⟨n1,n2⟩:=List.nodup_cons.mp nd
    unfold eOf
    rw [List.find?_cons]
    rcases List.mem_cons.mp h with rfl | h
    · rw [beq_self_eq_true]; rfl
    · have ne:(x.1 == e.1)=false:=by
        rw [beq_eq_false_iff_ne]
        exact fun z=>n1 (by rw [z]; exact List.mem_map_of_mem h)
      rw [ne]
      exact eOf_mem n2 h
theorem idx_ndA:∀ {ns:List Addr},ns.Nodup→∀ {i:Nat} {n:Addr},ns[i]?=some n→ns.idxOf n=i
  | [],_,_,_,e=>by simp at e
  | x :: r,nd,0,n,e=>by
    have e':x=n:=by simpa using e
    subst e'
    simp
  | x :: r,nd,i+1,n,e=>by
    obtain ⟨h1,h2⟩:=List.nodup_cons.mp nd
    have e':r[i]?=some n:=by simpa using e
    have ne:x≠n:=fun z=>h1 (z ▸ List.mem_of_getElem? e')
    rw [List.idxOf_cons,show (x == n)=false by simpa using ne]
    show r.idxOf n+1=i+1
    rw [idx_ndA h2 e']
theorem zip_same {α:Type}:∀ l:List α,l.zip l=l.map fun v=>(v,v)
  | []=>rfl
  | x :: r=>by rw [List.zip_cons_cons,zip_same r]; rfl
theorem pairs_list (us:List Value):(pairsOf us).toList=us.map fun v=>(v,v):=by
  unfold pairsOf
  rw [Array.toList_zip]
  exact zip_same us
def gE (e:ET):Value:=.ref e.1
def rrE (es:List ET):Stg.RR:=⟨fun p=>(es.map (·.1)).idxOf (refA p.2),fun p=>kRk (es.map (·.2.2)) (eOf es (refA p.2)).2.2⟩
theorem vals_refs:∀ {es:List ET} {us:List Value},Vals (es.map fun e=>V.ref e.1) us→us=es.map gE
  | [],_,r=>by cases r; rfl
  | e :: es,_,r=>by
    rw [List.map_cons] at r
    cases r with | cons a b=>cases a; rw [vals_refs b]; rfl
theorem vals_gE (es:List ET):Vals (es.map fun e=>V.ref e.1) (es.map gE):=by
  induction es with
  | nil=>exact .nil
  | cons e r ih=>exact .cons rfl ih
theorem idn_E {es:List ET} (nd:(es.map (·.1)).Nodup):Stg.Idn (rrE es) (pairsOf (es.map gE)) 0:=fun i _ hi=>by
  have e:(pairsOf (es.map gE))[i]?=((es.map gE).map fun v=>(v,v))[i]?:=by rw [← pairs_list,Array.getElem?_toList]
  have hl:i<es.length:=by rw [pairsOf_size,List.length_map] at hi; exact hi
  unfold Stg.Rk
  rw [e,List.getElem?_map,List.getElem?_map,List.getElem?_eq_getElem hl]
  show (es.map (·.1)).idxOf es[i].1=i
  exact idx_ndA nd (by rw [List.getElem?_map,List.getElem?_eq_getElem hl]; rfl)
theorem out_E {es:List ET} (nd:(es.map (·.1)).Nodup) {xs:Array Keyed} (hp:xs.Perm (pairsOf (es.map gE))) (hi:Stg.Inc (rrE es) xs (pairsOf (es.map gE)).size) :
    ∃ os:List ET,(xs.map (·.2)).toList=os.map gE∧os.Perm es∧os.Pairwise fun x y=>kLt y.2.2 x.2.2=false:=by
  have pm:=Array.perm_iff_toList_perm.mp hp
  rw [pairs_list,List.map_map] at pm
  have mx:∀ p∈xs.toList,∃ e∈es,p=(gE e,gE e):=fun p h=>by
    obtain ⟨e,m,q⟩:=List.mem_map.mp (pm.mem_iff.mp h)
    exact ⟨e,m,q.symm⟩
  refine ⟨xs.toList.map fun p=>eOf es (refA p.2),?_,?_,?_⟩
  · rw [Array.toList_map,List.map_map]
    refine List.map_congr_left fun p h=>?_
    obtain ⟨e,m,rfl⟩:=mx p h
    show gE e=gE (eOf es e.1)
    rw [eOf_mem nd m]
  · have q:=pm.map fun p=>eOf es (refA p.2)
    rw [List.map_map] at q
    refine q.trans (List.Perm.of_eq ?_)
    have:es.map ((fun p:Keyed=>eOf es (refA p.2)) ∘ ((fun v=>(v,v)) ∘ gE))=es.map id:=List.map_congr_left fun e m=>eOf_mem nd m
    rw [this,List.map_id]
  · rw [List.pairwise_iff_getElem]
    intro i j h1 h2 hij
    have hi2:i<xs.size:=by simpa using h1
    have hj2:j<xs.size:=by simpa using h2
    have v:=hi i j hij (by rw [← hp.size_eq]; exact hj2)
    obtain ⟨a,ma,ra⟩:=mx xs[i] (by simp)
    obtain ⟨b,mb,rb⟩:=mx xs[j] (by simp)
    have ka:Stg.Kg (rrE es) xs i=kRk (es.map (·.2.2)) a.2.2:=by
      unfold Stg.Kg
      rw [Array.getElem?_eq_getElem hi2,ra]
      show kRk _ (eOf es a.1).2.2=_
      rw [eOf_mem nd ma]
    have kb:Stg.Kg (rrE es) xs j=kRk (es.map (·.2.2)) b.2.2:=by
      unfold Stg.Kg
      rw [Array.getElem?_eq_getElem hj2,rb]
      show kRk _ (eOf es b.1).2.2=_
      rw [eOf_mem nd mb]
    have g1:(xs.toList.map fun p=>eOf es (refA p.2))[i]=a:=by
      rw [List.getElem_map,Array.getElem_toList,ra]; exact eOf_mem nd ma
    have g2:(xs.toList.map fun p=>eOf es (refA p.2))[j]=b:=by
      rw [List.getElem_map,Array.getElem_toList,rb]; exact eOf_mem nd mb
    rw [g1,g2,← kRk_lt (List.mem_map_of_mem mb:b.2.2∈es.map (·.2.2)) (List.mem_map_of_mem ma)]
    unfold Stg.VLt at v
    rw [ka,kb] at v
    exact decide_eq_false (by omega)
theorem tups_E {h:Heap}:∀ {es:List ET},(∀ e∈es,TupK h (gE e) e.2.2)→∃ fs:List Value,PySem.W.KatTups h (es.map gE) fs∧fs.length=es.length∧∀ v∈fs,∃ (l:Addr) (us:Array Value),v=.ref l∧PlainL h l us
  | [],_=>⟨[],PySem.W.KatTups.nil,rfl,fun _ h=>by cases h⟩
  | e :: es,hh=>by
    obtain ⟨fs,t,lf,hf⟩:=tups_E (es:=es) fun x m=>hh x (List.mem_cons_of_mem _ m)
    obtain ⟨a,l,us,tk,e1,⟨o,ho,hc,n,hd⟩,p,_⟩:=hh e List.mem_cons_self
    rw [List.map_cons,e1]
    refine ⟨.ref l :: fs,PySem.W.KatTups.cons ho hc hd rfl t,by rw [List.length_cons,lf]; rfl,fun v m=>?_⟩
    rcases List.mem_cons.mp m with rfl | m
    · exact ⟨l,_,rfl,p⟩
    · exact hf v m
def rSortedT (K:PySem.W.Frag):List V→Hp→VK→Prop:=fun xs H Q=>∃ (p:Addr) (es:List ET),xs=[.ref p]∧SqL K H p (es.map fun e=>V.ref e.1)∧es.length<64∧(es.map (·.1)).Nodup∧(∀ e∈es,SqT K H e.1 [.ref e.2.1,.int e.2.2.2]∧SqL K H e.2.1 (e.2.2.1.map V.int)) ∧
  ∀ (D:Addr) (os:List ET),H D=none→os.Perm es→(os.Pairwise fun x y=>kLt y.2.2 x.2.2=false)→Q (.ref D) (upd H D (.lst (os.map fun e=>V.ref e.1)))
variable {K:PySem.W.Frag} {X:Cx}
theorem call_sortedT (hu:X.A.units+3<cLine) (hK:X.K=K):CallR X (.builtin "sorted") (rSortedT K):=by
  subst hK
  intro pins s σ H xs us Q I r h
  obtain ⟨p,es,rfl,hq,h64,nd,he,q⟩:=h
  obtain ⟨u,rfl,rx⟩:=vals1 r
  cases rx
  obtain ⟨its,rv,pl,hz⟩:=I.list hq
  obtain rfl:=vals_refs rv
  have tk:∀ e∈es,TupK s.heap (gE e) e.2.2:=fun e m=>by
    obtain ⟨h1,h2⟩:=he e m
    obtain ⟨i1,r1,t1,_⟩:=I.tuple h1
    obtain ⟨i2,r2,t2,_⟩:=I.list h2
    cases r1 with | cons x1 y1=>cases y1 with | cons x2 y2=>cases y2; cases x1; obtain ⟨tt,rfl⟩:=x2; exact ⟨e.1,e.2.1,i2,tt,rfl,t1,t2,intsAre_of r2⟩
  refine sortedG (κ:=tuples' true) (ρ:=rrE es) pl.isList (by rw [List.length_map]; exact h64) (idn_E nd) (fun two h' kp=>?_) fun st hp hs=>?_
  · have tk':∀ e∈es,TupK h' (gE e) e.2.2:=fun e m=>(tk e m).keeps kp
    refine ⟨fun E Q hQ=>?_,fun x mx y my E Q hQ=>?_⟩
    · obtain ⟨fs,t,lf,hf⟩:=tups_E tk'
      refine PySem.W.kat_kind (T:=Value.type "list") (s:={ s with heap:=h' }) t (by rw [List.length_map] at two; omega) (fun v m=>?_) rfl hQ
      obtain ⟨l,us,rfl,o,n,ho,hc,_⟩:=hf v m
      rw [← hc]
      exact (PySem.W.Looks.ld ho).andThen .now
    · rw [pairs_list,List.map_map] at mx my
      obtain ⟨a,ma,rfl⟩:=List.mem_map.mp mx
      obtain ⟨b,mb,rfl⟩:=List.mem_map.mp my
      refine cmpT (tk' a ma) (tk' b mb) (by show X.A.units+2+1<cLine; exact hu) ?_
      have e1:(rrE es).g (gE a,gE a)=kRk (es.map (·.2.2)) a.2.2:=by show kRk _ (eOf es a.1).2.2=_; rw [eOf_mem nd ma]
      have e2:(rrE es).g (gE b,gE b)=kRk (es.map (·.2.2)) b.2.2:=by show kRk _ (eOf es b.1).2.2=_; rw [eOf_mem nd mb]
      have e3:decide ((rrE es).g (gE a,gE a)<(rrE es).g (gE b,gE b))=kLt a.2.2 b.2.2:=by rw [e1,e2]; exact kRk_lt (List.mem_map_of_mem ma) (List.mem_map_of_mem mb)
      rw [← e3]
      exact hQ
  · obtain ⟨os,eo,po,so⟩:=out_E nd hp hs
    obtain ⟨e,hE⟩:=sortedAll_at s.heap (es.map gE) ((arrOf st).map (·.2))
    have lo:=po.length_eq
    refine ⟨.ref (s.heap.objs.size+1),_,I.laid (a:=s.heap.objs.size+1) (t':=s.toks) (o:=.lst (os.map fun e=>V.ref e.1)) (fun b o z=>sortedAll_old z) (Nat.le_succ _) ⟨by rw [List.length_map,lo,sizeLine_eq]; omega,os.map gE,e,vals_gE os,?_⟩,rfl,q _ os (I.hok.fresh (Nat.le_succ _)) po so⟩
    rw [← eo]
    exact hE
end L2
set_option Elab.async false
set_option linter.all false
set_option maxRecDepth 100000
set_option maxHeartbeats 4000000
namespace Mine
open PySem L2
def top (i:Nat):Stmt:=PySem.Challenge.pw_nearstairs_k04_boards_that_come_and_go.main.body.getD i (.Pass ⟨0,0,0,0⟩)
abbrev s_shelf_of:Stmt:=top 1
abbrev N_shelf_of:List Str:=["shelves", "board"]
abbrev P_shelf_of:List Str:=["shelves", "board"]
theorem sc_shelf_of:FnScope N_shelf_of P_shelf_of (defScope s_shelf_of):=⟨rfl,rfl,rfl,by decide +kernel,rfl,by decide +kernel,by decide +kernel⟩
abbrev s_Room_init:Stmt:=inClass (top 11) 0
abbrev N_Room_init:List Str:=["self", "shelves", "places", "rule"]
abbrev P_Room_init:List Str:=["self", "shelves", "places", "rule"]
theorem sc_Room_init:FnScope N_Room_init P_Room_init (defScope s_Room_init):=⟨rfl,rfl,rfl,by decide +kernel,rfl,by decide +kernel,by decide +kernel⟩
abbrev s_Room_has:Stmt:=inClass (top 11) 1
abbrev N_Room_has:List Str:=["self", "board"]
abbrev P_Room_has:List Str:=["self", "board"]
theorem sc_Room_has:FnScope N_Room_has P_Room_has (defScope s_Room_has):=⟨rfl,rfl,rfl,by decide +kernel,rfl,by decide +kernel,by decide +kernel⟩
abbrev s_Room_bring:Stmt:=inClass (top 11) 2
abbrev N_Room_bring:List Str:=["self", "board", "out"]
abbrev P_Room_bring:List Str:=["self", "board"]
theorem sc_Room_bring:FnScope N_Room_bring P_Room_bring (defScope s_Room_bring):=⟨rfl,rfl,rfl,by decide +kernel,rfl,by decide +kernel,by decide +kernel⟩
abbrev s_Room_use:Stmt:=inClass (top 11) 3
abbrev N_Room_use:List Str:=["self", "board", "mates"]
abbrev P_Room_use:List Str:=["self", "board"]
theorem sc_Room_use:FnScope N_Room_use P_Room_use (defScope s_Room_use):=⟨rfl,rfl,rfl,by decide +kernel,rfl,by decide +kernel,by decide +kernel⟩
abbrev s_Room_drop:Stmt:=inClass (top 11) 4
abbrev N_Room_drop:List Str:=["self", "board"]
abbrev P_Room_drop:List Str:=["self", "board"]
theorem sc_Room_drop:FnScope N_Room_drop P_Room_drop (defScope s_Room_drop):=⟨rfl,rfl,rfl,by decide +kernel,rfl,by decide +kernel,by decide +kernel⟩
abbrev s_Room_boards:Stmt:=inClass (top 11) 5
abbrev N_Room_boards:List Str:=["self"]
abbrev P_Room_boards:List Str:=["self"]
theorem sc_Room_boards:FnScope N_Room_boards P_Room_boards (defScope s_Room_boards):=⟨rfl,rfl,rfl,by decide +kernel,rfl,by decide +kernel,by decide +kernel⟩
abbrev s_Room_shelf:Stmt:=inClass (top 11) 6
abbrev N_Room_shelf:List Str:=["self", "number"]
abbrev P_Room_shelf:List Str:=["self", "number"]
theorem sc_Room_shelf:FnScope N_Room_shelf P_Room_shelf (defScope s_Room_shelf):=⟨rfl,rfl,rfl,by decide +kernel,rfl,by decide +kernel,by decide +kernel⟩
abbrev s_Room_need:Stmt:=inClass (top 11) 7
abbrev N_Room_need:List Str:=["self", "board"]
abbrev P_Room_need:List Str:=["self", "board"]
theorem sc_Room_need:FnScope N_Room_need P_Room_need (defScope s_Room_need):=⟨rfl,rfl,rfl,by decide +kernel,rfl,by decide +kernel,by decide +kernel⟩
abbrev s_Room_mates:Stmt:=inClass (top 11) 8
abbrev N_Room_mates:List Str:=["self", "board"]
abbrev P_Room_mates:List Str:=["self", "board"]
theorem sc_Room_mates:FnScope N_Room_mates P_Room_mates (defScope s_Room_mates):=⟨rfl,rfl,rfl,by decide +kernel,rfl,by decide +kernel,by decide +kernel⟩
abbrev s_Room_leaver_for:Stmt:=inClass (top 11) 9
abbrev N_Room_leaver_for:List Str:=["self", "board", "mates"]
abbrev P_Room_leaver_for:List Str:=["self", "board"]
theorem sc_Room_leaver_for:FnScope N_Room_leaver_for P_Room_leaver_for (defScope s_Room_leaver_for):=⟨rfl,rfl,rfl,by decide +kernel,rfl,by decide +kernel,by decide +kernel⟩
abbrev s_Room_going:Stmt:=inClass (top 11) 10
abbrev N_Room_going:List Str:=["self", "mates"]
abbrev P_Room_going:List Str:=["self", "mates"]
theorem sc_Room_going:FnScope N_Room_going P_Room_going (defScope s_Room_going):=⟨rfl,rfl,rfl,by decide +kernel,rfl,by decide +kernel,by decide +kernel⟩
abbrev s_box:Stmt:=top 13
abbrev N_box:List Str:=["_law_script", "_law_k", "_law_cell"]
abbrev P_box:List Str:=["_law_script", "_law_k"]
theorem sc_box:FnScope N_box P_box (defScope s_box):=⟨rfl,rfl,rfl,by decide +kernel,rfl,by decide +kernel,by decide +kernel⟩
abbrev s_take:Stmt:=top 14
abbrev N_take:List Str:=["_law_box_here", "_law_size", "_law_found", "_law_step", "_law_once", "_law_twice"]
abbrev P_take:List Str:=["_law_box_here", "_law_size"]
theorem sc_take:FnScope N_take P_take (defScope s_take):=⟨rfl,rfl,rfl,by decide +kernel,rfl,by decide +kernel,by decide +kernel⟩
abbrev s_folded:Stmt:=top 15
abbrev N_folded:List Str:=["_law_script", "_law_size", "_law_cells", "_law_k", "_law_cell"]
abbrev P_folded:List Str:=["_law_script", "_law_size"]
theorem sc_folded:FnScope N_folded P_folded (defScope s_folded):=⟨rfl,rfl,rfl,by decide +kernel,rfl,by decide +kernel,by decide +kernel⟩
abbrev s_same:Stmt:=top 16
abbrev N_same:List Str:=["_law_found", "_law_due"]
abbrev P_same:List Str:=["_law_found", "_law_due"]
theorem sc_same:FnScope N_same P_same (defScope s_same):=⟨rfl,rfl,rfl,by decide +kernel,rfl,by decide +kernel,by decide +kernel⟩
abbrev s_room_plan:Stmt:=top 17
abbrev N_room_plan:List Str:=["_law_box_here", "_law_far", "_law_shelves", "_law_places", "_law_rule"]
abbrev P_room_plan:List Str:=["_law_box_here"]
theorem sc_room_plan:FnScope N_room_plan P_room_plan (defScope s_room_plan):=⟨rfl,rfl,rfl,by decide +kernel,rfl,by decide +kernel,by decide +kernel⟩
abbrev s_some_boards:Stmt:=top 18
abbrev N_some_boards:List Str:=["_law_box_here", "_law_size", "_law_many_here", "_law_way", "_law_begin", "_law_first", "_law_found", "_law_far", "_law_k", "_law_at"]
abbrev P_some_boards:List Str:=["_law_box_here", "_law_size"]
theorem sc_some_boards:FnScope N_some_boards P_some_boards (defScope s_some_boards):=⟨rfl,rfl,rfl,by decide +kernel,rfl,by decide +kernel,by decide +kernel⟩
abbrev s_many:Stmt:=top 19
abbrev N_many:List Str:=["_law_box_here", "_law_few", "_law_most", "_law_great"]
abbrev P_many:List Str:=["_law_box_here", "_law_few", "_law_most"]
theorem sc_many:FnScope N_many P_many (defScope s_many):=⟨rfl,rfl,rfl,by decide +kernel,rfl,by decide +kernel,by decide +kernel⟩
abbrev s_boxes:Stmt:=top 20
abbrev N_boxes:List Str:=["_law_script", "_law_size", "_law_cells"]
abbrev P_boxes:List Str:=["_law_script", "_law_size"]
theorem sc_boxes:FnScope N_boxes P_boxes (defScope s_boxes):=⟨rfl,rfl,rfl,by decide +kernel,rfl,by decide +kernel,by decide +kernel⟩
abbrev s_room:Stmt:=top 21
abbrev N_room:List Str:=["_law_box_here", "_law_shelves", "_law_places", "_law_rule", "_law_writing", "_law_found", "_law_first", "_law_more"]
abbrev P_room:List Str:=["_law_box_here"]
theorem sc_room:FnScope N_room P_room (defScope s_room):=⟨rfl,rfl,rfl,by decide +kernel,rfl,by decide +kernel,by decide +kernel⟩
abbrev s_ranked:Stmt:=top 22
abbrev N_ranked:List Str:=["_law_rule", "_law_rows", "_law_found", "_law_row", "_law_key"]
abbrev P_ranked:List Str:=["_law_rule", "_law_rows"]
theorem sc_ranked:FnScope N_ranked P_ranked (defScope s_ranked):=⟨rfl,rfl,rfl,by decide +kernel,rfl,by decide +kernel,by decide +kernel⟩
abbrev s_own_shelf:Stmt:=top 23
abbrev N_own_shelf:List Str:=["_law_own", "_law_number", "_law_rows"]
abbrev P_own_shelf:List Str:=["_law_own", "_law_number"]
theorem sc_own_shelf:FnScope N_own_shelf P_own_shelf (defScope s_own_shelf):=⟨rfl,rfl,rfl,by decide +kernel,rfl,by decide +kernel,by decide +kernel⟩
abbrev s_own_deed:Stmt:=top 24
abbrev N_own_deed:List Str:=["_law_own", "_law_way", "_law_board", "_law_there", "_law_out", "_law_found"]
abbrev P_own_deed:List Str:=["_law_own", "_law_way", "_law_board"]
theorem sc_own_deed:FnScope N_own_deed P_own_deed (defScope s_own_deed):=⟨rfl,rfl,rfl,by decide +kernel,rfl,by decide +kernel,by decide +kernel⟩
abbrev s_done_deed:Stmt:=top 25
abbrev N_done_deed:List Str:=["_law_room_here", "_law_way", "_law_board", "_law_found", "_law_caught", "error", "_law_kinds", "_law_others"]
abbrev P_done_deed:List Str:=["_law_room_here", "_law_way", "_law_board"]
theorem sc_done_deed:FnScope N_done_deed P_done_deed (defScope s_done_deed):=⟨rfl,rfl,rfl,by decide +kernel,rfl,by decide +kernel,by decide +kernel⟩
abbrev s_stands:Stmt:=top 26
abbrev N_stands:List Str:=["_law_room_here", "_law_own", "_law_numbers", "_law_number"]
abbrev P_stands:List Str:=["_law_room_here", "_law_own"]
theorem sc_stands:FnScope N_stands P_stands (defScope s_stands):=⟨rfl,rfl,rfl,by decide +kernel,rfl,by decide +kernel,by decide +kernel⟩
abbrev s_law:Stmt:=top 27
abbrev N_law:List Str:=["_law_script", "_law_box_here", "_law_shelves", "_law_places", "_law_rule", "_law_some", "_law_room_here", "_law_own", "_law_turn", "_law_way", "_law_board", "_law_there"]
abbrev P_law:List Str:=["_law_script"]
theorem sc_law:FnScope N_law P_law (defScope s_law):=⟨rfl,rfl,rfl,by decide +kernel,rfl,by decide +kernel,by decide +kernel⟩
structure Txt (K:PySem.W.Frag) (mg:Str→Option Value):Prop where
  z_ValueError:mg "ValueError" = none
  z_abs:mg "abs" = none
  z_all:mg "all" = none
  z_bool:mg "bool" = none
  z_divmod:mg "divmod" = none
  z_enumerate:mg "enumerate" = none
  z_int:mg "int" = none
  z_isinstance:mg "isinstance" = none
  z_len:mg "len" = none
  z_list:mg "list" = none
  z_max:mg "max" = none
  z_range:mg "range" = none
  z_set:mg "set" = none
  z_sorted:mg "sorted" = none
  z_str:mg "str" = none
  z_tuple:mg "tuple" = none
  z_zip:mg "zip" = none
  cl_Room:Cls K (clsOf K "Room")
  n_Room_places:NoAttr K (clsOf K "Room") "places"
  n_Room_rule:NoAttr K (clsOf K "Room") "rule"
  n_Room_shelves:NoAttr K (clsOf K "Room") "shelves"
  n_Room_standing:NoAttr K (clsOf K "Room") "standing"
  n_Room_uses:NoAttr K (clsOf K "Room") "uses"
  x_StairError:mg "StairError" = some (.ref (clsOf K "StairError"))
  x_There:mg "There" = some (.ref (clsOf K "There"))
  x_NotThere:mg "NotThere" = some (.ref (clsOf K "NotThere"))
  x_NoShelf:mg "NoShelf" = some (.ref (clsOf K "NoShelf"))
  x_NoFit:mg "NoFit" = some (.ref (clsOf K "NoFit"))
  x_NoStair:mg "NoStair" = some (.ref (clsOf K "NoStair"))
  x_BadRow:mg "BadRow" = some (.ref (clsOf K "BadRow"))
  o_There:XOk K (clsOf K "StairError") (clsOf K "There") [clsOf K "There",clsOf K "NotThere",clsOf K "NoShelf"] [clsOf K "NoFit",clsOf K "NoStair",clsOf K "BadRow"]
  o_NotThere:XOk K (clsOf K "StairError") (clsOf K "NotThere") [clsOf K "There",clsOf K "NotThere",clsOf K "NoShelf"] [clsOf K "NoFit",clsOf K "NoStair",clsOf K "BadRow"]
  o_NoShelf:XOk K (clsOf K "StairError") (clsOf K "NoShelf") [clsOf K "There",clsOf K "NotThere",clsOf K "NoShelf"] [clsOf K "NoFit",clsOf K "NoStair",clsOf K "BadRow"]
structure BoxAt (H:Hp) (b:Addr) (a q c:Int):Prop where
  at':H b=some (.lst [.int a,.int q,.int c])
  a0:0≤a
  q0:0≤q
  q1:q<2147483647
  c0:0≤c
theorem BoxAt.sb {H H':Hp} {b x:Addr} {a q c:Int} (B:BoxAt H b a q c) (s:SB x H H') (n:b≠x):BoxAt H' b a q c:=⟨s _ _ n B.at',B.a0,B.q0,B.q1,B.c0⟩
theorem BoxAt.same {H H':Hp} {b:Addr} {a q c:Int} (B:BoxAt H b a q c) (s:Same H H'):BoxAt H' b a q c:=⟨s _ _ B.at',B.a0,B.q0,B.q1,B.c0⟩
def spTake:Sp:=fun vs H Q _=>∃ (b:Addr) (a q c n:Int),vs=[.ref b,.int n]∧BoxAt H b a q c∧c<1099511627776∧0<n∧n<1073741824 ∧
  ∀ (r a' c':Int) (H':Hp),0≤r→r<n→BoxAt H' b a' q c'→c'≤c+1→SB b H H'→Q (.int r) H'
section
variable {P:Program} {w:World} {K:PySem.W.Frag} {mg:Str→Option Value} {base:Heap}
theorem em0 (a:Int) {b:Int} (h:0<b):0≤a % b:=Int.emod_nonneg a (by omega)
theorem em1 (a:Int) {b:Int} (h:0<b):a % b<b:=Int.emod_lt_of_pos a h
theorem ok_take {f:Addr} {fd:FuncData} (F:Fun K "_law_take" "_law_take" s_take f fd) (T:Txt K mg):FnOk P w K mg base CX0 1 f fd P_take spTake:=by
  refine F.ok sc_take (fun vs H Q E h=>?_) (fun cdv A outer s H vs Q E hr h=>?_)
  · obtain ⟨b,a,q,c,n,rfl,_⟩:=h
    rfl
  obtain ⟨b,a,q,c,n,rfl,B,hc,hn0,hn1,k⟩:=h
  have nd:=sc_take.nd
  refine ⟨_,(pss_cons (ps_if (pt_cmpR op_gt (pe_ix (ix_listK (K:=K) rfl) (pv 0) pe_int (fun _ _=>rfl)) pe_int (nomark _)) (pss_cons (ps_asg (pe_callBN call_divmod rfl T.z_divmod boot_divmod (pc (pe_ix (ix_listK (K:=K) rfl) (pv 0) pe_int (fun _ _=>rfl)) (pc (pv 1) pa_nil))) (pg_tupK (K:=K) (n:=2) rfl rfl (pgs_cons (pg_sub (pv 0) pe_int set_list) (pgs_cons (pgn 2 nd) pgs_nil))))
      (pss_one (ps_ret (pv 2)))) pss_nil)
      (pss_cons (ps_asg (pe_op op_add (pe_ix (ix_listK (K:=K) rfl) (pv 0) pe_int (fun _ _=>rfl)) pe_int) (pg_sub (pv 0) pe_int set_list))
      (pss_cons (pst 3 nd (pe_op op_add pe_int (pe_op op_mul (pe_ix (ix_listK (K:=K) rfl) (pv 0) pe_int (fun _ _=>rfl)) (pe_ix (ix_listK (K:=K) rfl) (pv 0) pe_int (fun _ _=>rfl)))))
      (pss_cons (pst 4 nd (pe_op op_mod (pe_op op_mul (pe_op op_add (pe_ix (ix_listK (K:=K) rfl) (pv 0) pe_int (fun _ _=>rfl)) (pe_op op_mul pe_int (pe_ix (ix_listK (K:=K) rfl) (pv 0) pe_int (fun _ _=>rfl)))) (pv 3)) pe_int))
      (pss_cons (pst 5 nd (pe_op op_mod (pe_op op_add (pe_op op_mul (pv 4) (pe_op op_add (pe_op op_mod (pv 4) pe_int) pe_int)) (pe_ix (ix_listK (K:=K) rfl) (pv 0) pe_int (fun _ _=>rfl))) pe_int))
      (pss_one (ps_ret (pe_op op_mod (pe_op op_fdiv (pe_op op_mod (pe_op op_mul (pv 5) (pe_op op_add (pe_op op_mod (pv 5) pe_int) pe_int)) pe_int) pe_int) (pv 1))))))))),?_⟩
  have hb:=B.at'
  have hc0:=B.c0
  have hq0:=B.q0
  have hq1:=B.q1
  refine ⟨_,rfl,b,_,_,_,rfl,rfl,SqL.of hb,atI0,_,_,rfl,rfl,_,rfl,?_⟩
  refine ite_dec (fun ha=>?_) (fun ha=>?_)
  · refine ⟨_,rfl,b,_,_,_,rfl,rfl,SqL.of hb,atI0,_,rfl,_,_,rfl,⟨hn0,hn1⟩,fun p hp=>?_⟩
    have hbp:upd H p (.tup [.int (a / n),.int (a % n)]) b=some (.lst [.int a,.int q,.int c]):=by rw [upd_ne (ne_of_none hb hp)]; exact hb
    refine ⟨p,_,rfl,SqT.of upd_same,rfl,_,_,rfl,⟨_,rfl,b,_,_,0,rfl,rfl,hbp,rfl,?_⟩⟩
    refine ⟨_,_,rfl,rfl,_,rfl,?_⟩
    exact k _ (a / n) c _ (em0 _ hn0) (em1 _ hn0) ⟨upd_same,Int.ediv_nonneg B.a0 (by omega),hq0,hq1,hc0⟩ (by omega) ((same_upd hp _).sb b |>.trans (sb_upd b _ _))
  · refine ⟨_,rfl,b,_,_,_,rfl,rfl,SqL.of hb,atI2,_,_,rfl,rfl,_,rfl,b,_,_,2,rfl,rfl,hb,rfl,?_⟩
    have hb1:upd H b (.lst [.int a,.int q,.int (c+1)]) b=some (.lst [.int a,.int q,.int (c+1)]):=upd_same
    have i0:SqL K (upd H b (.lst [.int a,.int q,.int (c+1)])) b [.int a,.int q,.int (c+1)]:=SqL.of hb1
    refine ⟨_,rfl,b,_,_,_,rfl,rfl,i0,atI2,_,rfl,b,_,_,_,rfl,rfl,i0,atI2,_,_,rfl,rfl,.inl ⟨by omega,by omega⟩,_,_,rfl,rfl,?_⟩
    refine ⟨_,rfl,b,_,_,_,rfl,rfl,i0,atI1,_,rfl,b,_,_,_,rfl,rfl,i0,atI2,_,_,rfl,rfl,.inl ⟨by decide,by decide⟩,_,_,rfl,rfl,_,rfl,_,_,rfl,rfl,.inl ⟨by omega,by omega⟩,_,_,rfl,rfl,(by show (0:Int)<_; decide),?_⟩
    generalize hon:(q+39373 * (c+1)) * (69621+(c+1) * (c+1)) % 2147483587=on
    have on0:0≤on:=by rw [← hon]; exact em0 _ (by decide)
    have on1:on<2147483587:=by rw [← hon]; exact em1 _ (by decide)
    refine ⟨_,rfl,_,rfl,_,_,rfl,rfl,(by show (0:Int)<_; decide),_,_,rfl,rfl,_,_,rfl,rfl,.inl ⟨by omega,by omega⟩,_,rfl,b,_,_,_,rfl,rfl,i0,atI2,_,_,rfl,rfl,_,_,rfl,rfl,(by show (0:Int)<_; decide),?_⟩
    generalize htw:(on * (on % 30011+5)+(c+1)) % 2147483563=tw
    have tw0:0≤tw:=by rw [← htw]; exact em0 _ (by decide)
    have tw1:tw<2147483563:=by rw [← htw]; exact em1 _ (by decide)
    refine ⟨_,rfl,_,rfl,_,_,rfl,rfl,(by show (0:Int)<_; decide),_,_,rfl,rfl,_,_,rfl,rfl,.inl ⟨by omega,by omega⟩,_,_,rfl,rfl,(by show (0:Int)<_; decide),_,_,rfl,rfl,⟨by decide,by decide⟩,_,rfl,_,_,rfl,rfl,hn0,?_⟩
    exact k _ a (c+1) _ (em0 _ hn0) (em1 _ hn0) ⟨hb1,B.a0,hq0,hq1,by omega⟩ (by omega) (sb_upd b _ _)
end
section
variable {P:Program} {w:World} {K:PySem.W.Frag} {mg:Str→Option Value} {base:Heap}
def spBox (K:PySem.W.Frag):Sp:=fun vs H Q _=>∃ (l:Addr) (ns:List Int) (k:Int),vs=[.ref l,.int k]∧SqL K H l (ns.map V.int)∧0≤k∧k<1000000 ∧
  ∀ (r:Addr) (a q:Int) (H':Hp),H r=none→Same H H'→BoxAt H' r a q 0→Q (.ref r) H'
theorem ite01 (b:Bool) : -(2 ^ 64)<(if b then 1 else 0:Int)∧(if b then 1 else 0:Int)<2 ^ 64:=by cases b <;> decide
theorem atI_ints {ns:List Int} {k:Int} (h0:0≤k) (h:k<(ns.length:Int)):∃ v:Int,atI (ns.map V.int) k=some (.int v):=by
  have hk:k.toNat<ns.length:=by omega
  have q:atI (ns.map V.int) ((k.toNat:Nat):Int)=some (.int ns[k.toNat]):=atI_nat (by rw [List.getElem?_map,List.getElem?_eq_getElem hk] <;> rfl)
  rw [show ((k.toNat:Nat):Int)=k by omega] at q
  exact ⟨_,q⟩
theorem abs_nn (i:Int):0≤(if i<0 then -i else i):=by split <;> omega
theorem abs_mul (i:Int) (b:Bool):0≤(if i<0 then -i else i) * (if b then 1 else 0:Int):=Int.mul_nonneg (abs_nn i) (by cases b <;> decide)
theorem ok_box {f:Addr} {fd:FuncData} (F:Fun K "_law_box" "_law_box" s_box f fd) (T:Txt K mg):FnOk P w K mg base CX0 1 f fd P_box (spBox K):=by
  refine F.ok sc_box (fun vs H Q E h=>?_) (fun cdv A outer s H vs Q E hr h=>?_)
  · obtain ⟨l,ns,k,rfl,_⟩:=h
    rfl
  obtain ⟨l,ns,k,rfl,hS,hk0,hk1,kk⟩:=h
  have nd:=sc_box.nd
  refine ⟨_,(pss_cons (pst 2 nd (pe_ifExp (pt_cmpR op_lt (pv 1) (pe_callBN (call_len_seqK (K:=K) rfl) rfl T.z_len PySem.boot_len (pc (pv 0) pa_nil)) (nomark _)) (pe_ix (ix_listK (K:=K) rfl) (pv 0) (pv 1) (fun _ _=>rfl)) pe_int))
      (pss_one (ps_ret (pe_lst (pc (pe_op op_mul (pe_callBN call_abs rfl T.z_abs boot_abs (pc (pv 2) pa_nil)) (pe_callTyN call_int1 rfl T.z_int boot_intT (pc (pe_cmpR op_ge (pe_callBN call_abs rfl T.z_abs boot_abs (pc (pv 2) pa_nil)) (pe_op op_pow pe_int pe_int) (nomark _)) pa_nil))) (pc (pe_op op_mod (pe_op op_mul (pe_op op_add (pe_op op_add (pe_op op_mod (pv 2) pe_int) (pe_op op_mul pe_int (pv 1))) pe_int) pe_int) pe_int) (pc pe_int pa_nil))))))),?_⟩
  refine ⟨_,rfl,_,rfl,l,_,rfl,.inl hS,_,_,rfl,rfl,_,rfl,?_⟩
  refine ite_dec (fun c=>?_) (fun c=>?_)
  · rw [List.length_map] at c
    obtain ⟨v,hv⟩:=atI_ints hk0 c
    refine ⟨_,rfl,_,rfl,l,_,_,_,rfl,rfl,hS,hv,?_⟩
    refine ⟨_,rfl,_,rfl,_,rfl,_,rfl,_,_,rfl,rfl,⟨by decide,by decide,by decide⟩,_,_,rfl,rfl,.inr ⟨_,rfl,_,_,rfl,rfl,.inr (ite01 _),?_⟩⟩
    refine ⟨_,rfl,_,_,rfl,rfl,(by show (0:Int)<_; decide),_,rfl,_,_,rfl,rfl,.inl ⟨by decide,by decide⟩,_,_,rfl,rfl,_,_,rfl,rfl,_,_,rfl,rfl,.inr ⟨by decide,by decide⟩,_,_,rfl,rfl,(by show (0:Int)<_; decide),(by show 3≤sizeLine; decide),fun r hr=>?_⟩
    exact kk r _ _ _ hr (same_upd hr _) ⟨upd_same,abs_mul _ _,em0 _ (by decide),em1 _ (by decide),Int.le_refl _⟩
  · refine ⟨_,rfl,_,rfl,_,rfl,_,rfl,_,_,rfl,rfl,⟨by decide,by decide,by decide⟩,_,_,rfl,rfl,.inr ⟨_,rfl,_,_,rfl,rfl,.inr (ite01 _),?_⟩⟩
    refine ⟨_,rfl,_,_,rfl,rfl,(by show (0:Int)<_; decide),_,rfl,_,_,rfl,rfl,.inl ⟨by decide,by decide⟩,_,_,rfl,rfl,_,_,rfl,rfl,_,_,rfl,rfl,.inr ⟨by decide,by decide⟩,_,_,rfl,rfl,(by show (0:Int)<_; decide),(by show 3≤sizeLine; decide),fun r hr=>?_⟩
    exact kk r _ _ _ hr (same_upd hr _) ⟨upd_same,abs_mul _ _,em0 _ (by decide),em1 _ (by decide),Int.le_refl _⟩
def spFolded (K:PySem.W.Frag):Sp:=fun vs H Q _=>∃ (a:Addr) (ns:List Int) (n:Nat),vs=[.ref a,.int (n:Int)]∧SqL K H a (ns.map V.int)∧ns.length≤63∧0<n∧n≤63 ∧
  ∀ (r:Addr) (ms:List Int) (H':Hp),H r=none→Same H H'→H' r=some (.lst (ms.map V.int))→ms.length=min n ns.length→Q (.ref r) H'
theorem cut_map (ns:List Int) (lo hi:Option Int):cutV (ns.map V.int) lo hi=((ns.drop (HT.sIx ns.length 0 lo)).take (HT.sIx ns.length ns.length hi - HT.sIx ns.length 0 lo)).map V.int:=by
  unfold cutV
  rw [List.length_map,← List.map_drop,← List.map_take]
theorem set_ints (ms:List Int) (j:Nat) (v:Int):(ms.map V.int).set j (.int v)=(ms.set j v).map V.int:=by rw [List.map_set]
theorem ixN_ok {n:Nat} {i:Int} (h0:0≤i) (h:i<n):ixN n i=some i.toNat:=by unfold ixN; rw [if_pos h0,if_pos h]
theorem ms_get {ms:List Int} {i:Nat} {x:V} (h:(ms.map V.int)[i]?=some x):∃ z,x=V.int z∧i<ms.length:=by
  rw [List.getElem?_map] at h
  cases e:ms[i]? with
  | none=>rw [e] at h; cases h
  | some z=>rw [e] at h; exact ⟨z,(Option.some.inj h).symm,(List.getElem?_eq_some_iff.mp e).1⟩
theorem ok_folded {f:Addr} {fd:FuncData} (F:Fun K "_law_folded" "_law_folded" s_folded f fd) (T:Txt K mg):FnOk P w K mg base CX0 1 f fd P_folded (spFolded K):=by
  refine F.ok sc_folded (fun vs H Q E h=>?_) (fun cdv A outer s H vs Q E hr h=>?_)
  · obtain ⟨a,ns,n,rfl,_⟩:=h
    rfl
  obtain ⟨a,ns,n,rfl,hS,h63,hn0,hn1,k⟩:=h
  have nd:=sc_folded.nd
  refine ⟨_,(pss_cons (pst 2 nd (pe_callTyN (call_list_ofK (K:=K) rfl) rfl T.z_list boot_listT (pc (pe_slice (sl_listK (K:=K) rfl) (pv 0) po_none (po_some (pv 1))) pa_nil)))
      (pss_cons (ps_for PassesOwn.never rfl (pi_enum rfl T.z_enumerate (pc (pe_slice (sl_listK (K:=K) rfl) (pv 0) (po_some (pv 1)) (po_some pe_int)) pa_nil)) (pg_tupK (K:=K) (n:=2) rfl rfl (pgs_cons (pgn 3 nd) (pgs_cons (pgn 4 nd) pgs_nil))) (pss_one (ps_asg (pe_op op_add (pe_ix (ix_listK (K:=K) rfl) (pv 2) (pe_op op_mod (pv 3) (pv 1)) (fun _ _=>rfl)) (pe_op op_mul (pv 4) (pe_op op_add (pv 3) pe_int))) (pg_sub (pv 2) (pe_op op_mod (pv 3) (pv 1)) set_list))))
      (pss_one (ps_ret (pv 2))))),?_⟩
  refine ⟨_,rfl,_,rfl,_,rfl,a,_,rfl,hS,fun p hp=>?_⟩
  have s1:=same_upd hp (.lst (cutV (ns.map V.int) none (some (n:Int))))
  refine ⟨p,_,rfl,.inl (SqL.of upd_same),fun r hr1=>?_⟩
  have s2:=s1.trans (same_upd hr1 (.lst (cutV (ns.map V.int) none (some (n:Int)))))
  have hrH:H r=none:=s1.free hr1
  rw [cut_map] at *
  generalize hms:(ns.drop (HT.sIx ns.length 0 none)).take (HT.sIx ns.length ns.length (some (n:Int)) - HT.sIx ns.length 0 none)=ms at *
  have lms:ms.length=min n ns.length:=by
    rw [← hms,HT.sIx_none,HT.sIx_nat,List.length_take,List.length_drop]; omega
  generalize hH2:upd (upd H p (.lst (ms.map V.int))) r (.lst (ms.map V.int))=H2 at *
  have h2r:H2 r=some (.lst (ms.map V.int)):=by rw [← hH2]; exact upd_same
  refine ⟨_,rfl,_,rfl,_,rfl,_,rfl,a,_,rfl,s2.seq hS,fun t ht=>?_⟩
  rw [cut_map]
  generalize hws:(ns.drop (HT.sIx ns.length 0 (some (n:Int)))).take (HT.sIx ns.length ns.length (some 63) - HT.sIx ns.length 0 (some (n:Int)))=ws
  have lws:0<ws.length→n<ns.length:=fun h=>by
    rw [← hws,List.length_take,List.length_drop,HT.sIx_nat] at h; omega
  have lw63:ws.length≤63:=by rw [← hws,List.length_take,List.length_drop]; omega
  have s3:=s2.trans (same_upd ht (.lst (ws.map V.int)))
  have nrt:r≠t:=ne_of_none h2r ht
  refine ⟨t,rfl,⟨_,SqL.of upd_same⟩,for_enum (K:=K) (a:=t) (xs:=ws.map V.int) (fun i σ H'=>∃ (ms':List Int) (v3 v4:Option V),σ=[some (.ref a),some (.int n),some (.ref r),v3,v4]∧ms'.length=min n ns.length∧H' r=some (.lst (ms'.map V.int))∧H' t=some (.lst (ws.map V.int))∧Same H H')
    ⟨ms,none,none,rfl,lms,by rw [upd_ne nrt]; exact h2r,upd_same,s3⟩ (fun i σ H' _ ⟨_,_,_,_,_,_,q,_⟩=>SqL.of q) ?_ ?_⟩
  · rintro i x u σ H' hi ⟨ms',v3,v4,rfl,lm,h1,h2,s4⟩ hu
    obtain ⟨z,rfl,hlt⟩:=ms_get hi
    have hnl:=lws (by omega)
    have s5:=same_upd hu (.tup [.int (i:Int),.int z])
    refine ⟨u,_,rfl,SqT.of upd_same,rfl,_,_,rfl,_,_,rfl,rfl,?_⟩
    have m0:0≤(i:Int) % (n:Int):=em0 _ (by omega)
    have m1:(i:Int) % (n:Int)<(n:Int):=em1 _ (by omega)
    obtain ⟨v,hv⟩:=atI_ints (ns:=ms') m0 (by omega)
    refine ⟨_,rfl,_,rfl,_,rfl,_,_,rfl,rfl,(by show (0:Int)<_; omega),r,_,_,_,rfl,rfl,SqL.of (s5 _ _ h1),hv,?_⟩
    refine ⟨_,rfl,_,rfl,_,_,rfl,rfl,_,_,rfl,rfl,.inr ⟨by omega,by omega⟩,_,_,rfl,rfl,?_⟩
    refine ⟨_,rfl,_,rfl,_,rfl,_,_,rfl,rfl,(by show (0:Int)<_; omega),r,_,_,((i:Int) % (n:Int)).toNat,rfl,rfl,s5 _ _ h1,ixN_ok m0 (by rw [List.length_map]; omega),?_⟩
    refine ⟨ms'.set ((i:Int) % (n:Int)).toNat (v+z * ((i:Int)+2)),_,_,rfl,by rw [List.length_set]; exact lm,by rw [upd_same,set_ints],?_,?_⟩
    · rw [upd_ne (Ne.symm nrt)]; exact s5 _ _ h2
    · intro b o e
      rw [upd_ne (ne_of_none e hrH)]
      exact s5 _ _ (s4 _ _ e)
  · rintro σ H' ⟨ms',v3,v4,rfl,lm,h1,h2,s4⟩
    exact ⟨_,rfl,k r ms' H' hrH s4 h1 lm⟩
structure BoxesAt (H H':Hp) (r:Addr) (bs:List Addr):Prop where
  at':H' r=some (.lst (bs.map V.ref))
  new:∀ b∈bs,H b=none∧∃ a q,BoxAt H' b a q 0
  nd:bs.Nodup
  off:r∉bs
def spBoxes (K:PySem.W.Frag):Sp:=fun vs H Q _=>∃ (a:Addr) (ns:List Int) (n:Nat),vs=[.ref a,.int (n:Int)]∧SqL K H a (ns.map V.int)∧ns.length≤63∧0<n∧n≤63 ∧
  ∀ (r:Addr) (bs:List Addr) (H':Hp),H r=none→Same H H'→BoxesAt H H' r bs→bs.length≤63→Q (.ref r) H'
theorem ok_boxes {f:Addr} {fd:FuncData} (F:Fun K "_law_boxes" "_law_boxes" s_boxes f fd) (T:Txt K mg) (D_folded:Def P w K mg base "_law_folded" 1 P_folded (spFolded K)) (D_box:Def P w K mg base "_law_box" 1 P_box (spBox K)):FnOk P w K mg base CX0 2 f fd P_boxes (spBoxes K):=by
  refine F.ok sc_boxes (fun vs H Q E h=>?_) (fun cdv A outer s H vs Q E hr h=>?_)
  · obtain ⟨a,ns,n,rfl,_⟩:=h
    rfl
  obtain ⟨a,ns,n,rfl,hS,h63,hn0,hn1,k⟩:=h
  have nd:=sc_boxes.nd
  refine ⟨_,(pss_cons (pst 2 nd (pe_defN D_folded hr.m rfl (pc (pv 0) (pc (pv 1) pa_nil))))
      (pss_one (ps_ret (pe_comp0 (compOk_of (osc:=(defScope s_boxes)) (oN:=N_boxes) (N:=["_law_k", "_law_cells"]) (own:=1) (js:=[2]) (by decide +kernel) rfl rfl) rfl (pi_range1 rfl T.z_range (pc (pe_callBN (call_max2 rfl) rfl T.z_max boot_max (pc pe_int (pc (pe_callBN (call_len_seqK (K:=K) rfl) rfl T.z_len PySem.boot_len (pc (pv 2) pa_nil)) pa_nil))) pa_nil)) (fun _ _ _ _ _ _=>(pgn 0 (show List.Nodup (["_law_k", "_law_cells"]:List Str) by decide +kernel))) (fun _ _ _ _ _ _=>(pe_defN D_box hr.m rfl (pc (pv 1) (pc (pv 0) pa_nil)))))))),?_⟩
  refine ⟨_,rfl,_,rfl,a,ns,n,rfl,hS,h63,hn0,hn1,fun c ms H1 hc s1 hcm lm=>?_⟩
  refine ⟨_,rfl,c,_,rfl,.inl (SqL.of hcm),_,_,rfl,_,rfl,?_⟩
  rw [List.length_map]
  generalize hj:(if ((ms.length:Nat):Int) > 1 then ((ms.length:Nat):Int) else 1)=j
  have j1:j≤63:=by rw [← hj]; split <;> omega
  have j0:1≤j:=by rw [← hj]; split <;> omega
  refine ⟨by omega,by omega,fun l hl=>?_⟩
  have hlH:H l=none:=s1.free hl
  have ncl:c≠l:=ne_of_none hcm hl
  refine comp_range (lo:=0) (n:=j.toNat) (l:=l) (fun i ys σ H'=>∃ (bs:List Addr) (v0:Option V),σ=[v0,some (.ref c)]∧ys=bs.map V.ref∧BoxesAt H H' l bs∧H' c=some (.lst (ms.map V.int))∧Same H H'∧bs.length≤i)
    ⟨[],none,rfl,rfl,⟨upd_same,fun b hb=>(nomatch hb),List.nodup_nil,fun h=>(nomatch h)⟩,by rw [upd_ne ncl]; exact hcm,s1.trans (same_upd hl _),Nat.le_refl _⟩ ?_ ?_
  · rintro i ys σ H' hi hy ⟨bs,v0,rfl,rfl,B,hc',s2,hlen⟩
    refine ⟨_,rfl,_,rfl,c,ms,_,rfl,SqL.of hc',by omega,by omega,fun b a' q' H2 hb s3 Bb=>?_⟩
    have nbl:b≠l:=fun e=>by subst e; rw [B.at'] at hb; cases hb
    have nbs:b∉bs:=fun m=>by
      obtain ⟨_,x,y,Bx⟩:=B.new b m
      rw [Bx.at'] at hb; cases hb
    refine CNx.of (Nat.le_of_lt (small1000 (by omega))) hi hy (s3 _ _ B.at') ⟨bs++[b],_,rfl,by rw [List.map_append]; rfl,⟨by rw [upd_same,List.map_append]; rfl,fun x hx=>?_,?_,?_⟩,?_,?_,by rw [List.length_append,List.length_singleton]; omega⟩
    · rcases List.mem_append.mp hx with m | m
      · obtain ⟨e,u,v,Bx⟩:=B.new x m
        refine ⟨e,u,v,(Bx.same s3).sb (sb_upd l _ _) fun z=>?_⟩
        subst z; exact B.off m
      · have e:x=b:=by simpa using m
        subst e
        exact ⟨s2.free hb,a',q',Bb.sb (sb_upd l _ _) nbl⟩
    · exact List.nodup_append.mpr ⟨B.nd,by simp,fun x hx y hy e=>by
        have ey:y=b:=by simpa using hy
        subst ey; subst e; exact nbs hx⟩
    · intro m
      rcases List.mem_append.mp m with m | m
      · exact B.off m
      · exact nbl (by simpa using m:l=b).symm
    · rw [upd_ne ncl]; exact s3 _ _ hc'
    · intro x o e
      rw [upd_ne (ne_of_none e hlH)]
      exact s3 _ _ (s2 _ _ e)
  · rintro ys σ H' hy ⟨bs,v0,rfl,rfl,B,hc',s2,hlen⟩
    exact k l bs H' hlH s2 B (by omega)
end
theorem hide {t u:TS} {D:Ends} {σ:St} {H:Hp} (h:∀ u',u'=u→tSeq t u' D σ H):tSeq t u D σ H:=h u rfl
theorem cpA {te:TE} {g:TG} {u:TS} {D:Ends} {σ:St} {H:Hp} (Post:V→Hp→Prop) (h1:∀ Q':VK,(∀ v H1,Post v H1→Q' v H1)→te σ H Q') (h2:∀ v H1,Post v H1→g v σ H1 (u D)):tSeq (tAsg te g) u D σ H:=h1 _ h2
theorem cpI {ts u:TS} {D:Ends} {σ:St} {H:Hp} (Post:St→Hp→Prop) (h1:∀ D':Ends,D'.rt=D.rt→(∀ σ1 H1,Post σ1 H1→D'.nx σ1 H1)→ts D' σ H) (h2:∀ σ1 H1,Post σ1 H1→u D σ1 H1):tSeq ts u D σ H:=h1 _ rfl h2
theorem cpIfS {tt:TT} {ta tb:TS} {D:Ends} {σ:St} {H:Hp} (Post:Bool→Hp→Prop) (h1:∀ Q':Bool→Hp→Prop,(∀ v H1,Post v H1→Q' v H1)→tt σ H Q') (h2:∀ c H1,Post c H1→if c=true then ta D σ H1 else tb D σ H1):tIfS tt ta tb D σ H:=h1 _ h2
theorem cpOr {t u:TT} {σ:St} {H:Hp} {Q:Bool→Hp→Prop} (Post:Bool→Hp→Prop) (h1:∀ Q':Bool→Hp→Prop,(∀ v H1,Post v H1→Q' v H1)→t σ H Q') (h2:∀ c H1,Post c H1→if c=true then Q true H1 else u σ H1 Q):tOr t u σ H Q:=h1 _ h2
theorem sb_fresh {b l:Addr} {H G:Hp} {xs:List V} (s:SB b H G) (hb:G b=some (.lst xs)) (hl:G l=none):H l=none:=by
  cases e:H l with
  | none=>rfl
  | some o =>
    by_cases h:l=b
    · rw [h,hb] at hl; cases hl
    · rw [s _ _ h e] at hl; cases hl
theorem at_mem {ns:List Int} {k:Int} (h0:0≤k) (h:k<(ns.length:Int)):∃ v:Int,atI (ns.map V.int) k=some (.int v)∧v∈ns:=by
  have hk:k.toNat<ns.length:=by omega
  have q:atI (ns.map V.int) ((k.toNat:Nat):Int)=some (.int ns[k.toNat]):=atI_nat (by rw [List.getElem?_map,List.getElem?_eq_getElem hk] <;> rfl)
  rw [show ((k.toNat:Nat):Int)=k by omega] at q
  exact ⟨_,q,List.getElem_mem hk⟩
theorem ints_flat (ns:List Int):(ns.map V.int).all flatV=true:=by
  rw [List.all_eq_true]
  intro x hx
  obtain ⟨n,_,rfl⟩:=List.mem_map.mp hx
  rfl
theorem ixN_last {n:Nat} (h:0<n):ixN n (-1)=some (n - 1):=by
  unfold ixN
  rw [if_neg (by decide),if_pos (by omega)]
  congr 1
  omega
theorem mem_set {ns:List Int} {j:Nat} {v x:Int} (h:x∈ns.set j v):x∈ns∨x=v:=by
  rcases List.mem_or_eq_of_mem_set h with h | h
  · exact .inl h
  · exact .inr h
theorem ifF {b:Bool} {A B:Prop} (h:b=false) (hB:B):if b=true then A else B:=by subst h; rw [if_neg Bool.false_ne_true]; exact hB
theorem ifT {b:Bool} {A B:Prop} (h:b=true) (hA:A):if b=true then A else B:=by subst h; rw [if_pos rfl]; exact hA
theorem atI_some {α:Type} {xs:List α} {i:Int} (h0:0≤i) (h1:i<(xs.length:Int)):∃ v,atI xs i=some v∧v∈xs:=by
  have hk:i.toNat<xs.length:=by omega
  have q:atI xs ((i.toNat:Nat):Int)=some xs[i.toNat]:=atI_nat (List.getElem?_eq_getElem hk)
  rw [show ((i.toNat:Nat):Int)=i by omega] at q
  exact ⟨_,q,List.getElem_mem hk⟩
theorem pick01 (x y:Int) (k:Bool):∃ n:Int,atI [V.int x,V.int y] (if k=true then 1 else 0)=some (.int n)∧(n=x∨n=y):=by
  cases k with
  | true=>exact ⟨y,atI1,.inr rfl⟩
  | false=>exact ⟨x,atI0,.inl rfl⟩
theorem pick2 (x y r:Int) (h0:0≤r) (h1:r<2):∃ n:Int,atI [V.int x,V.int y] r=some (.int n)∧(n=x∨n=y):=by
  have h:r=0∨r=1:=by omega
  rcases h with rfl | rfl
  · exact ⟨x,atI0,.inl rfl⟩
  · exact ⟨y,atI1,.inr rfl⟩
theorem pick4s (r:Int) (h0:0≤r) (h1:r<4):∃ n:Int,atI [V.int 1,V.int 1,V.int 12,V.int 24] r=some (.int n)∧(n=1∨n=12∨n=24):=by
  obtain ⟨x,hx,m⟩:=atI_some (xs:=[V.int 1,V.int 1,V.int 12,V.int 24]) h0 (by show r<((4:Nat):Int); omega)
  simp only [List.mem_cons,List.not_mem_nil,or_false] at m
  rcases m with rfl | rfl | rfl | rfl
  · exact ⟨_,hx,.inl rfl⟩
  · exact ⟨_,hx,.inl rfl⟩
  · exact ⟨_,hx,.inr (.inl rfl)⟩
  · exact ⟨_,hx,.inr (.inr rfl)⟩
theorem pick5 (r:Int) (h0:0≤r) (h1:r<5):∃ v,atI [V.int 1,V.int 1,V.int 2,V.int 3,V.int 4] r=some (.int v)∧1≤v∧v≤64:=by
  obtain ⟨x,hx,m⟩:=atI_some (xs:=[V.int 1,V.int 1,V.int 2,V.int 3,V.int 4]) h0 (by show r<((5:Nat):Int); omega)
  simp only [List.mem_cons,List.not_mem_nil,or_false] at m
  rcases m with rfl | rfl | rfl | rfl | rfl <;> exact ⟨_,hx,by decide,by decide⟩
def Rule (z:Str):Prop:=z = "old" ∨ z = "come" ∨ z = "few"
theorem pickR (r:Int) (h0:0≤r) (h1:r<3):∃ z:Str,atI [V.str "old",V.str "come",V.str "few"] r=some (.str z)∧Rule z:=by
  obtain ⟨x,hx,m⟩:=atI_some (xs:=[V.str "old",V.str "come",V.str "few"]) h0 (by show r<((3:Nat):Int); omega)
  simp only [List.mem_cons,List.not_mem_nil,or_false] at m
  rcases m with rfl | rfl | rfl
  · exact ⟨_,hx,.inl rfl⟩
  · exact ⟨_,hx,.inr (.inl rfl)⟩
  · exact ⟨_,hx,.inr (.inr rfl)⟩
theorem top_facts {s:Int} (h0:1≤s) (h1:s≤16):555≤9999 / s∧9999 / s≤9999∧1≤(if 10000 / s - 480 > 1 then 10000 / s - 480 else 1)∧(if 10000 / s - 480 > 1 then 10000 / s - 480 else 1)+455≤9999 / s:=by
  have key:∀ n:Fin 17,1≤(n.val:Int)→(555≤9999 / (n.val:Int)∧9999 / (n.val:Int)≤9999∧1≤(if 10000 / (n.val:Int) - 480 > 1 then 10000 / (n.val:Int) - 480 else 1)∧(if 10000 / (n.val:Int) - 480 > 1 then 10000 / (n.val:Int) - 480 else 1)+455≤9999 / (n.val:Int)):=by decide +kernel
  have e:((⟨s.toNat,by omega⟩:Fin 17).val:Int)=s:=by show ((s.toNat:Nat):Int)=s; omega
  have q:=key ⟨s.toNat,by omega⟩ (by rw [e]; exact h0)
  rw [e] at q
  exact q
def Bds (t:Int) (ns:List Int):Prop:=∀ n∈ns,0≤n∧n≤t
section
variable {P:Program} {w:World} {K:PySem.W.Frag} {mg:Str→Option Value} {base:Heap}
def spBoards:Sp:=fun vs H Q _=>∃ (b:Addr) (a q c s:Int),vs=[.ref b,.int s]∧BoxAt H b a q c∧c<500000000∧1≤s∧s≤16 ∧
  ∀ (l:Addr) (ns:List Int) (a' c':Int) (H':Hp),H l=none→H' l=some (.lst (ns.map V.int))→3≤ns.length→ns.length≤20→Bds (9999 / s) ns→BoxAt H' b a' q c'→c'≤c+40→SB b H H'→Q (.ref l) H'
theorem ok_some_boards {f:Addr} {fd:FuncData} (F:Fun K "_law_some_boards" "_law_some_boards" s_some_boards f fd) (T:Txt K mg) (D_take:Def P w K mg base "_law_take" 1 P_take spTake):FnOk P w K mg base CX0 2 f fd P_some_boards spBoards:=by
  refine F.ok sc_some_boards (fun vs H Q E h=>?_) (fun cdv A outer st H vs Q E hr h=>?_)
  · obtain ⟨b,a,q,c,s,rfl,_⟩:=h
    rfl
  obtain ⟨b,a,q,c,s,rfl,B,hc,hs0,hs1,k⟩:=h
  have nd:=sc_some_boards.nd
  obtain ⟨top0,top1,m0,m1⟩:=top_facts hs0 hs1
  refine ⟨_,(pss_cons (pst 2 nd (pe_op op_add pe_int (pe_defN D_take hr.m rfl (pc (pv 0) (pc (pe_ix (ix_listK (K:=K) rfl) (pe_lst (pc pe_int (pc pe_int pa_nil))) (pe_callTyN call_int1 rfl T.z_int boot_intT (pc (pe_cmpR op_eq (pe_defN D_take hr.m rfl (pc (pv 0) (pc pe_int pa_nil))) pe_int (nomark _)) pa_nil)) (fun _ _=>rfl)) pa_nil)))))
      (pss_cons (ps_asg (pe_tup (pc (pe_defN D_take hr.m rfl (pc (pv 0) (pc pe_int pa_nil))) (pc (pe_defN D_take hr.m rfl (pc (pv 0) (pc pe_int pa_nil))) pa_nil))) (pg_tupK (K:=K) (n:=2) rfl rfl (pgs_cons (pgn 3 nd) (pgs_cons (pgn 4 nd) pgs_nil))))
      (pss_cons (pst 5 nd (pe_ifExp (pt_cmpR op_lt (pv 4) pe_int (nomark _)) (pv 4) (pe_defN D_take hr.m rfl (pc (pv 0) (pc (pe_ix (ix_listK (K:=K) rfl) (pe_lst (pc pe_int (pc (pe_callBN (call_max2 rfl) rfl T.z_max boot_max (pc pe_int (pc (pe_op op_sub (pe_op op_fdiv pe_int (pv 1)) pe_int) pa_nil))) pa_nil))) (pe_op op_sub (pv 4) pe_int) (fun _ _=>rfl)) pa_nil)))))
      (pss_cons (ps_comp0 6 (compOk_of (osc:=(defScope s_some_boards)) (oN:=N_some_boards) (N:=["_law_k", "_law_first", "_law_way"]) (own:=1) (js:=[5,3]) (by decide +kernel) rfl rfl) rfl nd rfl rfl (pi_range1 rfl T.z_range (pc (pv 2) pa_nil)) (fun _ _ _ _ _ _=>(pgn 0 (show List.Nodup (["_law_k", "_law_first", "_law_way"]:List Str) by decide +kernel))) (fun _ _ _ _ _ _=>(pe_op op_add (pv 1) (pe_op op_mul (pe_ix (ix_listK (K:=K) rfl) (pe_lst (pc pe_int (pc pe_int (pc pe_int (pc pe_int pa_nil))))) (pv 2) (fun _ _=>rfl)) (pv 0)))))
      (pss_cons (pst 7 nd (pe_ifExp (pt_cmpR op_eq (pe_defN D_take hr.m rfl (pc (pv 0) (pc pe_int pa_nil))) pe_int (nomark _)) (pe_op op_fdiv pe_int (pv 1)) (pe_defN D_take hr.m rfl (pc (pv 0) (pc (pe_op op_add pe_int (pe_op op_fdiv pe_int (pv 1))) pa_nil)))))
      (pss_cons (ps_if (PW.pt (pw_or (PW.pt (pw_and (pt_cmpR op_eq (pv 3) pe_int (nomark _)) (pw_and1 (pt_cmpR (op_notIn_seqK (K:=K) rfl) (pv 7) (pv 6) rfl)))) (pw_or1 (PW.pt (pw_and (pt_cmpR op_eq (pv 7) (pe_op op_fdiv pe_int (pv 1)) (nomark _)) (pw_and1 (pt_cmpR (op_notIn_seqK (K:=K) rfl) (pv 7) (pv 6) rfl))))))) (pss_one (ps_asg (pv 7) (pg_sub (pv 6) (pe_un un_neg pe_int) set_list))) pss_nil)
      (pss_cons (ps_for PassesOwn.never rfl (pi_range1 rfl T.z_range (pc (pe_op op_sub (pv 2) pe_int) pa_nil)) (pgn 8 nd) (pss_cons (pst 9 nd (pe_op op_add (pv 8) (pe_defN D_take hr.m rfl (pc (pv 0) (pc (pe_op op_sub (pv 2) (pv 8)) pa_nil)))))
      (pss_one (ps_asg (pe_tup (pc (pe_ix (ix_listK (K:=K) rfl) (pv 6) (pv 9) (fun _ _=>rfl)) (pc (pe_ix (ix_listK (K:=K) rfl) (pv 6) (pv 8) (fun _ _=>rfl)) pa_nil))) (pg_tupK (K:=K) (n:=2) rfl rfl (pgs_cons (pg_sub (pv 6) (pv 8) set_list) (pgs_cons (pg_sub (pv 6) (pv 9) set_list) pgs_nil)))))))
      (pss_one (ps_ret (pv 6)))))))))),?_⟩
  generalize hm:(if 10000 / s - 480 > 1 then 10000 / s - 480 else 1)=m at m0 m1
  generalize ht:(9999:Int) / s=top at *
  refine hide fun uu ee=>?_
  refine ⟨_,rfl,(by show 2≤sizeLine; decide),fun p1 hp1=>⟨_,rfl,b,a,q,c,6,rfl,B.same (same_upd hp1 _),by omega,by decide,by decide,fun r1 a1 c1 H1 r10 r11 B1 hc1 s1=>⟨rfl,.inr ⟨_,rfl,?_⟩⟩⟩⟩
  have q1:b≠p1:=ne_of_none B.at' hp1
  obtain ⟨n,hn,hn'⟩:=pick01 5 18 (decide (V.int r1=V.int 0))
  refine ⟨p1,_,_,_,rfl,rfl,SqL.of (s1 _ _ (Ne.symm q1) upd_same),hn,b,a1,q,c1,n,rfl,B1,by omega,by omega,by omega,fun r2 a2 c2 H2 r20 r21 B2 hc2 s2=>⟨_,_,rfl,rfl,?_⟩⟩
  have mn0:3≤3+r2:=by omega
  have mn1:3+r2≤20:=by omega
  have u2:SB b H H2:=(((same_upd hp1 _).sb b).trans s1).trans s2
  dsimp only [gName]
  subst ee
  try dsimp only
  refine hide fun uu ee=>?_
  refine ⟨_,rfl,b,a2,q,c2,4,rfl,B2,by omega,by decide,by decide,fun r3 a3 c3 H3 r30 r31 B3 hc3 s3=>?_⟩
  refine ⟨_,rfl,b,a3,q,c3,4,rfl,B3,by omega,by decide,by decide,fun r4 a4 c4 H4' r40 r41 B4' hc4 s4=>⟨(by show 2≤sizeLine; decide),fun p4 hp4=>⟨p4,_,rfl,SqT.of upd_same,rfl,_,_,rfl,_,_,rfl,rfl,?_⟩⟩⟩
  have B4:=B4'.same (same_upd hp4 (.tup [.int r3,.int r4]))
  have u4:SB b H (upd H4' p4 (.tup [.int r3,.int r4])):=((u2.trans s3).trans s4).trans ((same_upd hp4 _).sb b)
  generalize upd H4' p4 (.tup [.int r3,.int r4])=H4 at *
  subst ee
  try dsimp only
  refine cpA (fun v G=>∃ z a' c',v=.int z∧0≤z∧z+456≤top∧BoxAt G b a' q c'∧c'≤c4+1∧SB b H G) (fun Q' k'=>?_) ?_
  · refine ⟨_,rfl,_,_,rfl,rfl,_,rfl,ite_dec (fun c2'=>⟨_,rfl,k' _ _ ⟨_,a4,c4,rfl,r40,by omega,B4,by omega,u4⟩⟩) (fun c2'=>?_)⟩
    refine ⟨_,rfl,_,rfl,_,_,rfl,rfl,⟨by omega,by omega⟩,_,_,rfl,rfl,_,_,rfl,(by show 2≤sizeLine; decide),fun p2 hp2=>?_⟩
    have q2:b≠p2:=ne_of_none B4.at' hp2
    rw [hm]
    obtain ⟨n2,hn2,hn2'⟩:=pick2 100 m (r4 - 2) (by omega) (by omega)
    refine ⟨_,rfl,_,_,rfl,rfl,p2,_,_,_,rfl,rfl,SqL.of upd_same,hn2,b,a4,q,c4,n2,rfl,B4.same (same_upd hp2 _),by omega,by omega,by omega,fun r5 a5 c5 H5 r50 r51 B5 hc5 s5=>?_⟩
    exact k' _ _ ⟨r5,a5,c5,rfl,r50,by omega,B5,by omega,u4.trans (((same_upd hp2 _).sb b).trans s5)⟩
  rintro _ H5 ⟨z,a5,c5,rfl,z0,z1,B5,hc5,u5⟩
  dsimp only [gName]
  refine hide fun uu ee=>?_
  refine ⟨_,rfl,_,rfl,by omega,by omega,fun l hl=>?_⟩
  have hlH:H l=none:=sb_fresh u5 B5.at' hl
  have nlb:l≠b:=Ne.symm (ne_of_none B5.at' hl)
  have hmn:(3+r2).toNat≤20:=by omega
  refine comp_range (lo:=0) (n:=(3+r2).toNat) (l:=l) (fun j ys σ G=>∃ (v0:Option V) (ns:List Int),σ=[v0,some (.int z),some (.int r3)]∧ys=ns.map V.int∧ns.length=j∧Bds top ns∧G l=some (.lst ys)∧Same H5 G)
    ⟨none,[],rfl,rfl,rfl,fun n hn=>(nomatch hn),upd_same,same_upd hl _⟩ ?_ ?_
  · rintro j ys σ G hj hy ⟨v0,ns,rfl,rfl,hj',hb',h1,h2⟩
    refine ⟨_,rfl,(by show 4≤sizeLine; decide),fun p hp=>?_⟩
    obtain ⟨n4,hn4,hn4'⟩:=pick4s r3 r30 r31
    have np:l≠p:=ne_of_none h1 hp
    have j20:(j:Int)≤19:=by omega
    refine ⟨_,rfl,p,_,_,_,rfl,rfl,SqL.of upd_same,hn4,_,rfl,_,_,rfl,rfl,.inl ⟨by omega,by omega⟩,_,_,rfl,rfl,CNx.of (Nat.le_trans hmn (by decide)) hj hy (by rw [upd_ne np]; exact h1) ⟨_,ns++[z+n4 * (0+(j:Int))],rfl,by rw [List.map_append]; rfl,by rw [List.length_append,hj']; rfl,fun x hx=>?_,upd_same,fun e o y=>?_⟩⟩
    · rcases List.mem_append.mp hx with h | h
      · exact hb' x h
      · have ex:x=z+n4 * (0+(j:Int)):=by simpa using h
        subst ex
        rcases hn4' with rfl | rfl | rfl
        · exact ⟨by omega,by omega⟩
        · exact ⟨by omega,by omega⟩
        · exact ⟨by omega,by omega⟩
    · rw [upd_ne (ne_of_none y hl)]
      exact same_upd hp _ _ _ (h2 _ _ y)
  rintro ys σ G hy ⟨v0,ns,rfl,rfl,hj',hb',h1,h2⟩
  have B6:=B5.same h2
  have u6:SB b H G:=u5.trans (h2.sb b)
  have ln3:3≤ns.length:=by omega
  have ln20:ns.length≤20:=by omega
  dsimp only [gName]
  subst ee
  try dsimp only
  refine cpA (fun v G'=>∃ z a' c',v=.int z∧0≤z∧z≤top∧BoxAt G' b a' q c'∧c'≤c5+2∧SB b G G') (fun Q' k'=>?_) ?_
  · refine ⟨_,rfl,b,a5,q,c5,5,rfl,B6,by omega,by decide,by decide,fun r7 a7 c7 H7 r70 r71 B7 hc7 s7=>⟨rfl,_,rfl,ite_dec (fun _=>?_) (fun _=>?_)⟩⟩
    · refine ⟨_,rfl,_,_,rfl,rfl,⟨by omega,by omega⟩,?_⟩
      exact k' _ _ ⟨_,a7,c7,rfl,by rw [ht]; omega,by rw [ht]; omega,B7,by omega,s7⟩
    · refine ⟨_,rfl,_,rfl,_,_,rfl,rfl,⟨by omega,by omega⟩,_,_,rfl,rfl,b,a7,q,c7,_,rfl,B7,by omega,by rw [ht]; omega,by rw [ht]; omega,fun r8 a8 c8 H8 r80 r81 B8 hc8 s8=>?_⟩
      exact k' _ _ ⟨_,a8,c8,rfl,r80,by rw [ht] at r81; omega,B8,by omega,s7.trans s8⟩
  rintro _ H7 ⟨fr,a7,c7,rfl,fr0,fr1,B7,hc7,s7⟩
  have h7:=s7 _ _ nlb h1
  have u7:SB b H H7:=u6.trans s7
  refine cpI (fun σ G'=>∃ ns':List Int,σ=[some (.ref b),some (.int s),some (.int (3+r2)),some (.int r3),some (.int r4),some (.int z),some (.ref l),some (.int fr),none,none]∧G' l=some (.lst (ns'.map V.int))∧ns'.length=ns.length∧Bds top ns'∧BoxAt G' b a7 q c7∧SB b H G') (fun D' _ k'=>?_) ?_
  · refine cpIfS (fun _ G'=>G'=H7) (fun Q' k''=>?_) ?_
    · refine cpOr (fun _ G'=>G'=H7) (fun Q'' k3=>?_) ?_
      · exact ⟨_,rfl,rfl,_,rfl,ite_dec (fun _=>⟨_,rfl,_,rfl,l,_,rfl,.inl (SqL.of h7),rfl,ints_flat _,_,rfl,k3 _ _ rfl⟩) (fun _=>k3 _ _ rfl)⟩
      · rintro cb _ rfl
        cases cb with
        | true=>exact ifT rfl (k'' _ _ rfl)
        | false=>exact ifF rfl ⟨_,rfl,_,rfl,_,_,rfl,rfl,⟨by omega,by omega⟩,rfl,_,rfl,ite_dec (fun _=>⟨_,rfl,_,rfl,l,_,rfl,.inl (SqL.of h7),rfl,ints_flat _,_,rfl,k'' _ _ rfl⟩) (fun _=>k'' _ _ rfl)⟩
    · rintro cb _ rfl
      cases cb with
      | false=>exact ifF rfl (k' _ _ ⟨ns,rfl,h7,rfl,hb',B7,u7⟩)
      | true =>
        refine ifT rfl ⟨_,rfl,_,rfl,_,rfl,l,_,_,_,rfl,rfl,h7,ixN_last (by rw [List.length_map]; omega),k' _ _ ⟨ns.set (ns.length - 1) fr,rfl,?_,List.length_set,fun x hx=>?_,B7.sb (sb_upd l _ _) (Ne.symm nlb),fun e o n' y=>?_⟩⟩
        · rw [upd_same,List.length_map,set_ints]
        · rcases mem_set hx with h | h
          · exact hb' x h
          · subst h; exact ⟨fr0,fr1⟩
        · rw [upd_ne (ne_of_none y hlH)]; exact u7 _ _ n' y
  rintro _ H8 ⟨ns8,rfl,h8,l8,b8,B8,u8⟩
  refine ⟨_,rfl,_,_,rfl,rfl,_,rfl,by omega,by omega,for_range (lo:=0) (n:=(3+r2 - 1).toNat) (fun j σ G'=>∃ (ns':List Int) (v8 v9:Option V) (a' c':Int),σ=[some (.ref b),some (.int s),some (.int (3+r2)),some (.int r3),some (.int r4),some (.int z),some (.ref l),some (.int fr),v8,v9]∧G' l=some (.lst (ns'.map V.int))∧ns'.length=ns.length∧Bds top ns'∧BoxAt G' b a' q c'∧c'≤c7+(j:Int)∧SB b H G')
    ⟨ns8,_,_,a7,c7,rfl,h8,l8,b8,B8,by omega,u8⟩ ?_ ?_⟩
  · rintro j σ G' hj ⟨ns',v8,v9,a',c',rfl,h1',l',b',B',hc',u'⟩
    have j20:(j:Int)≤18:=by omega
    have jl:(j:Int)+1<3+r2:=by omega
    refine ⟨_,rfl,_,rfl,_,rfl,_,rfl,_,_,rfl,rfl,b,a',q,c',_,rfl,B',by omega,by omega,by omega,fun r9 a9 c9 H9 r90 r91 B9 hc9 s9=>⟨_,_,rfl,rfl,?_⟩⟩
    have h9:=s9 _ _ nlb h1'
    obtain ⟨x1,hx1,mx1⟩:=at_mem (ns:=ns') (k:=0+(j:Int)+r9) (by omega) (by omega)
    obtain ⟨x2,hx2,mx2⟩:=at_mem (ns:=ns') (k:=0+(j:Int)) (by omega) (by omega)
    refine ⟨_,rfl,_,rfl,l,_,_,_,rfl,rfl,SqL.of h9,hx1,_,rfl,_,rfl,l,_,_,_,rfl,rfl,SqL.of h9,hx2,(by show 2≤sizeLine; decide),fun t ht'=>?_⟩
    have nlt:l≠t:=ne_of_none h9 ht'
    refine ⟨t,_,rfl,SqT.of upd_same,rfl,_,_,rfl,_,rfl,_,rfl,l,_,_,_,rfl,rfl,(by rw [upd_ne nlt]; exact h9),ixN_ok (by omega) (by rw [List.length_map]; omega),?_⟩
    refine ⟨_,_,rfl,_,rfl,_,rfl,l,_,_,_,rfl,rfl,upd_same,ixN_ok (by omega) (by rw [List.length_set,List.length_map]; omega),rfl,?_⟩
    refine ⟨(ns'.set (0+(j:Int)).toNat x1).set (0+(j:Int)+r9).toNat x2,_,_,a9,c9,rfl,by rw [upd_same,set_ints,set_ints],by rw [List.length_set,List.length_set]; exact l',fun x hx=>?_,?_,by omega,fun e o n' y=>?_⟩
    · rcases mem_set hx with h | h
      · rcases mem_set h with h | h
        · exact b' x h
        · subst h; exact b' _ mx1
      · subst h; exact b' _ mx2
    · exact ((B9.same (same_upd ht' _)).sb (sb_upd l _ _) (Ne.symm nlb)).sb (sb_upd l _ _) (Ne.symm nlb)
    · have ne:e≠l:=ne_of_none y hlH
      rw [upd_ne ne,upd_ne ne]
      exact same_upd ht' _ _ _ (s9 _ _ n' (u' _ _ n' y))
  · rintro σ G' ⟨ns',v8,v9,a',c',rfl,h1',l',b',B',hc',u'⟩
    exact ⟨_,rfl,k l ns' a' c' G' hlH h1' (by omega) (by omega) b' B' (by omega) u'⟩
end
def optV:Option Int→V
  | none=>.non
  | some g=>.int g
theorem gN {i:Nat} {v:V} {σ:St} {H:Hp} {Q:St→Hp→Prop} (h:Q (σ.set i (some v)) H):gName i v σ H Q:=h
theorem ite_dec' {b:Bool} {A B:Prop} (h1:b=true→A) (h2:¬ b=true→B):if b=true then A else B:=by
  by_cases h:b=true
  · rw [if_pos h]; exact h1 h
  · rw [if_neg h]; exact h2 h
theorem inV_int (z:Int) (ns:List Int):inV (.int z) (ns.map V.int)=decide (z∈ns):=by
  unfold inV
  rw [List.any_map,Bool.eq_iff_iff,List.any_eq_true,decide_eq_true_eq]
  constructor
  · rintro ⟨x,hx,e⟩
    have:x=z:=by simpa [eqV] using e
    rw [← this]; exact hx
  · intro h
    exact ⟨z,h,by simp [eqV]⟩
def tpos:Pos:=(match (defBody s_Room_going).head? with
  | some (.If _ (.Return (some (.Call _ _ (⟨_,.Lambda _ _ _ pos,_⟩ :: _) _)) _ :: _) _ _)=>pos
  | _=>⟨0,0,0,0⟩)
abbrev tqual:Str := "Room.going" ++ ".<locals>." ++ "<lambda>"
def Tb (K:PySem.W.Frag) (H:Hp):Prop:=H (tabOf K "Room" "going")=some (.tbl tpos tqual)
theorem Tb.same {K:PySem.W.Frag} {H H':Hp} (t:Tb K H) (s:Same H H'):Tb K H':=s _ _ t
def shelfS (sh s:Int) (there:List Int):List Int:=there.filter fun o=>decide (o % sh=s)
theorem shelfS_app (sh s b:Int) (there:List Int):shelfS sh s (there++[b])=if b % sh=s then shelfS sh s there++[b] else shelfS sh s there:=by
  unfold shelfS
  rw [List.filter_append]
  by_cases h:b % sh=s
  · rw [if_pos h,List.filter_cons,if_pos (by simpa using h),List.filter_nil]
  · rw [if_neg h,List.filter_cons,if_neg (by simpa using h),List.filter_nil,List.append_nil]
theorem shelfS_erase (sh s g:Int) (there:List Int):shelfS sh s (there.erase g)=(shelfS sh s there).erase g:=by
  unfold shelfS
  rw [List.erase_filter]
theorem mem_shelfS {sh s b:Int} {there:List Int}:b∈shelfS sh s there↔b∈there∧b % sh=s:=by
  unfold shelfS
  rw [List.mem_filter,decide_eq_true_eq]
structure Shl (H:Hp) (ls:Addr) (ads:List Addr) (sh:Int) (there:List Int):Prop where
  top:H ls=some (.lst (ads.map V.ref))
  len:ads.length=sh.toNat
  nd:ads.Nodup
  off:ls∉ads
  at_:∀ (s:Nat) (ad:Addr),ads[s]?=some ad→H ad=some (.lst ((shelfS sh s there).map V.int))
theorem Shl.other {H:Hp} {ls:Addr} {ads:List Addr} {sh:Int} {there:List Int} (h:Shl H ls ads sh there) {a:Addr} (o:HO) (h1:a≠ls) (h2:a∉ads):Shl (upd H a o) ls ads sh there :=
  ⟨by rw [upd_ne (Ne.symm h1)]; exact h.top,h.len,h.nd,h.off,fun i ad e=>by rw [upd_ne (fun z:ad=a=>h2 (z ▸ List.mem_of_getElem? e))]; exact h.at_ i ad e⟩
theorem Shl.put {H:Hp} {ls:Addr} {ads:List Addr} {sh:Int} {there there':List Int} (h:Shl H ls ads sh there) {s0:Nat} {ad:Addr} {ns:List Int} (e0:ads[s0]?=some ad) (hn:shelfS sh s0 there'=ns) (ho:∀ s:Nat,s≠s0→shelfS sh s there'=shelfS sh s there):Shl (upd H ad (.lst (ns.map V.int))) ls ads sh there':=by
  refine ⟨by rw [upd_ne (fun z:ls=ad=>h.off (z ▸ List.mem_of_getElem? e0))]; exact h.top,h.len,h.nd,h.off,fun s a e=>?_⟩
  by_cases hs:s=s0
  · subst hs
    rw [e0] at e
    cases e
    rw [upd_same,hn]
  · have ne:a≠ad:=fun z=>by
      subst z
      exact hs ((List.getElem?_inj (List.getElem?_eq_some_iff.mp e).1 h.nd).mp (e.trans e0.symm))
    rw [upd_ne ne,ho s hs]
    exact h.at_ s a e
theorem Shl.get {H:Hp} {ls:Addr} {ads:List Addr} {sh:Int} {there:List Int} (h:Shl H ls ads sh there) {k:Int} (h0:0≤k) (h1:k<sh):∃ (s:Nat) (ad:Addr),(s:Int)=k∧ads[s]?=some ad∧atI (ads.map V.ref) k=some (.ref ad)∧H ad=some (.lst ((shelfS sh k there).map V.int)):=by
  have hk:k.toNat<ads.length:=by rw [h.len]; omega
  have e:ads[k.toNat]?=some ads[k.toNat]:=List.getElem?_eq_getElem hk
  have ek:((k.toNat:Nat):Int)=k:=by omega
  have q:atI (ads.map V.ref) ((k.toNat:Nat):Int)=some (.ref ads[k.toNat]):=atI_nat (by rw [List.getElem?_map,e]; rfl)
  have q2:=h.at_ _ _ e
  rw [ek] at q q2
  exact ⟨k.toNat,_,ek,e,q,q2⟩
theorem Shl.one {H:Hp} {ls:Addr} {ads:List Addr} {sh:Int} {there:List Int} (h:Shl H ls ads sh there) {ad:Addr} (m:ad∈ads):∃ xs,H ad=some (.lst xs):=by
  obtain ⟨s,e⟩:=List.getElem?_of_mem m
  exact ⟨_,h.at_ s ad e⟩
def flds (sh pl:Int) (ru:Str) (ls du:Addr):List (Str×V):=putF "uses" (.ref du) (putF "standing" (.ref ls) (putF "rule" (.str ru) (putF "places" (.int pl) (putF "shelves" (.int sh) []))))
theorem fl_uses (sh pl:Int) (ru:Str) (ls du:Addr):(flds sh pl ru ls du).lookup ("uses" : Str)=some (.ref du):=by
  unfold flds
  rw [lookup_putF,if_pos rfl]
theorem fl_standing (sh pl:Int) (ru:Str) (ls du:Addr):(flds sh pl ru ls du).lookup ("standing" : Str)=some (.ref ls):=by
  unfold flds
  rw [lookup_putF,if_neg (by decide +kernel),lookup_putF,if_pos rfl]
theorem fl_rule (sh pl:Int) (ru:Str) (ls du:Addr):(flds sh pl ru ls du).lookup ("rule" : Str)=some (.str ru):=by
  unfold flds
  rw [lookup_putF,if_neg (by decide +kernel),lookup_putF,if_neg (by decide +kernel),lookup_putF,if_pos rfl]
theorem fl_places (sh pl:Int) (ru:Str) (ls du:Addr):(flds sh pl ru ls du).lookup ("places" : Str)=some (.int pl):=by
  unfold flds
  rw [lookup_putF,if_neg (by decide +kernel),lookup_putF,if_neg (by decide +kernel),lookup_putF,if_neg (by decide +kernel),lookup_putF,if_pos rfl]
theorem fl_shelves (sh pl:Int) (ru:Str) (ls du:Addr):(flds sh pl ru ls du).lookup ("shelves" : Str)=some (.int sh):=by
  unfold flds
  rw [lookup_putF,if_neg (by decide +kernel),lookup_putF,if_neg (by decide +kernel),lookup_putF,if_neg (by decide +kernel),lookup_putF,if_neg (by decide +kernel),lookup_putF,if_pos rfl]
theorem fl_no (sh pl:Int) (ru:Str) (ls du:Addr) {m:Str} (h1:¬ m = "uses" := by decide +kernel) (h2:¬ m = "standing" := by decide +kernel) (h3:¬ m = "rule" := by decide +kernel) (h4:¬ m = "places" := by decide +kernel) (h5:¬ m = "shelves" := by decide +kernel):(flds sh pl ru ls du).lookup m=none:=by
  unfold flds
  rw [lookup_putF,if_neg h1,lookup_putF,if_neg h2,lookup_putF,if_neg h3,lookup_putF,if_neg h4,lookup_putF,if_neg h5]
  rfl
def KI (kvs:List (Key×V)):Prop:=∃ ks:List Int,kvs.map Prod.fst=ks.map Sum.inl∧ks.Nodup
theorem KI.nil:KI []:=⟨[],rfl,List.nodup_nil⟩
theorem KI.put {kvs:List (Key×V)} (h:KI kvs) (b:Int) (v:V):KI (putK kvs (Sum.inl b) v):=by
  obtain ⟨ks,e,nd⟩:=h
  unfold putK
  split
  · refine ⟨ks,?_,nd⟩
    rw [← e,List.map_map]
    exact List.map_congr_left fun q _=>by
      show (if q.1=Sum.inl b then (q.1,v) else q).1=q.1
      split <;> rfl
  · rename_i c
    refine ⟨ks++[b],by rw [List.map_append,List.map_append,e]; rfl,?_⟩
    rw [List.nodup_append]
    refine ⟨nd,by simp,fun x hx y hy z=>c ?_⟩
    rw [List.mem_singleton.mp hy] at z
    subst z
    have m:(Sum.inl x:Key)∈kvs.map Prod.fst:=by rw [e]; exact List.mem_map_of_mem hx
    obtain ⟨q,hq,eq⟩:=List.mem_map.mp m
    exact List.any_eq_true.mpr ⟨q,hq,by simpa using eq⟩
theorem KI.drop {kvs:List (Key×V)} (h:KI kvs) (b:Int):KI (dropK kvs (Sum.inl b)):=by
  obtain ⟨ks,e,nd⟩:=h
  unfold dropK
  refine ⟨ks.filter fun x=>decide (x≠b),?_,nd.sublist List.filter_sublist⟩
  have l:(kvs.filter fun kv=>decide (kv.1≠Sum.inl b)).map Prod.fst=(kvs.map Prod.fst).filter fun k=>decide (k≠Sum.inl b):=by
    rw [List.filter_map]; rfl
  rw [l,e,List.filter_map]
  congr 1
  refine List.filter_congr fun x _=>?_
  show decide ((Sum.inl x:Key)≠Sum.inl b)=decide (x≠b)
  rw [decide_eq_decide]
  exact ⟨fun z y=>z (by rw [y]),fun z y=>z (Sum.inl.inj y)⟩
theorem val_key {kvs:List (Key×V)} (k:Key):(valV kvs k).isSome=true↔k∈kvs.map Prod.fst:=by
  rw [← valV_any,List.any_eq_true,List.mem_map]
  exact ⟨fun ⟨q,h1,h2⟩=>⟨q,h1,by simpa using h2⟩,fun ⟨q,h1,h2⟩=>⟨q,h1,by simpa using h2⟩⟩
structure RoomAt (K:PySem.W.Frag) (H:Hp) (p:Addr) (sh pl:Int) (ru:Str) (ls:Addr) (ads:List Addr) (du:Addr) (seq:List Int) (us:Int→Int) (n:Nat):Prop where
  ob:∃ dx,H p=some (.ins (clsOf K "Room") dx (flds sh pl ru ls du))
  st:Shl H ls ads sh seq
  dc:∃ kvs,H du=some (.dK kvs)∧(kvs.length≤n∧KI kvs)∧∀ b,valV kvs (Sum.inl b:Key)=if b∈seq then some (.int (us b)) else none
  nd:seq.Nodup
  s0:1≤sh
  s1:sh≤64
def SR (ads:List Addr) (du:Addr) (H H':Hp):Prop:=∀ b o,H b=some o→b≠du→b∉ads→H' b=some o
theorem SR.of {ads:List Addr} {du:Addr} {H H':Hp} (s:Same H H'):SR ads du H H':=fun b o h _ _=>s b o h
theorem SR.trans {ads:List Addr} {du:Addr} {H H1 H2:Hp} (a:SR ads du H H1) (b:SR ads du H1 H2):SR ads du H H2:=fun c o h n1 n2=>b c o (a c o h n1 n2) n1 n2
section
variable {K:PySem.W.Frag} {H H':Hp} {p:Addr} {sh pl:Int} {ru:Str} {ls:Addr} {ads:List Addr} {du:Addr} {seq:List Int} {us:Int→Int} {n:Nat}
theorem RoomAt.off (R:RoomAt K H p sh pl ru ls ads du seq us n):p≠du∧p∉ads∧ls≠du∧ls∉ads∧du∉ads∧p≠ls:=by
  obtain ⟨dx,h1⟩:=R.ob
  obtain ⟨kvs,h2,_⟩:=R.dc
  refine ⟨fun z=>?_,fun z=>?_,fun z=>?_,R.st.off,fun z=>?_,fun z=>?_⟩
  · rw [z,h2] at h1; cases h1
  · obtain ⟨xs,e⟩:=R.st.one z
    rw [e] at h1; cases h1
  · have e:=R.st.top
    rw [z,h2] at e; cases e
  · obtain ⟨xs,e⟩:=R.st.one z
    rw [e] at h2; cases h2
  · have e:=R.st.top
    rw [← z,h1] at e; cases e
theorem RoomAt.same (R:RoomAt K H p sh pl ru ls ads du seq us n) (s:Same H H'):RoomAt K H' p sh pl ru ls ads du seq us n:=by
  obtain ⟨dx,h1⟩:=R.ob
  obtain ⟨kvs,h2,h3⟩:=R.dc
  exact ⟨⟨dx,s _ _ h1⟩,⟨s _ _ R.st.top,R.st.len,R.st.nd,R.st.off,fun i ad e=>s _ _ (R.st.at_ i ad e)⟩,⟨kvs,s _ _ h2,h3⟩,R.nd,R.s0,R.s1⟩
theorem SR.keep {o:HO} {b:Addr} (s:SR ads du H H') (R:RoomAt K H p sh pl ru ls ads du seq us n) (h:H b=some o) (n1:∀ kvs,o≠.dK kvs) (n2:∀ xs,o≠.lst xs):H' b=some o:=by
  refine s _ _ h (fun z=>?_) fun z=>?_
  · obtain ⟨kvs,e,_⟩:=R.dc
    rw [z,e] at h
    exact n1 kvs (Option.some.inj h).symm
  · obtain ⟨xs,e⟩:=R.st.one z
    rw [e] at h
    exact n2 xs (Option.some.inj h).symm
theorem RoomAt.shelf (R:RoomAt K H p sh pl ru ls ads du seq us n) (b:Int):∃ (s:Nat) (ad:Addr),(s:Int)=b % sh∧ads[s]?=some ad∧atI (ads.map V.ref) (b % sh)=some (.ref ad)∧H ad=some (.lst ((shelfS sh (b % sh) seq).map V.int)):=by
  have h0:=R.s0
  exact R.st.get (Int.emod_nonneg _ (by omega)) (Int.emod_lt_of_pos _ (by omega))
end
section
variable {P:Program} {w:World} {K:PySem.W.Frag} {mg:Str→Option Value} {base:Heap}
def spShelf:Sp:=fun vs H Q _=>∃ sh b:Int,vs=[.int sh,.int b]∧1≤sh∧Q (.int (b % sh)) H
theorem ok_shelf_of {f:Addr} {fd:FuncData} (F:Fun K "shelf_of" "shelf_of" s_shelf_of f fd) (T:Txt K mg):FnOk P w K mg base CX0 1 f fd P_shelf_of spShelf:=by
  refine F.ok sc_shelf_of (fun vs H Q E h=>?_) (fun cdv A outer st H vs Q E hr h=>?_)
  · obtain ⟨sh,b,rfl,_⟩:=h
    rfl
  obtain ⟨sh,b,rfl,h0,k⟩:=h
  have nd:=sc_shelf_of.nd
  refine ⟨_,(pss_one (ps_ret (pe_op op_mod (pv 1) (pv 0)))),?_⟩
  exact ⟨_,rfl,_,rfl,_,_,rfl,rfl,(by show 0<sh; omega),k⟩
def spHas (K:PySem.W.Frag):Sp:=fun vs H Q _=>∃ (p:Addr) (b sh pl:Int) (ru:Str) (ls:Addr) (ads:List Addr) (du:Addr) (seq:List Int) (us:Int→Int) (n:Nat),vs=[.ref p,.int b]∧RoomAt K H p sh pl ru ls ads du seq us n∧Q (.bl (decide (b∈seq))) H
theorem ok_Room_has {f:Addr} {fd:FuncData} (F:Fun K "has" "Room.has" s_Room_has f fd) (T:Txt K mg):FnOk P w K mg base CX0 1 f fd P_Room_has (spHas K):=by
  refine F.ok sc_Room_has (fun vs H Q E h=>?_) (fun cdv A outer st H vs Q E hr h=>?_)
  · obtain ⟨p,b,sh,pl,ru,ls,ads,du,seq,us,n,rfl,_⟩:=h
    rfl
  obtain ⟨p,b,sh,pl,ru,ls,ads,du,seq,us,n,rfl,R,k⟩:=h
  have nd:=sc_Room_has.nd
  have hu:=hu_of hr
  refine ⟨_,(pss_one (ps_ret (pe_cmp (pc_din hu (pv 1) (pe_fldK (K:=K) rfl (pv 0) rfl))))),?_⟩
  obtain ⟨dx,h1⟩:=R.ob
  obtain ⟨kvs,h2,h3,h4⟩:=R.dc
  refine ⟨_,rfl,_,rfl,p,_,dx,_,_,rfl,h1,T.cl_Room,T.n_Room_uses,fl_uses ..,du,_,rfl,DGet.k (k:=Sum.inl b) h2,?_⟩
  rw [h4 b]
  by_cases c:b∈seq
  · rw [if_pos c]
    rw [decide_eq_true c] at k
    exact k
  · rw [if_neg c]
    rw [decide_eq_false c] at k
    exact k
def spMates (K:PySem.W.Frag):Sp:=fun vs H Q _=>∃ (p:Addr) (b sh pl:Int) (ru:Str) (ls:Addr) (ads:List Addr) (du:Addr) (seq:List Int) (us:Int→Int) (n:Nat),vs=[.ref p,.int b]∧RoomAt K H p sh pl ru ls ads du seq us n ∧
  ∀ (s:Nat) (ad:Addr),(s:Int)=b % sh→ads[s]?=some ad→H ad=some (.lst ((shelfS sh (b % sh) seq).map V.int))→Q (.ref ad) H
theorem ok_Room_mates {f:Addr} {fd:FuncData} (F:Fun K "mates" "Room.mates" s_Room_mates f fd) (T:Txt K mg) (D_shelf_of:Def P w K mg base "shelf_of" 1 P_shelf_of spShelf):FnOk P w K mg base CX0 2 f fd P_Room_mates (spMates K):=by
  refine F.ok sc_Room_mates (fun vs H Q E h=>?_) (fun cdv A outer st H vs Q E hr h=>?_)
  · obtain ⟨p,b,sh,pl,ru,ls,ads,du,seq,us,n,rfl,_⟩:=h
    rfl
  obtain ⟨p,b,sh,pl,ru,ls,ads,du,seq,us,n,rfl,R,k⟩:=h
  have nd:=sc_Room_mates.nd
  refine ⟨_,(pss_one (ps_ret (pe_ix (ix_listK (K:=K) rfl) (pe_fldK (K:=K) rfl (pv 0) rfl) (pe_defN D_shelf_of hr.m rfl (pc (pe_fldK (K:=K) rfl (pv 0) rfl) (pc (pv 1) pa_nil))) (fun _ _=>rfl)))),?_⟩
  obtain ⟨dx,h1⟩:=R.ob
  obtain ⟨s,ad,e1,e2,e3,e4⟩:=R.shelf b
  exact ⟨_,rfl,p,_,dx,_,_,rfl,h1,T.cl_Room,T.n_Room_standing,fl_standing ..,_,rfl,p,_,dx,_,_,rfl,h1,T.cl_Room,T.n_Room_shelves,fl_shelves ..,_,rfl,sh,b,rfl,R.s0,ls,_,_,_,rfl,rfl,SqL.of R.st.top,e3,k s ad e1 e2 e4⟩
def spNeed (K:PySem.W.Frag):Sp:=fun vs H Q _=>∃ (p:Addr) (b sh pl:Int) (ru:Str) (ls:Addr) (ads:List Addr) (du:Addr) (seq:List Int) (us:Int→Int) (n:Nat),vs=[.ref p,.int b]∧RoomAt K H p sh pl ru ls ads du seq us n∧b∈seq∧Q .non H
theorem ok_Room_need {f:Addr} {fd:FuncData} (F:Fun K "need" "Room.need" s_Room_need f fd) (T:Txt K mg) (M_Room_has:MDef P w K mg base (clsOf K "Room") "has" 1 P_Room_has (spHas K)):FnOk P w K mg base CX0 2 f fd P_Room_need (spNeed K):=by
  refine F.ok sc_Room_need (fun vs H Q E h=>?_) (fun cdv A outer st H vs Q E hr h=>?_)
  · obtain ⟨p,b,sh,pl,ru,ls,ads,du,seq,us,n,rfl,_⟩:=h
    rfl
  obtain ⟨p,b,sh,pl,ru,ls,ads,du,seq,us,n,rfl,R,hb,k⟩:=h
  have nd:=sc_Room_need.nd
  refine ⟨_,(pss_one (ps_if (pt_not (pt_val (pe_methN M_Room_has hr.m T.cl_Room (pv 0) (pc (pv 1) pa_nil)))) (pss_one ps_no) pss_nil)),?_⟩
  obtain ⟨dx,h1⟩:=R.ob
  refine ⟨_,rfl,p,dx,_,rfl,h1,fl_no ..,_,rfl,p,b,sh,pl,ru,ls,ads,du,seq,us,n,rfl,R,?_⟩
  rw [decide_eq_true hb]
  exact ⟨_,rfl,ifF rfl k⟩
end
structure Rec where
  b:Int
  t0:Int
  t1:Int
  n:Int
def rowV (r:Rec):List V:=[.int r.b,.int r.t0,.int r.t1,.int r.n]
def keyR (ru:Str) (r:Rec):List Int:=if ru = "old" then [r.t1] else if ru = "come" then [r.t0] else [r.n,r.t0]
theorem merge3 (ru:Str) (h:Rule ru) (x y z:V):valV (mergeK [] [(Sum.inr "old",x),(Sum.inr "come",y),(Sum.inr "few",z)]) (Sum.inr ru:Key)=some (if ru = "old" then x else if ru = "come" then y else z):=by
  show valV (putK (putK (putK ([]:List (Key×V)) (Sum.inr ("old" : Str)) x) (Sum.inr ("come" : Str)) y) (Sum.inr ("few" : Str)) z) (Sum.inr ru:Key)=_
  rw [valV_put,valV_put,valV_put]
  rcases h with rfl | rfl | rfl
  · rw [if_neg (by decide),if_neg (by decide),if_pos rfl,if_pos rfl]
  · rw [if_neg (by decide),if_pos rfl,if_neg (by decide),if_pos rfl]
  · rw [if_pos rfl,if_neg (by decide),if_neg (by decide)]
structure Rkd (H G:Hp) (ru:Str) (L:Addr) (es:List ET) (R:List Rec):Prop where
  sm:Same H G
  at_:G L=some (.lst (es.map fun e=>V.ref e.1))
  nd:(es.map (·.1)).Nodup
  ks:es.map (·.2.2)=R.map fun r=>(keyR ru r,r.b)
  tu:∀ e∈es,G e.1=some (.tup [.ref e.2.1,.int e.2.2.2])
  li:∀ e∈es,G e.2.1=some (.lst (e.2.2.1.map V.int))∧e.2.1≠L
theorem perm_lift {α β γ:Type} {f:α→γ} {g:β→γ} {os es:List α} (p:os.Perm es):∀ R:List β,es.map f=R.map g→∃ R':List β,R'.Perm R∧os.map f=R'.map g:=by
  induction p with
  | nil=>exact fun R h=>⟨R,List.Perm.refl _,h⟩
  | cons x p ih =>
    intro R h
    cases R with
    | nil=>cases h
    | cons r R =>
      rw [List.map_cons,List.map_cons] at h
      injection h with h1 h2
      obtain ⟨R',q,e⟩:=ih R h2
      exact ⟨r :: R',q.cons r,by rw [List.map_cons,List.map_cons,h1,e]⟩
  | swap x y l =>
    intro R h
    cases R with
    | nil=>cases h
    | cons r R =>
      cases R with
      | nil=>simp at h
      | cons r2 R =>
        simp only [List.map_cons] at h
        injection h with h1 h2
        injection h2 with h2 h3
        exact ⟨r2 :: r :: R,List.Perm.swap ..,by simp only [List.map_cons]; rw [h1,h2,h3]⟩
  | trans p1 p2 i1 i2 =>
    intro R h
    obtain ⟨R1,q1,e1⟩:=i2 R h
    obtain ⟨R2,q2,e2⟩:=i1 R1 e1
    exact ⟨R2,q2.trans q1,e2⟩
theorem refs_at {S:List (Addr×Rec)} {i:Nat} {x:V} (h:(S.map fun y=>V.ref y.1)[i]?=some x):∃ y,S[i]?=some y∧x=V.ref y.1:=by
  rw [List.getElem?_map] at h
  cases e:S[i]? with
  | none=>rw [e] at h; cases h
  | some z=>rw [e] at h; exact ⟨z,rfl,(Option.some.inj h).symm⟩
theorem Rkd.more {H G G':Hp} {ru:Str} {L:Addr} {es:List ET} {R:List Rec} {r:Rec} {ka ta:Addr} (h:Rkd H G ru L es R) (hL:H L=none) (s:Same G G') (k1:G' ka=some (.lst ((keyR ru r).map V.int))) (nk:ka≠L) (t1:G ta=none) (t2:G' ta=some (.tup [.ref ka,.int r.b])) :
    Rkd H (upd G' L (.lst ((es.map fun e=>V.ref e.1)++[.ref ta]))) ru L (es++[(ta,ka,keyR ru r,r.b)]) (R++[r]):=by
  have gL:=s _ _ h.at_
  have nt:ta≠L:=fun z=>by rw [z,gL] at t2; cases t2
  refine ⟨fun b o e=>?_,?_,?_,?_,fun e m=>?_,fun e m=>?_⟩
  · rw [upd_ne (ne_of_none e hL)]; exact s _ _ (h.sm _ _ e)
  · rw [upd_same,List.map_append]; rfl
  · rw [List.map_append,List.nodup_append]
    refine ⟨h.nd,by simp,fun a ha b hb z=>?_⟩
    have hb':b=ta:=by simpa using hb
    subst hb'
    obtain ⟨e,m,q⟩:=List.mem_map.mp ha
    have:=h.tu e m
    rw [q,z,t1] at this
    cases this
  · rw [List.map_append,List.map_append,h.ks]; rfl
  · rcases List.mem_append.mp m with m | m
    · have q:=s _ _ (h.tu e m)
      rw [upd_ne (fun z:e.1=L=>by rw [z,gL] at q; cases q)]; exact q
    · rw [List.mem_singleton.mp m,upd_ne nt]; exact t2
  · rcases List.mem_append.mp m with m | m
    · obtain ⟨q1,q2⟩:=h.li e m
      exact ⟨by rw [upd_ne q2]; exact s _ _ q1,q2⟩
    · rw [List.mem_singleton.mp m]
      exact ⟨by rw [upd_ne nk]; exact k1,nk⟩
theorem hu_to3 {A:Around} {k:Nat} (hr:Room k A):A.units+3<cLine:=by have:=hu_to hr 3 (by decide); omega
section
variable {P:Program} {w:World} {K:PySem.W.Frag} {mg:Str→Option Value} {base:Heap}
def spRanked (K:PySem.W.Frag):Sp:=fun vs H Q _=>∃ (ru:Str) (l:Addr) (S:List (Addr×Rec)),vs=[.str ru,.ref l]∧H l=some (.lst (S.map fun x=>V.ref x.1))∧(∀ x∈S,H x.1=some (.lst (rowV x.2)))∧S.length<64∧Rule ru ∧
  ∀ (D:Addr) (os:List Rec) (H':Hp),H D=none→os.Perm (S.map (·.2))→(os.Pairwise fun x y=>kLt (keyR ru y,y.b) (keyR ru x,x.b)=false)→H' D=some (.lst (os.map fun r=>V.int r.b))→Same H H'→Q (.ref D) H'
theorem ok_ranked {f:Addr} {fd:FuncData} (F:Fun K "_law_ranked" "_law_ranked" s_ranked f fd) (T:Txt K mg):FnOk P w K mg base CX0 1 f fd P_ranked (spRanked K):=by
  refine F.ok sc_ranked (fun vs H Q E h=>?_) (fun cdv A outer st H vs Q E hr h=>?_)
  · obtain ⟨ru,l,S,rfl,_⟩:=h
    rfl
  obtain ⟨ru,l,S,rfl,hl,hS,h64,hru,k⟩:=h
  have nd:=sc_ranked.nd
  have hu:=hu_of hr
  refine ⟨_,(pss_cons (pst 2 nd (pe_lst pa_nil))
      (pss_cons (ps_for PassesOwn.never rfl (pi_listK (K:=K) rfl (pv 1)) (pgn 3 nd) (pss_cons (pst 4 nd (pe_dget hu (pe_dispQ (pq_cons pe_str (pe_lst (pc (pe_ix (ix_listK (K:=K) rfl) (pv 3) pe_int (fun _ _=>rfl)) pa_nil)) (pq_cons pe_str (pe_lst (pc (pe_ix (ix_listK (K:=K) rfl) (pv 3) pe_int (fun _ _=>rfl)) pa_nil)) (pq_cons pe_str (pe_lst (pc (pe_ix (ix_listK (K:=K) rfl) (pv 3) pe_int (fun _ _=>rfl)) (pc (pe_ix (ix_listK (K:=K) rfl) (pv 3) pe_int (fun _ _=>rfl)) pa_nil))) pq_nil))) rfl rfl (by simp) (by decide)) (pv 0) (fun _ _=>rfl)))
      (pss_one (ps_expr (pe_bmC (K:=K) rfl (pe_bm PySem.F.plainAttrs_list PySem.F.slot_list_append PySem.F.type_list_append mt_append (pv 2) (pc (pe_tup (pc (pv 4) (pc (pe_ix (ix_listK (K:=K) rfl) (pv 3) pe_int (fun _ _=>rfl)) pa_nil))) pa_nil)))))))
      (pss_one (ps_ret (pe_comp0 (compOk_of (osc:=(defScope s_ranked)) (oN:=N_ranked) (N:=["_law_key", "_law_board"]) (own:=2) (js:=[]) (by decide +kernel) rfl rfl) rfl (pi_listK (K:=K) rfl (pe_callBN (call_sortedT (K:=K) (hu_to3 hr) rfl) rfl T.z_sorted PyProof.Rows.boot_sorted (pc (pv 2) pa_nil))) (fun _ _ _ _ _ _=>(pg_tupK (K:=K) (n:=2) rfl rfl (pgs_cons (pgn 0 (show List.Nodup (["_law_key", "_law_board"]:List Str) by decide +kernel)) (pgs_cons (pgn 1 (show List.Nodup (["_law_key", "_law_board"]:List Str) by decide +kernel)) pgs_nil)))) (fun _ _ _ _ _ _=>(pv 1))))))),?_⟩
  refine ⟨(by show 0≤sizeLine; decide),fun L hL=>gN ?_⟩
  have hl':=same_upd hL (.lst []) _ _ hl
  refine ⟨_,rfl,l,rfl,⟨_,SqL.of hl'⟩,for_list (K:=K) (a:=l) (xs:=S.map fun x=>V.ref x.1) (fun i σ G=>∃ (v3 v4:Option V) (es:List ET),σ=[some (.str ru),some (.ref l),some (.ref L),v3,v4]∧Rkd H G ru L es ((S.take i).map (·.2)))
    ⟨none,none,[],rfl,same_upd hL _,upd_same,List.nodup_nil,rfl,(fun _ h=>by cases h),fun _ h=>by cases h⟩ (fun i σ G _ ⟨_,_,_,_,q⟩=>SqL.of (q.sm _ _ hl)) ?_ ?_⟩
  · rintro i x σ G hi ⟨v3,v4,es,rfl,D⟩
    obtain ⟨y,hy,rfl⟩:=refs_at hi
    have my:=List.mem_of_getElem? hy
    have le:es.length≤64:=by
      have e:=congrArg List.length D.ks
      rw [List.length_map,List.length_map,List.length_map,List.length_take] at e
      omega
    have hro:=D.sm _ _ (hS y my)
    have ht:(S.take (i+1)).map (·.2)=(S.take i).map (·.2)++[y.2]:=by rw [List.take_add_one,hy,List.map_append]; rfl
    refine gN ?_
    refine fun pd hpd=>⟨_,rfl,y.1,_,_,_,rfl,rfl,SqL.of (same_upd hpd _ _ _ hro),atI2,(by show 1≤sizeLine; decide),fun a1 ha1=>?_⟩
    have w1:=same_upd hpd (.dK [])
    have w2:=same_upd ha1 (.lst [V.int y.2.t1])
    refine ⟨_,rfl,y.1,_,_,_,rfl,rfl,SqL.of (w2 _ _ (w1 _ _ hro)),atI1,(by show 1≤sizeLine; decide),fun a2 ha2=>?_⟩
    have w3:=same_upd ha2 (.lst [V.int y.2.t0])
    have hr3:=w3 _ _ (w2 _ _ (w1 _ _ hro))
    refine ⟨_,rfl,y.1,_,_,_,rfl,rfl,SqL.of hr3,atI3,_,rfl,y.1,_,_,_,rfl,rfl,SqL.of hr3,atI1,(by show 2≤sizeLine; decide),fun a3 ha3=>?_⟩
    have w4:=same_upd ha3 (.lst [V.int y.2.n,V.int y.2.t0])
    have p4:=w4 _ _ (w3 _ _ (w2 _ _ (upd_same (H:=G) (a:=pd) (o:=.dK []))))
    have b1:=w4 _ _ (w3 _ _ (upd_same (H:=upd G pd (.dK [])) (a:=a1) (o:=.lst [V.int y.2.t1])))
    have b2:=w4 _ _ (upd_same (H:=upd (upd G pd (.dK [])) a1 (.lst [V.int y.2.t1])) (a:=a2) (o:=.lst [V.int y.2.t0]))
    have b3:=upd_same (H:=upd (upd (upd G pd (.dK [])) a1 (.lst [V.int y.2.t1])) a2 (.lst [V.int y.2.t0])) (a:=a3) (o:=.lst [V.int y.2.n,V.int y.2.t0])
    have s4:=w1.trans (w2.trans (w3.trans w4))
    have n1:a1≠L:=fun z=>by have q:=w1 _ _ D.at_; rw [← z,ha1] at q; cases q
    have n2:a2≠L:=fun z=>by have q:=w2 _ _ (w1 _ _ D.at_); rw [← z,ha2] at q; cases q
    have n3:a3≠L:=fun z=>by have q:=w3 _ _ (w2 _ _ (w1 _ _ D.at_)); rw [← z,ha3] at q; cases q
    generalize upd (upd (upd (upd G pd (.dK [])) a1 (.lst [V.int y.2.t1])) a2 (.lst [V.int y.2.t0])) a3 (.lst [V.int y.2.n,V.int y.2.t0])=G4 at *
    refine ⟨p4,[(Sum.inr "old",.ref a1),(Sum.inr "come",.ref a2),(Sum.inr "few",.ref a3)],rfl,(by show 3≤15; decide),_,rfl,pd,_,rfl,(merge3 ru hru (.ref a1) (.ref a2) (.ref a3)) ▸ DGet.k (k:=Sum.inr ru) upd_same,?_⟩
    have s5:Same G (upd G4 pd (.dK (mergeK [] [(Sum.inr "old",.ref a1),(Sum.inr "come",.ref a2),(Sum.inr "few",.ref a3)]))):=fun b o e=>by rw [upd_ne (ne_of_none e hpd)]; exact s4 _ _ e
    have c1:upd G4 pd (.dK (mergeK [] [(Sum.inr "old",.ref a1),(Sum.inr "come",.ref a2),(Sum.inr "few",.ref a3)])) a1=some (.lst [V.int y.2.t1]):=by rw [upd_ne (fun z=>by rw [z,p4] at b1; cases b1)]; exact b1
    have c2:upd G4 pd (.dK (mergeK [] [(Sum.inr "old",.ref a1),(Sum.inr "come",.ref a2),(Sum.inr "few",.ref a3)])) a2=some (.lst [V.int y.2.t0]):=by rw [upd_ne (fun z=>by rw [z,p4] at b2; cases b2)]; exact b2
    have c3:upd G4 pd (.dK (mergeK [] [(Sum.inr "old",.ref a1),(Sum.inr "come",.ref a2),(Sum.inr "few",.ref a3)])) a3=some (.lst [V.int y.2.n,V.int y.2.t0]):=by rw [upd_ne (fun z=>by rw [z,p4] at b3; cases b3)]; exact b3
    generalize upd G4 pd (.dK (mergeK [] [(Sum.inr "old",.ref a1),(Sum.inr "come",.ref a2),(Sum.inr "few",.ref a3)]))=G5 at *
    obtain ⟨ka,eka,hka,nka⟩:∃ ka,(if ru = "old" then V.ref a1 else if ru = "come" then V.ref a2 else V.ref a3)=V.ref ka∧G5 ka=some (.lst ((keyR ru y.2).map V.int))∧ka≠L:=by
      unfold keyR
      by_cases x1:ru = "old"
      · rw [if_pos x1,if_pos x1]; exact ⟨a1,rfl,c1,n1⟩
      · rw [if_neg x1,if_neg x1]
        by_cases x2:ru = "come"
        · rw [if_pos x2,if_pos x2]; exact ⟨a2,rfl,c2,n2⟩
        · rw [if_neg x2,if_neg x2]; exact ⟨a3,rfl,c3,n3⟩
    rw [eka]
    refine gN ?_
    have g5:=s5 _ _ D.at_
    refine ⟨_,rfl,.inl ⟨rfl,_,SqL.of g5⟩,_,rfl,_,rfl,y.1,_,_,_,rfl,rfl,SqL.of (s5 _ _ hro),atI0,(by show 2≤sizeLine; decide),fun ta hta=>⟨L,_,_,rfl,rfl,same_upd hta _ _ _ g5,small1000 (by rw [List.length_map]; omega),?_⟩⟩
    refine ⟨_,_,es++[(ta,ka,keyR ru y.2,y.2.b)],rfl,?_⟩
    rw [ht]
    exact D.more hL (s5.trans (same_upd hta _)) (same_upd hta _ _ _ hka) nka (s5.free hta) upd_same
  · rintro σ G ⟨v3,v4,es,rfl,D⟩
    rw [List.length_map,List.take_length] at D
    have le:es.length=S.length:=by
      have e:=congrArg List.length D.ks
      rw [List.length_map,List.length_map,List.length_map] at e
      exact e
    refine ⟨_,rfl,L,es,rfl,SqL.of D.at_,by omega,D.nd,fun e m=>⟨SqT.of (D.tu e m),SqL.of (D.li e m).1⟩,fun M os hM po pw=>?_⟩
    have sM:=same_upd hM (.lst (os.map fun e=>V.ref e.1))
    have aM:=upd_same (H:=G) (a:=M) (o:=.lst (os.map fun e=>V.ref e.1))
    have tu:∀ e∈os,upd G M (.lst (os.map fun e=>V.ref e.1)) e.1=some (.tup [.ref e.2.1,.int e.2.2.2]):=fun e m=>sM _ _ (D.tu e (po.mem_iff.mp m))
    have lo:=po.length_eq
    have sG:=D.sm.trans sM
    generalize upd G M (.lst (os.map fun e=>V.ref e.1))=G6 at *
    obtain ⟨R',pR,eR⟩:=perm_lift (f:=fun e:ET=>e.2.2) (g:=fun r:Rec=>(keyR ru r,r.b)) po _ D.ks
    refine ⟨M,rfl,⟨_,SqL.of aM⟩,fun Z hZ=>comp_list (K:=K) (a:=M) (xs:=os.map fun e=>V.ref e.1) (l:=Z) (fun i ys σ' G'=>∃ v0 v1:Option V,σ'=[v0,v1]∧ys=((os.take i).map fun e=>V.int e.2.2.2)∧G'=upd G6 Z (.lst ys)) ⟨none,none,rfl,rfl,rfl⟩ (fun j ys σ' G' _ ⟨_,_,_,_,q⟩=>SqL.of (by rw [q,upd_ne (ne_of_none aM hZ)]; exact aM)) ?_ ?_⟩
    · rintro i x ys σ' G' hi hx hys ⟨v0,v1,rfl,rfl,rfl⟩
      obtain ⟨e,he,rfl⟩:∃ e,os[i]?=some e∧x=V.ref e.1:=by
        rw [List.getElem?_map] at hx
        cases c:os[i]? with
        | none=>rw [c] at hx; cases hx
        | some z=>rw [c] at hx; exact ⟨z,rfl,(Option.some.inj hx).symm⟩
      have te:=tu e (List.mem_of_getElem? he)
      refine ⟨e.1,_,rfl,SqT.of (same_upd hZ _ _ _ te),rfl,_,_,rfl,_,_,rfl,rfl,_,rfl,CNx.of (Nat.le_of_lt (small1000 (by rw [List.length_map]; omega))) hi hys upd_same ⟨_,_,rfl,by rw [List.take_add_one,he,List.map_append]; rfl,upd_upd⟩⟩
    · rintro ys σ' G' _ ⟨v0,v1,rfl,rfl,rfl⟩
      rw [List.length_map,List.take_length]
      have eb:(os.map fun e=>V.int e.2.2.2)=R'.map fun r=>V.int r.b:=by
        have q:=congrArg (List.map fun k:List Int×Int=>V.int k.2) eR
        rw [List.map_map,List.map_map] at q
        exact q
      have pp:R'.Pairwise fun x y=>kLt (keyR ru y,y.b) (keyR ru x,x.b)=false:=by
        have q:(os.map fun e:ET=>e.2.2).Pairwise fun x y=>kLt y x=false:=List.pairwise_map.mpr pw
        rw [eR] at q
        exact List.pairwise_map.mp q
      refine k Z R' _ ((sG.free hZ)) pR pp ?_ (sG.trans (same_upd hZ _))
      rw [upd_same,eb]
end
def ownK (sh pl:Int) (ru:Str) (lr:Addr) (t:Int):List (Key×V):=[(Sum.inr "shelves",.int sh),(Sum.inr "places",.int pl),(Sum.inr "rule",.str ru),(Sum.inr "rows",.ref lr),(Sum.inr "tick",.int t)]
theorem own_sh {sh pl:Int} {ru:Str} {lr:Addr} {t:Int}:valV (ownK sh pl ru lr t) (Sum.inr ("shelves" : Str):Key)=some (.int sh):=by rfl
theorem own_pl {sh pl:Int} {ru:Str} {lr:Addr} {t:Int}:valV (ownK sh pl ru lr t) (Sum.inr ("places" : Str):Key)=some (.int pl):=by rfl
theorem own_ru {sh pl:Int} {ru:Str} {lr:Addr} {t:Int}:valV (ownK sh pl ru lr t) (Sum.inr ("rule" : Str):Key)=some (.str ru):=by rfl
theorem own_rows {sh pl:Int} {ru:Str} {lr:Addr} {t:Int}:valV (ownK sh pl ru lr t) (Sum.inr ("rows" : Str):Key)=some (.ref lr):=by rfl
theorem own_tick {sh pl:Int} {ru:Str} {lr:Addr} {t:Int}:valV (ownK sh pl ru lr t) (Sum.inr ("tick" : Str):Key)=some (.int t):=by rfl
theorem own_put_tick {sh pl:Int} {ru:Str} {lr:Addr} {t u:Int}:putK (ownK sh pl ru lr t) (Sum.inr ("tick" : Str)) (.int u)=ownK sh pl ru lr u:=by rfl
theorem own_put_rows {sh pl:Int} {ru:Str} {lr lr':Addr} {t:Int}:putK (ownK sh pl ru lr t) (Sum.inr ("rows" : Str)) (.ref lr')=ownK sh pl ru lr' t:=by rfl
theorem own_merge {sh pl:Int} {ru:Str} {lr:Addr} {t:Int}:mergeK [] (ownK sh pl ru lr t)=ownK sh pl ru lr t:=by rfl
structure OwnAt (H:Hp) (d lr:Addr) (sh pl:Int) (ru:Str) (S:List (Addr×Rec)) (t:Int):Prop where
  ob:H d=some (.dK (ownK sh pl ru lr t))
  li:H lr=some (.lst (S.map fun x=>V.ref x.1))
  at_:∀ x∈S,H x.1=some (.lst (rowV x.2))
  nd:(S.map (·.1)).Nodup
  off:lr∉S.map (·.1)
theorem OwnAt.same {H H':Hp} {d lr:Addr} {sh pl:Int} {ru:Str} {S:List (Addr×Rec)} {t:Int} (h:OwnAt H d lr sh pl ru S t) (s:Same H H'):OwnAt H' d lr sh pl ru S t:=⟨s _ _ h.ob,s _ _ h.li,fun x m=>s _ _ (h.at_ x m),h.nd,h.off⟩
theorem OwnAt.g {H:Hp} {d lr:Addr} {sh pl:Int} {ru:Str} {S:List (Addr×Rec)} {t:Int} (h:OwnAt H d lr sh pl ru S t) {x:Str} {v:V} (e:valV (ownK sh pl ru lr t) (Sum.inr x:Key)=some v):DGet H d (.str x) (some v):=e ▸ DGet.k (k:=Sum.inr x) h.ob
def onS (sh z:Int) (S:List (Addr×Rec)):List (Addr×Rec):=S.filter fun x=>decide (V.int (x.2.b % sh)=V.int z)
theorem onS_take {sh z:Int} {S:List (Addr×Rec)} {j:Nat} {y:Addr×Rec} (h:S[j]?=some y):onS sh z (S.take (j+1))=onS sh z (S.take j)++if decide (V.int (y.2.b % sh)=V.int z)=true then [y] else []:=by
  unfold onS
  rw [List.take_add_one,h,List.filter_append]
  congr 1
  rw [Option.toList_some,List.filter_cons,List.filter_nil]
section
variable {P:Program} {w:World} {K:PySem.W.Frag} {mg:Str→Option Value} {base:Heap}
def spOwnShelf (K:PySem.W.Frag):Sp:=fun vs H Q _=>∃ (d lr:Addr) (z sh pl t:Int) (ru:Str) (S:List (Addr×Rec)),vs=[.ref d,.int z]∧OwnAt H d lr sh pl ru S t∧S.length<64∧Rule ru∧1≤sh ∧
  ∀ (D:Addr) (os:List Rec) (H':Hp),H D=none→os.Perm ((onS sh z S).map (·.2))→(os.Pairwise fun x y=>kLt (keyR ru y,y.b) (keyR ru x,x.b)=false)→H' D=some (.lst (os.map fun r=>V.int r.b))→Same H H'→Q (.ref D) H'
theorem ok_own_shelf {f:Addr} {fd:FuncData} (F:Fun K "_law_own_shelf" "_law_own_shelf" s_own_shelf f fd) (T:Txt K mg) (D_ranked:Def P w K mg base "_law_ranked" 1 P_ranked (spRanked K)):FnOk P w K mg base CX0 2 f fd P_own_shelf (spOwnShelf K):=by
  refine F.ok sc_own_shelf (fun vs H Q E h=>?_) (fun cdv A outer st H vs Q E hr h=>?_)
  · obtain ⟨d,lr,z,sh,pl,t,ru,S,rfl,_⟩:=h
    rfl
  obtain ⟨d,lr,z,sh,pl,t,ru,S,rfl,O,h64,hru,hs,k⟩:=h
  have nd:=sc_own_shelf.nd
  have hu:=hu_of hr
  refine ⟨_,(pss_cons (ps_comp1 2 (compOk_of (osc:=(defScope s_own_shelf)) (oN:=N_own_shelf) (N:=["_law_row", "_law_number", "_law_own"]) (own:=1) (js:=[1,0]) (by decide +kernel) rfl rfl) rfl nd rfl rfl (pi_listK (K:=K) rfl (pe_dget hu (pv 0) pe_str (fun _ _=>rfl))) (fun _ _ _ _ _ _=>(pgn 0 (show List.Nodup (["_law_row", "_law_number", "_law_own"]:List Str) by decide +kernel))) (fun _ _ _ _ _ _=>(pt_cmpR op_eq (pe_op op_mod (pe_ix (ix_listK (K:=K) rfl) (pv 0) pe_int (fun _ _=>rfl)) (pe_dget hu (pv 2) pe_str (fun _ _=>rfl))) (pv 1) (nomark _))) (fun _ _ _ _ _ _=>(pv 0)))
      (pss_one (ps_ret (pe_defN D_ranked hr.m rfl (pc (pe_dget hu (pv 0) pe_str (fun _ _=>rfl)) (pc (pv 2) pa_nil)))))),?_⟩
  refine ⟨_,rfl,d,_,rfl,O.g own_rows,lr,rfl,⟨_,SqL.of O.li⟩,fun l hl=>comp_list (K:=K) (a:=lr) (xs:=S.map fun x=>V.ref x.1) (l:=l) (fun j ys σ' G'=>∃ v0:Option V,σ'=[v0,some (.int z),some (.ref d)]∧ys=((onS sh z (S.take j)).map fun x=>V.ref x.1)∧G'=upd H l (.lst ys)) ⟨none,rfl,rfl,rfl⟩ (fun j ys σ' G' _ ⟨_,_,_,q⟩=>SqL.of (by rw [q,upd_ne (ne_of_none O.li hl)]; exact O.li)) ?_ ?_⟩
  · rintro j x ys σ' G' hj hx hys ⟨v0,rfl,rfl,rfl⟩
    obtain ⟨y,hy,rfl⟩:=refs_at hx
    have my:=List.mem_of_getElem? hy
    have est:=onS_take (sh:=sh) (z:=z) hy
    have O':=O.same (same_upd hl (.lst ((onS sh z (S.take j)).map fun x=>V.ref x.1)))
    refine ⟨_,rfl,y.1,_,_,_,rfl,rfl,SqL.of (O'.at_ y my),atI0,_,rfl,d,_,rfl,O'.g own_sh,_,_,rfl,rfl,(by show 0<sh; omega),_,rfl,rfl,_,rfl,?_⟩
    refine ite_dec' (fun c=>?_) (fun c=>?_)
    · rw [if_pos c] at est
      exact ⟨_,rfl,CNx.of (Nat.le_of_lt (small1000 (by rw [List.length_map]; omega))) hj hys upd_same ⟨_,rfl,by rw [est,List.map_append]; rfl,upd_upd⟩⟩
    · rw [if_neg c,List.append_nil] at est
      exact CNo.of hj hys ⟨_,rfl,by rw [est],rfl⟩
  rintro ys σ' G' _ ⟨v0,rfl,rfl,rfl⟩
  rw [List.length_map,List.take_length]
  refine gN ?_
  have s1:=same_upd hl (.lst ((onS sh z S).map fun x=>V.ref x.1))
  have O':=O.same s1
  have hin:∀ x∈onS sh z S,x∈S:=fun x m=>(List.mem_filter.mp m).1
  have hle:(onS sh z S).length≤S.length:=List.length_filter_le ..
  refine ⟨_,rfl,d,_,rfl,O'.g own_ru,_,rfl,ru,l,onS sh z S,rfl,upd_same,fun x m=>O'.at_ x (hin x m),by omega,hru,fun D os H' hD po pw hd s=>k D os H' (s1.free hD) po pw hd (s1.trans s)⟩
end
theorem pairIx {R:Int→Int→Prop} {l:List Int} (p:l.Pairwise R) {a b:Int} (ha:a∈l) (hb:b∈l) (h:l.idxOf a<l.idxOf b):R a b:=by
  have la:=List.idxOf_lt_length_of_mem ha
  have lb:=List.idxOf_lt_length_of_mem hb
  have q:=List.pairwise_iff_getElem.mp p _ _ la lb h
  rwa [List.getElem_idxOf la,List.getElem_idxOf lb] at q
theorem same_sorted {R:Int→Int→Prop}:∀ {xs ys:List Int},xs.Perm ys→xs.Pairwise R→ys.Pairwise R→(∀ a b,a∈xs→b∈xs→R a b→R b a→a=b)→xs=ys
  | [],ys,p,_,_,_=>(List.nil_perm.mp p).symm
  | x :: xs,[],p,_,_,_=>by simpa using p.length_eq
  | x :: xs,y :: ys,p,h1,h2,asy=>by
    obtain ⟨a1,a2⟩:=List.pairwise_cons.mp h1
    obtain ⟨b1,b2⟩:=List.pairwise_cons.mp h2
    have e:x=y:=by
      rcases List.mem_cons.mp (p.mem_iff.mp (List.mem_cons_self (a:=x))) with q | q
      · exact q
      · rcases List.mem_cons.mp (p.mem_iff.mpr (List.mem_cons_self (a:=y))) with r | r
        · exact r.symm
        · exact asy x y List.mem_cons_self (List.mem_cons_of_mem _ r) (a1 y r) (b1 x q)
    subst e
    rw [same_sorted ((List.perm_cons x).mp p) a2 b2 fun a b ha hb=>asy a b (List.mem_cons_of_mem _ ha) (List.mem_cons_of_mem _ hb)]
theorem rec_uq:∀ {R:List Rec},(R.map (·.b)).Nodup→∀ {r q:Rec},r∈R→q∈R→r.b=q.b→r=q
  | [],_,_,_,h,_,_=>by cases h
  | x :: R,nd,r,q,hr,hq,e=>by
    rw [List.map_cons] at nd
    obtain ⟨n1,n2⟩:=List.nodup_cons.mp nd
    rcases List.mem_cons.mp hr with h1 | h1
    · rcases List.mem_cons.mp hq with h2 | h2
      · rw [h1,h2]
      · exact absurd (List.mem_map.mpr ⟨q,h2,by rw [← h1]; exact e.symm⟩) n1
    · rcases List.mem_cons.mp hq with h2 | h2
      · exact absurd (List.mem_map.mpr ⟨r,h1,by rw [← h2]; exact e⟩) n1
      · exact rec_uq n2 h1 h2 e
def tmO (ru:Str) (r:Rec):Int:=if ru = "old" then r.t1 else r.t0
theorem kLt_one {a b x y:Int} (h:a<b):kLt ([b],y) ([a],x)=false:=by
  unfold kLt
  rw [if_neg (by simp; omega),HT.lexLt_cons,if_neg (by omega)]
  exact decide_eq_false (by omega)
theorem kLt_two {n t m u x y:Int} (h:n<m∨(n=m∧t<u)):kLt ([m,u],y) ([n,t],x)=false:=by
  unfold kLt
  rw [if_neg (by simp; omega),HT.lexLt_cons]
  rcases h with h | ⟨h,h2⟩
  · rw [if_neg (by omega)]
    exact decide_eq_false (by omega)
  · rw [if_pos h.symm,HT.lexLt_cons,if_neg (by omega)]
    exact decide_eq_false (by omega)
theorem shelf_same {ru:Str} {R os:List Rec} {ms os2:List Int} {us:Int→Int} {tm:Int→Int} (hru:Rule ru) (nd:(R.map (·.b)).Nodup) (pm:ms.Perm (R.map (·.b))) (ord:ms.Pairwise fun a b=>tm a<tm b) (htm:∀ r∈R,tm r.b=tmO ru r) (usn:∀ r∈R,us r.b=r.n)
    (po:os.Perm R) (pw:os.Pairwise fun x y=>kLt (keyR ru y,y.b) (keyR ru x,x.b)=false) (p2:os2.Perm ms) (hf:ru = "few" → os2.Pairwise (KLt us ms)) (hn:ru ≠ "few" → os2=ms):os.map (·.b)=os2:=by
  have inR:∀ a∈ms,∃ r∈R,r.b=a:=fun a h=>by
    obtain ⟨r,hr,e⟩:=List.mem_map.mp (pm.mem_iff.mp h)
    exact ⟨r,hr,e⟩
  refine same_sorted (R:=fun a b=>∃ r∈R,∃ q∈R,r.b=a∧q.b=b∧kLt (keyR ru q,q.b) (keyR ru r,r.b)=false) ((po.map _).trans (pm.symm.trans p2.symm)) ?_ ?_ ?_
  · rw [List.pairwise_map]
    exact pw.imp_of_mem fun {x y} hx hy h=>⟨x,po.mem_iff.mp hx,y,po.mem_iff.mp hy,rfl,rfl,h⟩
  · by_cases few:ru = "few"
    · refine (hf few).imp_of_mem fun {x y} hx hy h=>?_
      have mx:=p2.mem_iff.mp hx
      have my:=p2.mem_iff.mp hy
      obtain ⟨r,hr,rfl⟩:=inR x mx
      obtain ⟨q,hq,rfl⟩:=inR y my
      refine ⟨r,hr,q,hq,rfl,rfl,?_⟩
      have kk:∀ z:Rec,keyR ru z=[z.n,z.t0]:=fun z=>by unfold keyR; rw [few,if_neg (by decide),if_neg (by decide)]
      have tt:∀ z∈R,tm z.b=z.t0:=fun z hz=>by rw [htm z hz]; unfold tmO; rw [few,if_neg (by decide)]
      rw [kk,kk]
      refine kLt_two ?_
      rcases h with h | ⟨h1,h2⟩
      · rw [usn r hr,usn q hq] at h
        exact .inl h
      · rw [usn r hr,usn q hq] at h1
        have:=pairIx ord mx my h2
        rw [tt r hr,tt q hq] at this
        exact .inr ⟨h1,this⟩
    · rw [hn few]
      refine ord.imp_of_mem fun {x y} mx my h=>?_
      obtain ⟨r,hr,rfl⟩:=inR x mx
      obtain ⟨q,hq,rfl⟩:=inR y my
      refine ⟨r,hr,q,hq,rfl,rfl,?_⟩
      rw [htm r hr,htm q hq] at h
      have kk:∀ z:Rec,keyR ru z=[tmO ru z]:=fun z=>by
        unfold keyR tmO
        rcases hru with rfl | rfl | rfl
        · rw [if_pos rfl,if_pos rfl]
        · rw [if_neg (by decide),if_pos rfl,if_neg (by decide)]
        · exact absurd rfl few
      rw [kk,kk]
      exact kLt_one h
  · rintro a b _ _ ⟨r,hr,q,hq,rfl,rfl,h1⟩ ⟨q',hq',r',hr',e1,e2,h2⟩
    obtain rfl:=rec_uq nd hq' hq e1
    obtain rfl:=rec_uq nd hr' hr e2
    rcases kLt_tri (keyR ru r',r'.b) (keyR ru q',q'.b) with e | e | e
    · exact congrArg Prod.snd e
    · rw [h2] at e; cases e
    · rw [h1] at e; cases e
def thS (b:Int) (S:List (Addr×Rec)):List (Addr×Rec):=S.filter fun x=>decide (V.int x.2.b=V.int b)
theorem thS_cases {b:Int}:∀ {S:List (Addr×Rec)},(S.map (·.2.b)).Nodup→(b∉S.map (·.2.b)∧thS b S=[])∨∃ (j:Nat) (x:Addr×Rec),S[j]?=some x∧x.2.b=b∧thS b S=[x]
  | [],_=>.inl ⟨by simp,rfl⟩
  | x :: S,nd=>by
    rw [List.map_cons] at nd
    obtain ⟨n1,n2⟩:=List.nodup_cons.mp nd
    unfold thS
    rw [List.filter_cons]
    rcases thS_cases (b:=b) n2 with ⟨h1,h2⟩ | ⟨j,y,h1,h2,h3⟩
    · by_cases c:x.2.b=b
      · refine .inr ⟨0,x,rfl,c,?_⟩
        rw [if_pos (by rw [c]; simp)]
        exact congrArg (List.cons x) h2
      · refine .inl ⟨fun z=>(List.mem_cons.mp z).elim (fun z=>c z.symm) h1,?_⟩
        rw [if_neg (by simpa using c)]
        exact h2
    · refine .inr ⟨j+1,y,by simpa using h1,h2,?_⟩
      rw [if_neg (by
        rw [decide_eq_true_eq]
        intro z
        injection z with z
        exact n1 (List.mem_map.mpr ⟨y,List.mem_of_getElem? h1,by rw [h2,z]⟩))]
      exact h3
def bdsS (S:List (Addr×Rec)):List Int:=S.map (·.2.b)
def OffB (d lr:Addr) (S:List (Addr×Rec)) (H H':Hp):Prop:=∀ a o,a≠d→a≠lr→a∉S.map (·.1)→H a=some o→H' a=some o
def noB (S:List (Addr×Rec)) (o:Option Int):List (Addr×Rec):=match o with
  | none=>S
  | some g=>S.filter fun x=>!decide (V.int x.2.b=V.int g)
def outF (pl:Int) (os:List Rec):Option Int:=if pl≤(os.length:Int) then (os.head?).map (·.b) else none
def useF (b u:Int) (y:Addr×Rec):Addr×Rec:=if y.2.b=b then (y.1,⟨b,y.2.t0,u,y.2.n+1⟩) else y
def OwnR (sh pl:Int) (ru:Str) (way b t:Int) (S S':List (Addr×Rec)) (t':Int) (H':Hp) (v:V):Prop :=
  (way=0∧b∈bdsS S∧v=.str "There" ∧ S'=S∧t'=t)∨(way≠0∧b∉bdsS S∧v=.str "NotThere" ∧ S'=S∧t'=t) ∨
  (∃ (p:Addr) (out:Option Int),v=.ref p∧H' p=some (.tup [.str "told",optV out])∧t'=t+1 ∧
    ((way=1∧b∈bdsS S∧out=none∧S'=S.map (useF b (t+1))) ∨
     (way=2∧b∈bdsS S∧out=none∧S'=noB S (some b)) ∨
     (way=0∧b∉bdsS S∧∃ (a:Addr) (os:List Rec),os.Perm ((onS sh (b % sh) S).map (·.2))∧(os.Pairwise fun x y=>kLt (keyR ru y,y.b) (keyR ru x,x.b)=false)∧out=outF pl os∧S'=noB S out++[(a,⟨b,t+1,t+1,0⟩)])))
def NewB (H:Hp) (lr:Addr) (S:List (Addr×Rec)) (lr':Addr) (S':List (Addr×Rec)):Prop:=(lr'=lr∨H lr'=none)∧∀ x∈S',x.1∈S.map (·.1)∨H x.1=none
theorem NewB.sub {H:Hp} {lr:Addr} {S S':List (Addr×Rec)} (h:S'.Sublist S):NewB H lr S lr S':=⟨.inl rfl,fun x m=>.inl (List.mem_map_of_mem (h.subset m))⟩
theorem NewB.snoc {H:Hp} {lr lr':Addr} {S S':List (Addr×Rec)} {y:Addr×Rec} (h1:lr'=lr∨H lr'=none) (h:S'.Sublist S) (h2:H y.1=none):NewB H lr S lr' (S'++[y]):=⟨h1,fun x m=>(List.mem_append.mp m).elim (fun m=>.inl (List.mem_map_of_mem (h.subset m))) fun m=>.inr (by rw [List.mem_singleton.mp m]; exact h2)⟩
theorem OwnAt.free {H G:Hp} {d lr:Addr} {sh pl:Int} {ru:Str} {S:List (Addr×Rec)} {t:Int} (h:OwnAt G d lr sh pl ru S t) (f:OffB d lr S H G) {x:Addr} (hx:G x=none):H x=none:=by
  cases q:H x with
  | none=>rfl
  | some o =>
    rw [f x o (fun z=>by rw [z,h.ob] at hx; cases hx) (fun z=>by rw [z,h.li] at hx; cases hx) (fun z=>by
      obtain ⟨y,m,e⟩:=List.mem_map.mp z
      rw [← e,h.at_ y m] at hx
      cases hx) q] at hx
    cases hx
theorem OwnAt.tick {H:Hp} {d lr:Addr} {sh pl:Int} {ru:Str} {S:List (Addr×Rec)} {t:Int} (h:OwnAt H d lr sh pl ru S t) (u:Int):OwnAt (upd H d (.dK (ownK sh pl ru lr u))) d lr sh pl ru S u:=by
  refine ⟨upd_same,?_,fun x m=>?_,h.nd,h.off⟩
  · rw [upd_ne (fun z:lr=d=>by have q:=h.li; rw [z,h.ob] at q; cases q)]; exact h.li
  · rw [upd_ne (fun z:x.1=d=>by have q:=h.at_ x m; rw [z,h.ob] at q; cases q)]; exact h.at_ x m
theorem OffB.trans {d lr:Addr} {S:List (Addr×Rec)} {H H1 H2:Hp} (a:OffB d lr S H H1) (b:OffB d lr S H1 H2):OffB d lr S H H2:=fun c o h1 h2 h3 e=>b c o h1 h2 h3 (a c o h1 h2 h3 e)
theorem OffB.of {d lr:Addr} {S:List (Addr×Rec)} {H H':Hp} (s:Same H H'):OffB d lr S H H':=fun a o _ _ _ e=>s a o e
theorem OffB.upd0 {d lr:Addr} {S:List (Addr×Rec)} {H:Hp} {o:HO}:OffB d lr S H (upd H d o):=fun a u h1 _ _ e=>by rw [upd_ne h1]; exact e
theorem OwnAt.snoc {H:Hp} {d lr a:Addr} {sh pl:Int} {ru:Str} {S:List (Addr×Rec)} {t:Int} {r:Rec} (h:OwnAt H d lr sh pl ru S t) (ha:H a=none):OwnAt (upd (upd H a (.lst (rowV r))) lr (.lst ((S.map fun x=>V.ref x.1)++[.ref a]))) d lr sh pl ru (S++[(a,r)]) t:=by
  have s:=same_upd ha (.lst (rowV r))
  have nl:a≠lr:=fun z=>ne_of_none h.li ha z.symm
  have nm:∀ x∈S,x.1≠lr:=fun x m z=>h.off (z ▸ List.mem_map_of_mem m)
  refine ⟨?_,?_,fun x m=>?_,?_,?_⟩
  · rw [upd_ne (fun z:d=lr=>by have q:=h.li; rw [← z,h.ob] at q; cases q)]; exact s _ _ h.ob
  · rw [upd_same,List.map_append]; rfl
  · rcases List.mem_append.mp m with m | m
    · rw [upd_ne (nm x m)]; exact s _ _ (h.at_ x m)
    · rw [List.mem_singleton.mp m,upd_ne nl]; exact upd_same
  · rw [List.map_append,List.nodup_append]
    refine ⟨h.nd,by simp,fun x hx y hy z=>?_⟩
    have hy':y=a:=by simpa using hy
    obtain ⟨q,m,e⟩:=List.mem_map.mp hx
    exact ne_of_none (h.at_ q m) ha (by rw [e,z,hy'])
  · rw [List.map_append,List.mem_append]
    rintro (z | z)
    · exact h.off z
    · exact nl (List.mem_singleton.mp z).symm
theorem noB_sub {S:List (Addr×Rec)} {o:Option Int}:(noB S o).Sublist S:=by
  cases o with
  | none=>exact List.Sublist.refl _
  | some g=>exact List.filter_sublist
theorem noB_take {g:Int} {S:List (Addr×Rec)} {j:Nat} {y:Addr×Rec} (h:S[j]?=some y):noB (S.take (j+1)) (some g)=noB (S.take j) (some g)++if (!decide (V.int y.2.b=V.int g))=true then [y] else []:=by
  show (S.take (j+1)).filter _=(S.take j).filter _++_
  rw [List.take_add_one,h,List.filter_append]
  congr 1
  rw [Option.toList_some,List.filter_cons,List.filter_nil]
theorem OwnAt.cut {H:Hp} {d lr l:Addr} {sh pl:Int} {ru:Str} {S T:List (Addr×Rec)} {t:Int} (h:OwnAt H d lr sh pl ru S t) (hl:H l=none) (sub:T.Sublist S):OwnAt (upd (upd H l (.lst (T.map fun x=>V.ref x.1))) d (.dK (ownK sh pl ru l t))) d l sh pl ru T t:=by
  have nl:l≠d:=fun z=>ne_of_none h.ob hl z.symm
  refine ⟨upd_same,?_,fun x m=>?_,h.nd.sublist (sub.map _),fun m=>?_⟩
  · rw [upd_ne nl]; exact upd_same
  · have q:=h.at_ x (sub.subset m)
    rw [upd_ne (fun z:x.1=d=>by rw [z,h.ob] at q; cases q)]
    exact same_upd hl _ _ _ q
  · obtain ⟨x,mx,e⟩:=List.mem_map.mp m
    exact ne_of_none (h.at_ x (sub.subset mx)) hl e
theorem nd_inj {α β:Type} {f:α→β}:∀ {l:List α},(l.map f).Nodup→∀ {x y:α},x∈l→y∈l→f x=f y→x=y
  | [],_,_,_,h,_,_=>by cases h
  | z :: l,nd,x,y,hx,hy,e=>by
    rw [List.map_cons] at nd
    obtain ⟨n1,n2⟩:=List.nodup_cons.mp nd
    rcases List.mem_cons.mp hx with h1 | h1
    · rcases List.mem_cons.mp hy with h2 | h2
      · rw [h1,h2]
      · exact absurd (List.mem_map.mpr ⟨y,h2,by rw [← h1]; exact e.symm⟩) n1
    · rcases List.mem_cons.mp hy with h2 | h2
      · exact absurd (List.mem_map.mpr ⟨x,h1,by rw [← h2]; exact e⟩) n1
      · exact nd_inj n2 h1 h2 e
theorem useF_1 (b u:Int) (y:Addr×Rec):(useF b u y).1=y.1:=by unfold useF; split <;> rfl
theorem useF_map {γ:Type} (b u:Int) (g:Addr→γ) (S:List (Addr×Rec)):(S.map (useF b u)).map (fun x=>g x.1)=S.map fun x=>g x.1:=by
  rw [List.map_map]
  exact List.map_congr_left fun y _=>congrArg g (useF_1 b u y)
theorem OwnAt.setRow {H:Hp} {d lr:Addr} {sh pl b u:Int} {ru:Str} {S:List (Addr×Rec)} {t:Int} {x:Addr×Rec} (h:OwnAt H d lr sh pl ru S t) (nb:(bdsS S).Nodup) (mx:x∈S) (hb:x.2.b=b):OwnAt (upd H x.1 (.lst (rowV ⟨b,x.2.t0,u,x.2.n+1⟩))) d lr sh pl ru (S.map (useF b u)) t:=by
  have ax:=h.at_ x mx
  refine ⟨?_,?_,fun y' m=>?_,?_,?_⟩
  · rw [upd_ne (fun z:d=x.1=>by rw [← z,h.ob] at ax; cases ax)]; exact h.ob
  · rw [upd_ne (fun z:lr=x.1=>h.off (z ▸ List.mem_map_of_mem mx)),useF_map b u V.ref S]; exact h.li
  · obtain ⟨y,my,rfl⟩:=List.mem_map.mp m
    by_cases c:y.2.b=b
    · have e:y=x:=nd_inj nb my mx (c.trans hb.symm)
      subst e
      unfold useF
      rw [if_pos c]
      exact upd_same
    · have e:useF b u y=y:=if_neg c
      rw [e,upd_ne (fun z:y.1=x.1=>c (by rw [nd_inj h.nd my mx z]; exact hb))]
      exact h.at_ y my
  · rw [useF_map b u (fun a=>a) S]; exact h.nd
  · rw [useF_map b u (fun a=>a) S]; exact h.off
theorem noB_erase {b:Int}:∀ {S:List (Addr×Rec)} {j:Nat} {x:Addr×Rec},(bdsS S).Nodup→S[j]?=some x→x.2.b=b→noB S (some b)=S.eraseIdx j
  | [],j,x,_,h,_=>by simp at h
  | y :: S,0,x,nd,h,hb=>by
    obtain rfl:y=x:=by simpa using h
    obtain ⟨n1,n2⟩:=List.nodup_cons.mp (show (y.2.b :: S.map (·.2.b)).Nodup from nd)
    show (y :: S).filter (fun x=>!decide (V.int x.2.b=V.int b))=S
    rw [List.filter_cons,if_neg (by rw [hb]; simp),List.filter_eq_self]
    intro z hz
    rw [Bool.not_eq_true',decide_eq_false_iff_not]
    intro q
    injection q with q
    exact n1 (List.mem_map.mpr ⟨z,hz,q.trans hb.symm⟩)
  | y :: S,j+1,x,nd,h,hb=>by
    obtain ⟨n1,n2⟩:=List.nodup_cons.mp (show (y.2.b :: S.map (·.2.b)).Nodup from nd)
    have h':S[j]?=some x:=by simpa using h
    have ih:=noB_erase n2 h' hb
    show (y :: S).filter (fun x=>!decide (V.int x.2.b=V.int b))=y :: S.eraseIdx j
    rw [List.filter_cons,if_pos (by
      rw [Bool.not_eq_true',decide_eq_false_iff_not]
      intro q
      injection q with q
      exact n1 (List.mem_map.mpr ⟨x,List.mem_of_getElem? h',hb.trans q.symm⟩)),← ih]
    rfl
theorem erase_map {α β:Type} (f:α→β):∀ (l:List α) (j:Nat),(l.map f).eraseIdx j=(l.eraseIdx j).map f
  | [],_=>rfl
  | _ :: _,0=>rfl
  | x :: l,j+1=>congrArg (List.cons (f x)) (erase_map f l j)
theorem OwnAt.less {H:Hp} {d lr:Addr} {sh pl:Int} {ru:Str} {S T:List (Addr×Rec)} {t:Int} (h:OwnAt H d lr sh pl ru S t) (sub:T.Sublist S):OwnAt (upd H lr (.lst (T.map fun x=>V.ref x.1))) d lr sh pl ru T t:=by
  refine ⟨?_,upd_same,fun x m=>?_,h.nd.sublist (sub.map _),fun m=>h.off ((sub.map _).subset m)⟩
  · rw [upd_ne (fun z:d=lr=>by have q:=h.li; rw [← z,h.ob] at q; cases q)]; exact h.ob
  · rw [upd_ne (fun z:x.1=lr=>h.off (z ▸ List.mem_map_of_mem (sub.subset m)))]; exact h.at_ x (sub.subset m)
theorem thS_take {b:Int} {S:List (Addr×Rec)} {j:Nat} {y:Addr×Rec} (h:S[j]?=some y):thS b (S.take (j+1))=thS b (S.take j)++if decide (V.int y.2.b=V.int b)=true then [y] else []:=by
  unfold thS
  rw [List.take_add_one,h,List.filter_append]
  congr 1
  rw [Option.toList_some,List.filter_cons,List.filter_nil]
section
variable {P:Program} {w:World} {K:PySem.W.Frag} {mg:Str→Option Value} {base:Heap}
def spOwnDeed (K:PySem.W.Frag):Sp:=fun vs H Q _=>∃ (d lr:Addr) (way b sh pl t:Int) (ru:Str) (S:List (Addr×Rec)),vs=[.ref d,.int way,.int b]∧OwnAt H d lr sh pl ru S t∧S.length<63∧(bdsS S).Nodup∧Rule ru∧1≤sh∧1≤pl∧(way=0∨way=1∨way=2) ∧
  ∀ (v:V) (H':Hp) (lr':Addr) (S':List (Addr×Rec)) (t':Int),OwnAt H' d lr' sh pl ru S' t'→OffB d lr S H H'→NewB H lr S lr' S'→OwnR sh pl ru way b t S S' t' H' v→Q v H'
theorem ok_own_deed {f:Addr} {fd:FuncData} (F:Fun K "_law_own_deed" "_law_own_deed" s_own_deed f fd) (T:Txt K mg) (D_own_shelf:Def P w K mg base "_law_own_shelf" 2 P_own_shelf (spOwnShelf K)):FnOk P w K mg base CX0 3 f fd P_own_deed (spOwnDeed K):=by
  refine F.ok sc_own_deed (fun vs H Q E h=>?_) (fun cdv A outer st H vs Q E hr h=>?_)
  · obtain ⟨d,lr,way,b,sh,pl,t,ru,S,rfl,_⟩:=h
    rfl
  obtain ⟨d,lr,way,b,sh,pl,t,ru,S,rfl,O,h63,nb,hru,hs,hp,hw,k⟩:=h
  have nd:=sc_own_deed.nd
  have hu:=hu_of hr
  refine ⟨_,(pss_cons (ps_comp1 3 (compOk_of (osc:=(defScope s_own_deed)) (oN:=N_own_deed) (N:=["_law_row", "_law_board"]) (own:=1) (js:=[2]) (by decide +kernel) rfl rfl) rfl nd rfl rfl (pi_listK (K:=K) rfl (pe_dget hu (pv 0) pe_str (fun _ _=>rfl))) (fun _ _ _ _ _ _=>(pgn 0 (show List.Nodup (["_law_row", "_law_board"]:List Str) by decide +kernel))) (fun _ _ _ _ _ _=>(pt_cmpR op_eq (pe_ix (ix_listK (K:=K) rfl) (pv 0) pe_int (fun _ _=>rfl)) (pv 1) (nomark _))) (fun _ _ _ _ _ _=>(pv 0)))
      (pss_cons (ps_if (pt_cmpR op_ne (pe_cmpR op_eq (pv 1) pe_int (nomark _)) (pe_cmpR (op_eqD (K:=K) 0 (hu_to hr 0 (by decide)) rfl) (pv 3) (pe_lst pa_nil) (nomark _)) (nomark _)) (pss_one (ps_ret (pe_ix (ix_listK (K:=K) rfl) (pe_lst (pc pe_str (pc pe_str pa_nil))) (pe_callTyN call_int1 rfl T.z_int boot_intT (pc (pe_cmpR op_gt (pv 1) pe_int (nomark _)) pa_nil)) (fun _ _=>rfl)))) pss_nil)
      (pss_cons (ps_dput hu (pv 0) pe_str (pe_op op_add (pe_dget hu (pv 0) pe_str (fun _ _=>rfl)) pe_int) rfl)
      (pss_cons (pst 4 nd pe_non)
      (pss_cons (ps_if (pt_cmpR op_eq (pv 1) pe_int (nomark _)) (pss_one (ps_asg (pe_tup (pc (pe_dget hu (pv 0) pe_str (fun _ _=>rfl)) (pc (pe_op op_add (pe_ix (ix_listK (K:=K) rfl) (pe_ix (ix_listK (K:=K) rfl) (pv 3) pe_int (fun _ _=>rfl)) pe_int (fun _ _=>rfl)) pe_int) pa_nil))) (pg_tupK (K:=K) (n:=2) rfl rfl (pgs_cons (pg_sub (pe_ix (ix_listK (K:=K) rfl) (pv 3) pe_int (fun _ _=>rfl)) pe_int set_list) (pgs_cons (pg_sub (pe_ix (ix_listK (K:=K) rfl) (pv 3) pe_int (fun _ _=>rfl)) pe_int set_list) pgs_nil))))) (pss_one (ps_if (pt_cmpR op_eq (pv 1) pe_int (nomark _)) (pss_one (ps_expr (pe_bmC (K:=K) rfl (pe_bm PySem.F.plainAttrs_list PySem.F.slot_list_remove PySem.F.type_list_remove (mt_removeD 1 (hu_to hr 1 (by decide)) rfl) (pe_dget hu (pv 0) pe_str (fun _ _=>rfl)) (pc (pe_ix (ix_listK (K:=K) rfl) (pv 3) pe_int (fun _ _=>rfl)) pa_nil))))) (pss_cons (pst 5 nd (pe_defN D_own_shelf hr.m rfl (pc (pv 0) (pc (pe_op op_mod (pv 2) (pe_dget hu (pv 0) pe_str (fun _ _=>rfl))) pa_nil))))
      (pss_cons (ps_if (pt_cmpR op_ge (pe_callBN (call_len_seqK (K:=K) rfl) rfl T.z_len PySem.boot_len (pc (pv 5) pa_nil)) (pe_dget hu (pv 0) pe_str (fun _ _=>rfl)) (nomark _)) (pss_cons (pst 4 nd (pe_ix (ix_listK (K:=K) rfl) (pv 5) pe_int (fun _ _=>rfl)))
      (pss_one (ps_dput hu (pv 0) pe_str (pe_comp1 (compOk_of (osc:=(defScope s_own_deed)) (oN:=N_own_deed) (N:=["_law_row", "_law_out"]) (own:=1) (js:=[4]) (by decide +kernel) rfl rfl) rfl (pi_listK (K:=K) rfl (pe_dget hu (pv 0) pe_str (fun _ _=>rfl))) (fun _ _ _ _ _ _=>(pgn 0 (show List.Nodup (["_law_row", "_law_out"]:List Str) by decide +kernel))) (fun _ _ _ _ _ _=>(pt_cmpR op_ne (pe_ix (ix_listK (K:=K) rfl) (pv 0) pe_int (fun _ _=>rfl)) (pv 1) (nomark _))) (fun _ _ _ _ _ _=>(pv 0))) rfl))) pss_nil)
      (pss_one (ps_expr (pe_bmC (K:=K) rfl (pe_bm PySem.F.plainAttrs_list PySem.F.slot_list_append PySem.F.type_list_append mt_append (pe_dget hu (pv 0) pe_str (fun _ _=>rfl)) (pc (pe_lst (pc (pv 2) (pc (pe_dget hu (pv 0) pe_str (fun _ _=>rfl)) (pc (pe_dget hu (pv 0) pe_str (fun _ _=>rfl)) (pc pe_int pa_nil))))) pa_nil))))))))))
      (pss_one (ps_ret (pe_tup (pc pe_str (pc (pv 4) pa_nil)))))))))),?_⟩
  refine ⟨_,rfl,d,_,rfl,O.g own_rows,lr,rfl,⟨_,SqL.of O.li⟩,fun l hl=>comp_list (K:=K) (a:=lr) (xs:=S.map fun x=>V.ref x.1) (l:=l) (fun j ys σ' G'=>∃ v0:Option V,σ'=[v0,some (.int b)]∧ys=((thS b (S.take j)).map fun x=>V.ref x.1)∧G'=upd H l (.lst ys)) ⟨none,rfl,rfl,rfl⟩ (fun j ys σ' G' _ ⟨_,_,_,q⟩=>SqL.of (by rw [q,upd_ne (ne_of_none O.li hl)]; exact O.li)) ?_ ?_⟩
  · rintro j x ys σ' G' hj hx hys ⟨v0,rfl,rfl,rfl⟩
    obtain ⟨y,hy,rfl⟩:=refs_at hx
    have est:=thS_take (b:=b) hy
    refine ⟨_,rfl,y.1,_,_,_,rfl,rfl,SqL.of (same_upd hl _ _ _ (O.at_ y (List.mem_of_getElem? hy))),atI0,_,rfl,rfl,_,rfl,?_⟩
    refine ite_dec' (fun c=>?_) (fun c=>?_)
    · rw [if_pos c] at est
      exact ⟨_,rfl,CNx.of (Nat.le_of_lt (small1000 (by rw [List.length_map]; omega))) hj hys upd_same ⟨_,rfl,by rw [est,List.map_append]; rfl,upd_upd⟩⟩
    · rw [if_neg c,List.append_nil] at est
      exact CNo.of hj hys ⟨_,rfl,by rw [est],rfl⟩
  rintro ys σ' G' _ ⟨v0,rfl,rfl,rfl⟩
  rw [List.length_map,List.take_length]
  refine gN ?_
  have s1:=same_upd hl (.lst ((thS b S).map fun x=>V.ref x.1))
  have O1:=O.same s1
  have al:=upd_same (H:=H) (a:=l) (o:=.lst ((thS b S).map fun x=>V.ref x.1))
  have nld:l≠d:=fun z=>ne_of_none O.ob hl z.symm
  have nlr:l≠lr:=fun z=>ne_of_none O.li hl z.symm
  have nlS:l∉S.map (·.1):=fun m=>by
    obtain ⟨x,mx,e⟩:=List.mem_map.mp m
    exact ne_of_none (O.at_ x mx) hl e
  generalize upd H l (.lst ((thS b S).map fun x=>V.ref x.1))=G1 at *
  refine ⟨_,rfl,rfl,_,rfl,(by show 0≤sizeLine; decide),fun q hq=>⟨l,q,_,[],fun _=>true,rfl,rfl,(fun i u v h1 h2=>by simp at h2),SqL.of (same_upd hq _ _ _ al),SqL.of upd_same,?_⟩⟩
  have s2:=s1.trans (same_upd hq (.lst []))
  have O2:=O1.same (same_upd hq (.lst []))
  have al2:=same_upd hq (.lst []) _ _ al
  generalize upd G1 q (.lst [])=G2 at *
  rcases thS_cases (b:=b) nb with ⟨hb,e0⟩ | ⟨j,x,hj,hb,e0⟩
  · rw [e0] at al2 ⊢
    refine .inl ⟨rfl,rfl,_,rfl,?_⟩
    rcases hw with rfl | hw
    · refine ifF rfl ?_
      refine ⟨_,rfl,d,_,rfl,O2.g own_tick,_,_,rfl,rfl,_,rfl,d,_,rfl,DPut.k (k:=Sum.inr ("tick" : Str)) O2.ob (by show 5<sizeLine; decide),?_⟩
      rw [own_put_tick]
      have O3:=O2.tick (t+1)
      have f3:OffB d lr S H (upd G2 d (.dK (ownK sh pl ru lr (t+1)))):=(OffB.of s2).trans OffB.upd0
      generalize upd G2 d (.dK (ownK sh pl ru lr (t+1)))=G3 at *
      refine gN ⟨_,rfl,rfl,_,rfl,ifF rfl ⟨_,rfl,rfl,_,rfl,ifF rfl ?_⟩⟩
      refine ⟨_,rfl,_,rfl,_,rfl,d,_,rfl,O3.g own_sh,_,_,rfl,rfl,(by show 0<sh; omega),d,lr,b % sh,sh,pl,t+1,ru,S,rfl,O3,by omega,hru,hs,fun D os G4 hD po pw hDl s4=>gN ?_⟩
      have O4:=O3.same s4
      have f4:=f3.trans (OffB.of s4)
      refine ⟨_,rfl,D,_,rfl,.inl (SqL.of hDl),_,rfl,d,_,rfl,O4.g own_pl,_,_,rfl,rfl,_,rfl,?_⟩
      rw [List.length_map]
      refine ite_dec (fun c=>?_) (fun c=>?_)
      · obtain ⟨r0,rest,rfl⟩:∃ r0 rest,os=r0 :: rest:=by
          cases os with
          | nil=>exact absurd c (by show ¬ pl≤((0:Nat):Int); omega)
          | cons r0 rest=>exact ⟨r0,rest,rfl⟩
        refine ⟨_,rfl,D,_,_,_,rfl,rfl,SqL.of hDl,atI0,gN ?_⟩
        refine ⟨_,rfl,d,_,rfl,O4.g own_rows,lr,rfl,⟨_,SqL.of O4.li⟩,fun l6 hl6=>comp_list (K:=K) (a:=lr) (xs:=S.map fun x=>V.ref x.1) (l:=l6) (fun j ys σ' G'=>∃ v0:Option V,σ'=[v0,some (.int r0.b)]∧ys=((noB (S.take j) (some r0.b)).map fun x=>V.ref x.1)∧G'=upd G4 l6 (.lst ys)) ⟨none,rfl,rfl,rfl⟩ (fun j ys σ' G' _ ⟨_,_,_,q⟩=>SqL.of (by rw [q,upd_ne (ne_of_none O4.li hl6)]; exact O4.li)) ?_ ?_⟩
        · rintro j x ys σ' G' hj hx hys ⟨v0,rfl,rfl,rfl⟩
          obtain ⟨y,hy,rfl⟩:=refs_at hx
          have est:=noB_take (g:=r0.b) hy
          refine ⟨_,rfl,y.1,_,_,_,rfl,rfl,SqL.of (same_upd hl6 _ _ _ (O4.at_ y (List.mem_of_getElem? hy))),atI0,_,rfl,rfl,_,rfl,?_⟩
          refine ite_dec' (fun c=>?_) (fun c=>?_)
          · rw [if_pos c] at est
            exact ⟨_,rfl,CNx.of (Nat.le_of_lt (small1000 (by rw [List.length_map]; omega))) hj hys upd_same ⟨_,rfl,by rw [est,List.map_append]; rfl,upd_upd⟩⟩
          · rw [if_neg c,List.append_nil] at est
            exact CNo.of hj hys ⟨_,rfl,by rw [est],rfl⟩
        rintro ys σ' G' _ ⟨v0,rfl,rfl,rfl⟩
        rw [List.length_map,List.take_length]
        refine ⟨_,rfl,d,_,rfl,DPut.k (k:=Sum.inr ("rows" : Str)) (same_upd hl6 _ _ _ O4.ob) (by show 5<sizeLine; decide),?_⟩
        rw [own_put_rows]
        have O5:=O4.cut hl6 (noB_sub (S:=S) (o:=some r0.b))
        have f5:OffB d lr S H (upd (upd G4 l6 (.lst ((noB S (some r0.b)).map fun x=>V.ref x.1))) d (.dK (ownK sh pl ru l6 (t+1)))):=(f4.trans (OffB.of (same_upd hl6 _))).trans OffB.upd0
        have n6:∀ z o,z≠d→z≠lr→z∉S.map (·.1)→H z=some o→z≠l6:=fun z o h1 h2 h3 e=>ne_of_none (f4 z o h1 h2 h3 e) hl6
        have fr5:∀ a,upd (upd G4 l6 (.lst ((noB S (some r0.b)).map fun x=>V.ref x.1))) d (.dK (ownK sh pl ru l6 (t+1))) a=none→H a=none:=fun a ha=>by
          have n1:a≠d:=fun z=>by rw [z,upd_same] at ha; cases ha
          rw [upd_ne n1] at ha
          have n2:a≠l6:=fun z=>by rw [z,upd_same] at ha; cases ha
          rw [upd_ne n2] at ha
          exact O4.free f4 ha
        generalize upd (upd G4 l6 (.lst ((noB S (some r0.b)).map fun x=>V.ref x.1))) d (.dK (ownK sh pl ru l6 (t+1)))=G5 at *
        have ln:(noB S (some r0.b)).length≤S.length:=noB_sub.length_le
        refine ⟨_,rfl,d,_,rfl,O5.g own_rows,.inl ⟨rfl,_,SqL.of O5.li⟩,_,rfl,_,rfl,d,_,rfl,O5.g own_tick,_,rfl,d,_,rfl,O5.g own_tick,(by show 4≤sizeLine; decide),fun a ha=>⟨l6,_,_,rfl,rfl,same_upd ha _ _ _ O5.li,small1000 (by rw [List.length_map]; omega),?_⟩⟩
        have O6:=O5.snoc (r:=⟨b,t+1,t+1,0⟩) ha
        have eo:some r0.b=outF pl (r0 :: rest):=by unfold outF; rw [if_pos c]; rfl
        exact ⟨_,rfl,(by show 2≤sizeLine; decide),fun p hp=>k _ _ l6 _ (t+1) (O6.same (same_upd hp _)) (fun z o h1 h2 h3 e=>same_upd hp _ _ _ (by rw [upd_ne (n6 z o h1 h2 h3 e)]; exact same_upd ha _ _ _ (f5 z o h1 h2 h3 e))) (.snoc (.inr (O4.free f4 hl6)) noB_sub (fr5 a ha)) (.inr (.inr ⟨p,some r0.b,rfl,upd_same,rfl,.inr (.inr ⟨rfl,hb,a,r0 :: rest,po,pw,eo,rfl⟩)⟩))⟩
      · refine ⟨_,rfl,d,_,rfl,O4.g own_rows,.inl ⟨rfl,_,SqL.of O4.li⟩,_,rfl,_,rfl,d,_,rfl,O4.g own_tick,_,rfl,d,_,rfl,O4.g own_tick,(by show 4≤sizeLine; decide),fun a ha=>⟨lr,_,_,rfl,rfl,same_upd ha _ _ _ O4.li,small1000 (by rw [List.length_map]; omega),?_⟩⟩
        have O5:=O4.snoc (r:=⟨b,t+1,t+1,0⟩) ha
        refine ⟨_,rfl,(by show 2≤sizeLine; decide),fun p hp=>k _ _ lr _ (t+1) (O5.same (same_upd hp _)) (f4.trans (fun z o h1 h2 h3 e=>same_upd hp _ _ _ (by rw [upd_ne h2]; exact same_upd ha _ _ _ e))) (.snoc (.inl rfl) (List.Sublist.refl _) (O4.free f4 ha)) (.inr (.inr ⟨p,none,rfl,upd_same,rfl,.inr (.inr ⟨rfl,hb,a,os,po,pw,?_,rfl⟩)⟩))⟩
        unfold outF
        rw [if_neg c]
    · have e1:way≠0:=by omega
      have ew:way=1∨way=2:=hw
      rcases ew with rfl | rfl <;> exact ifT rfl ⟨(by show 2≤sizeLine; decide),fun r hr'=>⟨_,rfl,_,_,rfl,rfl,.inr ⟨_,rfl,r,_,1,_,rfl,rfl,SqL.of upd_same,atI1,k _ _ lr S t (O2.same (same_upd hr' _)) (OffB.of (s2.trans (same_upd hr' _))) (.sub (List.Sublist.refl _)) (.inr (.inl ⟨e1,hb,rfl,rfl,rfl⟩))⟩⟩⟩
  · rw [e0] at al2 ⊢
    have inb:b∈bdsS S:=List.mem_map.mpr ⟨x,List.mem_of_getElem? hj,hb⟩
    refine .inr ⟨(by show 1≠0; decide),rfl,_,rfl,?_⟩
    rcases hw with rfl | hw
    · exact ifT rfl ⟨(by show 2≤sizeLine; decide),fun r hr'=>⟨_,rfl,_,_,rfl,rfl,.inr ⟨_,rfl,r,_,0,_,rfl,rfl,SqL.of upd_same,atI0,k _ _ lr S t (O2.same (same_upd hr' _)) (OffB.of (s2.trans (same_upd hr' _))) (.sub (List.Sublist.refl _)) (.inl ⟨rfl,inb,rfl,rfl,rfl⟩)⟩⟩⟩
    · have mx:=List.mem_of_getElem? hj
      have w0:decide (V.int way=V.int 0)=false:=decide_eq_false (fun z=>by injection z; omega)
      refine ifF (by rw [w0]; rfl) ?_
      refine ⟨_,rfl,d,_,rfl,O2.g own_tick,_,_,rfl,rfl,_,rfl,d,_,rfl,DPut.k (k:=Sum.inr ("tick" : Str)) O2.ob (by show 5<sizeLine; decide),?_⟩
      rw [own_put_tick]
      have O3:=O2.tick (t+1)
      have al3:upd G2 d (.dK (ownK sh pl ru lr (t+1))) l=some (.lst ([x].map fun x=>V.ref x.1)):=by rw [upd_ne nld]; exact al2
      have f3:OffB d lr S H (upd G2 d (.dK (ownK sh pl ru lr (t+1)))):=(OffB.of s2).trans OffB.upd0
      generalize upd G2 d (.dK (ownK sh pl ru lr (t+1)))=G3 at *
      rcases hw with rfl | rfl
      · refine gN ⟨_,rfl,rfl,_,rfl,ifT rfl ?_⟩
        refine ⟨_,rfl,d,_,rfl,O3.g own_tick,_,rfl,l,_,_,_,rfl,rfl,SqL.of al3,atI0,x.1,_,_,_,rfl,rfl,SqL.of (O3.at_ x mx),atI3,_,_,rfl,rfl,(by show 2≤sizeLine; decide),fun tp htp=>?_⟩
        have s5:=same_upd htp (.tup [V.int (t+1),V.int (x.2.n+1)])
        have nx:l≠x.1:=fun z=>nlS (z ▸ List.mem_map_of_mem mx)
        refine ⟨tp,_,rfl,SqT.of upd_same,rfl,_,_,rfl,_,rfl,l,_,_,_,rfl,rfl,SqL.of (s5 _ _ al3),atI0,x.1,_,2,2,rfl,rfl,s5 _ _ (O3.at_ x mx),rfl,?_⟩
        refine ⟨_,_,rfl,_,rfl,l,_,_,_,rfl,rfl,SqL.of (by rw [upd_ne nx]; exact s5 _ _ al3),atI0,x.1,_,3,3,rfl,rfl,upd_same,rfl,rfl,?_⟩
        rw [upd_upd]
        have er:((rowV x.2).set 2 (V.int (t+1))).set 3 (V.int (x.2.n+1))=rowV ⟨b,x.2.t0,t+1,x.2.n+1⟩:=by rw [← hb]; rfl
        rw [er]
        have O6:=(O3.same s5).setRow (u:=t+1) nb mx hb
        exact ⟨_,rfl,(by show 2≤sizeLine; decide),fun p hp=>k _ _ lr _ (t+1) (O6.same (same_upd hp _)) (fun z o h1 h2 h3 e=>same_upd hp _ _ _ (by rw [upd_ne (fun y:z=x.1=>h3 (y ▸ List.mem_map_of_mem mx))]; exact s5 _ _ (f3 z o h1 h2 h3 e))) ⟨.inl rfl,fun y m=>.inl (by obtain ⟨q,mq,rfl⟩:=List.mem_map.mp m; rw [useF_1]; exact List.mem_map_of_mem mq)⟩ (.inr (.inr ⟨p,none,rfl,upd_same,rfl,.inl ⟨rfl,inb,rfl,rfl⟩⟩))⟩
      · refine gN ⟨_,rfl,rfl,_,rfl,ifF rfl ⟨_,rfl,rfl,_,rfl,ifT rfl ?_⟩⟩
        have hjl:j<S.length:=(List.getElem?_eq_some_iff.mp hj).1
        refine ⟨_,rfl,d,_,rfl,O3.g own_rows,.inl ⟨rfl,_,SqL.of O3.li⟩,_,rfl,l,_,_,_,rfl,rfl,SqL.of al3,atI0,lr,_,_,j,rfl,rfl,O3.li,(by rw [List.length_map]; exact hjl),fun i u hij hu'=>?_,?_⟩
        · obtain ⟨y,hy,rfl⟩:=refs_at hu'
          have fl:∀ (z:Rec) (m:Nat) (v:V),(rowV z)[m]?=some v→flatV v=true∧(rowV z).getD m .non=v:=fun z m v q=>by
            refine ⟨?_,by rw [List.getD_eq_getElem?_getD,q]; rfl⟩
            have mv:=List.mem_of_getElem? q
            simp only [rowV,List.mem_cons,List.not_mem_nil,or_false] at mv
            rcases mv with rfl | rfl | rfl | rfl <;> rfl
          refine .inr ⟨y.1,x.1,rowV y.2,rowV x.2,fun m=>eqV ((rowV y.2).getD m .non) ((rowV x.2).getD m .non),rfl,rfl,fun m u v h1 h2=>?_,.inl ⟨SqL.of (O3.at_ y (List.mem_of_getElem? hy)),SqL.of (O3.at_ x mx),.inl ⟨rfl,?_⟩⟩⟩
          · obtain ⟨a1,a2⟩:=fl _ _ _ h1
            obtain ⟨c1,c2⟩:=fl _ _ _ h2
            exact ⟨a1,c1,by show eqV ((rowV y.2).getD m .non) ((rowV x.2).getD m .non)=_; rw [a2,c2]⟩
          · show decide (i=j)=(y.2.b == x.2.b && (y.2.t0 == x.2.t0 && (y.2.t1 == x.2.t1 && (y.2.n == x.2.n && true))))
            by_cases c:i=j
            · subst c
              rw [hj] at hy
              obtain rfl:=Option.some.inj hy
              simp
            · have ne:¬ y.2.b=x.2.b:=fun z=>c ((List.getElem?_inj (by show i<(bdsS S).length; unfold bdsS; rw [List.length_map]; exact (List.getElem?_eq_some_iff.mp hy).1) nb).mp (by unfold bdsS; rw [List.getElem?_map,List.getElem?_map,hy,hj]; exact congrArg some z))
              rw [decide_eq_false c,beq_eq_false_iff_ne.mpr ne]
              rfl
        · rw [erase_map,← noB_erase nb hj hb]
          have O6:=O3.less (noB_sub (S:=S) (o:=some b))
          exact ⟨_,rfl,(by show 2≤sizeLine; decide),fun p hp=>k _ _ lr _ (t+1) (O6.same (same_upd hp _)) (fun z o h1 h2 h3 e=>same_upd hp _ _ _ (by rw [upd_ne h2]; exact f3 z o h1 h2 h3 e)) (.sub noB_sub) (.inr (.inr ⟨p,none,rfl,upd_same,rfl,.inr (.inl ⟨rfl,inb,rfl,rfl⟩)⟩))⟩
end
section
variable {P:Program} {w:World} {K:PySem.W.Frag} {mg:Str→Option Value} {base:Heap}
def spGoing (K:PySem.W.Frag):Sp:=fun vs H Q _=>∃ (p m:Addr) (ms:List Int) (sh pl:Int) (ru:Str) (ls:Addr) (ads:List Addr) (du:Addr) (seq:List Int) (us:Int→Int) (n:Nat),vs=[.ref p,.ref m]∧RoomAt K H p sh pl ru ls ads du seq us n∧Tb K H∧H m=some (.lst (ms.map V.int))∧ms.length<64∧ms.Nodup∧(∀ b∈ms,b∈seq) ∧
  ∀ (D:Addr) (H':Hp) (os:List Int),H D=none→Same H H'→H' D=some (.lst (os.map V.int))→os.Perm ms→(ru = "few" → os.Pairwise (KLt us ms))→(ru ≠ "few" → os=ms)→Q (.ref D) H'
theorem ok_Room_going {f tp cg:Addr} {fd:FuncData} (F:Fun K "going" "Room.going" s_Room_going f fd) (hfc:fd.code=.ref cg) (htp:tabOf K "Room" "going" = tp) (hch:PySem.W.codeHdIn K cg tp=true) (bm:BMod base mg) (T:Txt K mg):FnOk P w K mg base CX0 2 f fd P_Room_going (spGoing K):=by
  refine F.okC sc_Room_going (fun vs H Q E h=>?_) (fun cdv A outer st H vs Q E hcv hr h=>?_)
  · obtain ⟨p,m,ms,sh,pl,ru,ls,ads,du,seq,us,n,rfl,_⟩:=h
    rfl
  obtain ⟨p,m,ms,sh,pl,ru,ls,ads,du,seq,us,n,rfl,R,tb,hm,h64,hnd,hin,k⟩:=h
  have nd:=sc_Room_going.nd
  have hu:=hu_of hr
  have hc0:cdv=.ref cg:=hcv.symm.trans hfc
  refine ⟨_,(pss_cons (ps_if (pt_cmpR op_eq (pe_fldK (K:=K) rfl (pv 0) rfl) pe_str (nomark _)) (pss_one (ps_ret (pe_sortK (X:=(cxOf CX0 P w K mg base N_Room_going "Room.going" (defScope s_Room_going) f cdv A outer st H E).nox) (K:=K) (P:=tp) (c0:=cg) rfl hr rfl rfl T.z_sorted (lamOk_of (osc:=(defScope s_Room_going)) (oN:=N_Room_going) (x := "board") (fr:=["self"]) (js:=[0]) (by decide +kernel) rfl rfl) hc0 hch bm rfl rfl rfl (fun _ _ _ _ _=>rfl) (pv 1) (fun _ _ _ _ _=>(pe_dget (hu_lam hr) (pe_fldK (K:=K) rfl (pv 1) rfl) (pv 0) (fun _ _=>rfl)))))) pss_nil)
      (pss_one (ps_ret (pe_callTyN (call_list_ofK (K:=K) rfl) rfl T.z_list boot_listT (pc (pv 1) pa_nil))))),?_⟩
  obtain ⟨dx,h1⟩:=R.ob
  obtain ⟨kvs,h2,h3,h4⟩:=R.dc
  refine ⟨_,rfl,p,_,dx,_,_,rfl,h1,T.cl_Room,T.n_Room_rule,fl_rule ..,rfl,_,rfl,?_⟩
  refine ite_dec (fun c=>?_) (fun c=>?_)
  · have c':ru = "few" := by injection c
    have tb':H tp=some (.tbl tpos tqual):=by
      have t:=tb
      unfold Tb at t
      rw [htp] at t
      exact t
    refine ⟨_,rfl,m,ms,us,rfl,SqL.of hm,h64,hnd,tb',fun z hz H2 sm=>?_,fun D H' os hD sm hl po so=>k D H' os hD sm hl po (fun _=>so) fun z=>absurd c' z⟩
    have v:=h4 z
    rw [if_pos (hin z hz)] at v
    exact ⟨_,rfl,p,_,dx,_,_,rfl,sm _ _ h1,T.cl_Room,T.n_Room_uses,fl_uses ..,_,rfl,du,_,rfl,(by have q:=DGet.k (k:=Sum.inl z) (sm _ _ h2); rw [v] at q; exact q),rfl,rfl⟩
  · have c':¬ ru = "few" := fun z=>c (by rw [z])
    exact ⟨_,rfl,m,_,rfl,.inl (SqL.of hm),fun D hD=>k D _ ms hD (same_upd hD _) upd_same (List.Perm.refl _) (fun z=>absurd z c') fun _=>rfl⟩
theorem val_drop {kvs:List (Key×V)} {k:Key} (j:Key):valV (dropK kvs k) j=if j=k then none else valV kvs j:=by
  induction kvs with
  | nil=>by_cases e:j=k <;> simp [dropK,valV,e]
  | cons q r ih =>
    by_cases e:q.1=k
    · rw [dropK_pos e,ih]
      by_cases c:j=k
      · rw [if_pos c,if_pos c]
      · rw [if_neg c,if_neg c,valV_neg (fun z=>c (z.symm.trans e))]
    · rw [dropK_neg e]
      by_cases c:q.1=j
      · rw [valV_pos c,if_neg (fun z=>e (c.trans z)),valV_pos c]
      · rw [valV_neg c,ih,valV_neg c]
theorem drop_lenK (kvs:List (Key×V)) (k:Key):(dropK kvs k).length≤kvs.length:=List.length_filter_le ..
def spDrop (K:PySem.W.Frag):Sp:=fun vs H Q _=>∃ (p:Addr) (b sh pl:Int) (ru:Str) (ls:Addr) (ads:List Addr) (du:Addr) (seq:List Int) (us:Int→Int) (n:Nat),vs=[.ref p,.int b]∧RoomAt K H p sh pl ru ls ads du seq us n∧b∈seq ∧
  ∀ H',RoomAt K H' p sh pl ru ls ads du (seq.erase b) us n→SR ads du H H'→Q .non H'
theorem ok_Room_drop {f:Addr} {fd:FuncData} (F:Fun K "drop" "Room.drop" s_Room_drop f fd) (T:Txt K mg) (M_Room_need:MDef P w K mg base (clsOf K "Room") "need" 2 P_Room_need (spNeed K)) (M_Room_mates:MDef P w K mg base (clsOf K "Room") "mates" 2 P_Room_mates (spMates K)):FnOk P w K mg base CX0 3 f fd P_Room_drop (spDrop K):=by
  refine F.ok sc_Room_drop (fun vs H Q E h=>?_) (fun cdv A outer st H vs Q E hr h=>?_)
  · obtain ⟨p,b,sh,pl,ru,ls,ads,du,seq,us,n,rfl,_⟩:=h
    rfl
  obtain ⟨p,b,sh,pl,ru,ls,ads,du,seq,us,n,rfl,R,hb,k⟩:=h
  have nd:=sc_Room_drop.nd
  refine ⟨_,(pss_cons (ps_expr (pe_methN M_Room_need hr.m T.cl_Room (pv 0) (pc (pv 1) pa_nil)))
      (pss_cons (ps_expr (pe_bmC (K:=K) rfl (pe_bm PySem.F.plainAttrs_list PySem.F.slot_list_remove PySem.F.type_list_remove mt_remove (pe_methN M_Room_mates hr.m T.cl_Room (pv 0) (pc (pv 1) pa_nil)) (pc (pv 1) pa_nil))))
      (pss_one (ps_expr (pe_dpop1 (pe_fldK (K:=K) rfl (pv 0) rfl) (pv 1) ⟨rfl,rfl,rfl,rfl⟩))))),?_⟩
  obtain ⟨dx,h1⟩:=R.ob
  obtain ⟨kvs,h2,h3,h4⟩:=R.dc
  obtain ⟨o1,o2,o3,o4,o5,o6⟩:=R.off
  refine ⟨_,rfl,p,dx,_,rfl,h1,fl_no ..,_,rfl,p,b,sh,pl,ru,ls,ads,du,seq,us,n,rfl,R,hb,?_⟩
  refine ⟨_,rfl,p,dx,_,rfl,h1,fl_no ..,_,rfl,p,b,sh,pl,ru,ls,ads,du,seq,us,n,rfl,R,fun s ad es hs had=>?_⟩
  have mad:ad∈ads:=List.mem_of_getElem? hs
  have hmem:b∈shelfS sh (b % sh) seq:=mem_shelfS.mpr ⟨hb,rfl⟩
  refine ⟨.inl ⟨rfl,_,SqL.of had⟩,_,rfl,ad,_,b,rfl,rfl,had,hmem,?_⟩
  have S1:Shl (upd H ad (.lst (((shelfS sh (b % sh) seq).erase b).map V.int))) ls ads sh (seq.erase b):=by
    refine R.st.put hs ?_ fun s' hs'=>?_
    · rw [shelfS_erase,es]
    · rw [shelfS_erase]
      exact List.erase_of_not_mem fun m=>hs' (by have:=(mem_shelfS.mp m).2; omega)
  have np:p≠ad:=fun z=>o2 (z ▸ mad)
  have nd':du≠ad:=fun z=>o5 (z ▸ mad)
  have h1':upd H ad (.lst (((shelfS sh (b % sh) seq).erase b).map V.int)) p=some (.ins (clsOf K "Room") dx (flds sh pl ru ls du)):=by rw [upd_ne np]; exact h1
  have h2':upd H ad (.lst (((shelfS sh (b % sh) seq).erase b).map V.int)) du=some (.dK kvs):=by rw [upd_ne nd']; exact h2
  refine ⟨_,rfl,p,_,dx,_,_,rfl,h1',T.cl_Room,T.n_Room_uses,fl_uses ..,du,rfl,.inl ⟨_,.inl h2'⟩,_,rfl,kvs,Sum.inl b,_,h2',rfl,(by rw [h4 b,if_pos hb]),?_⟩
  refine k _ ⟨⟨dx,by rw [upd_ne o1]; exact h1'⟩,S1.other _ (Ne.symm o3) o5,⟨_,upd_same,⟨Nat.le_trans (drop_lenK _ _) h3.1,h3.2.drop b⟩,fun x=>?_⟩,R.nd.erase b,R.s0,R.s1⟩ fun x o e n1 n2=>?_
  · rw [val_drop,h4 x]
    by_cases c:x=b
    · subst c
      rw [if_pos rfl,if_neg (fun m=>((List.Nodup.mem_erase_iff R.nd).mp m).1 rfl)]
    · rw [if_neg (fun z=>c (Sum.inl.inj z))]
      by_cases m:x∈seq
      · rw [if_pos m,if_pos ((List.Nodup.mem_erase_iff R.nd).mpr ⟨c,m⟩)]
      · rw [if_neg m,if_neg (fun z=>m (List.mem_of_mem_erase z))]
  · rw [upd_ne n1,upd_ne (fun z:x=ad=>n2 (z ▸ mad))]
    exact e
def bump (us:Int→Int) (b:Int):Int→Int:=fun x=>if x=b then us b+1 else us x
def spUse (K:PySem.W.Frag):Sp:=fun vs H Q _=>∃ (p:Addr) (b sh pl:Int) (ru:Str) (ls:Addr) (ads:List Addr) (du:Addr) (seq:List Int) (us:Int→Int) (n:Nat),vs=[.ref p,.int b]∧RoomAt K H p sh pl ru ls ads du seq us n∧n≤900∧b∈seq∧seq.length≤900 ∧
  ∀ H',RoomAt K H' p sh pl ru ls ads du (if ru = "old" then seq.erase b++[b] else seq) (bump us b) (n+1)→SR ads du H H'→Q .non H'
theorem ok_Room_use {f:Addr} {fd:FuncData} (F:Fun K "use" "Room.use" s_Room_use f fd) (T:Txt K mg) (M_Room_need:MDef P w K mg base (clsOf K "Room") "need" 2 P_Room_need (spNeed K)) (M_Room_mates:MDef P w K mg base (clsOf K "Room") "mates" 2 P_Room_mates (spMates K)):FnOk P w K mg base CX0 3 f fd P_Room_use (spUse K):=by
  refine F.ok sc_Room_use (fun vs H Q E h=>?_) (fun cdv A outer st H vs Q E hr h=>?_)
  · obtain ⟨p,b,sh,pl,ru,ls,ads,du,seq,us,n,rfl,_⟩:=h
    rfl
  obtain ⟨p,b,sh,pl,ru,ls,ads,du,seq,us,n,rfl,R,hn,hb,hsl,k⟩:=h
  have nd:=sc_Room_use.nd
  have hu:=hu_of hr
  refine ⟨_,(pss_cons (ps_expr (pe_methN M_Room_need hr.m T.cl_Room (pv 0) (pc (pv 1) pa_nil)))
      (pss_cons (ps_daug hu (pe_fldK (K:=K) rfl (pv 0) rfl) (pv 1) pe_int in_add (fun _ _ _=>rfl))
      (pss_one (ps_if (pt_cmpR op_eq (pe_fldK (K:=K) rfl (pv 0) rfl) pe_str (nomark _)) (pss_cons (pst 2 nd (pe_methN M_Room_mates hr.m T.cl_Room (pv 0) (pc (pv 1) pa_nil)))
      (pss_cons (ps_expr (pe_bmC (K:=K) rfl (pe_bm PySem.F.plainAttrs_list PySem.F.slot_list_remove PySem.F.type_list_remove mt_remove (pv 2) (pc (pv 1) pa_nil))))
      (pss_one (ps_expr (pe_bmC (K:=K) rfl (pe_bm PySem.F.plainAttrs_list PySem.F.slot_list_append PySem.F.type_list_append mt_append (pv 2) (pc (pv 1) pa_nil))))))) pss_nil)))),?_⟩
  obtain ⟨dx,h1⟩:=R.ob
  obtain ⟨kvs,h2,h3,h4⟩:=R.dc
  obtain ⟨o1,o2,o3,o4,o5,o6⟩:=R.off
  refine ⟨_,rfl,p,dx,_,rfl,h1,fl_no ..,_,rfl,p,b,sh,pl,ru,ls,ads,du,seq,us,n,rfl,R,hb,?_⟩
  refine ⟨_,rfl,p,_,dx,_,_,rfl,h1,T.cl_Room,T.n_Room_uses,fl_uses ..,_,rfl,du,_,rfl,(by have q:=DGet.k (k:=Sum.inl b) h2; rw [h4 b,if_pos hb] at q; exact q),_,_,rfl,rfl,_,DPut.k (k:=Sum.inl b) h2 (small1000 (by omega)),?_⟩
  have R1:RoomAt K (upd H du (.dK (putK kvs (Sum.inl b) (.int (us b+1))))) p sh pl ru ls ads du seq (bump us b) (n+1):=by
    refine ⟨⟨dx,by rw [upd_ne o1]; exact h1⟩,R.st.other _ (Ne.symm o3) o5,⟨_,upd_same,⟨Nat.le_trans (length_putK ..) (by have:=h3.1; omega),h3.2.put b _⟩,fun x=>?_⟩,R.nd,R.s0,R.s1⟩
    rw [valV_put]
    unfold bump
    by_cases c:x=b
    · subst c
      rw [if_pos rfl,if_pos hb,if_pos rfl]
    · rw [if_neg (fun z=>c (Sum.inl.inj z)),h4 x,if_neg c]
  have s1:SR ads du H (upd H du (.dK (putK kvs (Sum.inl b) (.int (us b+1))))):=fun x o e n1 n2=>by rw [upd_ne n1]; exact e
  generalize upd H du (.dK (putK kvs (Sum.inl b) (.int (us b+1))))=H1 at *
  obtain ⟨dx1,g1⟩:=R1.ob
  refine ⟨_,rfl,p,_,dx1,_,_,rfl,g1,T.cl_Room,T.n_Room_rule,fl_rule ..,rfl,_,rfl,?_⟩
  refine ite_dec (fun c=>?_) (fun c=>?_)
  · have c':ru = "old" := by injection c
    rw [if_pos c'] at k
    refine ⟨_,rfl,p,dx1,_,rfl,g1,fl_no ..,_,rfl,p,b,sh,pl,ru,ls,ads,du,seq,_,_,rfl,R1,fun s ad es hs had=>?_⟩
    have mad:ad∈ads:=List.mem_of_getElem? hs
    have hmem:b∈shelfS sh (b % sh) seq:=mem_shelfS.mpr ⟨hb,rfl⟩
    refine ⟨_,rfl,.inl ⟨rfl,_,SqL.of had⟩,_,rfl,ad,_,b,rfl,rfl,had,hmem,?_⟩
    have ll:((shelfS sh (b % sh) seq).erase b).length≤900:=Nat.le_trans List.length_erase_le (Nat.le_trans (List.length_filter_le ..) hsl)
    refine ⟨_,rfl,.inl ⟨rfl,_,SqL.of upd_same⟩,_,rfl,ad,_,_,rfl,rfl,upd_same,small1000 (by rw [List.length_map]; omega),?_⟩
    rw [upd_upd]
    have e1:(((shelfS sh (b % sh) seq).erase b).map V.int++[V.int b])=((shelfS sh (b % sh) seq).erase b++[b]).map V.int:=by rw [List.map_append]; rfl
    have S2:Shl (upd H1 ad (.lst (((shelfS sh (b % sh) seq).erase b++[b]).map V.int))) ls ads sh (seq.erase b++[b]):=by
      refine R1.st.put hs ?_ fun s' hs'=>?_
      · rw [shelfS_app,if_pos es.symm,shelfS_erase,es]
      · rw [shelfS_app,if_neg (by omega),shelfS_erase]
        exact List.erase_of_not_mem fun m=>hs' (by have:=(mem_shelfS.mp m).2; omega)
    have np:p≠ad:=fun z=>o2 (z ▸ mad)
    have ndu:du≠ad:=fun z=>o5 (z ▸ mad)
    obtain ⟨kvs1,g2,g3,g4⟩:=R1.dc
    have hme:∀ x,x∈seq.erase b++[b]↔x∈seq:=fun x=>by
      rw [List.mem_append,List.mem_singleton,List.Nodup.mem_erase_iff R.nd]
      constructor
      · rintro (⟨_,m⟩ | rfl)
        · exact m
        · exact hb
      · intro m
        by_cases z:x=b
        · exact .inr z
        · exact .inl ⟨z,m⟩
    rw [e1]
    refine k _ ⟨⟨dx1,by rw [upd_ne np]; exact g1⟩,S2,⟨kvs1,by rw [upd_ne ndu]; exact g2,g3,fun x=>?_⟩,?_,R.s0,R.s1⟩ fun x o e n1 n2=>?_
    · rw [g4 x]
      by_cases m:x∈seq
      · rw [if_pos m,if_pos ((hme x).mpr m)]
      · rw [if_neg m,if_neg (fun z=>m ((hme x).mp z))]
    · refine nd_snoc (R.nd.erase b) fun m=>((List.Nodup.mem_erase_iff R.nd).mp m).1 rfl
    · rw [upd_ne (fun z:x=ad=>n2 (z ▸ mad))]
      exact s1 _ _ e n1 n2
  · have c':¬ ru = "old" := fun z=>c (by rw [z])
    rw [if_neg c'] at k
    exact k _ R1 s1
end
def lessO (seq:List Int):Option Int→List Int
  | none=>seq
  | some g=>seq.erase g
def goneP (ru:Str) (us:Int→Int) (pl:Int) (ms:List Int) (gone:Option Int):Prop :=
  ((ms.length:Int)<pl→gone=none)∧(¬ (ms.length:Int)<pl→∃ (g:Int) (rest:List Int),gone=some g∧(g :: rest).Perm ms∧(ru = "few" → (g :: rest).Pairwise (KLt us ms))∧(ru ≠ "few" → g :: rest=ms))
theorem less_sub {seq:List Int} {g:Option Int}:(lessO seq g).Sublist seq:=by
  cases g with
  | none=>exact List.Sublist.refl _
  | some g=>exact List.erase_sublist
section
variable {P:Program} {w:World} {K:PySem.W.Frag} {mg:Str→Option Value} {base:Heap}
def spRoom (K:PySem.W.Frag):Sp:=fun vs H Q _=>∃ (p dx:Addr) (sh pl:Int) (ru:Str),vs=[.ref p,.int sh,.int pl,.str ru]∧H p=some (.ins (clsOf K "Room") dx [])∧1≤sh∧sh≤64 ∧
  ∀ (ls:Addr) (ads:List Addr) (du:Addr) (H':Hp),RoomAt K H' p sh pl ru ls ads du [] (fun _=>0) 0→H ls=none→H du=none→(∀ ad∈ads,H ad=none)→(∀ b o,H b=some o→b≠p→H' b=some o)→Q .non H'
theorem ok_Room_init {f:Addr} {fd:FuncData} (F:Fun K "__init__" "Room.__init__" s_Room_init f fd) (T:Txt K mg):FnOk P w K mg base CX0 1 f fd P_Room_init (spRoom K):=by
  refine F.ok sc_Room_init (fun vs H Q E h=>?_) (fun cdv A outer st H vs Q E hr h=>?_)
  · obtain ⟨p,dx,sh,pl,ru,rfl,_⟩:=h
    rfl
  obtain ⟨p,dx,sh,pl,ru,rfl,hp,hs0,hs1,k⟩:=h
  have nd:=sc_Room_init.nd
  refine ⟨_,(pss_cons (ps_fld (pv 0) (pv 1) rfl)
      (pss_cons (ps_fld (pv 0) (pv 2) rfl)
      (pss_cons (ps_fld (pv 0) (pv 3) rfl)
      (pss_cons (ps_fld (pv 0) (pe_comp0 (compOk_of (osc:=(defScope s_Room_init)) (oN:=N_Room_init) (N:=["number"]) (own:=1) (js:=[]) (by decide +kernel) rfl rfl) rfl (pi_range1 rfl T.z_range (pc (pv 1) pa_nil)) (fun _ _ _ _ _ _=>(pgn 0 (show List.Nodup (["number"]:List Str) by decide +kernel))) (fun _ _ _ _ _ _=>(pe_lst pa_nil))) rfl)
      (pss_one (ps_fld (pv 0) pe_dnewK rfl)))))),?_⟩
  refine ⟨_,rfl,_,rfl,p,_,dx,_,rfl,hp,T.cl_Room,T.n_Room_shelves,(by show 0<1000; decide),?_⟩
  refine ⟨_,rfl,_,rfl,p,_,dx,_,rfl,upd_same,T.cl_Room,T.n_Room_places,(by show 1<1000; decide),?_⟩
  refine ⟨_,rfl,_,rfl,p,_,dx,_,rfl,upd_same,T.cl_Room,T.n_Room_rule,(by show 2<1000; decide),?_⟩
  have e3:upd (upd (upd H p (.ins (clsOf K "Room") dx (putF "shelves" (.int sh) []))) p (.ins (clsOf K "Room") dx (putF "places" (.int pl) (putF "shelves" (.int sh) [])))) p (.ins (clsOf K "Room") dx (putF "rule" (.str ru) (putF "places" (.int pl) (putF "shelves" (.int sh) [])))) p=some (.ins (clsOf K "Room") dx (putF "rule" (.str ru) (putF "places" (.int pl) (putF "shelves" (.int sh) [])))):=upd_same
  have o3:∀ b o,H b=some o→b≠p→upd (upd (upd H p (.ins (clsOf K "Room") dx (putF "shelves" (.int sh) []))) p (.ins (clsOf K "Room") dx (putF "places" (.int pl) (putF "shelves" (.int sh) [])))) p (.ins (clsOf K "Room") dx (putF "rule" (.str ru) (putF "places" (.int pl) (putF "shelves" (.int sh) [])))) b=some o:=fun b o e n=>by rw [upd_ne n,upd_ne n,upd_ne n]; exact e
  generalize upd (upd (upd H p (.ins (clsOf K "Room") dx (putF "shelves" (.int sh) []))) p (.ins (clsOf K "Room") dx (putF "places" (.int pl) (putF "shelves" (.int sh) [])))) p (.ins (clsOf K "Room") dx (putF "rule" (.str ru) (putF "places" (.int pl) (putF "shelves" (.int sh) []))))=H3 at *
  have f3:∀ b,H3 b=none→H b=none:=fun b e=>by
    cases q:H b with
    | none=>rfl
    | some o =>
      by_cases z:b=p
      · rw [z,e3] at e; cases e
      · rw [o3 b o q z] at e; cases e
  refine ⟨_,rfl,sh,rfl,by omega,by omega,fun ls hls=>?_⟩
  refine comp_range (lo:=0) (n:=sh.toNat) (l:=ls) (fun j ys σ G=>∃ (v0:Option V) (ads:List Addr),σ=[v0]∧ys=ads.map V.ref∧ads.length=j∧ads.Nodup∧ls∉ads∧G ls=some (.lst ys)∧(∀ ad∈ads,H3 ad=none∧G ad=some (.lst []))∧Same H3 G)
    ⟨none,[],rfl,rfl,rfl,List.nodup_nil,by simp,upd_same,by simp,same_upd hls _⟩ ?_ ?_
  · rintro j ys σ G hj hy ⟨v0,ads,rfl,rfl,hlen,hnd,hoff,g1,g2,s1⟩
    refine ⟨(by show 0≤sizeLine; decide),fun q hq=>?_⟩
    have nq:ls≠q:=ne_of_none g1 hq
    have niq:q∉ads:=fun m=>by rw [(g2 q m).2] at hq; cases hq
    refine CNx.of (Nat.le_trans (by omega:sh.toNat≤64) (by decide)) hj hy (by rw [upd_ne nq]; exact g1) ⟨_,ads++[q],rfl,by rw [List.map_append]; rfl,by rw [List.length_append,hlen]; rfl,nd_snoc hnd niq,?_,upd_same,fun ad m=>?_,?_⟩
    · intro m
      rcases List.mem_append.mp m with m | m
      · exact hoff m
      · exact nq (by simpa using m)
    · rcases List.mem_append.mp m with m | m
      · rw [upd_ne (fun z:ad=ls=>hoff (z ▸ m)),upd_ne (fun z:ad=q=>niq (z ▸ m))]
        exact g2 ad m
      · have e:ad=q:=by simpa using m
        subst e
        rw [upd_ne (Ne.symm nq)]
        exact ⟨s1.free hq,upd_same⟩
    · intro e o y
      rw [upd_ne (ne_of_none y hls),upd_ne (ne_of_none (s1 _ _ y) hq)]
      exact s1 _ _ y
  rintro ys σ G hy ⟨v0,ads,rfl,rfl,hlen,hnd,hoff,g1,g2,s1⟩
  have gp:=s1 _ _ e3
  refine ⟨_,rfl,p,_,dx,_,rfl,gp,T.cl_Room,T.n_Room_standing,(by show 3<1000; decide),?_⟩
  intro du hdu
  have nls:ls≠p:=fun z=>by rw [z,e3] at hls; cases hls
  have nas:∀ ad∈ads,ad≠p:=fun ad m z=>by have q:=(g2 ad m).1; rw [z,e3] at q; cases q
  have npd:p≠du:=ne_of_none (upd_same (H:=G) (a:=p) (o:=.ins (clsOf K "Room") dx (putF "standing" (.ref ls) (putF "rule" (.str ru) (putF "places" (.int pl) (putF "shelves" (.int sh) [])))))) hdu
  have gl:ls≠du:=fun z=>by rw [← z,upd_ne nls,g1] at hdu; cases hdu
  have ga:du∉ads:=fun m=>by rw [upd_ne (Ne.symm npd),(g2 du m).2] at hdu; cases hdu
  refine ⟨_,rfl,p,_,dx,_,rfl,(by rw [upd_ne npd]; exact upd_same),T.cl_Room,T.n_Room_uses,(by show 4<1000; decide),?_⟩
  have hduH3:H3 du=none:=by
    rw [upd_ne (Ne.symm npd)] at hdu
    exact s1.free hdu
  refine k ls ads du _ ⟨⟨dx,upd_same⟩,⟨?_,hlen,hnd,hoff,fun i ad e=>?_⟩,⟨[],?_,⟨Nat.le_refl _,KI.nil⟩,fun b=>by simp [valV]⟩,List.nodup_nil,hs0,hs1⟩ (f3 _ hls) (f3 _ hduH3) (fun ad m=>f3 _ (g2 ad m).1) fun b o e n=>?_
  · rw [upd_ne nls,upd_ne gl,upd_ne nls]
    exact g1
  · have m:=List.mem_of_getElem? e
    rw [upd_ne (nas ad m),upd_ne (fun z:ad=du=>ga (z ▸ m)),upd_ne (nas ad m)]
    exact (g2 ad m).2
  · rw [upd_ne (Ne.symm npd)]
    exact upd_same
  · have q:=s1 _ _ (o3 b o e n)
    have nb:b≠du:=fun z=>by
      rw [← z,upd_ne n,q] at hdu
      cases hdu
    rw [upd_ne n,upd_ne nb,upd_ne n]
    exact q
def zero (us:Int→Int) (b:Int):Int→Int:=fun x=>if x=b then 0 else us x
def spBring (K:PySem.W.Frag):Sp:=fun vs H Q _=>∃ (p:Addr) (b sh pl:Int) (ru:Str) (ls:Addr) (ads:List Addr) (du:Addr) (seq:List Int) (us:Int→Int) (n:Nat),vs=[.ref p,.int b]∧RoomAt K H p sh pl ru ls ads du seq us n∧Tb K H∧n≤900∧b∉seq∧1≤pl∧(shelfS sh (b % sh) seq).length<64 ∧
  ∀ (gone:Option Int) (H':Hp),goneP ru us pl (shelfS sh (b % sh) seq) gone→RoomAt K H' p sh pl ru ls ads du (lessO seq gone++[b]) (zero us b) (n+1)→SR ads du H H'→Q (optV gone) H'
def spLeaver (K:PySem.W.Frag):Sp:=fun vs H Q _=>∃ (p:Addr) (b sh pl:Int) (ru:Str) (ls:Addr) (ads:List Addr) (du:Addr) (seq:List Int) (us:Int→Int) (n:Nat),vs=[.ref p,.int b]∧RoomAt K H p sh pl ru ls ads du seq us n∧Tb K H∧1≤pl∧(shelfS sh (b % sh) seq).length<64 ∧
  ∀ (gone:Option Int) (H':Hp),goneP ru us pl (shelfS sh (b % sh) seq) gone→Same H H'→Q (optV gone) H'
theorem ok_Room_leaver_for {f:Addr} {fd:FuncData} (F:Fun K "leaver_for" "Room.leaver_for" s_Room_leaver_for f fd) (T:Txt K mg) (M_Room_mates:MDef P w K mg base (clsOf K "Room") "mates" 2 P_Room_mates (spMates K)) (M_Room_going:MDef P w K mg base (clsOf K "Room") "going" 2 P_Room_going (spGoing K)):FnOk P w K mg base CX0 3 f fd P_Room_leaver_for (spLeaver K):=by
  refine F.ok sc_Room_leaver_for (fun vs H Q E h=>?_) (fun cdv A outer st H vs Q E hr h=>?_)
  · obtain ⟨p,b,sh,pl,ru,ls,ads,du,seq,us,n,rfl,_⟩:=h
    rfl
  obtain ⟨p,b,sh,pl,ru,ls,ads,du,seq,us,n,rfl,R,tb,hpl,h64,k⟩:=h
  have nd:=sc_Room_leaver_for.nd
  have hu:=hu_of hr
  refine ⟨_,(pss_cons (pst 2 nd (pe_methN M_Room_mates hr.m T.cl_Room (pv 0) (pc (pv 1) pa_nil)))
      (pss_cons (ps_if (pt_cmpR op_lt (pe_callBN (call_len_seqK (K:=K) rfl) rfl T.z_len PySem.boot_len (pc (pv 2) pa_nil)) (pe_fldK (K:=K) rfl (pv 0) rfl) (nomark _)) (pss_one (ps_ret pe_non)) pss_nil)
      (pss_one (ps_ret (pe_ix (ix_listK (K:=K) rfl) (pe_methN M_Room_going hr.m T.cl_Room (pv 0) (pc (pv 2) pa_nil)) pe_int (fun _ _=>rfl)))))),?_⟩
  obtain ⟨dx,h1⟩:=R.ob
  refine ⟨_,rfl,p,dx,_,rfl,h1,fl_no ..,_,rfl,p,b,sh,pl,ru,ls,ads,du,seq,us,n,rfl,R,fun s ad es hs had=>?_⟩
  have hnd:(shelfS sh (b % sh) seq).Nodup:=R.nd.sublist List.filter_sublist
  refine ⟨_,rfl,ad,_,rfl,.inl (SqL.of had),_,rfl,p,_,dx,_,_,rfl,h1,T.cl_Room,T.n_Room_places,fl_places ..,_,_,rfl,rfl,_,rfl,?_⟩
  rw [List.length_map]
  refine ite_dec (fun c=>?_) (fun c=>?_)
  · exact k none H ⟨fun _=>rfl,fun z=>absurd z (by omega)⟩ (Same.refl _)
  · refine ⟨_,rfl,p,dx,_,rfl,h1,fl_no ..,_,rfl,p,ad,shelfS sh (b % sh) seq,sh,pl,ru,ls,ads,du,seq,us,n,rfl,R,tb,had,h64,hnd,(fun x m=>(mem_shelfS.mp m).1),fun D H' os hD sm hl po s1 s2=>?_⟩
    have lo:=po.length_eq
    match os,hl,po,s1,s2,lo with
    | [],_,_,_,_,lo=>exact absurd lo (by simp; omega)
    | g :: rest,hl,po,s1,s2,lo =>
      refine ⟨D,_,_,_,rfl,rfl,SqL.of hl,atI0,?_⟩
      exact k (some g) H' ⟨fun z=>absurd c (by omega),fun _=>⟨g,rest,rfl,po,s1,s2⟩⟩ sm
theorem ok_Room_bring {f:Addr} {fd:FuncData} (F:Fun K "bring" "Room.bring" s_Room_bring f fd) (T:Txt K mg) (M_Room_has:MDef P w K mg base (clsOf K "Room") "has" 1 P_Room_has (spHas K)) (M_Room_leaver_for:MDef P w K mg base (clsOf K "Room") "leaver_for" 3 P_Room_leaver_for (spLeaver K)) (M_Room_mates:MDef P w K mg base (clsOf K "Room") "mates" 2 P_Room_mates (spMates K)) (M_Room_drop:MDef P w K mg base (clsOf K "Room") "drop" 3 P_Room_drop (spDrop K)):FnOk P w K mg base CX0 4 f fd P_Room_bring (spBring K):=by
  refine F.ok sc_Room_bring (fun vs H Q E h=>?_) (fun cdv A outer st H vs Q E hr h=>?_)
  · obtain ⟨p,b,sh,pl,ru,ls,ads,du,seq,us,n,rfl,_⟩:=h
    rfl
  obtain ⟨p,b,sh,pl,ru,ls,ads,du,seq,us,n,rfl,R,tb,hn,hb,hpl,h64,k⟩:=h
  have nd:=sc_Room_bring.nd
  have hu:=hu_of hr
  refine ⟨_,(pss_cons (ps_if (pt_val (pe_methN M_Room_has hr.m T.cl_Room (pv 0) (pc (pv 1) pa_nil))) (pss_one ps_no) pss_nil)
      (pss_cons (pst 2 nd (pe_methN M_Room_leaver_for hr.m T.cl_Room (pv 0) (pc (pv 1) pa_nil)))
      (pss_cons (ps_if (pt_cmp (pc_notN (pv 2))) (pss_one (ps_expr (pe_methN M_Room_drop hr.m T.cl_Room (pv 0) (pc (pv 2) pa_nil)))) pss_nil)
      (pss_cons (ps_expr (pe_bmC (K:=K) rfl (pe_bm PySem.F.plainAttrs_list PySem.F.slot_list_append PySem.F.type_list_append mt_append (pe_methN M_Room_mates hr.m T.cl_Room (pv 0) (pc (pv 1) pa_nil)) (pc (pv 1) pa_nil))))
      (pss_cons (ps_dput hu (pe_fldK (K:=K) rfl (pv 0) rfl) (pv 1) pe_int rfl)
      (pss_one (ps_ret (pv 2)))))))),?_⟩
  obtain ⟨dx,h1⟩:=R.ob
  refine ⟨_,rfl,p,dx,_,rfl,h1,fl_no ..,_,rfl,p,b,sh,pl,ru,ls,ads,du,seq,us,n,rfl,R,?_⟩
  rw [decide_eq_false hb]
  refine ⟨_,rfl,ifF rfl ?_⟩
  refine ⟨_,rfl,p,dx,_,rfl,h1,fl_no ..,_,rfl,p,b,sh,pl,ru,ls,ads,du,seq,us,n,rfl,R,tb,hpl,h64,fun gone H1 gp sm=>?_⟩
  refine gN ?_
  dsimp only
  have R0:=R.same sm
  have hnd:(shelfS sh (b % sh) seq).Nodup:=R.nd.sublist List.filter_sublist
  refine cpI (fun σ G=>σ=[some (.ref p),some (.int b),some (optV gone)]∧RoomAt K G p sh pl ru ls ads du (lessO seq gone) us n∧SR ads du H G) (fun D' _ k'=>?_) ?_
  · match gone,gp with
    | none,gp=>exact ⟨_,rfl,_,rfl,ifF rfl (k' _ _ ⟨rfl,R0,SR.of sm⟩)⟩
    | some g,gp =>
      have hg:g∈shelfS sh (b % sh) seq:=by
        by_cases c:((shelfS sh (b % sh) seq).length:Int)<pl
        · exact absurd (gp.1 c) (by simp)
        · obtain ⟨g',rest,e,po,_⟩:=gp.2 c
          injection e with e
          subst e
          exact po.mem_iff.mp List.mem_cons_self
      obtain ⟨dx',h1'⟩:=R0.ob
      exact ⟨_,rfl,_,rfl,ifT rfl ⟨_,rfl,p,dx',_,rfl,h1',fl_no ..,_,rfl,p,g,sh,pl,ru,ls,ads,du,seq,us,n,rfl,R0,(mem_shelfS.mp hg).1,fun H2 R2 s3=>k' _ _ ⟨rfl,R2,(SR.of sm).trans s3⟩⟩⟩
  rintro _ G ⟨rfl,R1,s1⟩
  obtain ⟨dx1,g1⟩:=R1.ob
  obtain ⟨kvs,g2,g3,g4⟩:=R1.dc
  obtain ⟨o1,o2,o3,o4,o5,o6⟩:=R1.off
  refine ⟨_,rfl,p,dx1,_,rfl,g1,fl_no ..,_,rfl,p,b,sh,pl,ru,ls,ads,du,lessO seq gone,us,n,rfl,R1,fun s ad es hs had0=>?_⟩
  have mad:ad∈ads:=List.mem_of_getElem? hs
  have had1:=R1.st.at_ s ad hs
  have ll:(shelfS sh s (lessO seq gone)).length≤64:=by
    have q:(shelfS sh s (lessO seq gone)).Sublist (shelfS sh s seq):=List.Sublist.filter _ (less_sub (g:=gone))
    have q2:=q.length_le
    rw [es] at q2 ⊢
    omega
  refine ⟨.inl ⟨rfl,_,SqL.of had1⟩,_,rfl,ad,_,_,rfl,rfl,had1,small1000 (by rw [List.length_map]; omega),?_⟩
  have nb:b∉lessO seq gone:=fun m=>hb (less_sub.subset m)
  have e1:((shelfS sh s (lessO seq gone)).map V.int++[V.int b])=(shelfS sh s (lessO seq gone)++[b]).map V.int:=by rw [List.map_append]; rfl
  rw [e1]
  have S2:Shl (upd G ad (.lst ((shelfS sh s (lessO seq gone)++[b]).map V.int))) ls ads sh (lessO seq gone++[b]):=by
    refine R1.st.put hs ?_ fun s' hs'=>?_
    · rw [shelfS_app,if_pos es.symm]
    · rw [shelfS_app,if_neg (by omega)]
  have np:p≠ad:=fun z=>o2 (z ▸ mad)
  have ndu:du≠ad:=fun z=>o5 (z ▸ mad)
  have g1':upd G ad (.lst ((shelfS sh s (lessO seq gone)++[b]).map V.int)) p=some (.ins (clsOf K "Room") dx1 (flds sh pl ru ls du)):=by rw [upd_ne np]; exact g1
  have g2':upd G ad (.lst ((shelfS sh s (lessO seq gone)++[b]).map V.int)) du=some (.dK kvs):=by rw [upd_ne ndu]; exact g2
  refine ⟨_,rfl,p,_,dx1,_,_,rfl,g1',T.cl_Room,T.n_Room_uses,fl_uses ..,_,rfl,du,_,rfl,DPut.k (k:=Sum.inl b) g2' (small1000 (by omega)),?_⟩
  refine ⟨_,rfl,k gone _ gp ⟨⟨dx1,by rw [upd_ne o1]; exact g1'⟩,S2.other _ (Ne.symm o3) o5,⟨_,upd_same,⟨Nat.le_trans (length_putK ..) (by have:=g3.1; omega),g3.2.put b _⟩,fun x=>?_⟩,nd_snoc R1.nd nb,R.s0,R.s1⟩ fun x o e n1 n2=>?_⟩
  · rw [valV_put]
    unfold zero
    by_cases c:x=b
    · subst c
      rw [if_pos rfl,if_pos (List.mem_append_right _ (List.mem_singleton.mpr rfl)),if_pos rfl]
    · rw [if_neg (fun z=>c (Sum.inl.inj z)),g4 x,if_neg c]
      by_cases m:x∈lessO seq gone
      · rw [if_pos m,if_pos (List.mem_append_left _ m)]
      · rw [if_neg m,if_neg (fun z=>(List.mem_append.mp z).elim m fun q=>c (List.mem_singleton.mp q))]
  · rw [upd_ne n1,upd_ne (fun z:x=ad=>n2 (z ▸ mad))]
    exact s1 _ _ e n1 n2
end
section
variable {P:Program} {w:World} {K:PySem.W.Frag} {mg:Str→Option Value} {base:Heap}
def spNoT (K:PySem.W.Frag):Sp:=fun vs H _ E=>∃ (p:Addr) (b sh pl:Int) (ru:Str) (ls:Addr) (ads:List Addr) (du:Addr) (seq:List Int) (us:Int→Int) (n:Nat),vs=[.ref p,.int b]∧RoomAt K H p sh pl ru ls ads du seq us n∧b∉seq∧b.natAbs<2 ^ 100∧∀ a,E (.ref (clsOf K "NotThere")) (some a) H
def spYes (K:PySem.W.Frag):Sp:=fun vs H _ E=>∃ (p:Addr) (b sh pl:Int) (ru:Str) (ls:Addr) (ads:List Addr) (du:Addr) (seq:List Int) (us:Int→Int) (n:Nat),vs=[.ref p,.int b]∧RoomAt K H p sh pl ru ls ads du seq us n∧b∈seq∧b.natAbs<2 ^ 100∧∀ a,E (.ref (clsOf K "There")) (some a) H
theorem okx_Room_need {f:Addr} {fd:FuncData} (F:Fun K "need" "Room.need" s_Room_need f fd) (T:Txt K mg) (G:FnOk P w K mg base CX0 2 f fd P_Room_need (spNeed K)) (M_Room_has:MDef P w K mg base (clsOf K "Room") "has" 1 P_Room_has (spHas K)):FnOk P w K mg base (CXr P w) 2 f fd P_Room_need (spOr (spNeed K) (spNoT K)):=by
  refine G.rise.or (F.okx sc_Room_need (fun vs H Q E h=>?_) (fun cdv A outer st H vs Q E hr h=>?_))
  · obtain ⟨p,b,sh,pl,ru,ls,ads,du,seq,us,n,rfl,_⟩:=h
    rfl
  obtain ⟨p,b,sh,pl,ru,ls,ads,du,seq,us,n,rfl,R,hb,hz,k⟩:=h
  have nd:=sc_Room_need.nd
  refine ⟨_,(pxs_one (px_if (fun _ _ h=>h) (pt_not (pt_val (pe_methN M_Room_has hr.m T.cl_Room (pv 0) (pc (pv 1) pa_nil)))) (pxs_one (px_raise (fun _ _ h=>h) rfl rfl T.x_NotThere T.o_NotThere.c (pc (pe_fstr (pv 1) (by decide)) pa_nil))) pxs_nil)),?_⟩
  obtain ⟨dx,h1⟩:=R.ob
  refine ⟨_,rfl,p,dx,_,rfl,h1,fl_no ..,_,rfl,p,b,sh,pl,ru,ls,ads,du,seq,us,n,rfl,R,?_⟩
  rw [decide_eq_false hb]
  exact ⟨_,rfl,ifT rfl ⟨_,rfl,b,rfl,hz,fun y=>⟨(by show 1≤sizeLine; decide),k⟩⟩⟩
theorem okx_Room_use {f:Addr} {fd:FuncData} (F:Fun K "use" "Room.use" s_Room_use f fd) (T:Txt K mg) (G:FnOk P w K mg base CX0 3 f fd P_Room_use (spUse K)) (X_Room_need:MDefX P w K mg base (clsOf K "Room") "need" 2 P_Room_need (spOr (spNeed K) (spNoT K))):FnOk P w K mg base (CXr P w) 3 f fd P_Room_use (spOr (spUse K) (spNoT K)):=by
  refine G.rise.or (F.okx sc_Room_use (fun vs H Q E h=>?_) (fun cdv A outer st H vs Q E hr h=>?_))
  · obtain ⟨p,b,sh,pl,ru,ls,ads,du,seq,us,n,rfl,_⟩:=h
    rfl
  obtain ⟨p,b,sh,pl,ru,ls,ads,du,seq,us,n,rfl,R,hb,hz,k⟩:=h
  have nd:=sc_Room_use.nd
  refine ⟨_,(pxs_cons (px_expr (pex_methN X_Room_need (fun _ _ h=>h) hr.m T.cl_Room (pv 0) (pc (pv 1) pa_nil)))
      pxs_nev),?_⟩
  obtain ⟨dx,h1⟩:=R.ob
  exact ⟨_,rfl,p,dx,_,rfl,h1,fl_no ..,_,rfl,.inr ⟨p,b,sh,pl,ru,ls,ads,du,seq,us,n,rfl,R,hb,hz,fun a=>⟨_,_,rfl,rfl,k a⟩⟩⟩
theorem okx_Room_drop {f:Addr} {fd:FuncData} (F:Fun K "drop" "Room.drop" s_Room_drop f fd) (T:Txt K mg) (G:FnOk P w K mg base CX0 3 f fd P_Room_drop (spDrop K)) (X_Room_need:MDefX P w K mg base (clsOf K "Room") "need" 2 P_Room_need (spOr (spNeed K) (spNoT K))):FnOk P w K mg base (CXr P w) 3 f fd P_Room_drop (spOr (spDrop K) (spNoT K)):=by
  refine G.rise.or (F.okx sc_Room_drop (fun vs H Q E h=>?_) (fun cdv A outer st H vs Q E hr h=>?_))
  · obtain ⟨p,b,sh,pl,ru,ls,ads,du,seq,us,n,rfl,_⟩:=h
    rfl
  obtain ⟨p,b,sh,pl,ru,ls,ads,du,seq,us,n,rfl,R,hb,hz,k⟩:=h
  have nd:=sc_Room_drop.nd
  refine ⟨_,(pxs_cons (px_expr (pex_methN X_Room_need (fun _ _ h=>h) hr.m T.cl_Room (pv 0) (pc (pv 1) pa_nil)))
      pxs_nev),?_⟩
  obtain ⟨dx,h1⟩:=R.ob
  exact ⟨_,rfl,p,dx,_,rfl,h1,fl_no ..,_,rfl,.inr ⟨p,b,sh,pl,ru,ls,ads,du,seq,us,n,rfl,R,hb,hz,fun a=>⟨_,_,rfl,rfl,k a⟩⟩⟩
theorem okx_Room_bring {f:Addr} {fd:FuncData} (F:Fun K "bring" "Room.bring" s_Room_bring f fd) (T:Txt K mg) (G:FnOk P w K mg base CX0 4 f fd P_Room_bring (spBring K)) (M_Room_has:MDef P w K mg base (clsOf K "Room") "has" 1 P_Room_has (spHas K)):FnOk P w K mg base (CXr P w) 4 f fd P_Room_bring (spOr (spBring K) (spYes K)):=by
  refine G.rise.or (F.okx sc_Room_bring (fun vs H Q E h=>?_) (fun cdv A outer st H vs Q E hr h=>?_))
  · obtain ⟨p,b,sh,pl,ru,ls,ads,du,seq,us,n,rfl,_⟩:=h
    rfl
  obtain ⟨p,b,sh,pl,ru,ls,ads,du,seq,us,n,rfl,R,hb,hz,k⟩:=h
  have nd:=sc_Room_bring.nd
  refine ⟨_,(pxs_cons (px_if (fun _ _ h=>h) (pt_val (pe_methN M_Room_has hr.m T.cl_Room (pv 0) (pc (pv 1) pa_nil))) (pxs_one (px_raise (fun _ _ h=>h) rfl rfl T.x_There T.o_There.c (pc (pe_fstr (pv 1) (by decide)) pa_nil))) pxs_nil)
      pxs_nev),?_⟩
  obtain ⟨dx,h1⟩:=R.ob
  refine ⟨_,rfl,p,dx,_,rfl,h1,fl_no ..,_,rfl,p,b,sh,pl,ru,ls,ads,du,seq,us,n,rfl,R,?_⟩
  rw [decide_eq_true hb]
  exact ⟨_,rfl,ifT rfl ⟨_,rfl,b,rfl,hz,fun y=>⟨(by show 1≤sizeLine; decide),k⟩⟩⟩
end
section
variable {P:Program} {w:World} {K:PySem.W.Frag} {mg:Str→Option Value} {base:Heap}
def spShelfOn (K:PySem.W.Frag):Sp:=fun vs H Q _=>∃ (p:Addr) (s sh pl:Int) (ru:Str) (ls:Addr) (ads:List Addr) (du:Addr) (seq:List Int) (us:Int→Int) (n:Nat),vs=[.ref p,.int s]∧RoomAt K H p sh pl ru ls ads du seq us n∧Tb K H∧0≤s∧s<sh∧(shelfS sh s seq).length<64 ∧
  ∀ (D:Addr) (H':Hp) (os:List Int),H D=none→Same H H'→H' D=some (.lst (os.map V.int))→os.Perm (shelfS sh s seq)→(ru = "few" → os.Pairwise (KLt us (shelfS sh s seq)))→(ru ≠ "few" → os=shelfS sh s seq)→Q (.ref D) H'
theorem ok_Room_shelf {f:Addr} {fd:FuncData} (F:Fun K "shelf" "Room.shelf" s_Room_shelf f fd) (T:Txt K mg) (M_Room_going:MDef P w K mg base (clsOf K "Room") "going" 2 P_Room_going (spGoing K)):FnOk P w K mg base CX0 3 f fd P_Room_shelf (spShelfOn K):=by
  refine F.ok sc_Room_shelf (fun vs H Q E h=>?_) (fun cdv A outer st H vs Q E hr h=>?_)
  · obtain ⟨p,s,sh,pl,ru,ls,ads,du,seq,us,n,rfl,_⟩:=h
    rfl
  obtain ⟨p,s,sh,pl,ru,ls,ads,du,seq,us,n,rfl,R,tb,s0,s1,h64,k⟩:=h
  have nd:=sc_Room_shelf.nd
  have hu:=hu_of hr
  refine ⟨_,(pss_cons (ps_if (pt_not (pt_chain op_le op_lt pe_int (pv 1) (pe_fldK (K:=K) rfl (pv 0) rfl))) (pss_one ps_no) pss_nil)
      (pss_one (ps_ret (pe_methN M_Room_going hr.m T.cl_Room (pv 0) (pc (pe_ix (ix_listK (K:=K) rfl) (pe_fldK (K:=K) rfl (pv 0) rfl) (pv 1) (fun _ _=>rfl)) pa_nil))))),?_⟩
  obtain ⟨dx,h1⟩:=R.ob
  obtain ⟨i,ad,e1,e2,e3,e4⟩:=R.st.get s0 s1
  have hnd:(shelfS sh s seq).Nodup:=R.nd.sublist List.filter_sublist
  refine ⟨_,rfl,_,_,rfl,rfl,_,rfl,ifT (decide_eq_true s0) ⟨_,rfl,p,_,dx,_,_,rfl,h1,T.cl_Room,T.n_Room_shelves,fl_shelves ..,_,_,rfl,rfl,_,rfl,ifF (by rw [decide_eq_true s1]; rfl) ?_⟩⟩
  refine ⟨_,rfl,p,dx,_,rfl,h1,fl_no ..,_,rfl,p,_,dx,_,_,rfl,h1,T.cl_Room,T.n_Room_standing,fl_standing ..,_,rfl,ls,_,_,_,rfl,rfl,SqL.of R.st.top,e3,p,ad,shelfS sh s seq,sh,pl,ru,ls,ads,du,seq,us,n,rfl,R,tb,e4,h64,hnd,(fun x m=>(mem_shelfS.mp m).1),k⟩
end
section
variable {P:Program} {w:World} {K:PySem.W.Frag} {mg:Str→Option Value} {base:Heap}
def spNoSh (K:PySem.W.Frag):Sp:=fun vs H _ E=>∃ (p:Addr) (b sh pl:Int) (ru:Str) (ls:Addr) (ads:List Addr) (du:Addr) (seq:List Int) (us:Int→Int) (n:Nat),vs=[.ref p,.int b]∧RoomAt K H p sh pl ru ls ads du seq us n∧(b<0∨sh≤b)∧b.natAbs<2 ^ 100∧∀ a,E (.ref (clsOf K "NoShelf")) (some a) H
theorem okx_Room_shelf {f:Addr} {fd:FuncData} (F:Fun K "shelf" "Room.shelf" s_Room_shelf f fd) (T:Txt K mg) (G:FnOk P w K mg base CX0 3 f fd P_Room_shelf (spShelfOn K)):FnOk P w K mg base (CXr P w) 3 f fd P_Room_shelf (spOr (spShelfOn K) (spNoSh K)):=by
  refine G.rise.or (F.okx sc_Room_shelf (fun vs H Q E h=>?_) (fun cdv A outer st H vs Q E hr h=>?_))
  · obtain ⟨p,b,sh,pl,ru,ls,ads,du,seq,us,n,rfl,_⟩:=h
    rfl
  obtain ⟨p,b,sh,pl,ru,ls,ads,du,seq,us,n,rfl,R,hb,hz,k⟩:=h
  have nd:=sc_Room_shelf.nd
  refine ⟨_,(pxs_cons (px_if (fun _ _ h=>h) (pt_not (pt_chain op_le op_lt pe_int (pv 1) (pe_fldK (K:=K) rfl (pv 0) rfl))) (pxs_one (px_raise (fun _ _ h=>h) rfl rfl T.x_NoShelf T.o_NoShelf.c (pc (pe_fstr2 (pv 1) (by decide)) pa_nil))) pxs_nil)
      pxs_nev),?_⟩
  obtain ⟨dx,h1⟩:=R.ob
  by_cases c:b<0
  · refine ⟨_,rfl,_,_,rfl,rfl,_,rfl,ifF (decide_eq_false (by omega)) ?_⟩
    exact ⟨_,rfl,ifT rfl ⟨_,rfl,b,rfl,hz,fun y=>⟨(by show 1≤sizeLine; decide),k⟩⟩⟩
  · exact ⟨_,rfl,_,_,rfl,rfl,_,rfl,ifT (decide_eq_true (by omega)) ⟨_,rfl,p,_,dx,_,_,rfl,h1,T.cl_Room,T.n_Room_shelves,fl_shelves ..,_,_,rfl,rfl,_,rfl,ifT (by rw [decide_eq_false (by omega)]; rfl) ⟨_,rfl,b,rfl,hz,fun y=>⟨(by show 1≤sizeLine; decide),k⟩⟩⟩⟩
end
theorem RoomAt.new {K:PySem.W.Frag} {H:Hp} {p:Addr} {sh pl:Int} {ru:Str} {ls:Addr} {ads:List Addr} {du:Addr} {seq:List Int} {us:Int→Int} {n:Nat} (R:RoomAt K H p sh pl ru ls ads du seq us n) {x:Addr} (h:H x=none):x≠du∧x∉ads:=by
  obtain ⟨kvs,e,_⟩:=R.dc
  refine ⟨fun z=>?_,fun z=>?_⟩
  · rw [z,e] at h; cases h
  · obtain ⟨xs,q⟩:=R.st.one z
    rw [q] at h; cases h
theorem full_less {sh pl:Int} {seq seq':List Int} (h:∀ s,((shelfS sh s seq).length:Int)≤pl) (hs:seq'.Sublist seq):∀ s,((shelfS sh s seq').length:Int)≤pl:=fun s=>by
  have q:(shelfS sh s seq').Sublist (shelfS sh s seq):=List.Sublist.filter _ hs
  have:=q.length_le
  have:=h s
  omega
theorem full_perm {sh pl:Int} {seq seq':List Int} (h:∀ s,((shelfS sh s seq).length:Int)≤pl) (hs:seq'.Perm seq):∀ s,((shelfS sh s seq').length:Int)≤pl:=fun s=>by
  have q:(shelfS sh s seq').Perm (shelfS sh s seq):=List.Perm.filter _ hs
  rw [q.length_eq]
  exact h s
theorem full_bring {ru:Str} {us:Int→Int} {sh pl b:Int} {seq:List Int} {gone:Option Int} (hf:∀ s,((shelfS sh s seq).length:Int)≤pl) (gp:goneP ru us pl (shelfS sh (b % sh) seq) gone):∀ s,((shelfS sh s (lessO seq gone++[b])).length:Int)≤pl:=fun s=>by
  rw [shelfS_app]
  cases gone with
  | none =>
    show ((if b % sh=s then shelfS sh s seq++[b] else shelfS sh s seq).length:Int)≤pl
    split
    · rename_i e
      rw [List.length_append]
      have:((shelfS sh (b % sh) seq).length:Int)<pl:=by
        by_cases c:((shelfS sh (b % sh) seq).length:Int)<pl
        · exact c
        · obtain ⟨g,rest,z,_⟩:=gp.2 c
          cases z
      rw [← e]
      show ((_+1:Nat):Int)≤pl
      omega
    · exact hf s
  | some g =>
    have c:¬ ((shelfS sh (b % sh) seq).length:Int)<pl:=fun z=>by have:=gp.1 z; cases this
    obtain ⟨g',rest,e,po,_⟩:=gp.2 c
    cases e
    have mg:g∈shelfS sh (b % sh) seq:=po.mem_iff.mp List.mem_cons_self
    show ((if b % sh=s then shelfS sh s (seq.erase g)++[b] else shelfS sh s (seq.erase g)).length:Int)≤pl
    rw [shelfS_erase]
    have fs:=hf s
    split
    · rename_i e
      rw [← e] at fs ⊢
      rw [List.length_append,List.length_erase_of_mem mg]
      have:=List.length_pos_of_mem mg
      show ((_ - 1+1:Nat):Int)≤pl
      omega
    · have:=List.length_erase_le (a:=g) (l:=shelfS sh s seq)
      omega
theorem RoomAt.le {K:PySem.W.Frag} {H:Hp} {p:Addr} {sh pl:Int} {ru:Str} {ls:Addr} {ads:List Addr} {du:Addr} {seq:List Int} {us:Int→Int} {n m:Nat} (R:RoomAt K H p sh pl ru ls ads du seq us n) (h:n≤m):RoomAt K H p sh pl ru ls ads du seq us m:=by
  obtain ⟨kvs,h2,⟨h3,h5⟩,h4⟩:=R.dc
  exact ⟨R.ob,R.st,⟨kvs,h2,⟨Nat.le_trans h3 h,h5⟩,h4⟩,R.nd,R.s0,R.s1⟩
section
variable {P:Program} {w:World} {K:PySem.W.Frag} {mg:Str→Option Value} {base:Heap}
inductive Step7 (ru:Str) (us:Int→Int) (pl sh:Int) (seq:List Int) (b:Int):Int→V→List Int→(Int→Int)→Prop
  | bring {gone:Option Int} (h:b∉seq) (gp:goneP ru us pl (shelfS sh (b % sh) seq) gone):Step7 ru us pl sh seq b 0 (optV gone) (lessO seq gone++[b]) (zero us b)
  | use (h:b∈seq):Step7 ru us pl sh seq b 1 .non (if ru = "old" then seq.erase b++[b] else seq) (bump us b)
  | drop (h:b∈seq):Step7 ru us pl sh seq b 2 .non (seq.erase b) us
theorem Step7.sub {ru:Str} {us us':Int→Int} {pl sh:Int} {seq seq':List Int} {b way:Int} {x:V} (s:Step7 ru us pl sh seq b way x seq' us'):∀ y∈seq',y=b∨y∈seq:=by
  intro y hy
  cases s with
  | bring h gp=>exact (List.mem_append.mp hy).elim (fun m=>.inr (less_sub.subset m)) fun m=>.inl (List.mem_singleton.mp m)
  | use h =>
    split at hy
    · rcases List.mem_append.mp hy with hy | hy
      · exact .inr (List.mem_of_mem_erase hy)
      · exact .inl (List.mem_singleton.mp hy)
    · exact .inr hy
  | drop h=>exact .inr (List.mem_of_mem_erase hy)
theorem Step7.full {ru:Str} {us us':Int→Int} {pl sh:Int} {seq seq':List Int} {b way:Int} {x:V} (s:Step7 ru us pl sh seq b way x seq' us') (h:∀ s,((shelfS sh s seq).length:Int)≤pl):∀ s,((shelfS sh s seq').length:Int)≤pl:=by
  cases s with
  | bring _ gp=>exact full_bring h gp
  | use hb =>
    split
    · exact full_perm h ((List.perm_append_comm).trans (List.perm_cons_erase hb).symm)
    · exact h
  | drop _=>exact full_less h List.erase_sublist
def spDoneS (K:PySem.W.Frag):Sp:=fun vs H Q _=>∃ (p:Addr) (way b sh pl:Int) (ru:Str) (ls:Addr) (ads:List Addr) (du:Addr) (seq:List Int) (us:Int→Int) (n:Nat),vs=[.ref p,.int way,.int b]∧RoomAt K H p sh pl ru ls ads du seq us n∧Tb K H∧n≤800∧seq.length≤800∧1≤pl∧pl≤16∧(∀ s,((shelfS sh s seq).length:Int)≤pl)∧b.natAbs<2 ^ 100∧(way=0∨way=1∨way=2) ∧
  (∀ H',(way=0↔b∈seq)→RoomAt K H' p sh pl ru ls ads du seq us n→Same H H'→Q (.str (if way=0 then "There" else "NotThere")) H') ∧
  (∀ (t:Addr) (x:V) (H':Hp) (seq':List Int) (us':Int→Int),¬ (way=0↔b∈seq)→Step7 ru us pl sh seq b way x seq' us'→RoomAt K H' p sh pl ru ls ads du seq' us' (n+1)→SR ads du H H'→H t=none→H' t=some (.tup [.str "told",x])→Q (.ref t) H')
theorem ok_done_deed {f:Addr} {fd:FuncData} (F:Fun K "_law_done_deed" "_law_done_deed" s_done_deed f fd) (T:Txt K mg) (X_Room_bring:MDefX P w K mg base (clsOf K "Room") "bring" 4 P_Room_bring (spOr (spBring K) (spYes K))) (X_Room_use:MDefX P w K mg base (clsOf K "Room") "use" 3 P_Room_use (spOr (spUse K) (spNoT K))) (X_Room_drop:MDefX P w K mg base (clsOf K "Room") "drop" 3 P_Room_drop (spOr (spDrop K) (spNoT K))):FnOk P w K mg base CX0 5 f fd P_done_deed (spDoneS K):=by
  refine F.ok sc_done_deed (fun vs H Q E h=>?_) (fun cdv A outer st H vs Q E hr h=>?_)
  · obtain ⟨p,way,b,sh,pl,ru,ls,ads,du,seq,us,n,rfl,_⟩:=h
    rfl
  obtain ⟨p,way,b,sh,pl,ru,ls,ads,du,seq,us,n,rfl,R,tb,hn,hsl,hpl,hpl2,h64,hz,hw,kr,kt⟩:=h
  have nd:=sc_done_deed.nd
  have hu:=hu_of hr
  refine ⟨_,(pss_cons (ps_asg (pe_tup (pc pe_non (pc pe_non pa_nil))) (pg_tupK (K:=K) (n:=2) rfl rfl (pgs_cons (pgn 3 nd) (pgs_cons (pgn 4 nd) pgs_nil))))
      (pss_cons (ps_tryxK (K:=K) (i:=5) rfl rfl rfl rfl T.x_StairError nd rfl rfl (pxs_one (px_if (fun _ _ h=>h) (pt_cmpR op_eq (pv 1) pe_int (nomark _)) (pxs_one (px_set (i:=3) nd rfl (by first | exact Or.inl rfl | exact Or.inr rfl) (by first | exact Or.inl rfl | exact Or.inr rfl) (pex_methN X_Room_bring (fun _ _ h=>h) hr.m T.cl_Room (pv 0) (pc (pv 2) pa_nil)))) (pxs_one (px_if (fun _ _ h=>h) (pt_cmpR op_eq (pv 1) pe_int (nomark _)) (pxs_one (px_set (i:=3) nd rfl (by first | exact Or.inl rfl | exact Or.inr rfl) (by first | exact Or.inl rfl | exact Or.inr rfl) (pex_methN X_Room_use (fun _ _ h=>h) hr.m T.cl_Room (pv 0) (pc (pv 2) pa_nil)))) (pxs_one (px_set (i:=3) nd rfl (by first | exact Or.inl rfl | exact Or.inr rfl) (by first | exact Or.inl rfl | exact Or.inr rfl) (pex_methN X_Room_drop (fun _ _ h=>h) hr.m T.cl_Room (pv 0) (pc (pv 2) pa_nil)))))))) (fun _=>(pss_one (pst 4 nd (pv 5)))))
      (pss_cons (ps_if (pt_cmp (pc_isN (pv 4))) (pss_one (ps_ret (pe_tup (pc pe_str (pc (pv 3) pa_nil))))) pss_nil)
      (pss_cons (pst 6 nd (pe_lst (pc (pe_callBN (call_isx (K:=K) rfl) rfl T.z_isinstance boot_isi (pc (pv 4) (pc (pe_glob (v:=.ref (clsOf K "There")) rfl T.x_There rfl) pa_nil))) (pc (pe_callBN (call_isx (K:=K) rfl) rfl T.z_isinstance boot_isi (pc (pv 4) (pc (pe_glob (v:=.ref (clsOf K "NotThere")) rfl T.x_NotThere rfl) pa_nil))) (pc (pe_callBN (call_isx (K:=K) rfl) rfl T.z_isinstance boot_isi (pc (pv 4) (pc (pe_glob (v:=.ref (clsOf K "NoShelf")) rfl T.x_NoShelf rfl) pa_nil))) pa_nil)))))
      (pss_cons (pst 7 nd (pe_or (pe_callBN (call_isxT (K:=K) rfl) rfl T.z_isinstance boot_isi (pc (pv 4) (pc (pe_tup (pc (pe_glob (v:=.ref (clsOf K "NoFit")) rfl T.x_NoFit rfl) (pc (pe_glob (v:=.ref (clsOf K "NoStair")) rfl T.x_NoStair rfl) (pc (pe_glob (v:=.ref (clsOf K "BadRow")) rfl T.x_BadRow rfl) pa_nil)))) pa_nil))) (pe_one (pe_not (pe_callBN (call_isx (K:=K) rfl) rfl T.z_isinstance boot_isi (pc (pv 4) (pc (pe_bltn (v:=.ty "ValueError") rfl T.z_ValueError boot_ValueErrorT rfl) pa_nil)))))))
      (pss_cons (ps_if (PW.pt (pw_or (pt_val (pv 7)) (pw_or1 (pt_cmpR op_ne (pe_bmC (K:=K) rfl (pe_bm PySem.F.plainAttrs_list PySem.F.slot_list_count PySem.F.type_list_count mt_countT (pv 6) (pc pe_bl pa_nil))) pe_int (nomark _))))) (pss_one (ps_ret pe_str)) pss_nil)
      (pss_one (ps_ret (pe_ix (ix_listK (K:=K) rfl) (pe_lst (pc pe_str (pc pe_str (pc pe_str pa_nil)))) (pe_bmC (K:=K) rfl (pe_bm PySem.F.plainAttrs_list PySem.F.slot_list_index PySem.F.type_list_index mt_indexT (pv 6) (pc pe_bl pa_nil))) (fun _ _=>rfl)))))))))),?_⟩
  obtain ⟨dx,h1⟩:=R.ob
  refine ⟨(by show 2≤sizeLine; decide),fun t0 ht0=>⟨t0,_,rfl,SqT.of upd_same,rfl,_,_,rfl,gN ⟨_,_,rfl,gN ⟨rfl,?_⟩⟩⟩⟩
  try dsimp only
  have s0:=same_upd ht0 (.tup [.non,.non])
  have R:=R.same s0
  have tb:=tb.same s0
  have h1:=s0 _ _ h1
  generalize upd H t0 (.tup [.non,.non])=H0 at *
  have h64':(shelfS sh (b % sh) seq).length<64:=by have:=h64 (b % sh); omega
  refine cpI (fun σ G=>(∃ v seq' us',σ=[some (.ref p),some (.int way),some (.int b),some v,some .non,none,none,none]∧RoomAt K G p sh pl ru ls ads du seq' us' (n+1)∧Step7 ru us pl sh seq b way v seq' us'∧¬ (way=0↔b∈seq)∧SR ads du H G) ∨
      (∃ a C bs,σ=[some (.ref p),some (.int way),some (.int b),some .non,some (.ref a),none,none,none]∧G a=some (isX a C)∧XOk K (clsOf K "StairError") C [clsOf K "There",clsOf K "NotThere",clsOf K "NoShelf"] [clsOf K "NoFit",clsOf K "NoStair",clsOf K "BadRow"] ∧
        bs=[decide (C=clsOf K "There"),decide (C=clsOf K "NotThere"),decide (C=clsOf K "NoShelf")]∧((bs=[true,false,false]∧way=0)∨(bs=[false,true,false]∧way≠0))∧(way=0↔b∈seq)∧RoomAt K G p sh pl ru ls ads du seq us n∧Same H G)) (fun D' _ k'=>?_) ?_
  · have nd3:=T.o_There.n
    have n12:¬ clsOf K "There" = clsOf K "NotThere" := fun z=>by rw [z] at nd3; simp at nd3
    have n13:¬ clsOf K "There" = clsOf K "NoShelf" := fun z=>by rw [z] at nd3; simp at nd3
    have n23:¬ clsOf K "NotThere" = clsOf K "NoShelf" := fun z=>by rw [z] at nd3; simp at nd3
    have rY:way=0→b∈seq→∀ a,PySem.W.exmOne K (.ref (clsOf K "There")) (.ref (clsOf K "StairError"))=some true∧∀ H2,H0 a=none→H2=upd H0 a (isX a (clsOf K "There"))→D'.nx [some (.ref p),some (.int way),some (.int b),some .non,some (.ref a),none,none,none] H2:=fun w0 wb a=>⟨T.o_There.s,fun H2 ha e2=>by
      subst e2
      exact k' _ _ (.inr ⟨a,_,_,rfl,upd_same,T.o_There,rfl,.inl ⟨by rw [decide_eq_true rfl,decide_eq_false n12,decide_eq_false n13],w0⟩,⟨fun _=>wb,fun _=>w0⟩,R.same (same_upd ha _),s0.trans (same_upd ha _)⟩)⟩
    have rN:way≠0→b∉seq→∀ a,PySem.W.exmOne K (.ref (clsOf K "NotThere")) (.ref (clsOf K "StairError"))=some true∧∀ H2,H0 a=none→H2=upd H0 a (isX a (clsOf K "NotThere"))→D'.nx [some (.ref p),some (.int way),some (.int b),some .non,some (.ref a),none,none,none] H2:=fun w0 wb a=>⟨T.o_NotThere.s,fun H2 ha e2=>by
      subst e2
      exact k' _ _ (.inr ⟨a,_,_,rfl,upd_same,T.o_NotThere,rfl,.inr ⟨by rw [decide_eq_false (Ne.symm n12),decide_eq_true rfl,decide_eq_false n23],w0⟩,⟨fun z=>absurd z w0,fun z=>absurd z wb⟩,R.same (same_upd ha _),s0.trans (same_upd ha _)⟩)⟩
    rcases hw with rfl | rfl | rfl
    · refine ⟨_,rfl,rfl,_,rfl,ifT (by decide) ⟨_,rfl,p,dx,_,rfl,h1,fl_no ..,_,rfl,?_⟩⟩
      by_cases hb:b∈seq
      · exact .inr ⟨p,b,sh,pl,ru,ls,ads,du,seq,us,n,rfl,R,hb,hz,fun a=>⟨_,_,rfl,rfl,(rY rfl hb a).1,fun H2 ha e2=>⟨_,rfl,(rY rfl hb a).2 H2 ha e2⟩⟩⟩
      · exact .inl ⟨p,b,sh,pl,ru,ls,ads,du,seq,us,n,rfl,R,tb,by omega,hb,hpl,h64',fun gone H1 gp R1 s1=>k' _ _ (.inl ⟨_,_,_,rfl,R1,.bring hb gp,(fun z=>hb (z.mp rfl)),(SR.of s0).trans s1⟩)⟩
    · refine ⟨_,rfl,rfl,_,rfl,ifF (by decide) ⟨_,rfl,rfl,_,rfl,ifT (by decide) ⟨_,rfl,p,dx,_,rfl,h1,fl_no ..,_,rfl,?_⟩⟩⟩
      by_cases hb:b∈seq
      · exact .inl ⟨p,b,sh,pl,ru,ls,ads,du,seq,us,n,rfl,R,by omega,hb,by omega,fun H1 R1 s1=>k' _ _ (.inl ⟨_,_,_,rfl,R1,.use hb,(fun z=>absurd (z.mpr hb) (by decide)),(SR.of s0).trans s1⟩)⟩
      · exact .inr ⟨p,b,sh,pl,ru,ls,ads,du,seq,us,n,rfl,R,hb,hz,fun a=>⟨_,_,rfl,rfl,(rN (by decide) hb a).1,fun H2 ha e2=>⟨_,rfl,(rN (by decide) hb a).2 H2 ha e2⟩⟩⟩
    · refine ⟨_,rfl,rfl,_,rfl,ifF (by decide) ⟨_,rfl,rfl,_,rfl,ifF (by decide) ⟨_,rfl,p,dx,_,rfl,h1,fl_no ..,_,rfl,?_⟩⟩⟩
      by_cases hb:b∈seq
      · exact .inl ⟨p,b,sh,pl,ru,ls,ads,du,seq,us,n,rfl,R,hb,fun H1 R1 s1=>k' _ _ (.inl ⟨_,_,_,rfl,R1.le (Nat.le_succ n),.drop hb,(fun z=>absurd (z.mpr hb) (by decide)),(SR.of s0).trans s1⟩)⟩
      · exact .inr ⟨p,b,sh,pl,ru,ls,ads,du,seq,us,n,rfl,R,hb,hz,fun a=>⟨_,_,rfl,rfl,(rN (by decide) hb a).1,fun H2 ha e2=>⟨_,rfl,(rN (by decide) hb a).2 H2 ha e2⟩⟩⟩
  rintro _ G (⟨v,seq',us',rfl,R1,h2,h3,s1⟩ | ⟨a,C,bs,rfl,ha,o,ebs,hbs,hw2,R1,s1⟩)
  · refine ⟨_,rfl,_,rfl,ifT rfl ⟨_,rfl,(by show 2≤sizeLine; decide),fun t ht=>kt t _ _ _ _ h3 h2 (R1.same (same_upd ht _)) (s1.trans (SR.of (same_upd ht _))) ?_ upd_same⟩⟩
    obtain ⟨n4,n3⟩:=R1.new ht
    cases q:H t with
    | none=>rfl
    | some o=>rw [s1 _ _ q n4 n3] at ht; cases ht
  · refine ⟨_,rfl,_,rfl,ifF rfl ?_⟩
    refine ⟨_,rfl,a,C,_,_,_,rfl,ha,o.a,(fun v r=>r),o.k _ (by simp),_,rfl,a,C,_,_,_,rfl,ha,o.a,(fun v r=>r),o.k _ (by simp),_,rfl,a,C,_,_,_,rfl,ha,o.a,(fun v r=>r),o.k _ (by simp),(by show 3≤sizeLine; decide),fun l hl=>gN ?_⟩
    have e1:upd G l (.lst [V.bl (decide (C=clsOf K "There")),V.bl (decide (C=clsOf K "NotThere")),V.bl (decide (C=clsOf K "NoShelf"))]) l=some (.lst (bs.map V.bl)):=by rw [upd_same,ebs]; rfl
    have sm:=same_upd hl (.lst [V.bl (decide (C=clsOf K "There")),V.bl (decide (C=clsOf K "NotThere")),V.bl (decide (C=clsOf K "NoShelf"))])
    have ha:=sm _ _ ha
    have R1:=R1.same sm
    have s1:=s1.trans sm
    generalize upd G l (.lst [V.bl (decide (C=clsOf K "There")),V.bl (decide (C=clsOf K "NotThere")),V.bl (decide (C=clsOf K "NoShelf"))])=G1 at *
    have an:PySem.W.kitAny K (.ref C) ([clsOf K "NoFit",clsOf K "NoStair",clsOf K "BadRow"].map Value.ref)=some false:=any_false fun c hc=>by
      obtain ⟨D,hD,rfl⟩:=List.mem_map.mp hc
      exact o.d D hD
    refine ⟨_,rfl,(by show 3≤sizeLine; decide),fun tp htp=>⟨a,C,tp,[clsOf K "NoFit",clsOf K "NoStair",clsOf K "BadRow"],false,rfl,upd_same,same_upd htp _ _ _ ha,o.a,an,_,rfl,ifF rfl ⟨_,rfl,a,C,_,.type "ValueError",true,rfl,same_upd htp _ _ _ ha,o.a,(fun v r=>r),o.v,_,rfl,gN ?_⟩⟩⟩
    have sm2:=same_upd htp (.tup ([clsOf K "NoFit",clsOf K "NoStair",clsOf K "BadRow"].map V.ref))
    have e1:=sm2 _ _ e1
    have R1:=R1.same sm2
    have s1:=s1.trans sm2
    change tSeq _ _ _ _ (upd G1 tp (.tup ([clsOf K "NoFit",clsOf K "NoStair",clsOf K "BadRow"].map V.ref)))
    generalize upd G1 tp (.tup ([clsOf K "NoFit",clsOf K "NoStair",clsOf K "BadRow"].map V.ref))=G2 at *
    rcases hbs with ⟨rfl,w0⟩ | ⟨rfl,w0⟩
    · have krr:∀ G,RoomAt K G p sh pl ru ls ads du seq us n→Same H G→Q (.str "There") G:=fun G a b=>by have:=kr G hw2 a b; rw [if_pos w0] at this; exact this
      refine ⟨_,rfl,_,rfl,ifF rfl ⟨_,rfl,.inl ⟨rfl,_,SqL.of e1⟩,l,[true,false,false],rfl,rfl,e1,rfl,_,rfl,ifF (by decide) ?_⟩⟩
      exact ⟨(by show 3≤sizeLine; decide),fun l2 hl2=>⟨_,rfl,.inl ⟨rfl,_,SqL.of (same_upd hl2 _ _ _ e1)⟩,l,[true,false,false],0,rfl,rfl,same_upd hl2 _ _ _ e1,by decide,rfl,(fun m hm=>absurd hm (Nat.not_lt_zero m)),l2,_,_,_,rfl,rfl,SqL.of upd_same,atI0,krr _ (R1.same (same_upd hl2 _)) (s1.trans (same_upd hl2 _))⟩⟩
    · have krr:∀ G,RoomAt K G p sh pl ru ls ads du seq us n→Same H G→Q (.str "NotThere") G:=fun G a b=>by have:=kr G hw2 a b; rw [if_neg w0] at this; exact this
      refine ⟨_,rfl,_,rfl,ifF rfl ⟨_,rfl,.inl ⟨rfl,_,SqL.of e1⟩,l,[false,true,false],rfl,rfl,e1,rfl,_,rfl,ifF (by decide) ?_⟩⟩
      exact ⟨(by show 3≤sizeLine; decide),fun l2 hl2=>⟨_,rfl,.inl ⟨rfl,_,SqL.of (same_upd hl2 _ _ _ e1)⟩,l,[false,true,false],1,rfl,rfl,same_upd hl2 _ _ _ e1,by decide,rfl,(fun m hm=>(match m,hm with | 0,_=>rfl)),l2,_,_,_,rfl,rfl,SqL.of upd_same,atI1,krr _ (R1.same (same_upd hl2 _)) (s1.trans (same_upd hl2 _))⟩⟩
end
section
variable {P:Program} {w:World} {K:PySem.W.Frag} {mg:Str→Option Value} {base:Heap}
def spBds (K:PySem.W.Frag):Sp:=fun vs H Q _=>∃ (p:Addr) (sh pl:Int) (ru:Str) (ls:Addr) (ads:List Addr) (du:Addr) (seq:List Int) (us:Int→Int) (n:Nat),vs=[.ref p]∧RoomAt K H p sh pl ru ls ads du seq us n∧seq.length<64 ∧
  ∀ (D:Addr) (os:List Int),H D=none→os.Perm seq→os.Pairwise (·≤·)→Q (.ref D) (upd H D (.lst (os.map V.int)))
theorem ok_Room_boards {f:Addr} {fd:FuncData} (F:Fun K "boards" "Room.boards" s_Room_boards f fd) (T:Txt K mg):FnOk P w K mg base CX0 1 f fd P_Room_boards (spBds K):=by
  refine F.ok sc_Room_boards (fun vs H Q E h=>?_) (fun cdv A outer st H vs Q E hr h=>?_)
  · obtain ⟨p,sh,pl,ru,ls,ads,du,seq,us,n,rfl,_⟩:=h
    rfl
  obtain ⟨p,sh,pl,ru,ls,ads,du,seq,us,n,rfl,R,h64,k⟩:=h
  have nd:=sc_Room_boards.nd
  refine ⟨_,(pss_one (ps_ret (pe_callBN (call_sortedD rfl) rfl T.z_sorted PyProof.Rows.boot_sorted (pc (pe_fldK (K:=K) rfl (pv 0) rfl) pa_nil)))),?_⟩
  obtain ⟨dx,h1⟩:=R.ob
  obtain ⟨kvs,h2,⟨h3,ks,h4,h5⟩,h6⟩:=R.dc
  have per:ks.Perm seq:=by
    refine (List.perm_ext_iff_of_nodup h5 R.nd).mpr fun b=>?_
    have q:=val_key (kvs:=kvs) (Sum.inl b)
    rw [h6 b,h4] at q
    constructor
    · intro m
      have:=q.mpr (List.mem_map_of_mem m)
      by_cases c:b∈seq
      · exact c
      · rw [if_neg c] at this; cases this
    · intro m
      rw [if_pos m] at q
      obtain ⟨x,hx,e⟩:=List.mem_map.mp (q.mp rfl)
      rw [← Sum.inl.inj e]; exact hx
  exact ⟨_,rfl,p,_,dx,_,_,rfl,h1,T.cl_Room,T.n_Room_uses,fl_uses ..,du,kvs,ks,rfl,h2,h4,by rw [per.length_eq]; exact h64,fun D os hD po pw=>k D os hD (po.trans per) pw⟩
theorem pick2s (x y:Str) (r:Int) (h0:0≤r) (h1:r<2):∃ z:Str,atI [V.str x,V.str y] r=some (.str z):=by
  have h:r=0∨r=1:=by omega
  rcases h with rfl | rfl
  · exact ⟨x,atI0⟩
  · exact ⟨y,atI1⟩
def spPlan:Sp:=fun vs H Q _=>∃ (b:Addr) (a q c:Int),vs=[.ref b]∧BoxAt H b a q c∧c<400000000 ∧
  ∀ (p:Addr) (sh pl:Int) (r wr:Str) (a' c':Int) (H':Hp),H' p=some (.tup [.int sh,.int pl,.str r,.str wr])→1≤sh→sh≤64→1≤pl→pl≤16→Rule r→BoxAt H' b a' q c'→c'≤c+6→SB b H H'→Q (.ref p) H'
theorem ok_room_plan {f:Addr} {fd:FuncData} (F:Fun K "_law_room_plan" "_law_room_plan" s_room_plan f fd) (T:Txt K mg) (D_take:Def P w K mg base "_law_take" 1 P_take spTake):FnOk P w K mg base CX0 2 f fd P_room_plan spPlan:=by
  refine F.ok sc_room_plan (fun vs H Q E h=>?_) (fun cdv A outer st H vs Q E hr h=>?_)
  · obtain ⟨b,a,q,c,rfl,_⟩:=h
    rfl
  obtain ⟨b,a,q,c,rfl,B,hc,k⟩:=h
  have nd:=sc_room_plan.nd
  refine ⟨_,(pss_cons (pst 1 nd (pe_cmpR op_eq (pe_defN D_take hr.m rfl (pc (pv 0) (pc pe_int pa_nil))) pe_int (nomark _)))
      (pss_cons (pst 2 nd (pe_ifExp (pt_val (pv 1)) (pe_op op_add pe_int (pe_defN D_take hr.m rfl (pc (pv 0) (pc pe_int pa_nil)))) (pe_ix (ix_listK (K:=K) rfl) (pe_lst (pc pe_int (pc pe_int (pc pe_int (pc pe_int (pc pe_int pa_nil)))))) (pe_defN D_take hr.m rfl (pc (pv 0) (pc pe_int pa_nil))) (fun _ _=>rfl))))
      (pss_cons (pst 3 nd (pe_op op_add pe_int (pe_defN D_take hr.m rfl (pc (pv 0) (pc (pe_ifExp (pt_val (pv 1)) pe_int pe_int) pa_nil)))))
      (pss_cons (pst 4 nd (pe_ix (ix_listK (K:=K) rfl) (pe_lst (pc pe_str (pc pe_str (pc pe_str pa_nil)))) (pe_defN D_take hr.m rfl (pc (pv 0) (pc pe_int pa_nil))) (fun _ _=>rfl)))
      (pss_one (ps_ret (pe_tup (pc (pv 2) (pc (pv 3) (pc (pv 4) (pc (pe_ix (ix_listK (K:=K) rfl) (pe_lst (pc pe_str (pc pe_str pa_nil))) (pe_defN D_take hr.m rfl (pc (pv 0) (pc pe_int pa_nil))) (fun _ _=>rfl)) pa_nil))))))))))),?_⟩
  refine ⟨_,rfl,b,a,q,c,6,rfl,B,by omega,by decide,by decide,fun r1 a1 c1 H1 r10 r11 B1 hc1 s1=>⟨rfl,?_⟩⟩
  generalize decide (V.int r1=V.int 0)=far
  try dsimp only
  refine cpA (fun v G=>∃ z a' c',v=.int z∧1≤z∧z≤64∧BoxAt G b a' q c'∧c'≤c1+1∧SB b H G) (fun Q' k'=>?_) ?_
  · refine ⟨_,rfl,_,rfl,?_⟩
    cases far with
    | true=>exact ifT rfl ⟨_,rfl,b,a1,q,c1,64,rfl,B1,by omega,by decide,by decide,fun r2 a2 c2 H2 r20 r21 B2 hc2 s2=>⟨_,_,rfl,rfl,k' _ _ ⟨_,a2,c2,rfl,by omega,by omega,B2,by omega,s1.trans s2⟩⟩⟩
    | false =>
      refine ifF rfl ⟨(by show 5≤sizeLine; decide),fun p0 hp0=>⟨_,rfl,b,a1,q,c1,5,rfl,B1.same (same_upd hp0 _),by omega,by decide,by decide,fun r2 a2 c2 H2 r20 r21 B2 hc2 s2=>?_⟩⟩
      have q0:b≠p0:=ne_of_none B1.at' hp0
      obtain ⟨sh,hsh,sh0,sh1⟩:=pick5 r2 r20 r21
      exact ⟨p0,_,_,_,rfl,rfl,SqL.of (s2 _ _ (Ne.symm q0) upd_same),hsh,k' _ _ ⟨_,a2,c2,rfl,sh0,sh1,B2,by omega,s1.trans (((same_upd hp0 _).sb b).trans s2)⟩⟩
  rintro _ H2 ⟨sh,a2,c2,rfl,sh0,sh1,B2,hc2,u2⟩
  refine gN ?_
  try dsimp only
  refine cpA (fun v G=>∃ z a' c',v=.int z∧1≤z∧z≤16∧BoxAt G b a' q c'∧c'≤c2+1∧SB b H G) (fun Q' k'=>?_) ?_
  · refine ⟨_,rfl,_,rfl,_,rfl,?_⟩
    cases far with
    | true=>exact ifT rfl ⟨b,a2,q,c2,16,rfl,B2,by omega,by decide,by decide,fun r3 a3 c3 H3 r30 r31 B3 hc3 s3=>⟨_,_,rfl,rfl,k' _ _ ⟨_,a3,c3,rfl,by omega,by omega,B3,by omega,u2.trans s3⟩⟩⟩
    | false=>exact ifF rfl ⟨b,a2,q,c2,4,rfl,B2,by omega,by decide,by decide,fun r3 a3 c3 H3 r30 r31 B3 hc3 s3=>⟨_,_,rfl,rfl,k' _ _ ⟨_,a3,c3,rfl,by omega,by omega,B3,by omega,u2.trans s3⟩⟩⟩
  rintro _ H3 ⟨pl,a3,c3,rfl,pl0,pl1,B3,hc3,u3⟩
  refine gN ?_
  try dsimp only
  refine ⟨(by show 3≤sizeLine; decide),fun p3 hp3=>⟨_,rfl,b,a3,q,c3,3,rfl,B3.same (same_upd hp3 _),by omega,by decide,by decide,fun r4 a4 c4 H4 r40 r41 B4 hc4 s4=>?_⟩⟩
  have q3:b≠p3:=ne_of_none B3.at' hp3
  obtain ⟨ru,hru,iru⟩:=pickR r4 r40 r41
  refine ⟨p3,_,_,_,rfl,rfl,SqL.of (s4 _ _ (Ne.symm q3) upd_same),hru,?_⟩
  have u4:SB b H H4:=u3.trans (((same_upd hp3 _).sb b).trans s4)
  refine ⟨_,rfl,_,rfl,_,rfl,(by show 2≤sizeLine; decide),fun p5 hp5=>⟨_,rfl,b,a4,q,c4,2,rfl,B4.same (same_upd hp5 _),by omega,by decide,by decide,fun r5 a5 c5 H5 r50 r51 B5 hc5 s5=>?_⟩⟩
  have q5:b≠p5:=ne_of_none B4.at' hp5
  obtain ⟨wr,hwr⟩:=pick2s "late" "through" r5 r50 r51
  refine ⟨p5,_,_,_,rfl,rfl,SqL.of (s5 _ _ (Ne.symm q5) upd_same),hwr,(by show 4≤sizeLine; decide),fun pp hpp=>?_⟩
  exact k pp sh pl ru wr a5 c5 _ upd_same sh0 sh1 pl0 pl1 iru (B5.same (same_upd hpp _)) (by omega)
    ((u4.trans (((same_upd hp5 _).sb b).trans s5)).trans ((same_upd hpp _).sb b))
def spRoomL:Sp:=fun vs H Q _=>∃ (b:Addr) (a q c:Int),vs=[.ref b]∧BoxAt H b a q c∧c<300000000 ∧
  ∀ (p l:Addr) (sh pl:Int) (r:Str) (ns:List Int) (a' c':Int) (H':Hp),H' p=some (.tup [.int sh,.int pl,.str r,.ref l])→H l=none→H' l=some (.lst (ns.map V.int))→1≤ns.length→ns.length≤39→(∀ x∈ns,0≤x∧x<100000)→1≤sh→sh≤64→1≤pl→pl≤16→Rule r→BoxAt H' b a' q c'→c'≤c+60→SB b H H'→Q (.ref p) H'
theorem ok_room {f:Addr} {fd:FuncData} (F:Fun K "_law_room" "_law_room" s_room f fd) (T:Txt K mg) (D_take:Def P w K mg base "_law_take" 1 P_take spTake) (D_room_plan:Def P w K mg base "_law_room_plan" 2 P_room_plan spPlan) (D_some_boards:Def P w K mg base "_law_some_boards" 2 P_some_boards spBoards):FnOk P w K mg base CX0 3 f fd P_room spRoomL:=by
  refine F.ok sc_room (fun vs H Q E h=>?_) (fun cdv A outer st H vs Q E hr h=>?_)
  · obtain ⟨b,a,q,c,rfl,_⟩:=h
    rfl
  obtain ⟨b,a,q,c,rfl,B,hc,k⟩:=h
  have nd:=sc_room.nd
  refine ⟨_,(pss_cons (ps_asg (pe_defN D_room_plan hr.m rfl (pc (pv 0) pa_nil)) (pg_tupK (K:=K) (n:=4) rfl rfl (pgs_cons (pgn 1 nd) (pgs_cons (pgn 2 nd) (pgs_cons (pgn 3 nd) (pgs_cons (pgn 4 nd) pgs_nil))))))
      (pss_cons (pst 5 nd (pe_defN D_some_boards hr.m rfl (pc (pv 0) (pc pe_int pa_nil))))
      (pss_cons (ps_if (pt_cmpR op_eq (pe_defN D_take hr.m rfl (pc (pv 0) (pc pe_int pa_nil))) pe_int (nomark _)) (pss_cons (pst 6 nd (pe_defN D_take hr.m rfl (pc (pv 0) (pc (pv 1) pa_nil))))
      (pss_cons (pst 7 nd (pe_comp0 (compOk_of (osc:=(defScope s_room)) (oN:=N_room) (N:=["_law_k", "_law_first", "_law_shelves"]) (own:=1) (js:=[6,1]) (by decide +kernel) rfl rfl) rfl (pi_range1 rfl T.z_range (pc (pe_op op_add (pe_op op_add (pv 2) pe_int) (pe_defN D_take hr.m rfl (pc (pv 0) (pc pe_int pa_nil)))) pa_nil)) (fun _ _ _ _ _ _=>(pgn 0 (show List.Nodup (["_law_k", "_law_first", "_law_shelves"]:List Str) by decide +kernel))) (fun _ _ _ _ _ _=>(pe_op op_add (pv 1) (pe_op op_mul (pv 2) (pv 0))))))
      (pss_one (pst 5 nd (pe_op op_cat (pv 7) (pe_comp1 (compOk_of (osc:=(defScope s_room)) (oN:=N_room) (N:=["_law_board", "_law_more"]) (own:=1) (js:=[7]) (by decide +kernel) rfl rfl) rfl (pi_listK (K:=K) rfl (pv 5)) (fun _ _ _ _ _ _=>(pgn 0 (show List.Nodup (["_law_board", "_law_more"]:List Str) by decide +kernel))) (fun _ _ _ _ _ _=>(pt_cmpR (op_notIn_seqK (K:=K) rfl) (pv 0) (pv 1) rfl)) (fun _ _ _ _ _ _=>(pv 0)))))))) pss_nil)
      (pss_one (ps_ret (pe_tup (pc (pv 1) (pc (pv 2) (pc (pv 3) (pc (pv 5) pa_nil)))))))))),?_⟩
  refine ⟨_,rfl,b,a,q,c,rfl,B,by omega,fun p sh pl ru wr a1 c1 H1 e1 sh0 sh1 pl0 pl1 hru B1 hc1 s1=>⟨p,_,rfl,SqT.of e1,rfl,_,_,rfl,gN ⟨_,_,rfl,gN ⟨_,_,rfl,gN ⟨_,_,rfl,gN ⟨rfl,?_⟩⟩⟩⟩⟩⟩
  refine ⟨_,rfl,b,a1,q,c1,1,rfl,B1,by omega,by decide,by decide,fun l1 ns1 a2 c2 H2 hl1 e2 n3 n20 bd B2 hc2 s2=>?_⟩
  have u2:=s1.trans s2
  have nsb:∀ x∈ns1,0≤x∧x<100000:=fun x hx=>by have:=bd x hx; omega
  have nl1:l1≠b:=fun e=>by rw [e,B1.at'] at hl1; cases hl1
  have hl1H:H l1=none:=by
    cases e:H l1 with
    | none=>rfl
    | some o=>rw [s1 _ _ nl1 e] at hl1; cases hl1
  refine gN ?_
  try dsimp only
  refine cpI (fun σ G=>∃ (v6 v7:Option V) (l:Addr) (ns:List Int) (a' c':Int),σ=[some (.ref b),some (.int sh),some (.int pl),some (.str ru),some (.str wr),some (.ref l),v6,v7]∧H l=none∧G l=some (.lst (ns.map V.int))∧1≤ns.length∧ns.length≤39∧(∀ x∈ns,0≤x∧x<100000)∧BoxAt G b a' q c'∧c'≤c2+3∧SB b H G) (fun D' _ k'=>?_) ?_
  · refine ⟨_,rfl,b,a2,q,c2,2,rfl,B2,by omega,by decide,by decide,fun r3 a3 c3 H3 r30 r31 B3 hc3 s3=>⟨rfl,_,rfl,ite_dec' (fun z=>?_) (fun z=>?_)⟩⟩
    · have u3:=u2.trans s3
      have e3:=s3 _ _ nl1 e2
      refine ⟨_,rfl,_,rfl,b,a3,q,c3,sh,rfl,B3,by omega,by omega,by omega,fun fi a4 c4 H4 f0 f1 B4 hc4 s4=>gN ?_⟩
      have e4:=s4 _ _ nl1 e3
      refine ⟨_,rfl,_,_,rfl,rfl,_,rfl,b,a4,q,c4,3,rfl,B4,by omega,by decide,by decide,fun r5 a5 c5 H5 r50 r51 B5 hc5 s5=>⟨_,_,rfl,rfl,_,rfl,by omega,by omega,fun lm hlm=>?_⟩⟩
      have e5:=s5 _ _ nl1 e4
      have u5:SB b H H5:=(u3.trans s4).trans s5
      have nlm:l1≠lm:=ne_of_none e5 hlm
      have nbm:b≠lm:=ne_of_none B5.at' hlm
      refine comp_range (lo:=0) (n:=(pl+1+r5).toNat) (l:=lm) (fun j ys σ' G'=>∃ v0:Option V,σ'=[v0,some (.int fi),some (.int sh)]∧ys=((List.range j).map fun (i:Nat)=>fi+sh * (0+(i:Int))).map V.int∧G'=upd H5 lm (.lst ys)) ⟨none,rfl,rfl,rfl⟩ ?_ ?_
      · rintro j ys σ' G' hj hys ⟨v0,rfl,rfl,rfl⟩
        refine ⟨_,rfl,_,rfl,_,rfl,_,_,rfl,rfl,.inl ⟨by omega,by omega⟩,_,_,rfl,rfl,CNx.of (Nat.le_trans (by omega:(pl+1+r5).toNat≤64) (by decide)) hj hys upd_same ⟨_,rfl,?_,upd_upd⟩⟩
        rw [List.range_succ,List.map_append,List.map_append]; rfl
      rintro ys σ' G' _ ⟨v0,rfl,rfl,rfl⟩
      generalize hmr:(List.range (pl+1+r5).toNat).map (fun (i:Nat)=>fi+sh * (0+(i:Int)))=mr
      have mrb:∀ x∈mr,0≤x∧x<100000:=fun x hx=>by
        rw [← hmr] at hx
        obtain ⟨i,hi,rfl⟩:=List.mem_map.mp hx
        have hi:=List.mem_range.mp hi
        have q1:(0:Int)≤sh * (0+(i:Int)):=Int.mul_nonneg (by omega) (by omega)
        have q2:sh * (0+(i:Int))≤64 * (0+(i:Int)):=Int.mul_le_mul_of_nonneg_right sh1 (by omega)
        constructor
        · show 0≤fi+sh * (0+(i:Int)); omega
        · show fi+sh * (0+(i:Int))<100000; omega
      have lmr:mr.length=(pl+1+r5).toNat:=by rw [← hmr,List.length_map,List.length_range]
      refine gN ?_
      try dsimp only
      have em:upd H5 lm (.lst (mr.map V.int)) lm=some (.lst (mr.map V.int)):=upd_same
      have e6:upd H5 lm (.lst (mr.map V.int)) l1=some (.lst (ns1.map V.int)):=by rw [upd_ne nlm]; exact e5
      have B6:=B5.same (same_upd hlm (.lst (mr.map V.int)))
      have u6:SB b H (upd H5 lm (.lst (mr.map V.int))):=u5.trans ((same_upd hlm _).sb b)
      generalize upd H5 lm (.lst (mr.map V.int))=H6 at *
      refine ⟨_,rfl,_,rfl,l1,rfl,⟨_,SqL.of e6⟩,fun lf hlf=>?_⟩
      refine comp_list (K:=K) (a:=l1) (xs:=ns1.map V.int) (l:=lf) (fun j ys σ' G'=>∃ (v0:Option V) (fs:List Int),σ'=[v0,some (.ref lm)]∧ys=fs.map V.int∧fs.length≤j∧(∀ x∈fs,x∈ns1)∧G'=upd H6 lf (.lst ys)) ⟨none,[],rfl,rfl,Nat.le_refl _,by simp,rfl⟩ (fun j ys σ' G' _ ⟨_,_,_,_,_,_,q⟩=>SqL.of (by rw [q,upd_ne (ne_of_none e6 hlf)]; exact e6)) ?_ ?_
      · rintro j x ys σ' G' hj hxj hys ⟨v0,fs,rfl,rfl,lf',lfm,rfl⟩
        rw [List.getElem?_map] at hxj
        obtain ⟨z,ez,rfl⟩:∃ z,ns1[j]?=some z∧V.int z=x:=by
          cases e:ns1[j]? with
          | none=>rw [e] at hxj; cases hxj
          | some z=>rw [e] at hxj; exact ⟨z,rfl,Option.some.inj hxj⟩
        refine ⟨_,rfl,_,rfl,lm,_,rfl,.inl (SqL.of (by rw [upd_ne (ne_of_none em hlf)]; exact em)),rfl,ints_flat _,_,rfl,ite_dec' (fun z=>?_) (fun z=>?_)⟩
        · exact ⟨_,rfl,CNx.of (Nat.le_of_lt (small1000 (by rw [List.length_map]; omega))) hj hys upd_same ⟨_,fs++[_],rfl,by rw [List.map_append]; rfl,by rw [List.length_append]; show fs.length+1≤j+1; omega,fun x hx=>(List.mem_append.mp hx).elim (lfm x) fun q=>by rw [List.mem_singleton.mp q]; exact List.mem_of_getElem? ez,upd_upd⟩⟩
        · exact CNo.of hj hys ⟨_,fs,rfl,rfl,by omega,lfm,rfl⟩
      rintro ys σ' G' _ ⟨v0,fs,rfl,rfl,lf',lfm,rfl⟩
      rw [List.length_map] at lf'
      refine ⟨lm,lf,_,_,rfl,rfl,by rw [upd_ne (ne_of_none em hlf)]; exact em,upd_same,by rw [List.length_map,List.length_map]; exact Nat.le_of_lt (small1000 (by omega)),fun lr hlr=>gN ?_⟩
      have smr:=(same_upd hlf (.lst (fs.map V.int))).trans (same_upd hlr (.lst (mr.map V.int++fs.map V.int)))
      refine k' _ _ ⟨_,_,lr,mr++fs,a5,c5,rfl,?_,by rw [upd_same,List.map_append],by rw [List.length_append]; omega,by rw [List.length_append]; omega,(fun x hx=>(List.mem_append.mp hx).elim (fun m=>mrb x m) fun m=>nsb x (lfm x m)),B6.same smr,by omega,u6.trans (smr.sb b)⟩
      exact sb_fresh (u6.trans ((same_upd hlf _).sb b)) (B6.same (same_upd hlf _)).at' hlr
    · exact k' _ _ ⟨_,_,l1,ns1,a3,c3,rfl,hl1H,s3 _ _ nl1 e2,by omega,by omega,nsb,B3,by omega,u2.trans s3⟩
  rintro _ G ⟨v6,v7,l,ns,a3,c3,rfl,hl,el,n1,n2,nsB,B3,hc3,u3⟩
  refine ⟨_,rfl,_,rfl,_,rfl,_,rfl,(by show 4≤sizeLine; decide),fun pp hpp=>?_⟩
  exact k pp l sh pl ru ns a3 c3 _ upd_same hl (same_upd hpp _ _ _ el) n1 n2 nsB sh0 sh1 pl0 pl1 hru (B3.same (same_upd hpp _)) (by omega) (u3.trans ((same_upd hpp _).sb b))
end
section
variable {P:Program} {w:World} {K:PySem.W.Frag} {mg:Str→Option Value} {base:Heap}
def spMany:Sp:=fun vs H Q _=>∃ (b:Addr) (a q c x y:Int),vs=[.ref b,.int x,.int y]∧BoxAt H b a q c∧c<1099511627770∧0<x∧x≤y∧y<1073741824 ∧
  ∀ (r a' c':Int) (H':Hp),1≤r→r≤y→BoxAt H' b a' q c'→c'≤c+2→SB b H H'→Q (.int r) H'
theorem ok_many {f:Addr} {fd:FuncData} (F:Fun K "_law_many" "_law_many" s_many f fd) (T:Txt K mg) (D_take:Def P w K mg base "_law_take" 1 P_take spTake):FnOk P w K mg base CX0 2 f fd P_many spMany:=by
  refine F.ok sc_many (fun vs H Q E h=>?_) (fun cdv A outer st H vs Q E hr h=>?_)
  · obtain ⟨b,a,q,c,x,y,rfl,_⟩:=h
    rfl
  obtain ⟨b,a,q,c,x,y,rfl,B,hc,x0,xy,y1,k⟩:=h
  have nd:=sc_many.nd
  refine ⟨_,(pss_cons (pst 3 nd (pe_cmpR op_eq (pe_defN D_take hr.m rfl (pc (pv 0) (pc pe_int pa_nil))) pe_int (nomark _)))
      (pss_one (ps_ret (pe_op op_add pe_int (pe_defN D_take hr.m rfl (pc (pv 0) (pc (pe_ifExp (pt_val (pv 3)) (pv 2) (pv 1)) pa_nil))))))),?_⟩
  refine ⟨_,rfl,b,a,q,c,8,rfl,B,by omega,by decide,by decide,fun r a1 c1 G1 r0 r1 B1 hc1 t1=>?_⟩
  refine ⟨rfl,gN ?_⟩
  refine ⟨_,rfl,_,rfl,_,rfl,ite_dec' (fun z=>?_) (fun z=>?_)⟩
  · refine ⟨_,rfl,b,a1,q,c1,y,rfl,B1,by omega,by omega,by omega,fun r2 a2 c2 G2 r20 r21 B2 hc2 t2=>?_⟩
    exact ⟨_,_,rfl,rfl,k (1+r2) a2 c2 G2 (by omega) (by omega) B2 (by omega) (t1.trans t2)⟩
  · refine ⟨_,rfl,b,a1,q,c1,x,rfl,B1,by omega,by omega,by omega,fun r2 a2 c2 G2 r20 r21 B2 hc2 t2=>?_⟩
    exact ⟨_,_,rfl,rfl,k (1+r2) a2 c2 G2 (by omega) (by omega) B2 (by omega) (t1.trans t2)⟩
end
def Sc:V→Prop
  | .int _=>True
  | .bl _=>True
  | .non=>True
  | .str _=>True
  | _=>False
def Eqv:Nat→Hp→V→V→Prop
  | 0,_,x,y=>x=y∧Sc x
  | n+1,H,x,y=>(x=y∧Sc x)∨∃ (a b:Addr) (xs ys:List V),x=.ref a∧y=.ref b∧((H a=some (.lst xs)∧H b=some (.lst ys))∨(H a=some (.tup xs)∧H b=some (.tup ys)))∧xs.length=ys.length∧xs.length≤1000∧∀ (i:Nat) (u v:V),xs[i]?=some u→ys[i]?=some v→Eqv n H u v
theorem Eqv.same:∀ {n:Nat} {H H':Hp} {x y:V},Eqv n H x y→Same H H'→Eqv n H' x y
  | 0,_,_,_,_,h,_=>h
  | n+1,H,H',x,y,h,s=>by
    rcases h with h | ⟨a,b,xs,ys,h1,h2,h3,h5,h6,h7⟩
    · exact .inl h
    · refine .inr ⟨a,b,xs,ys,h1,h2,?_,h5,h6,fun i u v e1 e2=>(h7 i u v e1 e2).same s⟩
      rcases h3 with ⟨h3,h4⟩ | ⟨h3,h4⟩
      · exact .inl ⟨s _ _ h3,s _ _ h4⟩
      · exact .inr ⟨s _ _ h3,s _ _ h4⟩
theorem Eqv.flat {H:Hp} {a b:Addr} {xs:List V} (ha:H a=some (.lst xs)) (hb:H b=some (.lst xs)) (hl:xs.length≤1000) (hs:∀ x∈xs,Sc x):Eqv 1 H (.ref a) (.ref b) :=
  .inr ⟨a,b,xs,xs,rfl,rfl,.inl ⟨ha,hb⟩,rfl,hl,fun i u v e1 e2=>by rw [e1] at e2; cases e2; exact ⟨rfl,hs u (List.mem_of_getElem? e1)⟩⟩
def spSameE (n:Nat):Sp:=fun vs H Q _=>∃ x y,vs=[x,y]∧Eqv n H x y∧∀ H',Same H H'→Q (.bl true) H'
theorem Eqv.sc {H:Hp} {x:V} (h:Sc x):∀ n,Eqv n H x x
  | 0=>⟨rfl,h⟩
  | _+1=>.inl ⟨rfl,h⟩
theorem Eqv.flatT {H:Hp} {a b:Addr} {xs:List V} (ha:H a=some (.tup xs)) (hb:H b=some (.tup xs)) (hl:xs.length≤1000) (hs:∀ x∈xs,Sc x):Eqv 1 H (.ref a) (.ref b) :=
  .inr ⟨a,b,xs,xs,rfl,rfl,.inr ⟨ha,hb⟩,rfl,hl,fun i u v e1 e2=>by rw [e1] at e2; cases e2; exact ⟨rfl,hs u (List.mem_of_getElem? e1)⟩⟩
theorem tyT {H:Hp} {a:Addr} {xs:List V} (h:H a=some (.tup xs)):tyN H (.ref a)=some "tuple" := by simp only [tyN,h]
theorem tyL {H:Hp} {a:Addr} {xs:List V} (h:H a=some (.lst xs)):tyN H (.ref a)=some "list" := by simp only [tyN,h]
section
variable {P:Program} {w:World} {K:PySem.W.Frag} {mg:Str→Option Value} {base:Heap}
theorem ok_same {n:Nat} {sp0:Sp} (hsp:∀ m,n=m+1→sp0=spSameE m) {f:Addr} {fd:FuncData} (F:Fun K "_law_same" "_law_same" s_same f fd) (T:Txt K mg) (D_same:Def P w K mg base "_law_same" n P_same sp0):FnOk P w K mg base CX0 (n+1) f fd P_same (spSameE n):=by
  refine F.ok sc_same (fun vs H Q E h=>?_) (fun cdv A outer st H vs Q E hr h=>?_)
  · obtain ⟨x,y,rfl,_⟩:=h
    rfl
  obtain ⟨x,y,rfl,h,k⟩:=h
  have nd:=sc_same.nd
  refine ⟨_,(pss_cons (ps_if (pt_val (pe_callBN call_isi2 rfl T.z_isinstance boot_isi (pc (pv 1) (pc (pe_tup (pc (pe_bltn (v:=.ty "list") rfl T.z_list boot_listT rfl) (pc (pe_bltn (v:=.ty "tuple") rfl T.z_tuple boot_tupleT rfl) pa_nil))) pa_nil)))) (pss_cons (ps_if (PW.pt (pw_or (pt_not (pt_val (pe_callBN call_isi2 rfl T.z_isinstance boot_isi (pc (pv 0) (pc (pe_tup (pc (pe_bltn (v:=.ty "list") rfl T.z_list boot_listT rfl) (pc (pe_bltn (v:=.ty "tuple") rfl T.z_tuple boot_tupleT rfl) pa_nil))) pa_nil))))) (pw_or1 (pt_cmpR op_ne (pe_callBN call_isi rfl T.z_isinstance boot_isi (pc (pv 0) (pc (pe_bltn (v:=.ty "list") rfl T.z_list boot_listT rfl) pa_nil))) (pe_callBN call_isi rfl T.z_isinstance boot_isi (pc (pv 1) (pc (pe_bltn (v:=.ty "list") rfl T.z_list boot_listT rfl) pa_nil))) (nomark _))))) (pss_one (ps_ret pe_bl)) pss_nil)
      (pss_one (ps_ret (pe_and (pe_cmpR op_eq (pe_callBN (call_len_seqK (K:=K) rfl) rfl T.z_len PySem.boot_len (pc (pv 0) pa_nil)) (pe_callBN (call_len_seqK (K:=K) rfl) rfl T.z_len PySem.boot_len (pc (pv 1) pa_nil)) (nomark _)) (pe_one (pe_callBN (call_allL rfl) rfl T.z_all boot_all (pc (pe_comp0 (compOk_of (osc:=(defScope s_same)) (oN:=N_same) (N:=["_law_one", "_law_other"]) (own:=2) (js:=[]) (by decide +kernel) rfl rfl) rfl (pi_zipS rfl T.z_zip (pc (pv 0) (pc (pv 1) pa_nil))) (fun _ _ _ _ _ _=>(pg_tupK (K:=K) (n:=2) rfl rfl (pgs_cons (pgn 0 (show List.Nodup (["_law_one", "_law_other"]:List Str) by decide +kernel)) (pgs_cons (pgn 1 (show List.Nodup (["_law_one", "_law_other"]:List Str) by decide +kernel)) pgs_nil)))) (fun _ _ _ _ _ _=>(pe_defN D_same hr.m rfl (pc (pv 0) (pc (pv 1) pa_nil))))) pa_nil))))))) pss_nil)
      (pss_cons (ps_if (PW.pt (pw_or (pt_cmp (pc_isN (pv 1))) (pw_or1 (pt_val (pe_callBN call_isi rfl T.z_isinstance boot_isi (pc (pv 1) (pc (pe_bltn (v:=.ty "str") rfl T.z_str boot_strT rfl) pa_nil))))))) (pss_one (ps_ret (pe_and (pe_cmpR op_eq (pv 0) (pv 1) (nomark _)) (pe_one (pe_cmpR op_eq (pe_callBN call_isi rfl T.z_isinstance boot_isi (pc (pv 0) (pc (pe_bltn (v:=.ty "str") rfl T.z_str boot_strT rfl) pa_nil))) (pe_callBN call_isi rfl T.z_isinstance boot_isi (pc (pv 1) (pc (pe_bltn (v:=.ty "str") rfl T.z_str boot_strT rfl) pa_nil))) (nomark _)))))) pss_nil)
      (pss_one (ps_ret (pe_and (pe_callBN call_isi rfl T.z_isinstance boot_isi (pc (pv 0) (pc (pe_bltn (v:=.ty "int") rfl T.z_int boot_intT rfl) pa_nil))) (pe_and (pe_cmpR op_eq (pe_callBN call_isi rfl T.z_isinstance boot_isi (pc (pv 0) (pc (pe_bltn (v:=.ty "bool") rfl T.z_bool boot_boolT rfl) pa_nil))) (pe_callBN call_isi rfl T.z_isinstance boot_isi (pc (pv 1) (pc (pe_bltn (v:=.ty "bool") rfl T.z_bool boot_boolT rfl) pa_nil))) (nomark _)) (pe_one (pe_cmpR op_eq (pv 0) (pv 1) (nomark _))))))))),?_⟩
  have split:(x=y∧Sc x)∨∃ (m:Nat) (a b:Addr) (xs ys:List V),n=m+1∧x=.ref a∧y=.ref b∧((H a=some (.lst xs)∧H b=some (.lst ys))∨(H a=some (.tup xs)∧H b=some (.tup ys)))∧xs.length=ys.length∧xs.length≤1000∧∀ (i:Nat) (u v:V),xs[i]?=some u→ys[i]?=some v→Eqv m H u v:=by
    cases n with
    | zero=>exact .inl h
    | succ m =>
      rcases h with h | ⟨a,b,xs,ys,h1,h2,h3,h5,h6,h7⟩
      · exact .inl h
      · exact .inr ⟨m,a,b,xs,ys,rfl,h1,h2,h3,h5,h6,h7⟩
  rcases split with ⟨rfl,hs⟩ | ⟨m,a,b,xs,ys,rfl,rfl,rfl,⟨ha,hb⟩ | ⟨ha,hb⟩,hl,hlen,hi⟩
  · have key:∀ p,H p=none→∀ o,Same H (upd H p o):=fun p hp o=>same_upd hp o
    cases x with
    | int j =>
      refine ⟨_,rfl,(by show 2≤sizeLine; decide),fun p hp=>⟨_,_,_,_,p,rfl,upd_same,rfl,by decide,by decide,_,rfl,ifF (by decide) ?_⟩⟩
      refine ⟨_,rfl,_,rfl,ifF (by simp) ⟨_,rfl,_,_,_,rfl,rfl,by decide,_,rfl,ifF (by decide) ?_⟩⟩
      refine ⟨_,rfl,_,_,_,rfl,rfl,by decide,_,rfl,ifT (by decide) ⟨_,rfl,_,_,_,rfl,rfl,by decide,_,rfl,_,_,_,rfl,rfl,by decide,rfl,_,rfl,ifT (by decide) ⟨_,rfl,_,rfl,rfl,?_⟩⟩⟩
      rw [decide_eq_true rfl]
      exact k _ (key p hp _)
    | bl j =>
      refine ⟨_,rfl,(by show 2≤sizeLine; decide),fun p hp=>⟨_,_,_,_,p,rfl,upd_same,rfl,by decide,by decide,_,rfl,ifF (by decide) ?_⟩⟩
      refine ⟨_,rfl,_,rfl,ifF (by simp) ⟨_,rfl,_,_,_,rfl,rfl,by decide,_,rfl,ifF (by decide) ?_⟩⟩
      refine ⟨_,rfl,_,_,_,rfl,rfl,by decide,_,rfl,ifT (by decide) ⟨_,rfl,_,_,_,rfl,rfl,by decide,_,rfl,_,_,_,rfl,rfl,by decide,rfl,_,rfl,ifT (by decide) ⟨_,rfl,_,rfl,rfl,?_⟩⟩⟩
      rw [decide_eq_true rfl]
      exact k _ (key p hp _)
    | non =>
      refine ⟨_,rfl,(by show 2≤sizeLine; decide),fun p hp=>⟨_,_,_,_,p,rfl,upd_same,rfl,by decide,by decide,_,rfl,ifF (by decide) ?_⟩⟩
      refine ⟨_,rfl,_,rfl,ifT (by simp) (ifT rfl ⟨_,rfl,_,rfl,rfl,_,rfl,ifT (by decide) ⟨_,rfl,_,_,_,rfl,rfl,by decide,_,rfl,_,_,_,rfl,rfl,by decide,rfl,?_⟩⟩)⟩
      rw [decide_eq_true rfl]
      exact k _ (key p hp _)
    | str z =>
      refine ⟨_,rfl,(by show 2≤sizeLine; decide),fun p hp=>⟨_,_,_,_,p,rfl,upd_same,rfl,by decide,by decide,_,rfl,ifF (by decide) ?_⟩⟩
      refine ⟨_,rfl,_,rfl,ifF (by simp) ⟨_,rfl,_,_,_,rfl,rfl,by decide,_,rfl,ifT (by decide) ⟨_,rfl,_,rfl,rfl,_,rfl,ifT (by simp) ⟨_,rfl,_,_,_,rfl,rfl,by decide,_,rfl,_,_,_,rfl,rfl,by decide,rfl,?_⟩⟩⟩⟩
      rw [decide_eq_true rfl]
      exact k _ (key p hp _)
    | _=>exact hs.elim
  · have he:=hsp m rfl
    subst he
    refine ⟨_,rfl,(by show 2≤sizeLine; decide),fun p hp=>?_⟩
    have s1:=same_upd hp (.tup [.ty "list",.ty "tuple"])
    refine ⟨_,_,_,_,p,rfl,upd_same,tyL (s1 _ _ hb),by decide,by decide,_,rfl,ifT (by decide) ?_⟩
    refine ⟨_,rfl,(by show 2≤sizeLine; decide),fun p2 hp2=>?_⟩
    have s2:=s1.trans (same_upd hp2 (.tup [.ty "list",.ty "tuple"]))
    refine ⟨_,_,_,_,p2,rfl,upd_same,tyL (s2 _ _ ha),by decide,by decide,_,rfl,ifF (by decide) ?_⟩
    refine ⟨_,rfl,_,_,_,rfl,tyL (s2 _ _ ha),by decide,_,rfl,_,_,_,rfl,tyL (s2 _ _ hb),by decide,rfl,_,rfl,ifF (by decide) ?_⟩
    refine ⟨_,rfl,a,_,rfl,.inl (SqL.of (s2 _ _ ha)),_,rfl,b,_,rfl,.inl (SqL.of (s2 _ _ hb)),rfl,_,rfl,?_⟩
    generalize upd (upd H p (.tup [.ty "list",.ty "tuple"])) p2 (.tup [.ty "list",.ty "tuple"])=H2 at *
    refine ifT (by rw [hl]; simp) ?_
    refine ⟨_,rfl,_,rfl,a,b,rfl,.inl ⟨_,_,SqL.of (s2 _ _ ha),SqL.of (s2 _ _ hb),fun l hl'=>?_⟩⟩
    have hlH:H l=none:=s2.free hl'
    refine comp_zip (K:=K) (a:=a) (b:=b) (xs:=xs) (zs:=ys) (l:=l) hl (fun i zs σ H'=>∃ v0 v1:Option V,σ=[v0,v1]∧zs=(List.replicate i true).map V.bl∧H' l=some (.lst zs)∧Same H H')
      ⟨none,none,rfl,by simp,upd_same,s2.trans (same_upd hl' _)⟩ (fun i zs σ H' _ ⟨_,_,_,_,_,q⟩=>⟨SqL.of (q _ _ ha),SqL.of (q _ _ hb)⟩) ?_ ?_
    · rintro i x z t zs σ H' hii hxi hzi hzl ⟨v0,v1,rfl,rfl,h1,s3⟩ ht
      have s4:=s3.trans (same_upd ht (.tup [x,z]))
      have ntl:l≠t:=ne_of_none h1 ht
      refine ⟨t,_,rfl,SqT.of upd_same,rfl,_,_,rfl,_,_,rfl,rfl,?_⟩
      refine ⟨_,rfl,_,rfl,x,z,rfl,(hi i x z hxi hzi).same s4,fun H5 s5=>?_⟩
      refine CNx.of (Nat.le_of_lt (small1000 hlen)) hii hzl (s5 _ _ (by rw [upd_ne ntl]; exact h1)) ⟨_,_,rfl,by rw [List.replicate_succ',List.map_append]; rfl,upd_same,?_⟩
      intro c o e
      rw [upd_ne (ne_of_none e hlH)]
      exact s5 _ _ (s4 _ _ e)
    · rintro zs σ H' hzl ⟨v0,v1,rfl,rfl,h1,s3⟩
      refine ⟨l,_,rfl,SqL.of h1,?_⟩
      rw [show (List.replicate xs.length true).all id=true by rw [List.all_eq_true]; intro z hz; rw [(List.mem_replicate.mp hz).2]; rfl]
      exact k H' s3
  · have he:=hsp m rfl
    subst he
    refine ⟨_,rfl,(by show 2≤sizeLine; decide),fun p hp=>?_⟩
    have s1:=same_upd hp (.tup [.ty "list",.ty "tuple"])
    refine ⟨_,_,_,_,p,rfl,upd_same,tyT (s1 _ _ hb),by decide,by decide,_,rfl,ifT (by decide) ?_⟩
    refine ⟨_,rfl,(by show 2≤sizeLine; decide),fun p2 hp2=>?_⟩
    have s2:=s1.trans (same_upd hp2 (.tup [.ty "list",.ty "tuple"]))
    refine ⟨_,_,_,_,p2,rfl,upd_same,tyT (s2 _ _ ha),by decide,by decide,_,rfl,ifF (by decide) ?_⟩
    refine ⟨_,rfl,_,_,_,rfl,tyT (s2 _ _ ha),by decide,_,rfl,_,_,_,rfl,tyT (s2 _ _ hb),by decide,rfl,_,rfl,ifF (by decide) ?_⟩
    refine ⟨_,rfl,a,_,rfl,.inr (SqT.of (s2 _ _ ha)),_,rfl,b,_,rfl,.inr (SqT.of (s2 _ _ hb)),rfl,_,rfl,?_⟩
    generalize upd (upd H p (.tup [.ty "list",.ty "tuple"])) p2 (.tup [.ty "list",.ty "tuple"])=H2 at *
    refine ifT (by rw [hl]; simp) ?_
    refine ⟨_,rfl,_,rfl,a,b,rfl,.inr ⟨_,_,SqT.of (s2 _ _ ha),SqT.of (s2 _ _ hb),fun l hl'=>?_⟩⟩
    have hlH:H l=none:=s2.free hl'
    refine comp_zipT (K:=K) (a:=a) (b:=b) (xs:=xs) (zs:=ys) (l:=l) hl (fun i zs σ H'=>∃ v0 v1:Option V,σ=[v0,v1]∧zs=(List.replicate i true).map V.bl∧H' l=some (.lst zs)∧Same H H')
      ⟨none,none,rfl,by simp,upd_same,s2.trans (same_upd hl' _)⟩ (fun i zs σ H' _ ⟨_,_,_,_,_,q⟩=>⟨SqT.of (q _ _ ha),SqT.of (q _ _ hb)⟩) ?_ ?_
    · rintro i x z t zs σ H' hii hxi hzi hzl ⟨v0,v1,rfl,rfl,h1,s3⟩ ht
      have s4:=s3.trans (same_upd ht (.tup [x,z]))
      have ntl:l≠t:=ne_of_none h1 ht
      refine ⟨t,_,rfl,SqT.of upd_same,rfl,_,_,rfl,_,_,rfl,rfl,?_⟩
      refine ⟨_,rfl,_,rfl,x,z,rfl,(hi i x z hxi hzi).same s4,fun H5 s5=>?_⟩
      refine CNx.of (Nat.le_of_lt (small1000 hlen)) hii hzl (s5 _ _ (by rw [upd_ne ntl]; exact h1)) ⟨_,_,rfl,by rw [List.replicate_succ',List.map_append]; rfl,upd_same,?_⟩
      intro c o e
      rw [upd_ne (ne_of_none e hlH)]
      exact s5 _ _ (s4 _ _ e)
    · rintro zs σ H' hzl ⟨v0,v1,rfl,rfl,h1,s3⟩
      refine ⟨l,_,rfl,SqL.of h1,?_⟩
      rw [show (List.replicate xs.length true).all id=true by rw [List.all_eq_true]; intro z hz; rw [(List.mem_replicate.mp hz).2]; rfl]
      exact k H' s3
def spNo:Sp:=fun _ _ _ _=>False
theorem own_same {f:Addr} {fd:FuncData} (F:Fun K "_law_same" "_law_same" s_same f fd) (bi:Binds K fd P_same []) (m:mg "_law_same" = some (.ref f)) (T:Txt K mg):∀ n,Def P w K mg base "_law_same" (n+1) P_same (spSameE n)
  | 0=>by
    have D0:Def P w K mg base "_law_same" 0 P_same spNo:=⟨f,fd,⟨fun _ _ _ _ h=>h.elim,fun _ _ _ _ _ _ _ _ _ _ _ _ _ h=>h.elim⟩,m,F.kp,bi⟩
    exact ⟨f,fd,ok_same (n:=0) (fun _ h=>by omega) F T D0,m,F.kp,bi⟩
  | n+1=>⟨f,fd,ok_same (n:=n+1) (fun j h=>by cases (show j=n by omega); rfl) F T (own_same F bi m T n),m,F.kp,bi⟩
end
theorem nd_len:∀ {a b:List Int},a.Nodup→(∀ x∈a,x∈b)→a.length≤b.length
  | [],_,_,_=>Nat.zero_le _
  | x :: a,b,nd,h=>by
    have nd':=List.nodup_cons.mp nd
    have mx:=h x List.mem_cons_self
    have q:=nd_len (b:=b.erase x) nd'.2 fun y hy=>(List.mem_erase_of_ne (fun z:y=x=>nd'.1 (by rw [← z]; exact hy))).mpr (h y (List.mem_cons_of_mem _ hy))
    rw [List.length_erase_of_mem mx] at q
    have:=List.length_pos_of_mem mx
    show a.length+1≤b.length
    omega
structure Fx6 (H':Hp) (b p lso ls du:Addr) (ads:List Addr):Prop where
  np:b≠p
  nl:b≠ls
  nads:b∉ads
  ndu:b≠du
  nso:b≠lso
  fdu:H' du=none
  fads:∀ x∈ads,H' x=none
  oso:lso∉ads
structure Bk6 (K:PySem.W.Frag) (H' G:Hp) (b p lso ls du:Addr) (ads:List Addr) (sh pl:Int) (ru:Str) (bq:Int) (ns seq:List Int) (us:Int→Int) (n:Nat) (cm:Int):Prop where
  room:RoomAt K G p sh pl ru ls ads du seq us n
  full:∀ s,((shelfS sh s seq).length:Int)≤pl
  so:G lso=some (.lst (ns.map V.int))
  sub:∀ x∈seq,x∈ns
  box:∃ a' c',BoxAt G b a' bq c'∧c'≤cm
  sb:SB b H' G
  tb:Tb K G
section
variable {K:PySem.W.Frag} {H' G G1:Hp} {b p lso ls du:Addr} {ads:List Addr} {sh pl:Int} {ru:Str} {bq:Int} {ns seq:List Int} {us:Int→Int} {n:Nat} {cm:Int}
theorem RoomAt.sb (R:RoomAt K G p sh pl ru ls ads du seq us n) {x:Addr} (s:SB x G G1) (h1:x≠p) (h2:x≠ls) (h3:x∉ads) (h4:x≠du):RoomAt K G1 p sh pl ru ls ads du seq us n:=by
  obtain ⟨dx,g1⟩:=R.ob
  obtain ⟨kvs,g2,g3⟩:=R.dc
  exact ⟨⟨dx,s _ _ (Ne.symm h1) g1⟩,⟨s _ _ (Ne.symm h2) R.st.top,R.st.len,R.st.nd,R.st.off,fun i ad e=>s _ _ (fun z=>h3 (z ▸ List.mem_of_getElem? e)) (R.st.at_ i ad e)⟩,⟨kvs,s _ _ (Ne.symm h4) g2,g3⟩,R.nd,R.s0,R.s1⟩
theorem Bk6.take (k:Bk6 K H' G b p lso ls du ads sh pl ru bq ns seq us n cm) (F:Fx6 H' b p lso ls du ads) {a' c' cm1:Int} (B:BoxAt G1 b a' bq c') (hc:c'≤cm1) (s:SB b G G1):Bk6 K H' G1 b p lso ls du ads sh pl ru bq ns seq us n cm1:=by
  obtain ⟨_,_,B0,_⟩:=k.box
  refine ⟨k.room.sb s F.np F.nl F.nads F.ndu,k.full,s _ _ (Ne.symm F.nso) k.so,k.sub,⟨a',c',B,hc⟩,k.sb.trans s,s _ _ (fun z=>?_) k.tb⟩
  have t:=k.tb; unfold Tb at t; rw [z,B0.at'] at t; cases t
theorem Bk6.same (k:Bk6 K H' G b p lso ls du ads sh pl ru bq ns seq us n cm) (s:Same G G1):Bk6 K H' G1 b p lso ls du ads sh pl ru bq ns seq us n cm:=by
  obtain ⟨a',c',B,hc⟩:=k.box
  exact ⟨k.room.same s,k.full,s _ _ k.so,k.sub,⟨a',c',B.same s,hc⟩,fun x o n e=>s _ _ (k.sb x o n e),k.tb.same s⟩
theorem Bk6.sr (k:Bk6 K H' G b p lso ls du ads sh pl ru bq ns seq us n cm) (F:Fx6 H' b p lso ls du ads) (s:SR ads du G G1):G1 lso=some (.lst (ns.map V.int))∧(∃ a' c',BoxAt G1 b a' bq c'∧c'≤cm)∧SB b H' G1∧Tb K G1:=by
  obtain ⟨a',c',B,hc⟩:=k.box
  obtain ⟨kvs,g2,_⟩:=k.room.dc
  have nd:∀ {x:Addr} {xs:List V},G x=some (.lst xs)→x≠du:=fun e z=>by rw [z,g2] at e; cases e
  refine ⟨s _ _ k.so (nd k.so) F.oso,⟨a',c',⟨s _ _ B.at' F.ndu F.nads,B.a0,B.q0,B.q1,B.c0⟩,hc⟩,fun x o nx e=>s _ _ (k.sb x o nx e) (fun z=>?_) (fun z=>?_),?_⟩
  · rw [z,F.fdu] at e; cases e
  · rw [F.fads x z] at e; cases e
  · exact s.keep k.room k.tb (fun _ z=>by cases z) (fun _ z=>by cases z)
theorem Bk6.deed {seq':List Int} {us':Int→Int} {n':Nat} (k:Bk6 K H' G b p lso ls du ads sh pl ru bq ns seq us n cm) (F:Fx6 H' b p lso ls du ads) (s:SR ads du G G1) (R':RoomAt K G1 p sh pl ru ls ads du seq' us' n') {x:Int} (hx:x∈ns) (hs:∀ y∈seq',y=x∨y∈seq) (hf:∀ s,((shelfS sh s seq').length:Int)≤pl):Bk6 K H' G1 b p lso ls du ads sh pl ru bq ns seq' us' n' cm:=by
  obtain ⟨h1,h2,h3,h4⟩:=k.sr F s
  exact ⟨R',hf,h1,fun y hy=>(hs y hy).elim (fun e=>e ▸ hx) (k.sub y),h2,h3,h4⟩
end
structure OwF (H':Hp) (p ls du b lso:Addr) (ads:List Addr) (x:Addr):Prop where
  h0:H' x=none
  n1:x≠p
  n2:x≠ls
  n3:x∉ads
  n4:x≠du
  n5:x≠b
  n6:x≠lso
section
variable {K:PySem.W.Frag} {H' G G1:Hp} {b p lso ls du:Addr} {ads:List Addr} {sh pl:Int} {ru:Str} {bq:Int} {ns seq:List Int} {us:Int→Int} {n:Nat} {cm:Int}
theorem Bk6.own (k:Bk6 K H' G b p lso ls du ads sh pl ru bq ns seq us n cm) {x:Addr} (h:G x=none):OwF H' p ls du b lso ads x:=by
  obtain ⟨n4,n3⟩:=k.room.new h
  obtain ⟨dx,e⟩:=k.room.ob
  obtain ⟨_,_,B,_⟩:=k.box
  have nb:x≠b:=fun z=>by rw [z,B.at'] at h; cases h
  refine ⟨?_,fun z=>?_,fun z=>?_,n3,n4,nb,fun z=>?_⟩
  · cases q:H' x with
    | none=>rfl
    | some o=>rw [k.sb _ _ nb q] at h; cases h
  · rw [z,e] at h; cases h
  · rw [z,k.room.st.top] at h; cases h
  · rw [z,k.so] at h; cases h
end
structure Inv4 (ru:Str) (S:List (Addr×Rec)) (t:Int) (seq:List Int) (us:Int→Int):Prop where
  nb:(bdsS S).Nodup
  mem:∀ b,b∈bdsS S↔b∈seq
  ord:∃ tm:Int→Int,(seq.Pairwise fun a b=>tm a<tm b)∧∀ x∈S,tm x.2.b=tmO ru x.2
  le:∀ x∈S,x.2.t0≤t∧x.2.t1≤t
  usn:∀ x∈S,us x.2.b=x.2.n
theorem tmO_le {ru:Str} {r:Rec} {t:Int} (h:r.t0≤t∧r.t1≤t):tmO ru r≤t:=by unfold tmO; split <;> omega
theorem mem_bds {S:List (Addr×Rec)} {b:Int}:b∈bdsS S↔∃ x∈S,x.2.b=b:=by unfold bdsS; exact List.mem_map
theorem mem_noB {S:List (Addr×Rec)} {o:Option Int} {x:Addr×Rec}:x∈noB S o↔x∈S∧o≠some x.2.b:=by
  cases o with
  | none=>exact ⟨fun h=>⟨h,fun z=>by cases z⟩,fun h=>h.1⟩
  | some g =>
    show x∈S.filter _↔_
    rw [List.mem_filter,Bool.not_eq_true',decide_eq_false_iff_not]
    exact ⟨fun ⟨a,b⟩=>⟨a,fun z=>b (by rw [Option.some.inj z])⟩,fun ⟨a,b⟩=>⟨a,fun z=>b (by injection z with z; rw [z])⟩⟩
theorem mem_lessO {seq:List Int} (nd:seq.Nodup) {o:Option Int} {x:Int}:x∈lessO seq o↔x∈seq∧o≠some x:=by
  cases o with
  | none=>exact ⟨fun h=>⟨h,fun z=>by cases z⟩,fun h=>h.1⟩
  | some g =>
    show x∈seq.erase g↔_
    rw [List.Nodup.mem_erase_iff nd]
    exact ⟨fun ⟨a,b⟩=>⟨b,fun z=>a (Option.some.inj z).symm⟩,fun ⟨a,b⟩=>⟨fun z=>b (by rw [z]),a⟩⟩
theorem Inv4.shelfP {ru:Str} {S:List (Addr×Rec)} {t:Int} {seq:List Int} {us:Int→Int} (I:Inv4 ru S t seq us) (nd:seq.Nodup) (sh z:Int):(shelfS sh z seq).Perm (((onS sh z S).map (·.2)).map (·.b)):=by
  have e:((onS sh z S).map (·.2)).map (·.b)=(bdsS S).filter fun o=>decide (o % sh=z):=by
    unfold bdsS onS
    rw [List.map_map,List.filter_map]
    refine congrArg _ (List.filter_congr fun x _=>?_)
    show decide (V.int (x.2.b % sh)=V.int z)=decide (x.2.b % sh=z)
    rw [decide_eq_decide]
    exact ⟨fun h=>by injection h,fun h=>by rw [h]⟩
  rw [e]
  exact List.Perm.filter _ ((List.perm_ext_iff_of_nodup nd I.nb).mpr fun b=>(I.mem b).symm)
theorem Inv4.shelf {ru:Str} {S:List (Addr×Rec)} {t:Int} {seq:List Int} {us:Int→Int} (I:Inv4 ru S t seq us) (hru:Rule ru) (nd:seq.Nodup) {sh z:Int} {os:List Rec} {os2:List Int} (po:os.Perm ((onS sh z S).map (·.2))) (pw:os.Pairwise fun x y=>kLt (keyR ru y,y.b) (keyR ru x,x.b)=false)
    (p2:os2.Perm (shelfS sh z seq)) (hf:ru = "few" → os2.Pairwise (KLt us (shelfS sh z seq))) (hn:ru ≠ "few" → os2=shelfS sh z seq):os.map (·.b)=os2:=by
  obtain ⟨tm,o1,o2⟩:=I.ord
  have hin:∀ r∈(onS sh z S).map (·.2),∃ x∈S,x.2=r:=fun r h=>by
    obtain ⟨x,m,e⟩:=List.mem_map.mp h
    exact ⟨x,(List.mem_filter.mp m).1,e⟩
  have pm:=I.shelfP nd sh z
  refine shelf_same hru (pm.nodup_iff.mp (nd.sublist List.filter_sublist)) pm (o1.sublist List.filter_sublist) (fun r h=>?_) (fun r h=>?_) po pw p2 hf hn
  · obtain ⟨x,m,rfl⟩:=hin r h
    exact o2 x m
  · obtain ⟨x,m,rfl⟩:=hin r h
    exact I.usn x m
theorem Inv4.nil (ru:Str) (t:Int) (us:Int→Int):Inv4 ru [] t [] us:=⟨List.nodup_nil,fun b=>Iff.rfl,⟨fun _=>0,List.Pairwise.nil,fun _ h=>by cases h⟩,(fun _ h=>by cases h),fun _ h=>by cases h⟩
theorem Inv4.out {ru:Str} {S:List (Addr×Rec)} {t:Int} {seq:List Int} {us:Int→Int} (I:Inv4 ru S t seq us) (hru:Rule ru) (nd:seq.Nodup) {sh pl z:Int} {os:List Rec} {gone:Option Int} (po:os.Perm ((onS sh z S).map (·.2))) (pw:os.Pairwise fun x y=>kLt (keyR ru y,y.b) (keyR ru x,x.b)=false)
    (gp:goneP ru us pl (shelfS sh z seq) gone):outF pl os=gone:=by
  have lo:os.length=(shelfS sh z seq).length:=by rw [(I.shelfP nd sh z).length_eq,List.length_map,po.length_eq]
  unfold outF
  by_cases c:((shelfS sh z seq).length:Int)<pl
  · rw [if_neg (by omega),gp.1 c]
  · rw [if_pos (by omega)]
    obtain ⟨g,rest,rfl,p2,hf,hn⟩:=gp.2 c
    have e:=I.shelf hru nd po pw p2 hf hn
    cases os with
    | nil=>cases e
    | cons r os=>injection e with e1 e2; exact congrArg some e1
theorem Inv4.drop {ru:Str} {S:List (Addr×Rec)} {t:Int} {seq:List Int} {us:Int→Int} (I:Inv4 ru S t seq us) (nd:seq.Nodup) (o:Option Int) (u:Int) (hu:t≤u):Inv4 ru (noB S o) u (lessO seq o) us:=by
  obtain ⟨tm,o1,o2⟩:=I.ord
  refine ⟨I.nb.sublist (noB_sub.map _),fun b=>?_,⟨tm,o1.sublist less_sub,fun x m=>o2 x (noB_sub.subset m)⟩,fun x m=>?_,fun x m=>I.usn x (noB_sub.subset m)⟩
  · rw [mem_lessO nd,← I.mem b,mem_bds,mem_bds]
    constructor
    · rintro ⟨x,m,rfl⟩
      obtain ⟨m1,m2⟩:=mem_noB.mp m
      exact ⟨⟨x,m1,rfl⟩,m2⟩
    · rintro ⟨⟨x,m,rfl⟩,q⟩
      exact ⟨x,mem_noB.mpr ⟨m,q⟩,rfl⟩
  · have:=I.le x (noB_sub.subset m)
    omega
theorem Inv4.bring {ru:Str} {S:List (Addr×Rec)} {t b:Int} {seq:List Int} {us:Int→Int} (I:Inv4 ru S t seq us) (hb:b∉seq) (u:Int) (hu:t<u) (a:Addr):Inv4 ru (S++[(a,⟨b,u,u,0⟩)]) u (seq++[b]) (zero us b):=by
  obtain ⟨tm,o1,o2⟩:=I.ord
  have nbm:∀ x∈S,x.2.b≠b:=fun x m z=>hb ((I.mem b).mp (mem_bds.mpr ⟨x,m,z⟩))
  refine ⟨?_,fun c=>?_,⟨fun c=>if c=b then u else tm c,?_,fun x m=>?_⟩,fun x m=>?_,fun x m=>?_⟩
  · unfold bdsS
    rw [List.map_append]
    exact nd_snoc I.nb fun m=>hb ((I.mem b).mp m)
  · unfold bdsS
    rw [List.map_append,List.mem_append,List.mem_append]
    exact or_congr (I.mem c) Iff.rfl
  · rw [List.pairwise_append]
    refine ⟨o1.imp_of_mem fun {x y} hx hy h=>?_,List.pairwise_singleton ..,fun x hx y hy=>?_⟩
    · show (if x=b then u else tm x)<(if y=b then u else tm y)
      rw [if_neg (fun z:x=b=>hb (z ▸ hx)),if_neg (fun z:y=b=>hb (z ▸ hy))]
      exact h
    · show (if x=b then u else tm x)<(if y=b then u else tm y)
      rw [List.mem_singleton.mp hy,if_pos rfl,if_neg (fun z:x=b=>hb (z ▸ hx))]
      obtain ⟨r,m,rfl⟩:=mem_bds.mp ((I.mem x).mpr hx)
      rw [o2 r m]
      have:=tmO_le (ru:=ru) (I.le r m)
      omega
  · rcases List.mem_append.mp m with m | m
    · show (if x.2.b=b then u else tm x.2.b)=_
      rw [if_neg (nbm x m)]
      exact o2 x m
    · rw [List.mem_singleton.mp m]
      show (if b=b then u else tm b)=tmO ru ⟨b,u,u,0⟩
      rw [if_pos rfl]
      unfold tmO
      split <;> rfl
  · rcases List.mem_append.mp m with m | m
    · have:=I.le x m
      omega
    · rw [List.mem_singleton.mp m]
      exact ⟨Int.le_refl _,Int.le_refl _⟩
  · rcases List.mem_append.mp m with m | m
    · show (if x.2.b=b then 0 else us x.2.b)=_
      rw [if_neg (nbm x m)]
      exact I.usn x m
    · rw [List.mem_singleton.mp m]
      exact if_pos rfl
theorem useF_b (b u:Int) (y:Addr×Rec):(useF b u y).2.b=y.2.b:=by
  unfold useF
  split
  · rename_i h; exact h.symm
  · rfl
theorem Inv4.use {ru:Str} {S:List (Addr×Rec)} {t b:Int} {seq:List Int} {us:Int→Int} (I:Inv4 ru S t seq us) (nd:seq.Nodup) (hb:b∈seq) (u:Int) (hu:t<u):Inv4 ru (S.map (useF b u)) u (if ru = "old" then seq.erase b++[b] else seq) (bump us b):=by
  obtain ⟨tm,o1,o2⟩:=I.ord
  have eb:bdsS (S.map (useF b u))=bdsS S:=by
    unfold bdsS
    rw [List.map_map]
    exact List.map_congr_left fun y _=>useF_b b u y
  refine ⟨by rw [eb]; exact I.nb,fun c=>?_,?_,fun x m=>?_,fun x m=>?_⟩
  · rw [eb,I.mem c]
    split
    · exact ((List.perm_append_comm).trans (List.perm_cons_erase hb).symm).mem_iff.symm
    · exact Iff.rfl
  · by_cases c:ru = "old"
    · rw [if_pos c]
      refine ⟨fun c=>if c=b then u else tm c,?_,fun x m=>?_⟩
      · rw [List.pairwise_append]
        refine ⟨(o1.sublist List.erase_sublist).imp_of_mem fun {x y} hx hy h=>?_,List.pairwise_singleton ..,fun x hx y hy=>?_⟩
        · show (if x=b then u else tm x)<(if y=b then u else tm y)
          rw [if_neg ((List.Nodup.mem_erase_iff nd).mp hx).1,if_neg ((List.Nodup.mem_erase_iff nd).mp hy).1]
          exact h
        · obtain ⟨n1,n2⟩:=(List.Nodup.mem_erase_iff nd).mp hx
          show (if x=b then u else tm x)<(if y=b then u else tm y)
          rw [List.mem_singleton.mp hy,if_pos rfl,if_neg n1]
          obtain ⟨r,m,rfl⟩:=mem_bds.mp ((I.mem x).mpr n2)
          rw [o2 r m]
          have:=tmO_le (ru:=ru) (I.le r m)
          omega
      · obtain ⟨y,my,rfl⟩:=List.mem_map.mp m
        show (if (useF b u y).2.b=b then u else tm (useF b u y).2.b)=_
        rw [useF_b]
        unfold useF tmO
        rw [if_pos c]
        by_cases e:y.2.b=b
        · rw [if_pos e,if_pos e]
        · rw [if_neg e,if_neg e,o2 y my]
          unfold tmO
          rw [if_pos c]
    · rw [if_neg c]
      refine ⟨tm,o1,fun x m=>?_⟩
      obtain ⟨y,my,rfl⟩:=List.mem_map.mp m
      rw [useF_b,o2 y my]
      unfold useF tmO
      rw [if_neg c,if_neg c]
      split <;> rfl
  · obtain ⟨y,my,rfl⟩:=List.mem_map.mp m
    have:=I.le y my
    unfold useF
    split
    · exact ⟨by show y.2.t0≤u; omega,Int.le_refl _⟩
    · omega
  · obtain ⟨y,my,rfl⟩:=List.mem_map.mp m
    rw [useF_b]
    unfold bump useF
    by_cases e:y.2.b=b
    · rw [if_pos e,if_pos e,← e,I.usn y my]
    · rw [if_neg e,if_neg e]
      exact I.usn y my
section
variable {P:Program} {w:World} {K:PySem.W.Frag} {mg:Str→Option Value} {base:Heap}
def spStands (K:PySem.W.Frag):Sp:=fun vs H Q _=>∃ (p d lr:Addr) (sh pl:Int) (ru:Str) (ls:Addr) (ads:List Addr) (du:Addr) (seq:List Int) (us:Int→Int) (n:Nat) (S:List (Addr×Rec)) (t:Int),vs=[.ref p,.ref d]∧RoomAt K H p sh pl ru ls ads du seq us n∧Tb K H∧OwnAt H d lr sh pl ru S t∧Inv4 ru S t seq us∧Rule ru∧pl≤16∧(∀ s,((shelfS sh s seq).length:Int)≤pl)∧seq.length≤39 ∧
  ∀ H',Same H H'→Q (.bl true) H'
theorem ok_stands {f:Addr} {fd:FuncData} (F:Fun K "_law_stands" "_law_stands" s_stands f fd) (T:Txt K mg) (D_own_shelf:Def P w K mg base "_law_own_shelf" 2 P_own_shelf (spOwnShelf K)) (D_same':∀ n,Def P w K mg base "_law_same" (n+1) P_same (spSameE n)) (M_Room_shelf:MDef P w K mg base (clsOf K "Room") "shelf" 3 P_Room_shelf (spShelfOn K)) (M_Room_boards:MDef P w K mg base (clsOf K "Room") "boards" 1 P_Room_boards (spBds K)):FnOk P w K mg base CX0 4 f fd P_stands (spStands K):=by
  refine F.ok sc_stands (fun vs H Q E h=>?_) (fun cdv A outer st H vs Q E hr h=>?_)
  · obtain ⟨p,d,lr,sh,pl,ru,ls,ads,du,seq,us,n,S,t,rfl,_⟩:=h
    rfl
  obtain ⟨p,d,lr,sh,pl,ru,ls,ads,du,seq,us,n,S,t,rfl,R,tb,O,I,hru,hpl,hf,h39,k⟩:=h
  have nd:=sc_stands.nd
  have hu:=hu_of hr
  have D_same:=D_same' 1
  refine ⟨_,(pss_cons (pst 2 nd (pe_op op_cat (pe_comp0 (compOk_of (osc:=(defScope s_stands)) (oN:=N_stands) (N:=["_law_row", "_law_own"]) (own:=1) (js:=[1]) (by decide +kernel) rfl rfl) rfl (pi_listK (K:=K) rfl (pe_dget hu (pv 1) pe_str (fun _ _=>rfl))) (fun _ _ _ _ _ _=>(pgn 0 (show List.Nodup (["_law_row", "_law_own"]:List Str) by decide +kernel))) (fun _ _ _ _ _ _=>(pe_op op_mod (pe_ix (ix_listK (K:=K) rfl) (pv 0) pe_int (fun _ _=>rfl)) (pe_dget hu (pv 1) pe_str (fun _ _=>rfl))))) (pe_lst (pc pe_int (pc pe_int (pc pe_int (pc (pe_op op_sub (pe_dget hu (pv 1) pe_str (fun _ _=>rfl)) pe_int) (pc (pe_op op_sub (pe_dget hu (pv 1) pe_str (fun _ _=>rfl)) pe_int) pa_nil))))))))
      (pss_cons (ps_for PassesOwn.never rfl (pi_listK (K:=K) rfl (pe_sset rfl rfl T.z_sorted rfl T.z_set (pc (pv 2) pa_nil))) (pgn 3 nd) (pss_one (ps_if (PW.pt (pw_and (pt_chain op_le op_lt pe_int (pv 3) (pe_dget hu (pv 1) pe_str (fun _ _=>rfl))) (pw_and1 (pt_not (pt_val (pe_defN D_same hr.m rfl (pc (pe_methN M_Room_shelf hr.m T.cl_Room (pv 0) (pc (pv 3) pa_nil)) (pc (pe_defN D_own_shelf hr.m rfl (pc (pv 1) (pc (pv 3) pa_nil))) pa_nil)))))))) (pss_one (ps_ret pe_bl)) pss_nil)))
      (pss_one (ps_ret (pe_defN D_same hr.m rfl (pc (pe_methN0 M_Room_boards hr.m T.cl_Room (pv 0)) (pc (pe_callBN (call_sorted (K:=K) rfl) rfl T.z_sorted PyProof.Rows.boot_sorted (pc (pe_comp0 (compOk_of (osc:=(defScope s_stands)) (oN:=N_stands) (N:=["_law_row"]) (own:=1) (js:=[]) (by decide +kernel) rfl rfl) rfl (pi_listK (K:=K) rfl (pe_dget hu (pv 1) pe_str (fun _ _=>rfl))) (fun _ _ _ _ _ _=>(pgn 0 (show List.Nodup (["_law_row"]:List Str) by decide +kernel))) (fun _ _ _ _ _ _=>(pe_ix (ix_listK (K:=K) rfl) (pv 0) pe_int (fun _ _=>rfl)))) pa_nil)) pa_nil))))))),?_⟩
  have lS:S.length≤39:=by
    have q:=nd_len I.nb fun x hx=>(I.mem x).mp hx
    unfold bdsS at q
    rw [List.length_map] at q
    omega
  refine ⟨_,rfl,d,_,rfl,O.g own_rows,lr,rfl,⟨_,SqL.of O.li⟩,fun l hl=>comp_list (K:=K) (a:=lr) (xs:=S.map fun x=>V.ref x.1) (l:=l) (fun j ys σ' G'=>∃ v0:Option V,σ'=[v0,some (.ref d)]∧ys=((S.take j).map fun x=>V.int (x.2.b % sh))∧G'=upd H l (.lst ys)) ⟨none,rfl,rfl,rfl⟩ (fun j ys σ' G' _ ⟨_,_,_,q⟩=>SqL.of (by rw [q,upd_ne (ne_of_none O.li hl)]; exact O.li)) ?_ ?_⟩
  · rintro j x ys σ' G' hj hx hys ⟨v0,rfl,rfl,rfl⟩
    obtain ⟨y,hy,rfl⟩:=refs_at hx
    have my:=List.mem_of_getElem? hy
    have O':=O.same (same_upd hl (.lst ((S.take j).map fun x=>V.int (x.2.b % sh))))
    have s0:=R.s0
    refine ⟨_,rfl,y.1,_,_,_,rfl,rfl,SqL.of (O'.at_ y my),atI0,_,rfl,d,_,rfl,O'.g own_sh,_,_,rfl,rfl,(by show 0<sh; omega),?_⟩
    refine CNx.of (Nat.le_of_lt (small1000 (by rw [List.length_map]; omega))) hj hys upd_same ⟨_,rfl,by rw [List.take_add_one,hy,List.map_append]; rfl,upd_upd⟩
  rintro ys σ' G' _ ⟨v0,rfl,rfl,rfl⟩
  rw [List.length_map,List.take_length]
  have s1:=same_upd hl (.lst (S.map fun x=>V.int (x.2.b % sh)))
  have al:=upd_same (H:=H) (a:=l) (o:=.lst (S.map fun x=>V.int (x.2.b % sh)))
  have O1:=O.same s1
  generalize upd H l (.lst (S.map fun x=>V.int (x.2.b % sh)))=G1 at *
  refine ⟨_,rfl,d,_,rfl,O1.g own_sh,_,_,rfl,rfl,_,rfl,d,_,rfl,O1.g own_sh,_,_,rfl,rfl,(by show 5≤sizeLine; decide),fun l2 hl2=>?_⟩
  have al2:=upd_same (H:=G1) (a:=l2) (o:=.lst [V.int 0,V.int 1,V.int 2,V.int (sh - 2),V.int (sh - 1)])
  have s2:=same_upd hl2 (.lst [V.int 0,V.int 1,V.int 2,V.int (sh - 2),V.int (sh - 1)])
  have al:=s2 _ _ al
  have s2:=s1.trans s2
  change rCat _ _ (upd G1 l2 (.lst [V.int 0,V.int 1,V.int 2,V.int (sh - 2),V.int (sh - 1)])) _
  generalize upd G1 l2 (.lst [V.int 0,V.int 1,V.int 2,V.int (sh - 2),V.int (sh - 1)])=G2 at *
  refine ⟨l,l2,_,_,rfl,rfl,al,al2,by rw [List.length_map]; exact Nat.le_of_lt (small1000 (by show S.length+5≤1000; omega)),fun l3 hl3=>gN ?_⟩
  obtain ⟨ns,en,ln⟩:∃ ns:List Int,(S.map fun x=>V.int (x.2.b % sh))++[V.int 0,V.int 1,V.int 2,V.int (sh - 2),V.int (sh - 1)]=ns.map V.int∧ns.length<64 :=
    ⟨(S.map fun x=>x.2.b % sh)++[0,1,2,sh - 2,sh - 1],by rw [List.map_append,List.map_map]; rfl,by rw [List.length_append,List.length_map]; show S.length+5<64; omega⟩
  rw [en]
  have al3:=upd_same (H:=G2) (a:=l3) (o:=.lst (ns.map V.int))
  have s3:=s2.trans (same_upd hl3 (.lst (ns.map V.int)))
  generalize upd G2 l3 (.lst (ns.map V.int))=G3 at *
  refine ⟨_,rfl,l3,ns,rfl,al3,ln,fun q D φ os hq hD nDq ndo mem pw=>?_⟩
  have hDq:upd G3 q (.ext φ) D=none:=by rw [upd_ne nDq]; exact hD
  have s4:=s3.trans ((same_upd hq (.ext φ)).trans (same_upd hDq (.lst (os.map V.int))))
  have aD:=upd_same (H:=upd G3 q (.ext φ)) (a:=D) (o:=.lst (os.map V.int))
  generalize upd (upd G3 q (.ext φ)) D (.lst (os.map V.int))=G4 at *
  refine ⟨D,rfl,⟨_,SqL.of aD⟩,for_list (K:=K) (a:=D) (xs:=os.map V.int) (fun i σ G=>∃ v3:Option V,σ=[some (.ref p),some (.ref d),some (.ref l3),v3]∧Same G4 G) ⟨none,rfl,Same.refl _⟩ (fun i σ G _ ⟨_,_,q⟩=>SqL.of (q _ _ aD)) ?_ ?_⟩
  · rintro i x σ G hi ⟨v3,rfl,s5⟩
    obtain ⟨z,rfl⟩:∃ z,x=.int z:=by
      rw [List.getElem?_map] at hi
      cases e:os[i]? with
      | none=>rw [e] at hi; cases hi
      | some z=>rw [e] at hi; exact ⟨z,(Option.some.inj hi).symm⟩
    have s6:=s4.trans s5
    have O6:=O.same s6
    have R6:=R.same s6
    have s0:=R.s0
    obtain ⟨dx,h1⟩:=R6.ob
    refine gN ?_
    refine ⟨_,rfl,_,_,rfl,rfl,_,rfl,?_⟩
    by_cases z0:0≤z
    · refine ifT (decide_eq_true z0) ⟨_,rfl,d,_,rfl,O6.g own_sh,_,_,rfl,rfl,_,rfl,?_⟩
      by_cases z1:z<sh
      · refine ifT (decide_eq_true z1) ?_
        have fs:=hf z
        refine ⟨_,rfl,p,dx,_,rfl,h1,fl_no ..,_,rfl,p,z,sh,pl,ru,ls,ads,du,seq,us,n,rfl,R6,tb.same s6,z0,z1,by omega,fun D1 G7 os1 hD1 s7 a7 pm1 few1 nfew1=>?_⟩
        refine ⟨_,rfl,_,rfl,d,lr,z,sh,pl,t,ru,S,rfl,O6.same s7,by omega,hru,s0,fun D2 os2 G8 hD2 po2 pw2 a8 s8=>?_⟩
        have e:=I.shelf hru R.nd po2 pw2 pm1 few1 nfew1
        have a8:G8 D2=some (.lst (os1.map V.int)):=by rw [a8,← e,List.map_map]; rfl
        have l1:=pm1.length_eq
        refine ⟨_,_,rfl,Eqv.flat (s8 _ _ a7) a8 (by rw [List.length_map]; omega) (fun x hx=>by obtain ⟨z,_,rfl⟩:=List.mem_map.mp hx; trivial),fun G9 s9=>⟨_,rfl,ifF rfl ⟨_,rfl,s5.trans (s7.trans (s8.trans s9))⟩⟩⟩
      · exact ifF (decide_eq_false z1) (ifF rfl ⟨_,rfl,s5⟩)
    · exact ifF (decide_eq_false z0) ⟨_,rfl,ifF rfl (ifF rfl ⟨_,rfl,s5⟩)⟩
  · rintro σ G ⟨v3,rfl,s5⟩
    have s6:=s4.trans s5
    have O6:=O.same s6
    have R6:=R.same s6
    obtain ⟨dx,h1⟩:=R6.ob
    refine ⟨_,rfl,p,dx,_,rfl,h1,fl_no ..,p,sh,pl,ru,ls,ads,du,seq,us,n,rfl,R6,by omega,fun lb bs hlb po pwb=>?_⟩
    have ab:=upd_same (H:=G) (a:=lb) (o:=.lst (bs.map V.int))
    have s7:=s6.trans (same_upd hlb (.lst (bs.map V.int)))
    generalize upd G lb (.lst (bs.map V.int))=G7 at *
    have O7:=O.same s7
    refine ⟨_,rfl,d,_,rfl,O7.g own_rows,lr,rfl,⟨_,SqL.of O7.li⟩,fun l6 hl6=>comp_list (K:=K) (a:=lr) (xs:=S.map fun x=>V.ref x.1) (l:=l6) (fun j ys σ' G'=>∃ v0:Option V,σ'=[v0]∧ys=((S.take j).map fun x=>V.int x.2.b)∧G'=upd G7 l6 (.lst ys)) ⟨none,rfl,rfl,rfl⟩ (fun j ys σ' G' _ ⟨_,_,_,q⟩=>SqL.of (by rw [q,upd_ne (ne_of_none O7.li hl6)]; exact O7.li)) ?_ ?_⟩
    · rintro j x ys σ' G' hj hx hys ⟨v0,rfl,rfl,rfl⟩
      obtain ⟨y,hy,rfl⟩:=refs_at hx
      refine ⟨_,rfl,y.1,_,_,_,rfl,rfl,SqL.of (same_upd hl6 _ _ _ (O7.at_ y (List.mem_of_getElem? hy))),atI0,?_⟩
      refine CNx.of (Nat.le_of_lt (small1000 (by rw [List.length_map]; omega))) hj hys upd_same ⟨_,rfl,by rw [List.take_add_one,hy,List.map_append]; rfl,upd_upd⟩
    rintro ys σ' G' _ ⟨v0,rfl,rfl,rfl⟩
    rw [List.length_map,List.take_length]
    have eb:(S.map fun x=>V.int x.2.b)=(bdsS S).map V.int:=by unfold bdsS; rw [List.map_map]; rfl
    rw [eb]
    have lb':(bdsS S).length=S.length:=List.length_map ..
    refine ⟨l6,_,rfl,SqL.of upd_same,by omega,fun D2 os2 hD2 po2 pw2=>?_⟩
    have e:bs=os2:=PySem.W.ksm_same (po.trans ((List.perm_ext_iff_of_nodup R.nd I.nb).mpr fun b=>(I.mem b).symm) |>.trans po2.symm) pwb pw2
    have l2:=po2.length_eq
    have s8:=(same_upd hl6 (.lst ((bdsS S).map V.int))).trans (same_upd hD2 (.lst (os2.map V.int)))
    exact ⟨_,_,rfl,Eqv.flat (xs:=os2.map V.int) (by rw [← e]; rw [← e] at s8; exact s8 _ _ ab) upd_same (by rw [List.length_map]; omega) (fun x hx=>by obtain ⟨z,_,rfl⟩:=List.mem_map.mp hx; trivial),fun G9 s9=>k G9 (s7.trans (s8.trans s9))⟩
end
structure Ow4 (H' G:Hp) (b p lso ls du:Addr) (ads:List Addr) (sh pl:Int) (ru:Str) (d lr:Addr) (S:List (Addr×Rec)) (t:Int) (seq:List Int) (us:Int→Int):Prop where
  own:OwnAt G d lr sh pl ru S t
  od:OwF H' p ls du b lso ads d
  ol:OwF H' p ls du b lso ads lr
  os:∀ x∈S,OwF H' p ls du b lso ads x.1
  inv:Inv4 ru S t seq us
section
variable {K:PySem.W.Frag} {H' G G1:Hp} {b p lso ls du d lr:Addr} {ads:List Addr} {sh pl:Int} {ru:Str} {bq:Int} {ns seq:List Int} {us:Int→Int} {n:Nat} {cm t:Int} {S:List (Addr×Rec)}
theorem Ow4.same (o:Ow4 H' G b p lso ls du ads sh pl ru d lr S t seq us) (s:Same G G1):Ow4 H' G1 b p lso ls du ads sh pl ru d lr S t seq us:=⟨o.own.same s,o.od,o.ol,o.os,o.inv⟩
theorem Ow4.take (o:Ow4 H' G b p lso ls du ads sh pl ru d lr S t seq us) (s:SB b G G1):Ow4 H' G1 b p lso ls du ads sh pl ru d lr S t seq us :=
  ⟨⟨s _ _ o.od.n5 o.own.ob,s _ _ o.ol.n5 o.own.li,fun x m=>s _ _ (o.os x m).n5 (o.own.at_ x m),o.own.nd,o.own.off⟩,o.od,o.ol,o.os,o.inv⟩
theorem Ow4.sr (o:Ow4 H' G b p lso ls du ads sh pl ru d lr S t seq us) (s:SR ads du G G1):OwnAt G1 d lr sh pl ru S t :=
  ⟨s _ _ o.own.ob o.od.n4 o.od.n3,s _ _ o.own.li o.ol.n4 o.ol.n3,fun x m=>s _ _ (o.own.at_ x m) (o.os x m).n4 (o.os x m).n3,o.own.nd,o.own.off⟩
theorem Bk6.offB (k:Bk6 K H' G b p lso ls du ads sh pl ru bq ns seq us n cm) (od:OwF H' p ls du b lso ads d) (ol:OwF H' p ls du b lso ads lr) (os:∀ x∈S,OwF H' p ls du b lso ads x.1) (f:OffB d lr S G G1) (own:OwnAt G d lr sh pl ru S t):Bk6 K H' G1 b p lso ls du ads sh pl ru bq ns seq us n cm:=by
  obtain ⟨a',c',B,hc⟩:=k.box
  obtain ⟨dx,e1⟩:=k.room.ob
  obtain ⟨kvs,e2,e3⟩:=k.room.dc
  have key:∀ x o,(∀ y,OwF H' p ls du b lso ads y→x≠y)→G x=some o→G1 x=some o:=fun x o h e=>f x o (h _ od) (h _ ol) (fun m=>by
    obtain ⟨y,my,q⟩:=List.mem_map.mp m
    exact h _ (os y my) q.symm) e
  refine ⟨⟨⟨dx,key _ _ (fun y h z=>h.n1 z.symm) e1⟩,⟨key _ _ (fun y h z=>h.n2 z.symm) k.room.st.top,k.room.st.len,k.room.st.nd,k.room.st.off,fun i ad e=>key _ _ (fun y h z=>h.n3 (z ▸ List.mem_of_getElem? e)) (k.room.st.at_ i ad e)⟩,⟨kvs,key _ _ (fun y h z=>h.n4 z.symm) e2,e3⟩,k.room.nd,k.room.s0,k.room.s1⟩,k.full,key _ _ (fun y h z=>h.n6 z.symm) k.so,k.sub,⟨a',c',⟨key _ _ (fun y h z=>h.n5 z.symm) B.at',B.a0,B.q0,B.q1,B.c0⟩,hc⟩,fun x o nx e=>key _ _ (fun y h z=>by rw [z,h.h0] at e; cases e) (k.sb x o nx e),?_⟩
  refine f _ _ (fun z=>?_) (fun z=>?_) (fun z=>?_) k.tb
  · have q:=k.tb; unfold Tb at q; rw [z,own.ob] at q; cases q
  · have q:=k.tb; unfold Tb at q; rw [z,own.li] at q; cases q
  · obtain ⟨y,my,e⟩:=List.mem_map.mp z
    have q:=k.tb; unfold Tb at q; rw [← e,own.at_ y my] at q; cases q
theorem Ow4.new {S':List (Addr×Rec)} {lr':Addr} (k:Bk6 K H' G b p lso ls du ads sh pl ru bq ns seq us n cm) (ol:OwF H' p ls du b lso ads lr) (os:∀ x∈S,OwF H' p ls du b lso ads x.1) (w:NewB G lr S lr' S'):OwF H' p ls du b lso ads lr'∧∀ x∈S',OwF H' p ls du b lso ads x.1:=by
  refine ⟨w.1.elim (fun e=>by rw [e]; exact ol) k.own,fun x m=>(w.2 x m).elim (fun q=>?_) k.own⟩
  obtain ⟨y,my,e⟩:=List.mem_map.mp q
  rw [← e]
  exact os y my
end
theorem pick5w (r:Int) (h0:0≤r) (h1:r<5):∃ z:Int,atI [V.int 0,V.int 0,V.int 1,V.int 1,V.int 2] r=some (.int z)∧(z=0∨z=1∨z=2):=by
  have h:r=0∨r=1∨r=2∨r=3∨r=4:=by omega
  rcases h with rfl | rfl | rfl | rfl | rfl
  · exact ⟨0,atI0,.inl rfl⟩
  · exact ⟨0,atI1,.inl rfl⟩
  · exact ⟨1,atI2,.inr (.inl rfl)⟩
  · exact ⟨1,atI3,.inr (.inl rfl)⟩
  · exact ⟨2,atI_nat (j:=4) rfl,.inr (.inr rfl)⟩
theorem deed4 {ru:Str} {S S':List (Addr×Rec)} {t t':Int} {seq seq':List Int} {us us':Int→Int} {sh pl b way:Int} {x v:V} {G:Hp} (hru:Rule ru) (nd:seq.Nodup) (I:Inv4 ru S t seq us) (hw:¬ (way=0↔b∈seq)) (st:Step7 ru us pl sh seq b way x seq' us') (o:OwnR sh pl ru way b t S S' t' G v):∃ p,v=.ref p∧G p=some (.tup [.str "told",x])∧Inv4 ru S' t' seq' us'∧Sc x:=by
  rcases o with ⟨w0,hb,_⟩ | ⟨w0,hb,_⟩ | ⟨p,out,rfl,hp,rfl,h⟩
  · exact absurd ⟨fun _=>(I.mem b).mp hb,fun _=>w0⟩ hw
  · exact absurd ⟨fun z=>absurd z w0,fun z=>absurd ((I.mem b).mpr z) hb⟩ hw
  · refine ⟨p,rfl,?_⟩
    rcases h with ⟨rfl,hb,rfl,rfl⟩ | ⟨rfl,hb,rfl,rfl⟩ | ⟨rfl,hb,a,os,po,pw,rfl,rfl⟩
    · cases st with
      | use h=>exact ⟨hp,I.use nd h (t+1) (by omega),trivial⟩
    · cases st with
      | drop h=>exact ⟨hp,I.drop nd (some b) (t+1) (by omega),trivial⟩
    · cases st with
      | bring h gp =>
        rename_i gone
        have e:=I.out hru nd po pw gp
        rw [e] at hp ⊢
        refine ⟨hp,(I.drop nd gone t (Int.le_refl _)).bring (fun m=>h (less_sub.subset m)) (t+1) (by omega) a,?_⟩
        cases gone <;> trivial
theorem deed4r {ru:Str} {S S':List (Addr×Rec)} {t t':Int} {seq:List Int} {us:Int→Int} {sh pl b way:Int} {v:V} {G:Hp} (I:Inv4 ru S t seq us) (hw:way=0↔b∈seq) (o:OwnR sh pl ru way b t S S' t' G v):v=.str (if way=0 then "There" else "NotThere")∧S'=S∧t'=t:=by
  rcases o with ⟨w0,hb,h⟩ | ⟨w0,hb,h⟩ | ⟨p,out,rfl,hp,rfl,h⟩
  · rw [if_pos w0]; exact h
  · rw [if_neg w0]; exact h
  · rcases h with ⟨rfl,hb,_⟩ | ⟨rfl,hb,_⟩ | ⟨rfl,hb,_⟩
    · exact absurd (hw.mpr ((I.mem b).mp hb)) (by decide)
    · exact absurd (hw.mpr ((I.mem b).mp hb)) (by decide)
    · exact absurd ((I.mem b).mpr (hw.mp rfl)) hb
section
variable {P:Program} {w:World} {K:PySem.W.Frag} {mg:Str→Option Value} {base:Heap}
def spLaw (K:PySem.W.Frag):Sp:=fun vs H Q _=>∃ (a:Addr) (ns:List Int),vs=[.ref a]∧SqL K H a (ns.map V.int)∧ns.length≤63∧Tb K H∧∀ H',Q (.bl true) H'
theorem ok_law {f:Addr} {fd:FuncData} (F:Fun K "law" "law" s_law f fd) (T:Txt K mg) (D_boxes:Def P w K mg base "_law_boxes" 2 P_boxes (spBoxes K)) (D_take:Def P w K mg base "_law_take" 1 P_take spTake) (D_many:Def P w K mg base "_law_many" 2 P_many spMany) (D_room:Def P w K mg base "_law_room" 3 P_room spRoomL)
    (K_Room:KDef P w K mg base (clsOf K "Room") "Room" 1 P_Room_init (spRoom K)) (D_same':∀ n,Def P w K mg base "_law_same" (n+1) P_same (spSameE n)) (D_done_deed:Def P w K mg base "_law_done_deed" 5 P_done_deed (spDoneS K)) (D_own_deed:Def P w K mg base "_law_own_deed" 3 P_own_deed (spOwnDeed K)) (D_stands:Def P w K mg base "_law_stands" 4 P_stands (spStands K)) (M_Room_has:MDef P w K mg base (clsOf K "Room") "has" 1 P_Room_has (spHas K)) :
    FnOk P w K mg base CX0 6 f fd P_law (spLaw K):=by
  refine F.ok sc_law (fun vs H Q E h=>?_) (fun cdv A outer st H vs Q E hr h=>?_)
  · obtain ⟨a,ns,rfl,_⟩:=h
    rfl
  obtain ⟨a,ns,rfl,hS,h63,tb,k⟩:=h
  have nd:=sc_law.nd
  have hu:=hu_of hr
  have D_same:=D_same' 1
  refine ⟨_,(pss_cons (ps_for PassesOwn.never rfl (pi_listK (K:=K) rfl (pe_defN D_boxes hr.m rfl (pc (pv 0) (pc pe_int pa_nil)))) (pgn 1 nd) (pss_cons (ps_asg (pe_defN D_room hr.m rfl (pc (pv 1) pa_nil)) (pg_tupK (K:=K) (n:=4) rfl rfl (pgs_cons (pgn 2 nd) (pgs_cons (pgn 3 nd) (pgs_cons (pgn 4 nd) (pgs_cons (pgn 5 nd) pgs_nil))))))
      (pss_cons (pst 6 nd (pe_makeN K_Room hr.m rfl (pc (pv 2) (pc (pv 3) (pc (pv 4) pa_nil)))))
      (pss_cons (pst 7 nd (pe_dispQ (pq_cons pe_str (pv 2) (pq_cons pe_str (pv 3) (pq_cons pe_str (pv 4) (pq_cons pe_str (pe_lst pa_nil) (pq_cons pe_str pe_int pq_nil))))) rfl rfl (by simp) (by decide)))
      (pss_one (ps_for PassesOwn.never rfl (pi_range1 rfl T.z_range (pc (pe_op op_add pe_int (pe_defN D_many hr.m rfl (pc (pv 1) (pc pe_int (pc pe_int pa_nil))))) pa_nil)) (pgn 8 nd) (pss_cons (ps_par (i:=9) (j:=10) rfl nd rfl rfl (by decide) rfl rfl (pc (pe_ix (ix_listK (K:=K) rfl) (pe_lst (pc pe_int (pc pe_int (pc pe_int (pc pe_int (pc pe_int pa_nil)))))) (pe_defN D_take hr.m rfl (pc (pv 1) (pc pe_int pa_nil))) (fun _ _=>rfl)) (pc (pe_ix (ix_listK (K:=K) rfl) (pv 5) (pe_defN D_take hr.m rfl (pc (pv 1) (pc (pe_callBN (call_len_seqK (K:=K) rfl) rfl T.z_len PySem.boot_len (pc (pv 5) pa_nil)) pa_nil))) (fun _ _=>rfl)) pa_nil)) rfl)
      (pss_cons (ps_comp0 11 (compOk_of (osc:=(defScope s_law)) (oN:=N_law) (N:=["_law_row"]) (own:=1) (js:=[]) (by decide +kernel) rfl rfl) rfl nd rfl rfl (pi_listK (K:=K) rfl (pe_dget hu (pv 7) pe_str (fun _ _=>rfl))) (fun _ _ _ _ _ _=>(pgn 0 (show List.Nodup (["_law_row"]:List Str) by decide +kernel))) (fun _ _ _ _ _ _=>(pe_ix (ix_listK (K:=K) rfl) (pv 0) pe_int (fun _ _=>rfl))))
      (pss_cons (ps_if (PW.pt (pw_and (pt_cmpR op_gt (pv 9) pe_int (nomark _)) (pw_and (pt_cmpR (op_neL (K:=K) (Nat.lt_of_succ_lt hu) rfl) (pv 11) (pe_lst pa_nil) (nomark _)) (pw_and1 (pt_cmpR op_gt (pe_defN D_take hr.m rfl (pc (pv 1) (pc pe_int pa_nil))) pe_int (nomark _)))))) (pss_one (pst 10 nd (pe_ix (ix_listK (K:=K) rfl) (pv 11) (pe_defN D_take hr.m rfl (pc (pv 1) (pc (pe_callBN (call_len_seqK (K:=K) rfl) rfl T.z_len PySem.boot_len (pc (pv 11) pa_nil)) pa_nil))) (fun _ _=>rfl)))) pss_nil)
      (pss_cons (ps_if (pt_not (pt_val (pe_defN D_same hr.m rfl (pc (pe_methN M_Room_has hr.m T.cl_Room (pv 6) (pc (pv 10) pa_nil)) (pc (pe_cmpR (op_in_seqK (K:=K) rfl) (pv 10) (pv 11) rfl) pa_nil))))) (pss_one (ps_ret pe_bl)) pss_nil)
      (pss_cons (ps_if (pt_not (pt_val (pe_defN D_same hr.m rfl (pc (pe_defN D_done_deed hr.m rfl (pc (pv 6) (pc (pv 9) (pc (pv 10) pa_nil)))) (pc (pe_defN D_own_deed hr.m rfl (pc (pv 7) (pc (pv 9) (pc (pv 10) pa_nil)))) pa_nil))))) (pss_one (ps_ret pe_bl)) pss_nil)
      (pss_one (ps_if (pt_not (pt_val (pe_defN D_stands hr.m rfl (pc (pv 6) (pc (pv 7) pa_nil))))) (pss_one (ps_ret pe_bl)) pss_nil)))))))))))))
      (pss_one (ps_ret pe_bl))),?_⟩
  refine ⟨_,rfl,a,ns,4,rfl,hS,h63,by decide,by decide,fun r bs H1 hr1 e1 B hlen=>?_⟩
  refine ⟨r,rfl,⟨_,SqL.of B.at'⟩,for_list (K:=K) (a:=r) (xs:=bs.map V.ref) (fun i σ H'=>∃ v1 v2 v3 v4 v5 v6 v7 v8 v9 v10 v11:Option V,σ=[some (.ref a),v1,v2,v3,v4,v5,v6,v7,v8,v9,v10,v11]∧H' r=some (.lst (bs.map V.ref))∧Tb K H'∧∀ j b,i≤j→bs[j]?=some b→∃ a q,BoxAt H' b a q 0)
    ⟨_,_,_,_,_,_,_,_,_,_,_,rfl,B.at',tb.same e1,fun j b _ hj=>(B.new b (List.mem_of_getElem? hj)).2⟩ (fun i σ H' _ ⟨_,_,_,_,_,_,_,_,_,_,_,_,q,_⟩=>SqL.of q) ?_ ?_⟩
  · rintro i x σ H' hi ⟨v1,v2,v3,v4,v5,v6,v7,v8,v9,v10,v11,rfl,hr',tb',hbx⟩
    obtain ⟨b,rfl,hbi⟩:∃ b,x=V.ref b∧bs[i]?=some b:=by
      rw [List.getElem?_map] at hi
      cases e:bs[i]? with
      | none=>rw [e] at hi; cases hi
      | some b=>rw [e] at hi; exact ⟨b,(Option.some.inj hi).symm,rfl⟩
    obtain ⟨ba,bq,Bb⟩:=hbx i b (Nat.le_refl _) hbi
    have nrb:r≠b:=fun e=>by subst e; exact B.off (List.mem_of_getElem? hbi)
    refine hide fun u1 e1=>?_
    refine ⟨_,rfl,b,ba,bq,0,rfl,Bb,by decide,fun pp lso sh pl ru sns a1 c1 G1 ep hso eso n1 n39 nsB sh0 sh1 pl0 pl1 hru B1 hc1 t1=>⟨pp,_,rfl,SqT.of ep,rfl,_,_,rfl,gN ⟨_,_,rfl,gN ⟨_,_,rfl,gN ⟨_,_,rfl,gN ⟨rfl,?_⟩⟩⟩⟩⟩⟩
    subst e1
    try dsimp only
    have nbso:b≠lso:=fun z=>by rw [← z,Bb.at'] at hso; cases hso
    refine hide fun u1 e1=>?_
    refine ⟨_,rfl,_,rfl,_,rfl,fun p dx hp hdx npd=>⟨p,dx,sh,pl,ru,rfl,upd_same,sh0,sh1,fun ls ads du H4 R4 f1 f2 f3 k4=>⟨rfl,gN ?_⟩⟩⟩
    subst e1
    try dsimp only
    have k3:∀ x o,G1 x=some o→H4 x=some o:=fun x o e=>by
      have n1:=ne_of_none e hp
      have n2:=ne_of_none e hdx
      exact k4 x o (by rw [upd_ne n1,upd_ne n2]; exact e) n1
    have ng:∀ x,x=ls∨x=du∨x∈ads→G1 x=none:=fun x hx=>by
      have q:upd (upd G1 dx (.own p)) p (.ins (clsOf K "Room") dx []) x=none:=by
        rcases hx with rfl | rfl | hx
        · exact f1
        · exact f2
        · exact f3 x hx
      have n1:x≠p:=fun z=>by rw [z,upd_same] at q; cases q
      have n2:x≠dx:=fun z=>by rw [z,upd_ne npd,upd_same] at q; cases q
      rw [upd_ne n1,upd_ne n2] at q
      exact q
    have nsx:∀ {x o},G1 x=some o→x≠ls∧x≠du∧x∉ads:=fun {x o} e=>⟨(fun z=>by have q:=ng x (.inl z); rw [e] at q; cases q),(fun z=>by have q:=ng x (.inr (.inl z)); rw [e] at q; cases q),(fun z=>by have q:=ng x (.inr (.inr z)); rw [e] at q; cases q)⟩
    obtain ⟨s1,s2,s3⟩:=nsx B1.at'
    obtain ⟨w1,w2,w3⟩:=nsx eso
    have F6:Fx6 H' b p lso ls du ads:=⟨ne_of_none B1.at' hp,s1,s3,s2,nbso,sb_fresh t1 B1.at' (ng du (.inr (.inl rfl))),fun x hx=>sb_fresh t1 B1.at' (ng x (.inr (.inr hx))),w3⟩
    have ntb:tabOf K "Room" "going" ≠ b:=fun z=>by have t:=tb'; unfold Tb at t; rw [z,Bb.at'] at t; cases t
    have sbx:SB b H' H4:=fun x o nx e=>k3 _ _ (t1 _ _ nx e)
    have K6:Bk6 K H' H4 b p lso ls du ads sh pl ru bq sns [] (fun _=>0) 0 60:=⟨R4,fun s=>by show ((0:Nat):Int)≤pl; omega,k3 _ _ eso,by simp,⟨a1,c1,⟨k3 _ _ B1.at',B1.a0,B1.q0,B1.q1,B1.c0⟩,by omega⟩,sbx,sbx _ _ ntb tb'⟩
    clear R4 f1 f2 f3 k4 k3 ng nsx B1 s1 s2 s3 w1 w2 w3 sbx hp hdx npd ep eso hso t1 hc1
    refine hide fun u1 e1=>?_
    refine fun d hd=>⟨_,rfl,_,rfl,_,rfl,(by show 0≤sizeLine; decide),fun lr hlr=>?_⟩
    have p4:upd (upd H4 d (.dK [])) lr (.lst []) d=some (.dK []):=same_upd hlr _ _ _ upd_same
    have sF:Same H4 (upd (upd (upd H4 d (.dK [])) lr (.lst [])) d (.dK (ownK sh pl ru lr 0))):=fun x o e=>by
      rw [upd_ne (ne_of_none e hd)]
      exact same_upd hlr _ _ _ (same_upd hd _ _ _ e)
    have ndl:lr≠d:=fun z=>by rw [z,upd_same] at hlr; cases hlr
    have O6:OwnAt (upd (upd (upd H4 d (.dK [])) lr (.lst [])) d (.dK (ownK sh pl ru lr 0))) d lr sh pl ru [] 0:=⟨upd_same,by rw [upd_ne ndl]; exact upd_same,(fun x h=>by cases h),List.nodup_nil,by simp⟩
    have Ow6:Ow4 H' (upd (upd (upd H4 d (.dK [])) lr (.lst [])) d (.dK (ownK sh pl ru lr 0))) b p lso ls du ads sh pl ru d lr [] 0 [] (fun _=>0):=⟨O6,K6.own hd,K6.own ((same_upd hd _).free hlr),(fun x h=>by cases h),Inv4.nil ..⟩
    have K6:=K6.same sF
    refine ⟨p4,ownK sh pl ru lr 0,rfl,(by show 5≤15; decide),gN ?_⟩
    subst e1
    rw [own_merge]
    generalize upd (upd (upd H4 d (.dK [])) lr (.lst [])) d (.dK (ownK sh pl ru lr 0))=H5 at *
    clear p4 sF ndl O6 hlr hd
    try dsimp only
    obtain ⟨a6,c6,B6,hc6⟩:=K6.box
    refine ⟨_,rfl,b,a6,bq,c6,41,181,rfl,B6,by omega,by decide,by decide,by decide,fun tn a7 c7 H7 tn0 tn1 B7 hc7 t7=>⟨_,_,rfl,rfl,_,rfl,by omega,by omega,?_⟩⟩
    have K7:=K6.take F6 (cm1:=62) B7 (by omega) t7
    have Ow7:=Ow6.take t7
    clear K6 Ow6
    refine for_range (lo:=0) (n:=(19+tn).toNat) (fun j σ G=>∃ (v8 v9 v10 v11:Option V) (lr:Addr) (S:List (Addr×Rec)) (t:Int) (seq:List Int) (us:Int→Int) (n:Nat),σ=[some (.ref a),some (.ref b),some (.int sh),some (.int pl),some (.str ru),some (.ref lso),some (.ref p),some (.ref d),v8,v9,v10,v11] ∧
        Bk6 K H' G b p lso ls du ads sh pl ru bq sns seq us n (62+4 * j)∧Ow4 H' G b p lso ls du ads sh pl ru d lr S t seq us∧n≤j)
      ⟨_,_,_,_,lr,[],0,[],_,0,rfl,by simpa using K7,Ow7,Nat.le_refl _⟩ ?_ ?_
    · clear K7 Ow7 B6 B7 hc6 hc7 t7
      rintro j σ G hj ⟨v8,v9,v10,v11,lr,S,t,seq,us,n,rfl,k5,o5,hn⟩
      have seql:seq.length≤39:=Nat.le_trans (nd_len k5.room.nd k5.sub) n39
      have lS:S.length≤39:=by
        have q:=nd_len o5.inv.nb fun x hx=>(o5.inv.mem x).mp hx
        unfold bdsS at q
        rw [List.length_map] at q
        omega
      obtain ⟨a8,c8,B8,hc8⟩:=k5.box
      try dsimp only
      refine hide fun u1 e1=>?_
      refine ⟨(by show 5≤sizeLine; decide),fun l6 hl6=>?_⟩
      have n6:b≠l6:=ne_of_none B8.at' hl6
      have k6:=k5.same (same_upd hl6 (.lst [V.int 0,V.int 0,V.int 1,V.int 1,V.int 2]))
      have o6:=o5.same (same_upd hl6 (.lst [V.int 0,V.int 0,V.int 1,V.int 1,V.int 2]))
      have B8:=B8.same (same_upd hl6 (.lst [V.int 0,V.int 0,V.int 1,V.int 1,V.int 2]))
      have e6:upd G l6 (.lst [V.int 0,V.int 0,V.int 1,V.int 1,V.int 2]) l6=some (.lst [V.int 0,V.int 0,V.int 1,V.int 1,V.int 2]):=upd_same
      generalize upd G l6 (.lst [V.int 0,V.int 0,V.int 1,V.int 1,V.int 2])=G6 at *
      refine ⟨_,rfl,b,a8,bq,c8,5,rfl,B8,by omega,by decide,by decide,fun r1 a9 c9 G9 r10 r11 B9 hc9 t9=>?_⟩
      obtain ⟨wy,hwy,wyc⟩:=pick5w r1 r10 r11
      have k9:=k6.take F6 (cm1:=62+4 * j+1) B9 (by omega) t9
      refine ⟨l6,_,_,_,rfl,rfl,SqL.of (t9 _ _ (Ne.symm n6) e6),hwy,_,rfl,_,rfl,_,rfl,lso,_,rfl,.inl (SqL.of k9.so),b,a9,bq,c9,_,rfl,B9,by omega,by rw [List.length_map]; omega,by rw [List.length_map]; omega,fun r2 a10 c10 G10 r20 r21 B10 hc10 t10=>?_⟩
      rw [List.length_map] at r21
      obtain ⟨bd,hbd,bdm⟩:=at_mem r20 r21
      have k10:=k9.take F6 (cm1:=62+4 * j+2) B10 (by omega) t10
      have o10:=(o6.take t9).take t10
      refine ⟨lso,_,_,_,rfl,rfl,SqL.of k10.so,hbd,_,_,rfl,?_⟩
      subst e1
      try dsimp only
      clear k5 k6 k9 o5 o6 B8 B9 B10 hc8 hc9 hc10 t9 t10 e6 hl6 n6
      have O:=o10.own
      refine hide fun u1 e1=>?_
      refine ⟨_,rfl,d,_,rfl,O.g own_rows,lr,rfl,⟨_,SqL.of O.li⟩,fun l7 hl7=>comp_list (K:=K) (a:=lr) (xs:=S.map fun x=>V.ref x.1) (l:=l7) (fun j ys σ' G'=>∃ v0:Option V,σ'=[v0]∧ys=((S.take j).map fun x=>V.int x.2.b)∧G'=upd G10 l7 (.lst ys)) ⟨none,rfl,rfl,rfl⟩ (fun j ys σ' G' _ ⟨_,_,_,q⟩=>SqL.of (by rw [q,upd_ne (ne_of_none O.li hl7)]; exact O.li)) ?_ ?_⟩
      · rintro j x ys σ' G' hj hx hys ⟨v0,rfl,rfl,rfl⟩
        obtain ⟨y,hy,rfl⟩:=refs_at hx
        refine ⟨_,rfl,y.1,_,_,_,rfl,rfl,SqL.of (same_upd hl7 _ _ _ (O.at_ y (List.mem_of_getElem? hy))),atI0,?_⟩
        refine CNx.of (Nat.le_of_lt (small1000 (by rw [List.length_map]; omega))) hj hys upd_same ⟨_,rfl,by rw [List.take_add_one,hy,List.map_append]; rfl,upd_upd⟩
      rintro ys σ' G' _ ⟨v0,rfl,rfl,rfl⟩
      rw [List.length_map,List.take_length]
      have eb:(S.map fun x=>V.int x.2.b)=(bdsS S).map V.int:=by unfold bdsS; rw [List.map_map]; rfl
      rw [eb]
      have lb':(bdsS S).length=S.length:=List.length_map ..
      refine gN ?_
      subst e1
      try dsimp only
      have k11:=k10.same (same_upd hl7 (.lst ((bdsS S).map V.int)))
      have o11:=o10.same (same_upd hl7 (.lst ((bdsS S).map V.int)))
      have a7:=upd_same (H:=G10) (a:=l7) (o:=.lst ((bdsS S).map V.int))
      have n7:l7≠b:=(k10.own hl7).n5
      generalize upd G10 l7 (.lst ((bdsS S).map V.int))=G11 at *
      clear k10 o10 O hl7
      refine cpI (fun σ G=>∃ bd,σ=[some (.ref a),some (.ref b),some (.int sh),some (.int pl),some (.str ru),some (.ref lso),some (.ref p),some (.ref d),some (.int (0+(j:Int))),some (.int wy),some (.int bd),some (.ref l7)]∧bd∈sns∧G l7=some (.lst ((bdsS S).map V.int)) ∧
          Bk6 K H' G b p lso ls du ads sh pl ru bq sns seq us n (62+4 * ((j+1:Nat):Int))∧Ow4 H' G b p lso ls du ads sh pl ru d lr S t seq us) (fun D' _ k'=>?_) ?_
      · refine ⟨_,rfl,_,_,rfl,rfl,_,rfl,?_⟩
        obtain ⟨a11,c11,B11,hc11⟩:=k11.box
        by_cases w0:0<wy
        · refine ifT (decide_eq_true w0) ⟨_,rfl,(by show 0≤sizeLine; decide),fun l8 hl8=>⟨l7,l8,bdsS S,[],rfl,rfl,SqL.of (same_upd hl8 _ _ _ a7),SqL.of upd_same,_,rfl,?_⟩⟩
          have a7:=same_upd hl8 (.lst ([]:List V)) _ _ a7
          have k12:=k11.same (same_upd hl8 (.lst ([]:List V)))
          have o12:=o11.same (same_upd hl8 (.lst ([]:List V)))
          have B12:=B11.same (same_upd hl8 (.lst ([]:List V)))
          change ite _ _ _
          generalize upd G11 l8 (.lst ([]:List V))=G12 at *
          by_cases e0:bdsS S=[]
          · exact ifF (by rw [e0]; simp) (ifF rfl (k' _ _ ⟨bd,rfl,bdm,a7,k12.take F6 B12 (by omega) (SB.refl b _),o12⟩))
          · refine ifT (by simp [e0]) ⟨_,rfl,b,a11,bq,c11,6,rfl,B12,by omega,by decide,by decide,fun r3 a13 c13 G13 r30 r31 B13 hc13 t13=>⟨_,_,rfl,rfl,_,rfl,?_⟩⟩
            have k13:=k12.take F6 (cm1:=62+4 * j+3) B13 (by omega) t13
            have a7:=t13 _ _ n7 a7
            have o13:=o12.take t13
            by_cases r0:0<r3
            · have lp:0<(bdsS S).length:=List.length_pos_iff.mpr e0
              refine ifT (decide_eq_true r0) ⟨_,rfl,_,rfl,_,rfl,l7,_,rfl,.inl (SqL.of a7),b,a13,bq,c13,_,rfl,B13,by omega,by rw [List.length_map]; omega,by rw [List.length_map]; omega,fun r4 a14 c14 G14 r40 r41 B14 hc14 t14=>?_⟩
              rw [List.length_map] at r41
              obtain ⟨b2,hb2,b2m⟩:=at_mem r40 r41
              have a7:=t14 _ _ n7 a7
              refine ⟨l7,_,_,_,rfl,rfl,SqL.of a7,hb2,gN (k' _ _ ⟨b2,rfl,k13.sub b2 ((o13.inv.mem b2).mp b2m),a7,k13.take F6 B14 (by omega) t14,o13.take t14⟩)⟩
            · exact ifF (decide_eq_false r0) (k' _ _ ⟨bd,rfl,bdm,a7,k13.take F6 B13 (by omega) (SB.refl b _),o13⟩)
        · exact ifF (decide_eq_false w0) (ifF rfl (k' _ _ ⟨bd,rfl,bdm,a7,k11.take F6 B11 (by omega) (SB.refl b _),o11⟩))
      clear k11 o11 a7 bdm
      rintro _ G ⟨bd,rfl,bdm,a7,k12,o12⟩
      try dsimp only
      have bdb:=nsB bd bdm
      refine hide fun u1 e1=>?_
      obtain ⟨dx,h1⟩:=k12.room.ob
      refine ⟨_,rfl,p,dx,_,rfl,h1,fl_no ..,_,rfl,p,bd,sh,pl,ru,ls,ads,du,seq,us,n,rfl,k12.room,?_⟩
      refine ⟨_,rfl,_,rfl,l7,_,rfl,.inl (SqL.of a7),rfl,ints_flat _,?_⟩
      refine ⟨_,_,rfl,?_,fun G13 s13=>⟨_,rfl,ifF rfl ?_⟩⟩
      · have e:decide (bd∈seq)=inV (.int bd) ((bdsS S).map V.int):=by
          rw [inV_int,decide_eq_decide]
          exact (o12.inv.mem bd).symm
        rw [e]
        exact Eqv.sc (x:=.bl _) trivial 1
      have k13:=k12.same s13
      have o13:=o12.same s13
      subst e1
      try dsimp only
      unfold tNext
      dsimp only
      clear k12 o12 a7 h1
      refine hide fun u1 e1=>?_
      refine ⟨_,rfl,_,rfl,_,rfl,p,wy,bd,sh,pl,ru,ls,ads,du,seq,us,n,rfl,k13.room,k13.tb,by omega,by omega,pl0,pl1,k13.full,by omega,wyc,fun G14 hw R14 s14=>?_,fun tt x G14 seq' us' hw st R14 s14 ht et=>?_⟩
      · have k14:=k13.same s14
        have o14:=o13.same s14
        refine ⟨_,rfl,_,rfl,_,rfl,d,lr,wy,bd,sh,pl,t,ru,S,rfl,o14.own,by omega,o14.inv.nb,hru,sh0,pl0,wyc,fun v G15 lr' S' t' own15 off new r15=>?_⟩
        obtain ⟨rfl,rfl,rfl⟩:=deed4r o14.inv hw r15
        have k15:=k14.offB o14.od o14.ol o14.os off o14.own
        obtain ⟨ol,os⟩:=Ow4.new k14 o14.ol o14.os new
        have o15:Ow4 H' G15 b p lso ls du ads sh pl ru d lr' S' t' seq us:=⟨own15,o14.od,ol,os,o14.inv⟩
        refine ⟨_,_,rfl,Eqv.sc (x:=.str _) trivial 1,fun G16 s16=>⟨_,rfl,ifF rfl ?_⟩⟩
        subst e1
        try dsimp only
        have k16:=k15.same s16
        have o16:=o15.same s16
        refine ⟨_,rfl,_,rfl,p,d,lr',sh,pl,ru,ls,ads,du,seq,us,n,S',t',rfl,k16.room,k16.tb,o16.own,o16.inv,hru,pl1,k16.full,seql,fun G17 s17=>⟨_,rfl,ifF rfl ⟨_,_,_,_,lr',S',t',seq,us,n,rfl,k16.same s17,o16.same s17,by omega⟩⟩⟩
      · have k14:=k13.deed F6 s14 R14 bdm st.sub (st.full k13.full)
        have own14:=o13.sr s14
        refine ⟨_,rfl,_,rfl,_,rfl,d,lr,wy,bd,sh,pl,t,ru,S,rfl,own14,by omega,o13.inv.nb,hru,sh0,pl0,wyc,fun v G15 lr' S' t' own15 off new r15=>?_⟩
        obtain ⟨pv,rfl,hpv,inv',hx⟩:=deed4 hru k13.room.nd o13.inv hw st r15
        have k15:=k14.offB o13.od o13.ol o13.os off own14
        obtain ⟨ol,os⟩:=Ow4.new k14 o13.ol o13.os new
        have o15:Ow4 H' G15 b p lso ls du ads sh pl ru d lr' S' t' seq' us':=⟨own15,o13.od,ol,os,inv'⟩
        have et15:G15 tt=some (.tup [.str "told",x]):=off _ _ (fun z=>by rw [z,own14.ob] at et; cases et) (fun z=>by rw [z,own14.li] at et; cases et) (fun z=>by
          obtain ⟨y,my,e⟩:=List.mem_map.mp z
          rw [← e,own14.at_ y my] at et
          cases et) et
        refine ⟨_,_,rfl,Eqv.flatT et15 hpv (by show 2≤1000; decide) (fun y hy=>?_),fun G16 s16=>⟨_,rfl,ifF rfl ?_⟩⟩
        · rcases List.mem_cons.mp hy with rfl | hy
          · trivial
          · rw [List.mem_singleton.mp hy]; exact hx
        subst e1
        try dsimp only
        have k16:=k15.same s16
        have o16:=o15.same s16
        have seql':seq'.length≤39:=Nat.le_trans (nd_len k16.room.nd k16.sub) n39
        refine ⟨_,rfl,_,rfl,p,d,lr',sh,pl,ru,ls,ads,du,seq',us',n+1,S',t',rfl,k16.room,k16.tb,o16.own,o16.inv,hru,pl1,k16.full,seql',fun G17 s17=>⟨_,rfl,ifF rfl ⟨_,_,_,_,lr',S',t',seq',us',n+1,rfl,k16.same s17,o16.same s17,by omega⟩⟩⟩
    · rintro σ G ⟨v8,v9,v10,v11,lr,S,t,seq,us,n,rfl,k5,o5,hn⟩
      clear K7 B6 B7 hc6 hc7 t7
      refine ⟨_,_,_,_,_,_,_,_,_,_,_,rfl,k5.sb _ _ nrb hr',k5.tb,fun j' b' hj' hb'=>?_⟩
      obtain ⟨a1,q1,B1⟩:=hbx j' b' (by omega) hb'
      refine ⟨a1,q1,B1.sb k5.sb fun z=>?_⟩
      subst z
      have:=(List.getElem?_inj (List.getElem?_eq_some_iff.mp hb').1 B.nd).mp (hb'.trans hbi.symm)
      omega
  · rintro σ H' ⟨v1,v2,v3,v4,v5,v6,v7,v8,v9,v10,v11,rfl,hr',tb',hbx⟩
    exact k H'
end
theorem all_mk {l:PySem.W.OpenLaw} {w:World} {K:PySem.W.Frag} {h:Heap} {mg:Str→Option Value} {fa:Addr} {tp cg:Addr} (X:K.In h) (G:h.Ns mainGlobals mg) (hfa:mg "law" = some (.ref fa))
    {CaRoom:Addr} (aCRoom:PySem.W.nsIn K mainGlobals "Room" = some (some (.ref CaRoom)))
    {CaStairError:Addr} (aCStairError:PySem.W.nsIn K mainGlobals "StairError" = some (some (.ref CaStairError)))
    {CaThere:Addr} (aCThere:PySem.W.nsIn K mainGlobals "There" = some (some (.ref CaThere)))
    {CaNotThere:Addr} (aCNotThere:PySem.W.nsIn K mainGlobals "NotThere" = some (some (.ref CaNotThere)))
    {CaNoShelf:Addr} (aCNoShelf:PySem.W.nsIn K mainGlobals "NoShelf" = some (some (.ref CaNoShelf)))
    {CaNoFit:Addr} (aCNoFit:PySem.W.nsIn K mainGlobals "NoFit" = some (some (.ref CaNoFit)))
    {CaNoStair:Addr} (aCNoStair:PySem.W.nsIn K mainGlobals "NoStair" = some (some (.ref CaNoStair)))
    {CaBadRow:Addr} (aCBadRow:PySem.W.nsIn K mainGlobals "BadRow" = some (some (.ref CaBadRow)))
    {f0:Addr} {od0 an0:Option Addr} {sl0:Array (Option Value)} {oc0 kV0 dc0 pm0 cd0 ct0:Value}
    (a0:PySem.W.nsIn K mainGlobals "_law_take" = some (some (.ref f0))) (l0:K.lookup f0=some ⟨oc0,od0,.func (PySem.W.fnOf "_law_take" "_law_take" (defArgs s_take) (defBody s_take) (defScope s_take) .none kV0 dc0 pm0 an0 cd0 ct0),sl0⟩) (c0:PySem.W.codeIn K cd0 "_law_take" = true) (k0:PySem.W.keepIn K (.ref f0)=true)
    {f1:Addr} {od1 an1:Option Addr} {sl1:Array (Option Value)} {oc1 kV1 dc1 pm1 cd1 ct1:Value}
    (a1:PySem.W.nsIn K mainGlobals "_law_box" = some (some (.ref f1))) (l1:K.lookup f1=some ⟨oc1,od1,.func (PySem.W.fnOf "_law_box" "_law_box" (defArgs s_box) (defBody s_box) (defScope s_box) .none kV1 dc1 pm1 an1 cd1 ct1),sl1⟩) (c1:PySem.W.codeIn K cd1 "_law_box" = true) (k1:PySem.W.keepIn K (.ref f1)=true)
    {f2:Addr} {od2 an2:Option Addr} {sl2:Array (Option Value)} {oc2 kV2 dc2 pm2 cd2 ct2:Value}
    (a2:PySem.W.nsIn K mainGlobals "_law_folded" = some (some (.ref f2))) (l2:K.lookup f2=some ⟨oc2,od2,.func (PySem.W.fnOf "_law_folded" "_law_folded" (defArgs s_folded) (defBody s_folded) (defScope s_folded) .none kV2 dc2 pm2 an2 cd2 ct2),sl2⟩) (c2:PySem.W.codeIn K cd2 "_law_folded" = true) (k2:PySem.W.keepIn K (.ref f2)=true)
    {f3:Addr} {od3 an3:Option Addr} {sl3:Array (Option Value)} {oc3 kV3 dc3 pm3 cd3 ct3:Value}
    (a3:PySem.W.nsIn K mainGlobals "_law_boxes" = some (some (.ref f3))) (l3:K.lookup f3=some ⟨oc3,od3,.func (PySem.W.fnOf "_law_boxes" "_law_boxes" (defArgs s_boxes) (defBody s_boxes) (defScope s_boxes) .none kV3 dc3 pm3 an3 cd3 ct3),sl3⟩) (c3:PySem.W.codeIn K cd3 "_law_boxes" = true) (k3:PySem.W.keepIn K (.ref f3)=true)
    {f4:Addr} {od4 an4:Option Addr} {sl4:Array (Option Value)} {oc4 kV4 dc4 pm4 cd4 ct4:Value}
    (a4:PySem.W.nsIn K mainGlobals "_law_some_boards" = some (some (.ref f4))) (l4:K.lookup f4=some ⟨oc4,od4,.func (PySem.W.fnOf "_law_some_boards" "_law_some_boards" (defArgs s_some_boards) (defBody s_some_boards) (defScope s_some_boards) .none kV4 dc4 pm4 an4 cd4 ct4),sl4⟩) (c4:PySem.W.codeIn K cd4 "_law_some_boards" = true) (k4:PySem.W.keepIn K (.ref f4)=true)
    {f5:Addr} {od5 an5:Option Addr} {sl5:Array (Option Value)} {oc5 kV5 dc5 pm5 cd5 ct5:Value}
    (a5:PySem.W.nsIn K mainGlobals "shelf_of" = some (some (.ref f5))) (l5:K.lookup f5=some ⟨oc5,od5,.func (PySem.W.fnOf "shelf_of" "shelf_of" (defArgs s_shelf_of) (defBody s_shelf_of) (defScope s_shelf_of) .none kV5 dc5 pm5 an5 cd5 ct5),sl5⟩) (c5:PySem.W.codeIn K cd5 "shelf_of" = true) (k5:PySem.W.keepIn K (.ref f5)=true)
    {f6:Addr} {od6 an6:Option Addr} {sl6:Array (Option Value)} {oc6 kV6 dc6 pm6 cd6 ct6:Value}
    (a6:PySem.W.findIn K (.ref CaRoom) "has" = some (some (.ref f6))) (i6:PySem.W.isFn K (.ref f6)=true) (l6:K.lookup f6=some ⟨oc6,od6,.func (PySem.W.fnOf "has" "Room.has" (defArgs s_Room_has) (defBody s_Room_has) (defScope s_Room_has) .none kV6 dc6 pm6 an6 cd6 ct6),sl6⟩) (c6:PySem.W.codeIn K cd6 "Room.has" = true) (k6:PySem.W.keepIn K (.ref f6)=true)
    {f7:Addr} {od7 an7:Option Addr} {sl7:Array (Option Value)} {oc7 kV7 dc7 pm7 cd7 ct7:Value}
    (a7:PySem.W.findIn K (.ref CaRoom) "mates" = some (some (.ref f7))) (i7:PySem.W.isFn K (.ref f7)=true) (l7:K.lookup f7=some ⟨oc7,od7,.func (PySem.W.fnOf "mates" "Room.mates" (defArgs s_Room_mates) (defBody s_Room_mates) (defScope s_Room_mates) .none kV7 dc7 pm7 an7 cd7 ct7),sl7⟩) (c7:PySem.W.codeIn K cd7 "Room.mates" = true) (k7:PySem.W.keepIn K (.ref f7)=true)
    {f8:Addr} {od8 an8:Option Addr} {sl8:Array (Option Value)} {oc8 kV8 dc8 pm8 cd8 ct8:Value}
    (a8:PySem.W.findIn K (.ref CaRoom) "need" = some (some (.ref f8))) (i8:PySem.W.isFn K (.ref f8)=true) (l8:K.lookup f8=some ⟨oc8,od8,.func (PySem.W.fnOf "need" "Room.need" (defArgs s_Room_need) (defBody s_Room_need) (defScope s_Room_need) .none kV8 dc8 pm8 an8 cd8 ct8),sl8⟩) (c8:PySem.W.codeIn K cd8 "Room.need" = true) (k8:PySem.W.keepIn K (.ref f8)=true)
    {f9:Addr} {od9 an9:Option Addr} {sl9:Array (Option Value)} {oc9 kV9 dc9 pm9 cd9 ct9:Value}
    (a9:PySem.W.nsIn K mainGlobals "_law_ranked" = some (some (.ref f9))) (l9:K.lookup f9=some ⟨oc9,od9,.func (PySem.W.fnOf "_law_ranked" "_law_ranked" (defArgs s_ranked) (defBody s_ranked) (defScope s_ranked) .none kV9 dc9 pm9 an9 cd9 ct9),sl9⟩) (c9:PySem.W.codeIn K cd9 "_law_ranked" = true) (k9:PySem.W.keepIn K (.ref f9)=true)
    {f10:Addr} {od10 an10:Option Addr} {sl10:Array (Option Value)} {oc10 kV10 dc10 pm10 cd10 ct10:Value}
    (a10:PySem.W.nsIn K mainGlobals "_law_own_shelf" = some (some (.ref f10))) (l10:K.lookup f10=some ⟨oc10,od10,.func (PySem.W.fnOf "_law_own_shelf" "_law_own_shelf" (defArgs s_own_shelf) (defBody s_own_shelf) (defScope s_own_shelf) .none kV10 dc10 pm10 an10 cd10 ct10),sl10⟩) (c10:PySem.W.codeIn K cd10 "_law_own_shelf" = true) (k10:PySem.W.keepIn K (.ref f10)=true)
    {f11:Addr} {od11 an11:Option Addr} {sl11:Array (Option Value)} {oc11 kV11 dc11 pm11 cd11 ct11:Value}
    (a11:PySem.W.nsIn K mainGlobals "_law_own_deed" = some (some (.ref f11))) (l11:K.lookup f11=some ⟨oc11,od11,.func (PySem.W.fnOf "_law_own_deed" "_law_own_deed" (defArgs s_own_deed) (defBody s_own_deed) (defScope s_own_deed) .none kV11 dc11 pm11 an11 cd11 ct11),sl11⟩) (c11:PySem.W.codeIn K cd11 "_law_own_deed" = true) (k11:PySem.W.keepIn K (.ref f11)=true)
    {f12:Addr} {od12 an12:Option Addr} {sl12:Array (Option Value)} {oc12 kV12 dc12 pm12 ct12:Value}
    (a12:PySem.W.findIn K (.ref CaRoom) "going" = some (some (.ref f12))) (i12:PySem.W.isFn K (.ref f12)=true) (l12:K.lookup f12=some ⟨oc12,od12,.func (PySem.W.fnOf "going" "Room.going" (defArgs s_Room_going) (defBody s_Room_going) (defScope s_Room_going) .none kV12 dc12 pm12 an12 (.ref cg) ct12),sl12⟩) (c12:PySem.W.codeIn K (.ref cg) "Room.going" = true) (k12:PySem.W.keepIn K (.ref f12)=true)
    {f13:Addr} {od13 an13:Option Addr} {sl13:Array (Option Value)} {oc13 kV13 dc13 pm13 cd13 ct13:Value}
    (a13:PySem.W.findIn K (.ref CaRoom) "drop" = some (some (.ref f13))) (i13:PySem.W.isFn K (.ref f13)=true) (l13:K.lookup f13=some ⟨oc13,od13,.func (PySem.W.fnOf "drop" "Room.drop" (defArgs s_Room_drop) (defBody s_Room_drop) (defScope s_Room_drop) .none kV13 dc13 pm13 an13 cd13 ct13),sl13⟩) (c13:PySem.W.codeIn K cd13 "Room.drop" = true) (k13:PySem.W.keepIn K (.ref f13)=true)
    {f14:Addr} {od14 an14:Option Addr} {sl14:Array (Option Value)} {oc14 kV14 dc14 pm14 cd14 ct14:Value}
    (a14:PySem.W.findIn K (.ref CaRoom) "use" = some (some (.ref f14))) (i14:PySem.W.isFn K (.ref f14)=true) (l14:K.lookup f14=some ⟨oc14,od14,.func (PySem.W.fnOf "use" "Room.use" (defArgs s_Room_use) (defBody s_Room_use) (defScope s_Room_use) .none kV14 dc14 pm14 an14 cd14 ct14),sl14⟩) (c14:PySem.W.codeIn K cd14 "Room.use" = true) (k14:PySem.W.keepIn K (.ref f14)=true)
    {f15:Addr} {od15 an15:Option Addr} {sl15:Array (Option Value)} {oc15 kV15 dc15 pm15 cd15 ct15:Value}
    (a15:PySem.W.findIn K (.ref CaRoom) "__init__" = some (some (.ref f15))) (i15:PySem.W.isFn K (.ref f15)=true) (l15:K.lookup f15=some ⟨oc15,od15,.func (PySem.W.fnOf "__init__" "Room.__init__" (defArgs s_Room_init) (defBody s_Room_init) (defScope s_Room_init) .none kV15 dc15 pm15 an15 cd15 ct15),sl15⟩) (c15:PySem.W.codeIn K cd15 "Room.__init__" = true) (k15:PySem.W.keepIn K (.ref f15)=true)
    {f16:Addr} {od16 an16:Option Addr} {sl16:Array (Option Value)} {oc16 kV16 dc16 pm16 cd16 ct16:Value}
    (a16:PySem.W.findIn K (.ref CaRoom) "leaver_for" = some (some (.ref f16))) (i16:PySem.W.isFn K (.ref f16)=true) (l16:K.lookup f16=some ⟨oc16,od16,.func (PySem.W.fnOf "leaver_for" "Room.leaver_for" (defArgs s_Room_leaver_for) (defBody s_Room_leaver_for) (defScope s_Room_leaver_for) .none kV16 dc16 pm16 an16 cd16 ct16),sl16⟩) (c16:PySem.W.codeIn K cd16 "Room.leaver_for" = true) (k16:PySem.W.keepIn K (.ref f16)=true)
    {f17:Addr} {od17 an17:Option Addr} {sl17:Array (Option Value)} {oc17 kV17 dc17 pm17 cd17 ct17:Value}
    (a17:PySem.W.findIn K (.ref CaRoom) "bring" = some (some (.ref f17))) (i17:PySem.W.isFn K (.ref f17)=true) (l17:K.lookup f17=some ⟨oc17,od17,.func (PySem.W.fnOf "bring" "Room.bring" (defArgs s_Room_bring) (defBody s_Room_bring) (defScope s_Room_bring) .none kV17 dc17 pm17 an17 cd17 ct17),sl17⟩) (c17:PySem.W.codeIn K cd17 "Room.bring" = true) (k17:PySem.W.keepIn K (.ref f17)=true)
    {f18:Addr} {od18 an18:Option Addr} {sl18:Array (Option Value)} {oc18 kV18 dc18 pm18 cd18 ct18:Value}
    (a18:PySem.W.findIn K (.ref CaRoom) "shelf" = some (some (.ref f18))) (i18:PySem.W.isFn K (.ref f18)=true) (l18:K.lookup f18=some ⟨oc18,od18,.func (PySem.W.fnOf "shelf" "Room.shelf" (defArgs s_Room_shelf) (defBody s_Room_shelf) (defScope s_Room_shelf) .none kV18 dc18 pm18 an18 cd18 ct18),sl18⟩) (c18:PySem.W.codeIn K cd18 "Room.shelf" = true) (k18:PySem.W.keepIn K (.ref f18)=true)
    {f19:Addr} {od19 an19:Option Addr} {sl19:Array (Option Value)} {oc19 kV19 dc19 pm19 cd19 ct19:Value}
    (a19:PySem.W.nsIn K mainGlobals "_law_done_deed" = some (some (.ref f19))) (l19:K.lookup f19=some ⟨oc19,od19,.func (PySem.W.fnOf "_law_done_deed" "_law_done_deed" (defArgs s_done_deed) (defBody s_done_deed) (defScope s_done_deed) .none kV19 dc19 pm19 an19 cd19 ct19),sl19⟩) (c19:PySem.W.codeIn K cd19 "_law_done_deed" = true) (k19:PySem.W.keepIn K (.ref f19)=true)
    {f20:Addr} {od20 an20:Option Addr} {sl20:Array (Option Value)} {oc20 kV20 dc20 pm20 cd20 ct20:Value}
    (a20:PySem.W.findIn K (.ref CaRoom) "boards" = some (some (.ref f20))) (i20:PySem.W.isFn K (.ref f20)=true) (l20:K.lookup f20=some ⟨oc20,od20,.func (PySem.W.fnOf "boards" "Room.boards" (defArgs s_Room_boards) (defBody s_Room_boards) (defScope s_Room_boards) .none kV20 dc20 pm20 an20 cd20 ct20),sl20⟩) (c20:PySem.W.codeIn K cd20 "Room.boards" = true) (k20:PySem.W.keepIn K (.ref f20)=true)
    {f21:Addr} {od21 an21:Option Addr} {sl21:Array (Option Value)} {oc21 kV21 dc21 pm21 cd21 ct21:Value}
    (a21:PySem.W.nsIn K mainGlobals "_law_room_plan" = some (some (.ref f21))) (l21:K.lookup f21=some ⟨oc21,od21,.func (PySem.W.fnOf "_law_room_plan" "_law_room_plan" (defArgs s_room_plan) (defBody s_room_plan) (defScope s_room_plan) .none kV21 dc21 pm21 an21 cd21 ct21),sl21⟩) (c21:PySem.W.codeIn K cd21 "_law_room_plan" = true) (k21:PySem.W.keepIn K (.ref f21)=true)
    {f22:Addr} {od22 an22:Option Addr} {sl22:Array (Option Value)} {oc22 kV22 dc22 pm22 cd22 ct22:Value}
    (a22:PySem.W.nsIn K mainGlobals "_law_room" = some (some (.ref f22))) (l22:K.lookup f22=some ⟨oc22,od22,.func (PySem.W.fnOf "_law_room" "_law_room" (defArgs s_room) (defBody s_room) (defScope s_room) .none kV22 dc22 pm22 an22 cd22 ct22),sl22⟩) (c22:PySem.W.codeIn K cd22 "_law_room" = true) (k22:PySem.W.keepIn K (.ref f22)=true)
    {f23:Addr} {od23 an23:Option Addr} {sl23:Array (Option Value)} {oc23 kV23 dc23 pm23 cd23 ct23:Value}
    (a23:PySem.W.nsIn K mainGlobals "_law_many" = some (some (.ref f23))) (l23:K.lookup f23=some ⟨oc23,od23,.func (PySem.W.fnOf "_law_many" "_law_many" (defArgs s_many) (defBody s_many) (defScope s_many) .none kV23 dc23 pm23 an23 cd23 ct23),sl23⟩) (c23:PySem.W.codeIn K cd23 "_law_many" = true) (k23:PySem.W.keepIn K (.ref f23)=true)
    {f24:Addr} {od24 an24:Option Addr} {sl24:Array (Option Value)} {oc24 kV24 dc24 pm24 cd24 ct24:Value}
    (a24:PySem.W.nsIn K mainGlobals "_law_same" = some (some (.ref f24))) (l24:K.lookup f24=some ⟨oc24,od24,.func (PySem.W.fnOf "_law_same" "_law_same" (defArgs s_same) (defBody s_same) (defScope s_same) .none kV24 dc24 pm24 an24 cd24 ct24),sl24⟩) (c24:PySem.W.codeIn K cd24 "_law_same" = true) (k24:PySem.W.keepIn K (.ref f24)=true)
    {f25:Addr} {od25 an25:Option Addr} {sl25:Array (Option Value)} {oc25 kV25 dc25 pm25 cd25 ct25:Value}
    (a25:PySem.W.nsIn K mainGlobals "_law_stands" = some (some (.ref f25))) (l25:K.lookup f25=some ⟨oc25,od25,.func (PySem.W.fnOf "_law_stands" "_law_stands" (defArgs s_stands) (defBody s_stands) (defScope s_stands) .none kV25 dc25 pm25 an25 cd25 ct25),sl25⟩) (c25:PySem.W.codeIn K cd25 "_law_stands" = true) (k25:PySem.W.keepIn K (.ref f25)=true)
    {f26:Addr} {od26 an26:Option Addr} {sl26:Array (Option Value)} {oc26 kV26 dc26 pm26 cd26 ct26:Value}
    (a26:PySem.W.nsIn K mainGlobals "law" = some (some (.ref f26))) (l26:K.lookup f26=some ⟨oc26,od26,.func (PySem.W.fnOf "law" "law" (defArgs s_law) (defBody s_law) (defScope s_law) .none kV26 dc26 pm26 an26 cd26 ct26),sl26⟩) (c26:PySem.W.codeIn K cd26 "law" = true) (k26:PySem.W.keepIn K (.ref f26)=true)
    (z_ValueError:PySem.W.nsIn K mainGlobals "ValueError" = some none)
    (z_abs:PySem.W.nsIn K mainGlobals "abs" = some none)
    (z_all:PySem.W.nsIn K mainGlobals "all" = some none)
    (z_bool:PySem.W.nsIn K mainGlobals "bool" = some none)
    (z_divmod:PySem.W.nsIn K mainGlobals "divmod" = some none)
    (z_enumerate:PySem.W.nsIn K mainGlobals "enumerate" = some none)
    (z_int:PySem.W.nsIn K mainGlobals "int" = some none)
    (z_isinstance:PySem.W.nsIn K mainGlobals "isinstance" = some none)
    (z_len:PySem.W.nsIn K mainGlobals "len" = some none)
    (z_list:PySem.W.nsIn K mainGlobals "list" = some none)
    (z_max:PySem.W.nsIn K mainGlobals "max" = some none)
    (z_range:PySem.W.nsIn K mainGlobals "range" = some none)
    (z_set:PySem.W.nsIn K mainGlobals "set" = some none)
    (z_sorted:PySem.W.nsIn K mainGlobals "sorted" = some none)
    (z_str:PySem.W.nsIn K mainGlobals "str" = some none)
    (z_tuple:PySem.W.nsIn K mainGlobals "tuple" = some none)
    (z_zip:PySem.W.nsIn K mainGlobals "zip" = some none)
    (xx:xIn K CaStairError [CaThere,CaNotThere,CaNoShelf] [CaNoFit,CaNoStair,CaBadRow]=true)
    (pgRoom:PySem.W.plainGet K CaRoom Str.empty=true) (hdRoom:PySem.W.hasDictIn K CaRoom=true) (poRoom:PySem.W.plainOver K CaRoom=true) (saRoom:PySem.W.findIn K (.ref CaRoom) "__setattr__" = some (some (.builtin "object.__setattr__"))) (mkRoom:PySem.W.makesIn K CaRoom=true) (kcRoom:PySem.W.keepIn K (.ref CaRoom)=true)
    (nRoom_places:PySem.W.findIn K (.ref CaRoom) "places" = some none)
    (nRoom_rule:PySem.W.findIn K (.ref CaRoom) "rule" = some none)
    (nRoom_shelves:PySem.W.findIn K (.ref CaRoom) "shelves" = some none)
    (nRoom_standing:PySem.W.findIn K (.ref CaRoom) "standing" = some none)
    (nRoom_uses:PySem.W.findIn K (.ref CaRoom) "uses" = some none)
    (ch:PySem.W.codeHdIn K cg tp=true) (kt:K.lookup tp=none)
    : tabOf K "Room" "going" = tp∧(∃ c0,PySem.W.codeHdIn K c0 tp=true)∧K.lookup tp=none∧∃ fd:FuncData,(∀ (s:Shared) (v:Value),BindsTo s fd ⟨[v],[]⟩ [("_law_script",v)])∧∀ base:Heap,K.In base→base.Ns mainGlobals mg→BMod base mg→FnOk l.prog w K mg base CX0 6 fa fd P_law (spLaw K):=by
  have e:=hfa.symm.trans (PySem.W.mg_of X G a26)
  cases e
  have hCRoom:=clsOf_eq aCRoom
  subst hCRoom
  have hCStairError:=clsOf_eq aCStairError
  subst hCStairError
  have hCThere:=clsOf_eq aCThere
  subst hCThere
  have hCNotThere:=clsOf_eq aCNotThere
  subst hCNotThere
  have hCNoShelf:=clsOf_eq aCNoShelf
  subst hCNoShelf
  have hCNoFit:=clsOf_eq aCNoFit
  subst hCNoFit
  have hCNoStair:=clsOf_eq aCNoStair
  subst hCNoStair
  have hCBadRow:=clsOf_eq aCBadRow
  subst hCBadRow
  have T:Txt K mg:=⟨PySem.W.mg_none_of X G z_ValueError,PySem.W.mg_none_of X G z_abs,PySem.W.mg_none_of X G z_all,PySem.W.mg_none_of X G z_bool,PySem.W.mg_none_of X G z_divmod,PySem.W.mg_none_of X G z_enumerate,PySem.W.mg_none_of X G z_int,PySem.W.mg_none_of X G z_isinstance,PySem.W.mg_none_of X G z_len,PySem.W.mg_none_of X G z_list,PySem.W.mg_none_of X G z_max,PySem.W.mg_none_of X G z_range,PySem.W.mg_none_of X G z_set,PySem.W.mg_none_of X G z_sorted,PySem.W.mg_none_of X G z_str,PySem.W.mg_none_of X G z_tuple,PySem.W.mg_none_of X G z_zip,⟨pgRoom,hdRoom,poRoom,saRoom⟩,nRoom_places,nRoom_rule,nRoom_shelves,nRoom_standing,nRoom_uses,PySem.W.mg_of X G aCStairError,PySem.W.mg_of X G aCThere,PySem.W.mg_of X G aCNotThere,PySem.W.mg_of X G aCNoShelf,PySem.W.mg_of X G aCNoFit,PySem.W.mg_of X G aCNoStair,PySem.W.mg_of X G aCBadRow,xok_of xx (by simp),xok_of xx (by simp),xok_of xx (by simp)⟩
  have F0:=fun_mk (st:=s_take) l0 c0 k0
  have b1000:=F0.binds (ps:=P_take) fun _ _ _ _ _ _ us hl=>match us,hl with | [_,_],_=>rfl
  have F1:=fun_mk (st:=s_box) l1 c1 k1
  have b1001:=F1.binds (ps:=P_box) fun _ _ _ _ _ _ us hl=>match us,hl with | [_,_],_=>rfl
  have F2:=fun_mk (st:=s_folded) l2 c2 k2
  have b1002:=F2.binds (ps:=P_folded) fun _ _ _ _ _ _ us hl=>match us,hl with | [_,_],_=>rfl
  have F3:=fun_mk (st:=s_boxes) l3 c3 k3
  have b1003:=F3.binds (ps:=P_boxes) fun _ _ _ _ _ _ us hl=>match us,hl with | [_,_],_=>rfl
  have F4:=fun_mk (st:=s_some_boards) l4 c4 k4
  have b1004:=F4.binds (ps:=P_some_boards) fun _ _ _ _ _ _ us hl=>match us,hl with | [_,_],_=>rfl
  have F5:=fun_mk (st:=s_shelf_of) l5 c5 k5
  have b1005:=F5.binds (ps:=P_shelf_of) fun _ _ _ _ _ _ us hl=>match us,hl with | [_,_],_=>rfl
  have F6:=fun_mk (st:=s_Room_has) l6 c6 k6
  have b1006:=F6.binds (ps:=P_Room_has) fun _ _ _ _ _ _ us hl=>match us,hl with | [_,_],_=>rfl
  have F7:=fun_mk (st:=s_Room_mates) l7 c7 k7
  have b1007:=F7.binds (ps:=P_Room_mates) fun _ _ _ _ _ _ us hl=>match us,hl with | [_,_],_=>rfl
  have F8:=fun_mk (st:=s_Room_need) l8 c8 k8
  have b1008:=F8.binds (ps:=P_Room_need) fun _ _ _ _ _ _ us hl=>match us,hl with | [_,_],_=>rfl
  have F9:=fun_mk (st:=s_ranked) l9 c9 k9
  have b1009:=F9.binds (ps:=P_ranked) fun _ _ _ _ _ _ us hl=>match us,hl with | [_,_],_=>rfl
  have F10:=fun_mk (st:=s_own_shelf) l10 c10 k10
  have b1010:=F10.binds (ps:=P_own_shelf) fun _ _ _ _ _ _ us hl=>match us,hl with | [_,_],_=>rfl
  have F11:=fun_mk (st:=s_own_deed) l11 c11 k11
  have b1011:=F11.binds (ps:=P_own_deed) fun _ _ _ _ _ _ us hl=>match us,hl with | [_,_,_],_=>rfl
  have F12:=fun_mk (st:=s_Room_going) l12 c12 k12
  have b1012:=F12.binds (ps:=P_Room_going) fun _ _ _ _ _ _ us hl=>match us,hl with | [_,_],_=>rfl
  have F13:=fun_mk (st:=s_Room_drop) l13 c13 k13
  have b1013:=F13.binds (ps:=P_Room_drop) fun _ _ _ _ _ _ us hl=>match us,hl with | [_,_],_=>rfl
  have F14:=fun_mk (st:=s_Room_use) l14 c14 k14
  have b1014:=F14.binds (ps:=P_Room_use) fun _ _ _ _ _ _ us hl=>match us,hl with | [_,_],_=>rfl
  have F15:=fun_mk (st:=s_Room_init) l15 c15 k15
  have b1015:=F15.binds (ps:=P_Room_init) fun _ _ _ _ _ _ us hl=>match us,hl with | [_,_,_,_],_=>rfl
  have F16:=fun_mk (st:=s_Room_leaver_for) l16 c16 k16
  have b1016:=F16.binds (ps:=P_Room_leaver_for) fun _ _ _ _ _ _ us hl=>match us,hl with | [_,_],_=>rfl
  have F17:=fun_mk (st:=s_Room_bring) l17 c17 k17
  have b1017:=F17.binds (ps:=P_Room_bring) fun _ _ _ _ _ _ us hl=>match us,hl with | [_,_],_=>rfl
  have F18:=fun_mk (st:=s_Room_shelf) l18 c18 k18
  have b1018:=F18.binds (ps:=P_Room_shelf) fun _ _ _ _ _ _ us hl=>match us,hl with | [_,_],_=>rfl
  have F19:=fun_mk (st:=s_done_deed) l19 c19 k19
  have b1019:=F19.binds (ps:=P_done_deed) fun _ _ _ _ _ _ us hl=>match us,hl with | [_,_,_],_=>rfl
  have F20:=fun_mk (st:=s_Room_boards) l20 c20 k20
  have b1020:=F20.binds (ps:=P_Room_boards) fun _ _ _ _ _ _ us hl=>match us,hl with | [_],_=>rfl
  have F21:=fun_mk (st:=s_room_plan) l21 c21 k21
  have b1021:=F21.binds (ps:=P_room_plan) fun _ _ _ _ _ _ us hl=>match us,hl with | [_],_=>rfl
  have F22:=fun_mk (st:=s_room) l22 c22 k22
  have b1022:=F22.binds (ps:=P_room) fun _ _ _ _ _ _ us hl=>match us,hl with | [_],_=>rfl
  have F23:=fun_mk (st:=s_many) l23 c23 k23
  have b1023:=F23.binds (ps:=P_many) fun _ _ _ _ _ _ us hl=>match us,hl with | [_,_,_],_=>rfl
  have F24:=fun_mk (st:=s_same) l24 c24 k24
  have b1024:=F24.binds (ps:=P_same) fun _ _ _ _ _ _ us hl=>match us,hl with | [_,_],_=>rfl
  have F25:=fun_mk (st:=s_stands) l25 c25 k25
  have b1025:=F25.binds (ps:=P_stands) fun _ _ _ _ _ _ us hl=>match us,hl with | [_,_],_=>rfl
  have F26:=fun_mk (st:=s_law) l26 c26 k26
  have b1026:=F26.binds (ps:=P_law) fun _ _ _ _ _ _ us hl=>match us,hl with | [_],_=>rfl
  have tq:=tabOf_eq a12 l12 rfl ch
  refine ⟨tq,⟨_,ch⟩,kt,?_⟩
  refine ⟨PySem.W.fnOf "law" "law" (defArgs s_law) (defBody s_law) (defScope s_law) .none kV26 dc26 pm26 an26 cd26 ct26,fun s v=>.of_eq rfl,fun base _ _ bm=>?_⟩
  have D_take:Def l.prog w K mg base "_law_take" 1 P_take spTake:=⟨_,_,ok_take F0 T ,PySem.W.mg_of X G a0,F0.kp,b1000⟩
  have D_box:Def l.prog w K mg base "_law_box" 1 P_box (spBox K):=⟨_,_,ok_box F1 T ,PySem.W.mg_of X G a1,F1.kp,b1001⟩
  have D_folded:Def l.prog w K mg base "_law_folded" 1 P_folded (spFolded K):=⟨_,_,ok_folded F2 T ,PySem.W.mg_of X G a2,F2.kp,b1002⟩
  have D_boxes:Def l.prog w K mg base "_law_boxes" 2 P_boxes (spBoxes K):=⟨_,_,ok_boxes F3 T D_folded D_box,PySem.W.mg_of X G a3,F3.kp,b1003⟩
  have D_some_boards:Def l.prog w K mg base "_law_some_boards" 2 P_some_boards spBoards:=⟨_,_,ok_some_boards F4 T D_take,PySem.W.mg_of X G a4,F4.kp,b1004⟩
  have D_shelf_of:Def l.prog w K mg base "shelf_of" 1 P_shelf_of spShelf:=⟨_,_,ok_shelf_of F5 T ,PySem.W.mg_of X G a5,F5.kp,b1005⟩
  have M_Room_has:MDef l.prog w K mg base (clsOf K "Room") "has" 1 P_Room_has (spHas K):=⟨_,_,ok_Room_has F6 T ,⟨a6,i6,k6⟩,b1006⟩
  have M_Room_mates:MDef l.prog w K mg base (clsOf K "Room") "mates" 2 P_Room_mates (spMates K):=⟨_,_,ok_Room_mates F7 T D_shelf_of,⟨a7,i7,k7⟩,b1007⟩
  have M_Room_need:MDef l.prog w K mg base (clsOf K "Room") "need" 2 P_Room_need (spNeed K):=⟨_,_,ok_Room_need F8 T M_Room_has,⟨a8,i8,k8⟩,b1008⟩
  have X_Room_need:MDefX l.prog w K mg base (clsOf K "Room") "need" 2 P_Room_need (spOr (spNeed K) (spNoT K)):=⟨_,_,okx_Room_need F8 T (ok_Room_need F8 T M_Room_has) M_Room_has,⟨a8,i8,k8⟩,b1008⟩
  have D_ranked:Def l.prog w K mg base "_law_ranked" 1 P_ranked (spRanked K):=⟨_,_,ok_ranked F9 T ,PySem.W.mg_of X G a9,F9.kp,b1009⟩
  have D_own_shelf:Def l.prog w K mg base "_law_own_shelf" 2 P_own_shelf (spOwnShelf K):=⟨_,_,ok_own_shelf F10 T D_ranked,PySem.W.mg_of X G a10,F10.kp,b1010⟩
  have D_own_deed:Def l.prog w K mg base "_law_own_deed" 3 P_own_deed (spOwnDeed K):=⟨_,_,ok_own_deed F11 T D_own_shelf,PySem.W.mg_of X G a11,F11.kp,b1011⟩
  have M_Room_going:MDef l.prog w K mg base (clsOf K "Room") "going" 2 P_Room_going (spGoing K):=⟨_,_,ok_Room_going F12 rfl tq ch bm T ,⟨a12,i12,k12⟩,b1012⟩
  have M_Room_drop:MDef l.prog w K mg base (clsOf K "Room") "drop" 3 P_Room_drop (spDrop K):=⟨_,_,ok_Room_drop F13 T M_Room_need M_Room_mates,⟨a13,i13,k13⟩,b1013⟩
  have X_Room_drop:MDefX l.prog w K mg base (clsOf K "Room") "drop" 3 P_Room_drop (spOr (spDrop K) (spNoT K)):=⟨_,_,okx_Room_drop F13 T (ok_Room_drop F13 T M_Room_need M_Room_mates) X_Room_need,⟨a13,i13,k13⟩,b1013⟩
  have M_Room_use:MDef l.prog w K mg base (clsOf K "Room") "use" 3 P_Room_use (spUse K):=⟨_,_,ok_Room_use F14 T M_Room_need M_Room_mates,⟨a14,i14,k14⟩,b1014⟩
  have X_Room_use:MDefX l.prog w K mg base (clsOf K "Room") "use" 3 P_Room_use (spOr (spUse K) (spNoT K)):=⟨_,_,okx_Room_use F14 T (ok_Room_use F14 T M_Room_need M_Room_mates) X_Room_need,⟨a14,i14,k14⟩,b1014⟩
  have K_Room:KDef l.prog w K mg base (clsOf K "Room") "Room" 1 P_Room_init (spRoom K):=⟨_,_,ok_Room_init F15 T ,⟨mkRoom,a15,i15,kcRoom⟩,PySem.W.mg_of X G aCRoom,b1015⟩
  have M_Room_leaver_for:MDef l.prog w K mg base (clsOf K "Room") "leaver_for" 3 P_Room_leaver_for (spLeaver K):=⟨_,_,ok_Room_leaver_for F16 T M_Room_mates M_Room_going,⟨a16,i16,k16⟩,b1016⟩
  have M_Room_bring:MDef l.prog w K mg base (clsOf K "Room") "bring" 4 P_Room_bring (spBring K):=⟨_,_,ok_Room_bring F17 T M_Room_has M_Room_leaver_for M_Room_mates M_Room_drop,⟨a17,i17,k17⟩,b1017⟩
  have X_Room_bring:MDefX l.prog w K mg base (clsOf K "Room") "bring" 4 P_Room_bring (spOr (spBring K) (spYes K)):=⟨_,_,okx_Room_bring F17 T (ok_Room_bring F17 T M_Room_has M_Room_leaver_for M_Room_mates M_Room_drop) M_Room_has,⟨a17,i17,k17⟩,b1017⟩
  have M_Room_shelf:MDef l.prog w K mg base (clsOf K "Room") "shelf" 3 P_Room_shelf (spShelfOn K):=⟨_,_,ok_Room_shelf F18 T M_Room_going,⟨a18,i18,k18⟩,b1018⟩
  have X_Room_shelf:MDefX l.prog w K mg base (clsOf K "Room") "shelf" 3 P_Room_shelf (spOr (spShelfOn K) (spNoSh K)):=⟨_,_,okx_Room_shelf F18 T (ok_Room_shelf F18 T M_Room_going) ,⟨a18,i18,k18⟩,b1018⟩
  have D_done_deed:Def l.prog w K mg base "_law_done_deed" 5 P_done_deed (spDoneS K):=⟨_,_,ok_done_deed F19 T X_Room_bring X_Room_use X_Room_drop,PySem.W.mg_of X G a19,F19.kp,b1019⟩
  have M_Room_boards:MDef l.prog w K mg base (clsOf K "Room") "boards" 1 P_Room_boards (spBds K):=⟨_,_,ok_Room_boards F20 T ,⟨a20,i20,k20⟩,b1020⟩
  have D_room_plan:Def l.prog w K mg base "_law_room_plan" 2 P_room_plan spPlan:=⟨_,_,ok_room_plan F21 T D_take,PySem.W.mg_of X G a21,F21.kp,b1021⟩
  have D_room:Def l.prog w K mg base "_law_room" 3 P_room spRoomL:=⟨_,_,ok_room F22 T D_take D_room_plan D_some_boards,PySem.W.mg_of X G a22,F22.kp,b1022⟩
  have D_many:Def l.prog w K mg base "_law_many" 2 P_many spMany:=⟨_,_,ok_many F23 T D_take,PySem.W.mg_of X G a23,F23.kp,b1023⟩
  have D_same:=own_same (P:=l.prog) (w:=w) (base:=base) F24 b1024 (PySem.W.mg_of X G a24) T 
  have D_stands:Def l.prog w K mg base "_law_stands" 4 P_stands (spStands K):=⟨_,_,ok_stands F25 T D_own_shelf D_same M_Room_shelf M_Room_boards,PySem.W.mg_of X G a25,F25.kp,b1025⟩
  exact ok_law F26 T D_boxes D_take D_many D_room K_Room D_same D_done_deed D_own_deed D_stands M_Room_has
theorem walk {l:PySem.W.OpenLaw} {q:Program} {loose:List Str} {XP:(Str→Option Value)→Heap→Prop} {YP:World→Heap→Prop} {d:DefRec} {K:Params→PySem.W.Frag} {tp:Addr} (hn:l.most=some 63) (hdf:d.params.defaults=[])
    (hY:∀ (w:World) (h:Heap),YP w h→(K w.params).In h∧h.get? tp=some { cls:=.none,data:=.fields #[] })
    (F:∀ (w:World) (mg:Str→Option Value) (fa:Addr) (h:Heap),(K w.params).In h→h.Ns mainGlobals mg→mg d.name=some (.ref fa) →
      tabOf (K w.params) "Room" "going" = tp∧(∃ c0,PySem.W.codeHdIn (K w.params) c0 tp=true)∧(K w.params).lookup tp=none∧∃ fd:FuncData,(∀ (s:Shared) (u:Value),BindsTo s fd ⟨[u],[]⟩ [("_law_script",u)])∧∀ base:Heap,(K w.params).In base→base.Ns mainGlobals mg→BMod base mg→FnOk l.prog w (K w.params) mg base CX0 6 fa fd P_law (spLaw (K w.params))) :
    PySem.W.WalkO q loose XP YP l.row.toRowW d [] (fun f vs=>PySem.call f vs) :=
  L2.walk_ofT (tp:=tp) (pos:=tpos) (qual:=tqual) (G:=fun w=>tabOf (K w.params) "Room" "going" = tp) (n:=63) (k:=6) (x := "_law_script") (CX:=fun _=>CX0) (sp:=fun w=>spLaw (K w.params)) hn (by decide) hdf ⟨rfl,by decide,by decide,rfl⟩ hY F (fun _ _ a ns g hl hT hS=>⟨a,ns,rfl,hS,hl,(by unfold Tb; rw [g]; exact hT),fun _=>rfl⟩) fun _ _ _ _ _ z=>z
end Mine
namespace PySem.W.Fast
def tw10053875199740680922:=0
def tw10064881423359982307:=0
def tw1018204396881967627:=0
def tw10205167343981300026:=0
def tw10263080478852790231:=0
def tw10455789103753772180:=0
def tw10457086401595411267:=0
def tw10500666509318689956:=0
def tw10522495449194884892:=0
def tw10624853214878576387:=0
def tw10693704397928623399:=0
def tw10698609166514191777:=0
def tw10709699135911882738:=0
def tw1077325910197872250:=0
def tw10781595346124827256:=0
def tw10806012563639584011:=0
def tw10828866248390956107:=0
def tw10976329267338881768:=0
def tw11163824291830485083:=0
def tw11201502693044823133:=0
def tw11312340960279697824:=0
def tw11425942654585254841:=0
def tw11431545613476980776:=0
def tw11491750144995133170:=0
def tw11540020642471217344:=0
def tw11559021410884557819:=0
def tw11592301052200215384:=0
def tw11649889020418711466:=0
def tw11708811954494408594:=0
def tw11715312706337895779:=0
def tw11732673672261403052:=0
def tw11842132952425909720:=0
def tw11843421903618288975:=0
def tw11885936091539447908:=0
def tw12011750210327467991:=0
def tw12042579276109389478:=0
def tw12051732399198409079:=0
def tw12063488432885532840:=0
def tw12081879914089494940:=0
def tw12150180230429478370:=0
def tw12198055095481829224:=0
def tw12240505211613732170:=0
def tw12257881952077311009:=0
def tw12360752585122069114:=0
def tw12473353972138606923:=0
def tw12510597023930501442:=0
def tw12669838651362490798:=0
def tw12745455006431080154:=0
def tw12774931397375845357:=0
def tw12910690175048985833:=0
def tw12958735596669361167:=0
def tw13009346817663737608:=0
def tw13043609668413029077:=0
def tw13056317915222083802:=0
def tw13095877305436031819:=0
def tw13277668206890056340:=0
def tw13300810844893802754:=0
def tw13333590039284388495:=0
def tw1334305464599199747:=0
def tw13409938710641973195:=0
def tw13417264887583129864:=0
def tw13426136954451983055:=0
def tw13455618231129413990:=0
def tw1354284550349911726:=0
def tw13843430152867862606:=0
def tw13845072878938307260:=0
def tw13864340798072434408:=0
def tw13901729023081906299:=0
def tw13905770804305367673:=0
def tw13907621765756951790:=0
def tw13908911291983773360:=0
def tw1394027705173642396:=0
def tw14004331636243465077:=0
def tw14058560665507192743:=0
def tw141197672839127136:=0
def tw14187921805906280013:=0
def tw14335123406832264243:=0
def tw1434782660266879005:=0
def tw14366850828095377062:=0
def tw14369724366103341998:=0
def tw14454950371385149487:=0
def tw14513733529543661836:=0
def tw14549689319014943192:=0
def tw14621224725242597587:=0
def tw14622082156659941018:=0
def tw14764388223631885018:=0
def tw14834105318675486509:=0
def tw14841066629032178329:=0
def tw14842390808304478329:=0
def tw14999769331664273829:=0
def tw15067361502899541134:=0
def tw15085019059518165070:=0
def tw15112500491151293524:=0
def tw15116085226965338307:=0
def tw15161747980748509218:=0
def tw15222588120562862750:=0
def tw15254147060892799618:=0
def tw15340056949531875625:=0
def tw1536698798307399007:=0
def tw15372062193937259002:=0
def tw15450503660323324679:=0
def tw1546529719366998275:=0
def tw15483306373730188312:=0
def tw1551714157197274456:=0
def tw15560884755644081913:=0
def tw15710751862737977027:=0
def tw15866627579021187627:=0
def tw15868232857861109268:=0
def tw15893083264983439542:=0
def tw15905960015599682214:=0
def tw16133837278620172768:=0
def tw16181077202377317847:=0
def tw16187387862670222868:=0
def tw16239654423315776935:=0
def tw16248506467574334531:=0
def tw16259298995179521783:=0
def tw16259956982887137301:=0
def tw1626089682259826363:=0
def tw16278860955092364481:=0
def tw16285316939788389244:=0
def tw16285939995171376376:=0
def tw16314445825787329284:=0
def tw16411359300842476705:=0
def tw16507341241931193010:=0
def tw16543232106820020218:=0
def tw16603861787778676671:=0
def tw16621497209963245978:=0
def tw16636826005306347012:=0
def tw16647904557968895034:=0
def tw16659339986869565282:=0
def tw16689066246541753881:=0
def tw16703627947888818188:=0
def tw16747995297002360830:=0
def tw16781872272368391635:=0
def tw16817341693367876371:=0
def tw1683935042330540430:=0
def tw16888949435935506790:=0
def tw16893061612519512049:=0
def tw16896795760414016338:=0
def tw169342712459896896:=0
def tw17031042612094839613:=0
def tw1710598099716531498:=0
def tw17178438410324943044:=0
def tw17347031154868136239:=0
def tw17370686629821730323:=0
def tw17521686607284933428:=0
def tw17527945685711070799:=0
def tw17558306194797557419:=0
def tw17566126268033787146:=0
def tw17623426233435500872:=0
def tw17637426871340880773:=0
def tw17700788279758414276:=0
def tw17737142619729038877:=0
def tw17745453858409215772:=0
def tw17843364723409978214:=0
def tw17891836853263531443:=0
def tw17893512089004316849:=0
def tw17977462889101633919:=0
def tw1811590145004494451:=0
def tw18129824708048655561:=0
def tw18133128864797627616:=0
def tw18133914138588910972:=0
def tw18274719020328608737:=0
def tw18332259109328637405:=0
def tw18364876813495604986:=0
def tw18437616097934337062:=0
def tw1873019978983518972:=0
def tw1999563922002582221:=0
def tw2025803071707308720:=0
def tw2049038203194135514:=0
def tw220803778002953567:=0
def tw2233532686821284732:=0
def tw2267984376893867874:=0
def tw227080865571314577:=0
def tw2395379650924126388:=0
def tw2436173204155987087:=0
def tw2482999243464579705:=0
def tw2552415565312279875:=0
def tw2554306903323171823:=0
def tw2583405382956433236:=0
def tw2591627944941102061:=0
def tw2616979937344988414:=0
def tw265131247128956709:=0
def tw2673057501740237985:=0
def tw2731860311069319031:=0
def tw2778455307038985812:=0
def tw2799703209882934954:=0
def tw2815572053203370586:=0
def tw282358500074253839:=0
def tw2827529747809907545:=0
def tw283172241798326155:=0
def tw2889717486785076261:=0
def tw2898447454506137657:=0
def tw2914307702881531120:=0
def tw2973832941254580470:=0
def tw3038591535380843829:=0
def tw3054775053113481298:=0
def tw3101086671272765520:=0
def tw3212406682954953451:=0
def tw3311053255518231110:=0
def tw3326103089832068748:=0
def tw33286784099144186:=0
def tw3494502265044123954:=0
def tw3519013692594331919:=0
def tw3528216833657016730:=0
def tw3537004939478083935:=0
def tw354537749526204665:=0
def tw360741811937942755:=0
def tw3670943029791961652:=0
def tw3744878758208819741:=0
def tw3881957202696104257:=0
def tw3887985154607511571:=0
def tw4099335364808368831:=0
def tw4165936620708483269:=0
def tw4183693685824610875:=0
def tw4198006222930350822:=0
def tw4252321373547527742:=0
def tw4266088548595078015:=0
def tw4320701774120807305:=0
def tw4351872476789727837:=0
def tw4639096745299798887:=0
def tw4772095408949950387:=0
def tw479684937514128725:=0
def tw4825767429830787342:=0
def tw4942682249493493758:=0
def tw4967871833674841219:=0
def tw5051071164696785927:=0
def tw5067707665505927763:=0
def tw5086332315723368285:=0
def tw5120160918176304219:=0
def tw5148106044747483712:=0
def tw5197232736447050133:=0
def tw5218212672099961826:=0
def tw5259471057522642223:=0
def tw5334519980417299035:=0
def tw5359821481724584209:=0
def tw5369850888135756018:=0
def tw5532216547276609922:=0
def tw5545287316808057341:=0
def tw5559942158141419521:=0
def tw559271318584598957:=0
def tw5604314701344541759:=0
def tw5609684545454120479:=0
def tw5729736972458789760:=0
def tw5859473064575079:=0
def tw5870276068117708927:=0
def tw5964463361261481197:=0
def tw5998773086151245704:=0
def tw6076940493631024347:=0
def tw6128999174462643675:=0
def tw6259903407009326059:=0
def tw6262448247878197977:=0
def tw6299074923538342218:=0
def tw6370249477584871186:=0
def tw63868460054048991:=0
def tw6442520563304305528:=0
def tw6460315785972807773:=0
def tw6499433385838580577:=0
def tw6530271282515022981:=0
def tw6556421003910053956:=0
def tw6657329489185382477:=0
def tw6708778924972686804:=0
def tw677915315559500538:=0
def tw6811143758599451245:=0
def tw6820534993114161215:=0
def tw6850488622910511168:=0
def tw6924724677089331482:=0
def tw6945758667610724177:=0
def tw6971702872121951118:=0
def tw6973207865732224341:=0
def tw7071291972226346971:=0
def tw7077049043256250804:=0
def tw7092279365580315976:=0
def tw7231129656499274004:=0
def tw7245124489811487413:=0
def tw7270385938894890700:=0
def tw7305017914612434011:=0
def tw7339986121028860345:=0
def tw7372798767723146274:=0
def tw739316685847467685:=0
def tw7467752770642587051:=0
def tw7485247937196042793:=0
def tw7497144937774634595:=0
def tw7521594862788721768:=0
def tw7573271927582703916:=0
def tw7585178512596485572:=0
def tw7682602117010507752:=0
def tw7724896404396023204:=0
def tw7729163057135341131:=0
def tw7756893032850536334:=0
def tw7894568536848904879:=0
def tw793669149675473803:=0
def tw7944697665400804393:=0
def tw8002535246086884744:=0
def tw8196547249585303042:=0
def tw8303590340709498825:=0
def tw831169585566457206:=0
def tw8359458085264692476:=0
def tw8369759752435240916:=0
def tw8459413764351685332:=0
def tw846409887441968014:=0
def tw8523302535777686947:=0
def tw8601015308393675769:=0
def tw8615753405522590299:=0
def tw8729478614081303721:=0
def tw8813315095278534559:=0
def tw8852373154335136434:=0
def tw8919898150180220057:=0
def tw8936969977653978753:=0
def tw8944837162515501195:=0
def tw8949486033535543154:=0
def tw8973987814421825306:=0
def tw9015726514265304025:=0
def tw9122453356243856270:=0
def tw9131224470833569731:=0
def tw9151679851305785697:=0
def tw9158943054920069870:=0
def tw9159603879262528635:=0
def tw9172103122416570207:=0
def tw9195802678120105230:=0
def tw9279982807219784247:=0
def tw9291068388517403765:=0
def tw9398091060784617320:=0
def tw940342778187984407:=0
def tw9414364945213718871:=0
def tw9588381185661190862:=0
def tw9623709061439535603:=0
def tw9692473931102284619:=0
def tw971623498208730576:=0
def tw9810358653036514826:=0
def tw9821672032185615380:=0
def tw9975250154173288312:=0
end PySem.W.Fast
open PySem PySem.W PyProof.Rows
set_option maxRecDepth 100000 in
set_option maxHeartbeats 0 in
theorem PySem.Challenge.cw_nearstairs_k04_boards_that_come_and_go_holds : PySem.Challenge.rw_nearstairs_k04_boards_that_come_and_go.Holds := by
  w_on; o_law; k_head; (case hw=>w_witness2)
  k_fill
  refine Mine.walk (l:=PySem.Challenge.rw_nearstairs_k04_boards_that_come_and_go) rfl rfl (fun w h Y=>⟨PySem.W.km_in_of Y,PySem.W.km_tabs_of Y _ List.mem_cons_self⟩) ?F
  case F =>
    intro w mg fa h KX G hmg
    refine' Mine.all_mk KX G hmg ?_ ?_ ?_ ?_ ?_ ?_ ?_ ?_ ?_ ?_ ?_ ?_ ?_ ?_ ?_ ?_ ?_ ?_ ?_ ?_ ?_ ?_ ?_ ?_ ?_ ?_ ?_ ?_ ?_ ?_ ?_ ?_ ?_ ?_ ?_ ?_ ?_ ?_ ?_ ?_ ?_ ?_ ?_ ?_ ?_ ?_ ?_ ?_ ?_ ?_ ?_ ?_ ?_ ?_ ?_ ?_ ?_ ?_ ?_ ?_ ?_ ?_ ?_ ?_ ?_ ?_ ?_ ?_ ?_ ?_ ?_ ?_ ?_ ?_ ?_ ?_ ?_ ?_ ?_ ?_ ?_ ?_ ?_ ?_ ?_ ?_ ?_ ?_ ?_ ?_ ?_ ?_ ?_ ?_ ?_ ?_ ?_ ?_ ?_ ?_ ?_ ?_ ?_ ?_ ?_ ?_ ?_ ?_ ?_ ?_ ?_ ?_ ?_ ?_ ?_ ?_ ?_ ?_ ?_ ?_ ?_ ?_ ?_ ?_ ?_ ?_ ?_ ?_ ?_ ?_ ?_ ?_ ?_ ?_ ?_ ?_ ?_ ?_ ?_ ?_ ?_ ?_ ?_ ?_ ?_ ?_ ?_ ?_ ?_ ?_ ?_ ?_ ?_ ?_ ?_ ?_ ?_ ?_
    all_goals try k_is
    all_goals kernel_rfl
