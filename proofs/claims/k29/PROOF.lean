import PyProof.Rows.All
import Wide.All
import OpenK.AllK
import Wide.FinOn
import Lean
import PyProof.EqAt
import PyProof.EqKinds
import PyProof.TupleCall
import KE.KDictSum
import KE.KTryDeep
import KE.KTryMore
import PyProof.NsDelKeeps
import PyProof.FString
import PyProof.Rows.SetFrom
import PySem.Challenge.RW_nearstairs_k29_nothing_untold
set_option Elab.async false
set_option compiler.extract_closed false
set_option linter.all false
set_option maxRecDepth 100000
namespace L2
open PySem PySem.Spec PyProof.Rows
abbrev Key:=Sum Int Str
def keyIs:Key→Value→Bool
  | .inl k,v=>Value.isInt k v
  | .inr x,v=>Value.isStrOf x v
def keyH (w:World):Key→Int
  | .inl k=>hashInt k
  | .inr x=>hashStr w x
theorem keyIs_shape:∀ {k:Key} {v:Value},keyIs k v=true→(∃ i t,k=Sum.inl i∧v=Value.int i t)∨(∃ x t,k=Sum.inr x∧v=Value.str x t)
  | .inl i,v,h=>by
    obtain ⟨t,e⟩:=Value.isInt_shape (k:=i) (v:=v) h
    exact .inl ⟨i,t,rfl,e⟩
  | .inr x,v,h=>by
    obtain ⟨t,e⟩:=Value.isStrOf_shape (x:=x) (v:=v) h
    exact .inr ⟨x,t,rfl,e⟩
theorem keyIs_int (i:Int) (t:Tok):keyIs (.inl i) (.int i t)=true:=by simp [keyIs,Value.isInt]
theorem keyIs_str (x:Str) (t:Tok):keyIs (.inr x) (.str x t)=true:=by simp [keyIs,Value.isStrOf]
theorem key_ll (a b:Int):decide ((Sum.inl a:Key)=Sum.inl b)=(a == b):=by
  by_cases e:a=b
  · subst e; simp
  · have h:¬ (Sum.inl a:Key)=Sum.inl b:=fun q=>e (Sum.inl.inj q)
    rw [decide_eq_false h]
    exact (beq_eq_false_iff_ne.mpr e).symm
theorem key_rr (a b:Str):decide ((Sum.inr a:Key)=Sum.inr b)=decide (a=b):=by
  by_cases e:a=b
  · subst e; simp
  · have h:¬ (Sum.inr a:Key)=Sum.inr b:=fun q=>e (Sum.inr.inj q)
    rw [decide_eq_false h,decide_eq_false e]
theorem key_lr (a:Int) (b:Str):decide ((Sum.inl a:Key)=Sum.inr b)=false:=decide_eq_false (fun q=>nomatch q)
theorem key_rl (a:Str) (b:Int):decide ((Sum.inr a:Key)=Sum.inl b)=false:=decide_eq_false (fun q=>nomatch q)
def mixKind (prog:Program) (w:World):PySem.KeyKind prog w Key where
  is:=keyIs
  hash:=keyH w
  inj:=fun v a b ha hb=>by
    rcases keyIs_shape ha with ⟨i,t,rfl,rfl⟩ | ⟨x,t,rfl,rfl⟩
    · rcases keyIs_shape hb with ⟨j,u,rfl,e⟩ | ⟨y,u,rfl,e⟩
      · injection e with e1 _; rw [e1]
      · exact nomatch e
    · rcases keyIs_shape hb with ⟨j,u,rfl,e⟩ | ⟨y,u,rfl,e⟩
      · exact nomatch e
      · injection e with e1 _; rw [e1]
  byValue:=fun k v h=>by
    rcases keyIs_shape h with ⟨i,t,rfl,rfl⟩ | ⟨x,t,rfl,rfl⟩ <;> rfl
  pyHash:=fun hv h=>by
    rcases keyIs_shape hv with ⟨i,t,rfl,rfl⟩ | ⟨x,t,rfl,rfl⟩
    · exact wpAny_pyHash_int h
    · exact wpAny_pyHash_str h
  eqBool:=fun hu hv h=>by
    rcases keyIs_shape hu with ⟨i,t,rfl,rfl⟩ | ⟨x,t,rfl,rfl⟩
    · rcases keyIs_shape hv with ⟨j,u,rfl,rfl⟩ | ⟨y,u,rfl,rfl⟩
      · rw [key_ll] at h; exact wpAny_eqBool_int h
      · rw [key_lr] at h; exact SeqAt.EqAt.int_str i t y u _ _ _ _ h
    · rcases keyIs_shape hv with ⟨j,u,rfl,rfl⟩ | ⟨y,u,rfl,rfl⟩
      · rw [key_rl] at h; exact SeqAt.EqAt.str_int x t j u _ _ _ _ h
      · rw [key_rr] at h; exact wpAny_eqBool_str h
  «strs»:=fun k x t v h=>by
    rcases keyIs_shape h with ⟨i,u,rfl,e⟩ | ⟨y,u,rfl,e⟩
    · exact nomatch e
    · injection e with e1 _
      subst e1
      cases v <;> rfl
theorem mixKind_is (prog:Program) (w:World) (k:Key) (v:Value):(mixKind prog w).is k v=keyIs k v:=rfl
theorem mixKind_int (prog:Program) (w:World) (i:Int) (t:Tok):(mixKind prog w).is (.inl i) (.int i t)=true:=keyIs_int i t
theorem mixKind_str (prog:Program) (w:World) (x:Str) (t:Tok):(mixKind prog w).is (.inr x) (.str x t)=true:=keyIs_str x t
end L2
namespace L2
open PySem PySem.Spec PyProof.Rows
inductive V where
  | non | bl (b:Bool) | int (i:Int) | str (x:Str) | byt (b:Array UInt8) | flt (b:UInt64) | ref (a:Addr) | ty (n:String)
  deriving DecidableEq
def RelV:V→Value→Prop
  | .non,u=>u=Value.none
  | .bl b,u=>u=Value.bool b
  | .int i,u=>∃ t,u=Value.int i t
  | .str x,u=>∃ t,u=Value.str x t
  | .byt b,u=>∃ t,u=Value.bytes b t
  | .flt b,u=>∃ t,u=Value.float b t
  | .ref a,u=>u=Value.ref a
  | .ty n,u=>u=Value.type n
abbrev Vals:List V→List Value→Prop:=Paired RelV
theorem Vals.length {xs:List V} {us:List Value} (r:Vals xs us):xs.length=us.length:=Paired.length r
theorem Vals.get:∀ {xs:List V} {us:List Value} {i:Nat} {x:V},Vals xs us→xs[i]?=some x→∃ u,us[i]?=some u∧RelV x u
  | _,_,_,_,.nil,e=>by simp at e
  | _,_,0,_,.cons r _,e=>by simp at e; subst e; exact ⟨_,rfl,r⟩
  | _,_,i+1,x,.cons _ t,e=>by
    obtain ⟨u,h1,h2⟩:=Vals.get (i:=i) (x:=x) t (by simpa using e)
    exact ⟨u,by simpa using h1,h2⟩
theorem Vals.set {x:V} {u:Value} (r:RelV x u):∀ {xs:List V} {us:List Value} (i:Nat),Vals xs us→Vals (xs.set i x) (us.set i u)
  | _,_,_,.nil=>.nil
  | _,_,0,.cons _ t=>.cons r t
  | _,_,i+1,.cons q t=>.cons q (Vals.set r i t)
theorem Vals.append:∀ {xs ys:List V} {us ws:List Value},Vals xs us→Vals ys ws→Vals (xs++ys) (us++ws)
  | _,_,_,_,.nil,s=>s
  | _,_,_,_,.cons r t,s=>.cons r (Vals.append t s)
theorem Vals.take:∀ {xs:List V} {us:List Value} (n:Nat),Vals xs us→Vals (xs.take n) (us.take n)
  | _,_,0,_=>.nil
  | _,_,_+1,.nil=>.nil
  | _,_,n+1,.cons r t=>.cons r (Vals.take n t)
theorem Vals.drop:∀ {xs:List V} {us:List Value} (n:Nat),Vals xs us→Vals (xs.drop n) (us.drop n)
  | _,_,0,r=>r
  | _,_,_+1,.nil=>.nil
  | _,_,n+1,.cons _ t=>Vals.drop n t
def RelO:Option V→Option Value→Prop
  | some v,some u=>RelV v u
  | none,none=>True
  | _,_=>False
def KV {κ:Type}:List (κ×V)→List (κ×Value)→Prop:=Paired fun (p:κ×V) (q:κ×Value)=>p.1=q.1∧RelV p.2 q.2
def kV:Key→V
  | .inl i=>.int i
  | .inr x=>.str x
inductive HO where
    | lst (xs:List V)
    | tup (xs:List V)
    | dK (kvs:List (Key×V)) | dT (kvs:List (List Key×V))
    | set (S:Int→Bool) (n:Nat)
    | ins (C dx:Addr) (fs:List (Str×V))
    | own (x:Addr)
    | xd (fs:List (Str×V))
    | met (f x:Addr)
    | rng (lo hi:Int)
    | frz (o:Obj) (u:HO)
    | tbl (pos:Pos) (qual:Str)
    | ext (φ:Heap→Prop)
abbrev Hp:=Addr→Option HO
def upd (H:Hp) (a:Addr) (o:HO):Hp:=fun b=>if b=a then some o else H b
theorem upd_same {H:Hp} {a:Addr} {o:HO}:upd H a o a=some o:=by unfold upd; rw [if_pos rfl]
theorem upd_ne {H:Hp} {a b:Addr} {o:HO} (h:b≠a):upd H a o b=H b:=by unfold upd; rw [if_neg h]
theorem upd_upd {H:Hp} {a:Addr} {o u:HO}:upd (upd H a o) a u=upd H a u:=by
  funext b; unfold upd; split <;> rfl
theorem ne_of {H:Hp} {a b:Addr} {o u:HO} (h:H a=some o) (h':H b=some u) (d:o≠u):a≠b:=by
  intro e; subst e; rw [h] at h'; exact d (Option.some.inj h')
theorem ne_of_none {H:Hp} {a b:Addr} {o:HO} (h:H a=some o) (h':H b=none):a≠b:=by
  intro e; subst e; rw [h] at h'; cases h'
section
variable (P:Program) (w:World)
def ObjOk (H:Hp) (h:Heap) (a:Addr):HO→Prop
  | .lst xs=>xs.length≤sizeLine∧∃ (its:List Value) (n:Nat),Vals xs its∧h.get? a=some { cls:=.type "list",data:=.seq its.toArray n }
  | .tup xs=>xs.length≤sizeLine∧∃ its:List Value,Vals xs its∧IsTup h a its.toArray
  | .dK kvs=>kvs.length≤sizeLine∧(a == sysModules)=false∧∃ vs,KV kvs vs∧h.DictOf (mixKind P w) a vs
  | .dT kvs=>kvs.length≤sizeLine∧(a == sysModules)=false∧∃ xs:List (List Key×Addr×Value),
      Paired (fun (p:List Key×V) (q:List Key×Addr×Value)=>p.1=q.1∧H q.2.1=some (.tup (p.1.map kV))∧RelV p.2 q.2.2) kvs xs ∧
      ∃ o es ep,h.get? a=some o∧o.ExactDict∧o.data=.dict es ep∧es.toList=xs.map (entryOfKey (tupleKind (mixKind P w)))∧(xs.map (·.1)).Nodup
  | .set S n=>h.SetOf (intKind P w) a S n
  | .ins C dx fs=>H dx=some (.own a)∧fs.length≤1000∧dx≠a∧h.get? a=some (PySem.W.instObj C dx) ∧
      ∃ mA,h.Ns1 dx mA∧(∀ f,RelO (fs.lookup f) (mA f))∧PySem.Within mA (fs.map (·.1))
  | .own _=>∃ o,h.get? a=some o
  | .xd fs=>∃ mA,h.Ns1 a mA∧∀ f,RelO (fs.lookup f) (mA f)
  | .rng lo hi=>∃ t u v,h.get? a=some { cls:=.type "range",data:=.fields #[.int lo t,.int hi u,.int 1 v] }
  | .frz o u=>h.get? a=some o∧ObjOk H h a u
  | .tbl pos qual=>∃ ps,h.get? a=some { cls:=.none,data:=.fields ps }∧TriplesOk ps.toList∧∀ cv,codeAmong pos ps.toList=some cv→∃ c oc vs t,cv=.ref c∧H c=some (.frz oc (.own a))∧oc.data=.fields vs∧vs[1]?=some (.str qual t)
  | .met f x=>h.get? a=some (PySem.W.methodObj (.ref f) (.ref x))
  | .ext φ=>φ h∧(∃ o,h.get? a=some o)∧∀ h1 h2:Heap,φ h1→(∀ o,h1.get? a=some o→h2.get? a=some o)→φ h2
def HOk (H:Hp) (h:Heap):Prop:=∀ a o,H a=some o→ObjOk P w H h a o
end
section
variable {P:Program} {w:World} {H H':Hp} {h h':Heap} {a:Addr} {o:HO}
theorem ObjOk.lt (x:ObjOk P w H h a o):a<h.objs.size:=by
  cases o with
  | lst xs=>obtain ⟨_,_,_,_,e⟩:=x; exact Heap.lt_size e
  | tup xs=>obtain ⟨_,_,_,p⟩:=x; exact p.lt
  | dK kvs=>obtain ⟨_,_,_,_,o,_,_,e,_⟩:=x; exact Heap.lt_size e
  | dT kvs=>obtain ⟨_,_,_,_,o,_,_,e,_⟩:=x; exact Heap.lt_size e
  | set S n=>obtain ⟨o,_,_,_,e,_⟩:=x; exact Heap.lt_size e
  | ins C dx fs=>obtain ⟨_,_,_,e,_⟩:=x; exact Heap.lt_size e
  | own y=>obtain ⟨_,e⟩:=x; exact Heap.lt_size e
  | xd fs=>obtain ⟨_,⟨_,_,_,e,_⟩,_⟩:=x; exact Heap.lt_size e
  | rng lo hi=>obtain ⟨_,_,_,e⟩:=x; exact Heap.lt_size e
  | frz ob u=>obtain ⟨e,_⟩:=x; exact Heap.lt_size e
  | tbl p q=>obtain ⟨_,e,_⟩:=x; exact Heap.lt_size e
  | met f y=>exact Heap.lt_size (show h.get? a=some _ from x)
  | ext φ=>obtain ⟨_,⟨_,e⟩,_⟩:=x; exact Heap.lt_size e
theorem Paired.mapP {α β:Type} {F G:α→β→Prop}:∀ {l₁:List α} {l₂:List β},Paired F l₁ l₂→(∀ a b,F a b→G a b)→Paired G l₁ l₂
  | _,_,.nil,_=>.nil
  | _,_,.cons r t,f=>.cons (f _ _ r) (Paired.mapP t f)
theorem ObjOk.stay (x:ObjOk P w H h a o) (k:∀ b u,(b=a∨H b=some (.own a))→h.get? b=some u→h'.get? b=some u)
    (ho:∀ b,H b=some (.own a)→H' b=some (.own a)) (ht:∀ b xs,H b=some (.tup xs)→H' b=some (.tup xs))
    (hz:∀ b oz,H b=some (.frz oz (.own a))→H' b=some (.frz oz (.own a)):=by exact fun _ _ q=>q):ObjOk P w H' h' a o:=by
  induction o with
  | lst xs=>obtain ⟨z,its,n,r,e⟩:=x; exact ⟨z,its,n,r,k _ _ (.inl rfl) e⟩
  | tup xs=>obtain ⟨z,its,r,ob,e,c⟩:=x; exact ⟨z,its,r,ob,k _ _ (.inl rfl) e,c⟩
  | dK kvs=>obtain ⟨z,y,vs,r,ob,es,ep,e,c⟩:=x; exact ⟨z,y,vs,r,ob,es,ep,k _ _ (.inl rfl) e,c⟩
  | dT kvs =>
    obtain ⟨z,y,xs,r,ob,es,ep,e,c⟩:=x
    exact ⟨z,y,xs,Paired.mapP r fun p q z=>⟨z.1,ht _ _ z.2.1,z.2.2⟩,ob,es,ep,k _ _ (.inl rfl) e,c⟩
  | set S n=>obtain ⟨ob,es,ep,t,e,c⟩:=x; exact ⟨ob,es,ep,t,k _ _ (.inl rfl) e,c⟩
  | ins C dx fs =>
    obtain ⟨d,z,ne,e,mA,⟨od,es,ep,e2,c⟩,r⟩:=x
    exact ⟨ho _ d,z,ne,k _ _ (.inl rfl) e,mA,⟨od,es,ep,k _ _ (.inr d) e2,c⟩,r⟩
  | own y=>obtain ⟨ob,e⟩:=x; exact ⟨ob,k _ _ (.inl rfl) e⟩
  | xd fs=>obtain ⟨mA,⟨od,es,ep,e,c⟩,r⟩:=x; exact ⟨mA,⟨od,es,ep,k _ _ (.inl rfl) e,c⟩,r⟩
  | rng lo hi=>obtain ⟨t,u,v,e⟩:=x; exact ⟨t,u,v,k _ _ (.inl rfl) e⟩
  | frz ob u ih=>obtain ⟨e,q⟩:=x; exact ⟨k _ _ (.inl rfl) e,ih q⟩
  | tbl p q =>
    obtain ⟨ps,e,tr,hc⟩:=x
    refine ⟨ps,k a _ (.inl rfl) e,tr,fun cv e1=>?_⟩
    obtain ⟨c,oc,vs,tt,z,e2,r⟩:=hc cv e1
    exact ⟨c,oc,vs,tt,z,hz _ _ e2,r⟩
  | met f y =>
    have e:h.get? a=some (PySem.W.methodObj (.ref f) (.ref y)):=x
    show h'.get? a=some (PySem.W.methodObj (.ref f) (.ref y))
    exact k a _ (.inl rfl) e
  | ext φ=>obtain ⟨p,⟨o,e⟩,st⟩:=x; exact ⟨st _ _ p fun o q=>k _ _ (.inl rfl) q,⟨o,k _ _ (.inl rfl) e⟩,st⟩
theorem HOk.lt (x:HOk P w H h) (e:H a=some o):a<h.objs.size:=(x a o e).lt
theorem HOk.fresh (x:HOk P w H h) (e:h.objs.size≤a):H a=none:=by
  cases q:H a with
  | none=>rfl
  | some u=>exact absurd (Nat.lt_of_lt_of_le (x.lt q) e) (Nat.lt_irrefl _)
theorem HOk.kept (x:HOk P w H h) (k:∀ b u,h.get? b=some u→h'.get? b=some u):HOk P w H h':=fun a o e =>
  (x a o e).stay (fun b u _ q=>k b u q) (fun _ q=>q) fun _ _ q=>q
theorem HOk.laid (x:HOk P w H h) (k:∀ b u,h.get? b=some u→h'.get? b=some u) (hp:h.objs.size≤a) (new:ObjOk P w (upd H a o) h' a o):HOk P w (upd H a o) h':=fun b u e=>by
  have hn:=x.fresh hp
  by_cases hb:b=a
  · subst hb; rw [upd_same] at e; cases e; exact new
  · rw [upd_ne hb] at e
    exact (x b u e).stay (fun c v _ q=>k c v q) (fun c q=>by rw [upd_ne (ne_of_none q hn)]; exact q) (fun c xs q=>by rw [upd_ne (ne_of_none q hn)]; exact q) fun c oz q=>by rw [upd_ne (ne_of_none q hn)]; exact q
end
def Rd (H:Hp) (a:Addr) (u:HO):Prop:=H a=some u∨∃ o,H a=some (.frz o u)
theorem Rd.ok {P:Program} {w:World} {H:Hp} {h:Heap} {a:Addr} {u:HO} (r:Rd H a u) (x:HOk P w H h):ObjOk P w H h a u:=by
  rcases r with r | ⟨o,r⟩
  · exact x a u r
  · obtain ⟨_,q⟩:=x a _ r
    exact q
def Mut:Option HO→Prop
  | some (.lst _)=>True
  | some (.dK _)=>True
  | some (.dT _)=>True
  | some (.set _ _)=>True
  | some (.ins _ _ _)=>True
  | some (.ext _)=>True
  | _=>False
section
variable {P:Program} {w:World} {H:Hp} {h h':Heap} {x e:Addr} {o':HO}
theorem HOk.write (ok:HOk P w H h) (mu:Mut (H x)) (he:e=x∨H e=some (.own x)) (k:∀ b u,b≠e→h.get? b=some u→h'.get? b=some u) (heo:∃ u,h'.get? e=some u)
    (new:ObjOk P w (upd H x o') h' x o'):HOk P w (upd H x o') h':=fun b u q=>by
  have nown:∀ c y,H c=some (.own y)→c≠x:=fun c y r z=>by subst z; rw [r] at mu; exact mu
  have ntup:∀ c xs,H c=some (.tup xs)→c≠x:=fun c xs r z=>by subst z; rw [r] at mu; exact mu
  by_cases hb:b=x
  · subst hb; rw [upd_same] at q; cases q; exact new
  · rw [upd_ne hb] at q
    by_cases hbe:b=e
    · have q':H b=some (.own x):=by
        rcases he with z | z
        · exact absurd (hbe.trans z) hb
        · rw [hbe]; exact z
      rw [q] at q'; cases q'
      obtain ⟨v,hv⟩:=heo
      exact ⟨v,by rw [hbe]; exact hv⟩
    · refine (ok b u q).stay (fun c v hc r=>k c v ?_ r) (fun c r=>by rw [upd_ne (nown c b r)]; exact r) (fun c xs r=>by rw [upd_ne (ntup c xs r)]; exact r) fun c oz r=>by rw [upd_ne (fun z=>by subst z; rw [r] at mu; exact mu)]; exact r
      rcases hc with rfl | hc
      · exact hbe
      · rintro rfl
        rcases he with z | z
        · exact nown c b hc z
        · rw [hc] at z; cases z; exact hb rfl
end
structure Un (fs ex:List Addr) (H H':Hp) (h h':Heap):Prop where
  keep:∀ b o,h.get? b=some o→H b=none→b∉fs→b∉ex→h'.get? b=some o
  slot:∀ b o,h.get? b=some o→H b=none→b∈fs→b∉ex→∃ sl,h'.get? b=some { o with slots:=sl }
  free:∀ b o,h.get? b=some o→H b=none→b∉ex→H' b=none
  there:∀ b o,h.get? b=some o→b∉ex→∃ o',h'.get? b=some o'
  tups:∀ b xs,H b=some (.tup xs)→H' b=some (.tup xs)
  frzs:∀ b o u,H b=some (.frz o u)→H' b=some (.frz o u)
  tbls:∀ b p q,H b=some (.tbl p q)→H' b=some (.tbl p q)
section
variable {fs fs' ex ex':List Addr} {H H1 H2:Hp} {h h1 h2 h':Heap} {a x e:Addr} {o:HO}
theorem Un.any (u:Un fs ex H H1 h h1) {b:Addr} {ob:Obj} (q:h.get? b=some ob) (n:H b=none) (hx:b∉ex):∃ sl,h1.get? b=some { ob with slots:=sl }:=by
  by_cases hb:b∈fs
  · exact u.slot b ob q n hb hx
  · exact ⟨ob.slots,u.keep b ob q n hb hx⟩
theorem Un.kept (k:∀ b u,h.get? b=some u→h'.get? b=some u):Un fs ex H H h h' :=
  ⟨fun b ob q _ _ _=>k b ob q,fun b ob q _ _ _=>⟨ob.slots,k b ob q⟩,fun _ _ _ n _=>n,fun b ob q _=>⟨ob,k b ob q⟩,fun _ _ q=>q,fun _ _ _ q=>q,fun _ _ _ q=>q⟩
theorem Un.refl:Un fs ex H H h h:=Un.kept fun _ _ q=>q
theorem Un.laid (k:∀ b u,h.get? b=some u→h'.get? b=some u) (hp:h.objs.size≤a) (hn:H a=none):Un fs ex H (upd H a o) h h' where
  keep:=fun b u q _ _ _=>k b u q
  slot:=fun b u q _ _ _=>⟨u.slots,k b u q⟩
  free:=fun b u q n _=>by rw [upd_ne (Nat.ne_of_lt (Nat.lt_of_lt_of_le (Heap.lt_size q) hp))]; exact n
  there:=fun b u q _=>⟨u,k b u q⟩
  tups:=fun b xs q=>by rw [upd_ne (ne_of_none q hn)]; exact q
  frzs:=fun b u xs q=>by rw [upd_ne (ne_of_none q hn)]; exact q
  tbls:=fun b _ _ q=>by rw [upd_ne (ne_of_none q hn)]; exact q
theorem Un.write (mu:Mut (H x)) (he:e=x∨H e=some (.own x)) (k:∀ b u,b≠e→h.get? b=some u→h'.get? b=some u) (heo:∃ u,h'.get? e=some u):Un fs ex H (upd H x o) h h':=by
  have hx:∀ b,H b=none→b≠x:=fun b n z=>by subst z; rw [n] at mu; exact mu
  have hb:∀ b,H b=none→b≠e:=fun b n z=>by
    subst z
    rcases he with r | r
    · exact hx b n r
    · rw [n] at r; cases r
  have hm:∀ b u,H b=some u→¬ Mut (some u)→b≠x:=fun b u q nm z=>by subst z; rw [q] at mu; exact nm mu
  refine ⟨fun b u q n _ _=>k b u (hb b n) q,fun b u q n _ _=>⟨u.slots,k b u (hb b n) q⟩,fun b u q n _=>by rw [upd_ne (hx b n)]; exact n,fun b u q _=>?_,
    fun b xs q=>by rw [upd_ne (hm b _ q fun z=>z)]; exact q,fun b u xs q=>by rw [upd_ne (hm b _ q fun z=>z)]; exact q,fun b _ _ q=>by rw [upd_ne (hm b _ q fun z=>z)]; exact q⟩
  by_cases hbe:b=e
  · subst hbe; exact heo
  · exact ⟨u,k b u hbe q⟩
end
def trk (h:Heap) (H:Hp):List Addr:=(List.range h.objs.size).filter fun a=>(H a).isSome
def hidT (h:Heap) (H:Hp):Heap:=PySem.W.hideAll h (trk h H)
theorem hidT_size (h:Heap) (H:Hp):(hidT h H).objs.size=h.objs.size:=PySem.W.hideAll_size _ _
theorem hidT_get {h:Heap} {H:Hp} {b:Addr} {o:Obj} (e:h.get? b=some o) (n:H b=none):(hidT h H).get? b=some o :=
  PySem.W.hideAll_get _ e fun hm=>by
    have q:(H b).isSome=true:=(List.mem_filter.mp hm).2
    rw [n] at q; simp at q
theorem of_hidT {h:Heap} {H:Hp} {b:Addr} {o:Obj} (e:(hidT h H).get? b=some o):h.get? b=some o∧H b=none:=by
  have e':h.get? b=some o:=PySem.W.of_hideAll (trk h H) e
  refine ⟨e',?_⟩
  cases q:H b with
  | none=>rfl
  | some x =>
    have hm:b∈trk h H:=List.mem_filter.mpr ⟨List.mem_range.mpr (Heap.lt_size e'),by simp [q]⟩
    have z:(hidT h H).get? b=none:=PySem.W.hideAll_none (trk h H) hm
    rw [z] at e; cases e
end L2
namespace L2
open PySem PySem.Spec PyProof.Rows
structure Mod (K:PySem.W.Frag) (mg:Str→Option Value) (base:Heap):Prop where
  kin:K.In base
  glob:base.Ns mainGlobals mg
  blt:∃ mb,base.Ns builtinsNs mb∧∀ x:Str,x ≠ "__name__" → mb x=bootBuiltins x
  nolimit:base.NoLimit
structure Cx where
  prog:Program
  w:World
  K:PySem.W.Frag
  mg:Str→Option Value
  base:Heap
  A:Around
  N:List Str
  s₀:Shared
  H₀:Hp
  env:Env
  outer:List Env
  stack:List Env
  ex:List Addr
  fn:Str→Bool
  calm:Bool
  pn:List (Addr×Obj)
  xe:Value→Shared→Prop
def frs (l:List Env):List Addr:=l.filterMap (·.frame)
abbrev Cx.fs (X:Cx):List Addr:=frs X.outer
def Vis (sc:Scope) (x:Str):Prop:=sc.names.lookup x=some .local∨sc.names.lookup x=some .cell∨sc.names.lookup x=some .free
def Loc (sc:Scope) (x:Str):Prop:=sc.names.lookup x=some .local∨sc.names.lookup x=some .cell
def Look (env:Env) (h:Heap) (m:Str→Option Value) (x:Str) (u:Value):Prop :=
  (env.kindOf x=some .local∧m x=some u)∨((env.kindOf x=some .cell∨env.kindOf x=some .free)∧∃ c,env.cells.lookup x=some c∧h.IsCell c (some u))
structure Cx.Ok (X:Cx):Prop where
  mod:Mod X.K X.mg X.base
  kind:X.env.scope.kind=.function
  glob:X.env.globals=mainGlobals
  blt:X.env.builtins=builtinsNs
  above:X.s₀.heap.objs.size≤X.env.locals
  inj:∀ x y c,X.env.cells.lookup x=some c→X.env.cells.lookup y=some c→x=y
  has:∀ x,(X.env.kindOf x=some .cell∨X.env.kindOf x=some .free)→∃ c,X.env.cells.lookup x=some c
  cab:∀ x c,X.fn x=true→X.env.cells.lookup x=some c→X.s₀.heap.objs.size≤c
  hd:X.calm=true→X.A.handled=none
  frames:X.A.frames=some X.stack
  stk:X.stack=X.outer∨(X.stack=X.env :: X.outer∧X.env.frame=some X.env.locals)
  exf:∀ b∈X.ex,b≠X.env.locals∧∀ x c,X.env.cells.lookup x=some c→c≠b
  bs:∀ b o,X.base.get? b=some o→X.s₀.heap.get? b=some o∧X.H₀ b=none
  bsz:X.base.objs.size≤X.s₀.heap.objs.size
  noex:∀ b o,X.base.get? b=some o→b∉X.ex
  exfs:∀ b∈X.ex,b∉X.fs
  funs:X.s₀.heap.FunFrames X.base X.outer
  frf:∀ b∈X.fs,X.H₀ b=none
structure Inv (X:Cx) (pins:List (Addr×Obj)) (σ:List (Option V)) (H:Hp) (s:Shared):Prop where
  ok:X.Ok
  os:s.os=X.s₀.os
  bare:AllBare s.gens
  base:Un X.fs X.ex X.H₀ H X.s₀.heap s.heap
  loc:∃ m,s.heap.Ns X.env.locals m∧∀ (i:Nat) (x:Str) (v:V),X.N[i]?=some x→σ[i]?=some (some v)→Vis X.env.scope x→∃ u,RelV v u∧Look X.env s.heap m x u
  cell:∀ x c,X.env.cells.lookup x=some c→∃ v,s.heap.IsCell c v
  free:H X.env.locals=none
  freeC:∀ x c,X.env.cells.lookup x=some c→H c=none
  pin:∀ p∈X.pn++pins,s.heap.get? p.1=some p.2∧H p.1=none∧p.1≠X.env.locals∧p.1∉X.fs∧∀ v,p.2.data≠.cell v
  hok:HOk X.prog X.w H s.heap
  len:σ.length=X.N.length
section
variable {X:Cx} {pins:List (Addr×Obj)} {σ:List (Option V)} {H H':Hp} {s:Shared} {h':Heap}
theorem Cx.Ok.nofr (ok:X.Ok) {b:Addr} {o:Obj} (e:X.base.get? b=some o):b∉X.fs:=fun hb=>by
  have:=(ok.funs.mem hb).1
  rw [e] at this; cases this
theorem Inv.bs (I:Inv X pins σ H s):∀ b o,X.base.get? b=some o→s.heap.get? b=some o∧H b=none:=fun b o e =>
  ⟨I.base.keep b o (I.ok.bs b o e).1 (I.ok.bs b o e).2 (I.ok.nofr e) (I.ok.noex b o e),I.base.free b o (I.ok.bs b o e).1 (I.ok.bs b o e).2 (I.ok.noex b o e)⟩
theorem Inv.bk (I:Inv X pins σ H s):∀ b o,X.base.get? b=some o→s.heap.get? b=some o:=fun b o e=>(I.bs b o e).1
theorem Inv.mod (I:Inv X pins σ H s):Mod X.K X.mg X.base:=I.ok.mod
theorem Inv.kIn (I:Inv X pins σ H s):X.K.In s.heap:=I.ok.mod.kin.keeps I.bk
theorem Inv.nolimit (I:Inv X pins σ H s):s.heap.NoLimit:=I.ok.mod.nolimit.keeps I.bk
theorem Inv.lt (I:Inv X pins σ H s):X.env.locals<s.heap.objs.size:=let ⟨_,hn,_⟩:=I.loc; hn.lt
theorem Inv.sz (I:Inv X pins σ H s):X.s₀.heap.objs.size≤s.heap.objs.size:=Nat.le_trans I.ok.above (Nat.le_of_lt I.lt)
theorem Inv.nofs (I:Inv X pins σ H s) {a:Addr} (h:s.heap.objs.size≤a):a∉X.fs:=fun hb=>by
  obtain ⟨_,o,ho,_⟩:=I.ok.funs.mem hb
  exact absurd (Nat.lt_of_lt_of_le (Heap.lt_size ho) (Nat.le_trans I.sz h)) (Nat.lt_irrefl _)
theorem Inv.cne (I:Inv X pins σ H s):∀ x c,X.env.cells.lookup x=some c→c≠X.env.locals:=fun x c e z=>by
  obtain ⟨v,o,ho,hd⟩:=I.cell x c e
  obtain ⟨m,⟨o',es,ep,ho',hd',_⟩,_⟩:=I.loc
  rw [z,ho'] at ho; cases ho; rw [hd'] at hd; cases hd
theorem Inv.funs (I:Inv X pins σ H s):s.heap.FunFrames X.base X.outer:=by
  have all:∀ (l:List Env),(∀ b∈frs l,b∈X.fs)→X.s₀.heap.FunFrames X.base l→s.heap.FunFrames X.base l:=by
    intro l
    induction l with
    | nil=>intro _ _; trivial
    | cons env r ih =>
      intro hs hl
      obtain ⟨hk,⟨L,o,hf,hn,ho,hd⟩,hr⟩:=hl
      have hL:L∈X.fs:=hs L (by unfold frs; rw [List.filterMap_cons,hf]; exact List.mem_cons_self)
      obtain ⟨sl,e⟩:=I.base.slot L o ho (I.ok.frf L hL) hL fun z=>I.ok.exfs L z hL
      exact ⟨hk,⟨L,_,hf,hn,e,hd⟩,ih (fun b hb=>hs b (by unfold frs; rw [List.filterMap_cons,hf]; exact List.mem_cons_of_mem _ hb)) hr⟩
  exact all X.outer (fun _ hb=>hb) I.ok.funs
theorem Inv.stack (I:Inv X pins σ H s):s.heap.FunFrames X.base X.stack:=by
  rcases I.ok.stk with e | ⟨e,hf⟩
  · rw [e]; exact I.funs
  · rw [e]
    obtain ⟨m,hn,_⟩:=I.loc
    refine .cons (by rw [I.ok.kind]; decide) hf hn ?_ I.funs
    exact Heap.get?_none_of_le (Nat.le_trans I.ok.bsz I.ok.above)
theorem Inv.stkSub (I:Inv X pins σ H s):∀ b∈frs X.stack,b∈X.env.locals :: X.fs:=fun b hb=>by
  rcases I.ok.stk with e | ⟨e,hf⟩
  · rw [e] at hb; exact List.mem_cons_of_mem _ hb
  · rw [e] at hb
    unfold frs at hb
    rw [List.filterMap_cons,hf] at hb
    exact hb
theorem Inv.stkFree (I:Inv X pins σ H s):∀ b∈frs X.stack,H b=none:=fun b hb=>by
  rcases List.mem_cons.mp (I.stkSub b hb) with e | hb
  · rw [e]; exact I.free
  · obtain ⟨_,o,ho,_⟩:=I.ok.funs.mem hb
    exact I.base.free b o ho (I.ok.frf b hb) fun z=>I.ok.exfs b z hb
theorem Inv.step {g':Array GenState} {t':Nat} {d':Drawn} {ch:List Addr} (I:Inv X pins σ H s)
    (hch:∀ b∈ch,(b∈X.ex∨X.s₀.heap.objs.size≤b)∧b≠X.env.locals∧(∀ x c,X.env.cells.lookup x=some c→c≠b)∧∀ p∈X.pn++pins,p.1≠b)
    (keep:∀ b o,b≠X.env.locals→b∉X.fs→b∉ch→s.heap.get? b=some o→H b=none→h'.get? b=some o)
    (slot:∀ b o,b≠X.env.locals→b∈X.fs→b∉ch→s.heap.get? b=some o→H b=none→∃ sl,h'.get? b=some { o with slots:=sl }) (free:∀ b o,b∉ch→s.heap.get? b=some o→H b=none→H' b=none)
    (there:∀ b o,b∉ch→s.heap.get? b=some o→∃ o',h'.get? b=some o')
    (tups:∀ b xs,H b=some (.tup xs)→H' b=some (.tup xs)) (frzs:∀ b o u,H b=some (.frz o u)→H' b=some (.frz o u)) (tbls:∀ b p q,H b=some (.tbl p q)→H' b=some (.tbl p q))
    (ns:∀ m,s.heap.Ns X.env.locals m→h'.Ns X.env.locals m) (hok:HOk X.prog X.w H' h') (hg:AllBare g') :
    Inv X pins σ H' { s with heap:=h',gens:=g',drawn:=d',toks:=t' }:=by
  have neL:∀ b o,X.s₀.heap.get? b=some o→b≠X.env.locals:=fun b o e=>Nat.ne_of_lt (Nat.lt_of_lt_of_le (Heap.lt_size e) I.ok.above)
  have neC:∀ b o,X.s₀.heap.get? b=some o→b∉X.ex→b∉ch:=fun b o e hx hb=>by
    rcases (hch b hb).1 with z | z
    · exact hx z
    · exact absurd (Nat.lt_of_lt_of_le (Heap.lt_size e) z) (Nat.lt_irrefl _)
  have cellK:∀ x c,X.env.cells.lookup x=some c→∀ v,s.heap.IsCell c v→h'.IsCell c v:=fun x c e v ⟨o,ho,hd⟩=>by
    have nch:c∉ch:=fun z=>(hch c z).2.2.1 x c e rfl
    by_cases hc:c∈X.fs
    · obtain ⟨sl,q⟩:=slot c o (I.cne x c e) hc nch ho (I.freeC x c e)
      exact ⟨_,q,hd⟩
    · exact ⟨o,keep c o (I.cne x c e) hc nch ho (I.freeC x c e),hd⟩
  refine ⟨I.ok,I.os,hg,⟨fun b o e n hb hx=>?_,fun b o e n hb hx=>?_,fun b o e n hx=>?_,fun b o e hx=>?_,fun b xs e=>tups b xs (I.base.tups b xs e),fun b o xs e=>frzs b o xs (I.base.frzs b o xs e),fun b p r e=>tbls b p r (I.base.tbls b p r e)⟩,?_,fun x c e=>?_,?_,fun x c e=>?_,fun p hp=>?_,hok,I.len⟩
  · exact keep b o (neL b o e) hb (neC b o e hx) (I.base.keep b o e n hb hx) (I.base.free b o e n hx)
  · obtain ⟨sl,e1⟩:=I.base.slot b o e n hb hx
    obtain ⟨sl',e2⟩:=slot b _ (neL b o e) hb (neC b o e hx) e1 (I.base.free b o e n hx)
    exact ⟨sl',e2⟩
  · obtain ⟨o',e1⟩:=I.base.there b o e hx
    exact free b o' (neC b o e hx) e1 (I.base.free b o e n hx)
  · obtain ⟨o',e1⟩:=I.base.there b o e hx
    exact there b o' (neC b o e hx) e1
  · obtain ⟨m,hn,hl⟩:=I.loc
    refine ⟨m,ns m hn,fun i x v e1 e2 e3=>?_⟩
    obtain ⟨u,r,l⟩:=hl i x v e1 e2 e3
    refine ⟨u,r,?_⟩
    rcases l with l | ⟨k,c,e,z⟩
    · exact .inl l
    · exact .inr ⟨k,c,e,cellK x c e _ z⟩
  · obtain ⟨v,z⟩:=I.cell x c e
    exact ⟨v,cellK x c e v z⟩
  · obtain ⟨m,⟨o,_,_,ho,_⟩,_⟩:=I.loc
    exact free _ o (fun z=>(hch _ z).2.1 rfl) ho I.free
  · obtain ⟨v,o,ho,hd⟩:=I.cell x c e
    exact free c o (fun z=>(hch c z).2.2.1 x c e rfl) ho (I.freeC x c e)
  · obtain ⟨e,n,ne,nf,d⟩:=I.pin p hp
    have nch:p.1∉ch:=fun z=>(hch p.1 z).2.2.2 p hp rfl
    exact ⟨keep p.1 p.2 ne nf nch e n,free p.1 p.2 nch e n,ne,nf,d⟩
theorem Inv.un {t':Nat} (I:Inv X pins σ H s) (u:Un X.fs [] H H' s.heap h') (hok:HOk X.prog X.w H' h'):Inv X pins σ H' { s with heap:=h',toks:=t' }:=by
  obtain ⟨m,⟨o,es,ep,ho,r⟩,_⟩:=id I.loc
  obtain ⟨sl,hL⟩:=u.any ho I.free (by simp)
  exact I.step (g':=s.gens) (d':=s.drawn) (ch:=[]) (fun _ z=>nomatch z) (fun b o _ hb _ e n=>u.keep b o e n hb (by simp)) (fun b o _ hb _ e n=>u.slot b o e n hb (by simp)) (fun b o _ e n=>u.free b o e n (by simp)) (fun b o _ e=>u.there b o e (by simp)) u.tups u.frzs u.tbls (fun m' hm=>by
    obtain ⟨o',es',ep',ho',r'⟩:=hm
    rw [ho] at ho'; cases ho'
    exact ⟨_,es',ep',hL,r'⟩) hok I.bare
theorem Inv.call {g':Array GenState} {t':Nat} {d':Drawn} {ch:List Addr} (I:Inv X pins σ H s) (u:Un (frs X.stack) ch H H' s.heap h') (hok:HOk X.prog X.w H' h') (hg:AllBare g')
    (hch:∀ b∈ch,(b∈X.ex∨X.s₀.heap.objs.size≤b)∧b≠X.env.locals∧(∀ x c,X.env.cells.lookup x=some c→c≠b)∧∀ p∈X.pn++pins,p.1≠b) :
    Inv X pins σ H' { s with heap:=h',gens:=g',drawn:=d',toks:=t' }:=by
  obtain ⟨m,⟨o,es,ep,ho,r⟩,_⟩:=id I.loc
  obtain ⟨sl,hL⟩:=u.any ho I.free fun z=>(hch _ z).2.1 rfl
  exact I.step (ch:=ch) hch (fun b o hL hb hc e n=>u.keep b o e n (fun z=>(List.mem_cons.mp (I.stkSub b z)).elim hL hb) hc) (fun b o _ _ hc e n=>u.any e n hc) (fun b o hc e n=>u.free b o e n hc) (fun b o hc e=>u.there b o e hc) u.tups u.frzs u.tbls (fun m' hm=>by
    obtain ⟨o',es',ep',ho',r'⟩:=hm
    rw [ho] at ho'; cases ho'
    exact ⟨_,es',ep',hL,r'⟩) hok hg
theorem Inv.turned {t':Nat} {it:Addr} (I:Inv X pins σ H s) (k:∀ b o,b≠it→s.heap.get? b=some o→h'.get? b=some o) (hn:H it=none) (hL:it≠X.env.locals)
    (h1:it∈X.ex∨X.s₀.heap.objs.size≤it) (h2:∀ x c,X.env.cells.lookup x=some c→c≠it) (h3:∀ p∈X.pn++pins,p.1≠it):Inv X pins σ H { s with heap:=h',toks:=t' }:=by
  have nit:∀ b u,H b=some u→b≠it:=fun b u e z=>by rw [z,hn] at e; cases e
  refine I.step (g':=s.gens) (d':=s.drawn) (ch:=[it]) (fun b hb=>?_) (fun b o _ _ hc e _=>k b o (fun z=>hc (by simp [z])) e) (fun b o _ _ hc e _=>⟨o.slots,k b o (fun z=>hc (by simp [z])) e⟩) (fun _ _ _ _ n=>n)
    (fun b o hc e=>⟨o,k b o (fun z=>hc (by simp [z])) e⟩) (fun _ _ e=>e) (fun _ _ _ e=>e) (fun _ _ _ e=>e) (fun m hm=>?_) (fun b u e=>?_) I.bare
  · have e:b=it:=by simpa using hb
    subst e
    exact ⟨h1,hL,h2,h3⟩
  · obtain ⟨o,es,ep,ho,r⟩:=hm
    exact ⟨o,es,ep,k _ o (Ne.symm hL) ho,r⟩
  · refine (I.hok b u e).stay (fun c v hc q=>k c v ?_ q) (fun _ q=>q) fun _ _ q=>q
    rcases hc with z | z
    · rw [z]; exact nit b u e
    · exact nit c _ z
theorem Inv.tok (I:Inv X pins σ H s) (t:Nat):Inv X pins σ H { s with toks:=t }:=I.un (h':=s.heap) (t':=t) Un.refl I.hok
theorem Inv.kept {t':Nat} (I:Inv X pins σ H s) (k:∀ b u,s.heap.get? b=some u→h'.get? b=some u):Inv X pins σ H { s with heap:=h',toks:=t' }:=I.un (Un.kept k) (I.hok.kept k)
theorem Inv.laid {a:Addr} {o:HO} {t':Nat} (I:Inv X pins σ H s) (k:∀ b u,s.heap.get? b=some u→h'.get? b=some u) (hp:s.heap.objs.size≤a) (new:ObjOk X.prog X.w (upd H a o) h' a o) :
    Inv X pins σ (upd H a o) { s with heap:=h',toks:=t' }:=I.un (Un.laid k hp (I.hok.fresh hp)) (I.hok.laid k hp new)
theorem Inv.write {x e:Addr} {o:HO} {t':Nat} (I:Inv X pins σ H s) (mu:Mut (H x)) (he:e=x∨H e=some (.own x)) (k:∀ b u,b≠e→s.heap.get? b=some u→h'.get? b=some u) (heo:∃ u,h'.get? e=some u)
    (new:ObjOk X.prog X.w (upd H x o) h' x o):Inv X pins σ (upd H x o) { s with heap:=h',toks:=t' }:=I.un (Un.write mu he k heo) (I.hok.write mu he k heo new)
theorem Inv.pins_of {pins':List (Addr×Obj)} (I:Inv X pins σ H s) (h:∀ p∈pins',s.heap.get? p.1=some p.2∧H p.1=none∧p.1≠X.env.locals∧p.1∉X.fs∧∀ v,p.2.data≠.cell v):Inv X pins' σ H s :=
  ⟨I.ok,I.os,I.bare,I.base,I.loc,I.cell,I.free,I.freeC,fun p hp=>(List.mem_append.mp hp).elim (fun z=>I.pin p (List.mem_append_left _ z)) (h p),I.hok,I.len⟩
theorem nodup_ix {N:List Str} (hN:N.Nodup) {i j:Nat} {x:Str} (a:N[i]?=some x) (b:N[j]?=some x):i=j:=by
  obtain ⟨h1,e1⟩:=List.getElem?_eq_some_iff.mp a
  obtain ⟨h2,e2⟩:=List.getElem?_eq_some_iff.mp b
  exact (List.getElem_inj hN).mp (e1.trans e2.symm)
theorem store_ok2 {M:Model} {A:Around} {E:Value→Shared→Prop} {i:Nat} {x:Str} {v:V} {u:Value} {Q:Unit→Shared→Prop} (I:Inv X pins σ H s) (hN:X.N.Nodup) (hi:X.N[i]?=some x) (hx:Loc X.env.scope x) (r:RelV v u)
    (h:∀ s',Inv X pins (σ.set i (some v)) H s'→(∃ a,Heap.SameBut a s.heap s'.heap∧(a=X.env.locals∨X.env.cells.lookup x=some a))→Q () s') (hf:X.fn x=true∨X.env.scope.names.lookup x=some .local:=by first | exact .inl rfl | exact .inr rfl | assumption):wpAny M A (storeName X.env x u) Q E s:=by
  obtain ⟨m,hn,hl⟩:=id I.loc
  have hcls:(X.env.scope.kind == .class || (X.env.scope.kind == .module && X.env.locals != X.env.globals))=false:=by rw [I.ok.kind]; rfl
  have hiσ:i<σ.length:=by rw [I.len]; exact (List.getElem?_eq_some_iff.mp hi).1
  have cne:=I.cne
  have tracked:∀ {a:Addr} {h':Heap},(∃ o,s.heap.get? a=some o∧H a=none)→Heap.SameBut a s.heap h'→HOk X.prog X.w H h':=fun {a h'} ha hs b ob e=>by
    obtain ⟨_,_,hfree⟩:=ha
    refine (I.hok b ob e).stay (fun c w' hc q=>(hs.2 c ?_).trans q) (fun _ q=>q) fun _ _ q=>q
    rintro rfl
    rcases hc with rfl | hc
    · rw [hfree] at e; cases e
    · rw [hfree] at hc; cases hc
  rcases hx with hk | hk
  · refine wpAny_storeName_local hk hn (fun h' hn' hs=>?_) hcls
    obtain ⟨oL,_,_,hoL,_⟩:=id hn
    refine h _ ⟨I.ok,I.os,I.bare,⟨fun b o e n hb hx=>?_,fun b o e n hb hx=>?_,I.base.free,fun b o e hx=>?_,I.base.tups,I.base.frzs,I.base.tbls⟩,⟨_,hn',fun j y v' e1 e2 e3=>?_⟩,fun y c e=>?_,I.free,I.freeC,fun p hp=>?_,tracked ⟨oL,hoL,I.free⟩ hs,by simpa using I.len⟩ ⟨_,hs,.inl rfl⟩
    · exact (hs.2 b (Nat.ne_of_lt (Nat.lt_of_lt_of_le (Heap.lt_size e) I.ok.above))).trans (I.base.keep b o e n hb hx)
    · obtain ⟨sl,e1⟩:=I.base.slot b o e n hb hx
      exact ⟨sl,(hs.2 b (Nat.ne_of_lt (Nat.lt_of_lt_of_le (Heap.lt_size e) I.ok.above))).trans e1⟩
    · obtain ⟨o',e1⟩:=I.base.there b o e hx
      exact ⟨o',(hs.2 b (Nat.ne_of_lt (Nat.lt_of_lt_of_le (Heap.lt_size e) I.ok.above))).trans e1⟩
    · by_cases hj:j=i
      · subst hj
        rw [hi] at e1; cases e1
        rw [List.getElem?_set_self hiσ] at e2
        cases e2
        exact ⟨u,r,.inl ⟨hk,by simp⟩⟩
      · rw [List.getElem?_set_ne (Ne.symm hj)] at e2
        obtain ⟨u',r',q⟩:=hl j y v' e1 e2 e3
        refine ⟨u',r',?_⟩
        rcases q with ⟨k,e⟩ | ⟨k,c,e,z⟩
        · refine .inl ⟨k,?_⟩
          have:y≠x:=fun e=>hj (nodup_ix hN e1 (e ▸ hi))
          simp [this,e]
        · exact .inr ⟨k,c,e,z.sameBut hs (cne y c e)⟩
    · obtain ⟨w',z⟩:=I.cell y c e
      exact ⟨w',z.sameBut hs (cne y c e)⟩
    · obtain ⟨e,n,ne,nf,d⟩:=I.pin p hp
      exact ⟨(hs.2 p.1 ne).trans e,n,ne,nf,d⟩
  · have hfn:X.fn x=true:=by
      rcases hf with z | z
      · exact z
      · rw [z] at hk; cases hk
    obtain ⟨c,hc⟩:=I.ok.has x (.inl hk)
    obtain ⟨w',z⟩:=I.cell x c hc
    refine wpAny_storeName_cell I.ok.kind hk hc z (fun h' hc' hs=>?_)
    obtain ⟨oc,hoc,hocd⟩:=id z
    refine h { s with heap:=h' } ⟨I.ok,I.os,I.bare,⟨fun b o e n hb hx=>?_,fun b o e n hb hx=>?_,I.base.free,fun b o e hx=>?_,I.base.tups,I.base.frzs,I.base.tbls⟩,⟨m,hn.sameBut hs (Ne.symm (cne x c hc)),fun j y v' e1 e2 e3=>?_⟩,fun y c' e=>?_,I.free,I.freeC,fun p hp=>?_,tracked ⟨oc,hoc,I.freeC x c hc⟩ hs,by simpa using I.len⟩ ⟨c,hs,.inr hc⟩
    · exact (hs.2 b (Nat.ne_of_lt (Nat.lt_of_lt_of_le (Heap.lt_size e) (I.ok.cab x c hfn hc)))).trans (I.base.keep b o e n hb hx)
    · obtain ⟨sl,e1⟩:=I.base.slot b o e n hb hx
      exact ⟨sl,(hs.2 b (Nat.ne_of_lt (Nat.lt_of_lt_of_le (Heap.lt_size e) (I.ok.cab x c hfn hc)))).trans e1⟩
    · obtain ⟨o',e1⟩:=I.base.there b o e hx
      exact ⟨o',(hs.2 b (Nat.ne_of_lt (Nat.lt_of_lt_of_le (Heap.lt_size e) (I.ok.cab x c hfn hc)))).trans e1⟩
    · by_cases hj:j=i
      · subst hj
        rw [hi] at e1; cases e1
        rw [List.getElem?_set_self hiσ] at e2
        cases e2
        exact ⟨u,r,.inr ⟨.inl hk,c,hc,hc'⟩⟩
      · rw [List.getElem?_set_ne (Ne.symm hj)] at e2
        obtain ⟨u',r',q⟩:=hl j y v' e1 e2 e3
        refine ⟨u',r',?_⟩
        rcases q with q | ⟨k,c',e,z'⟩
        · exact .inl q
        · refine .inr ⟨k,c',e,z'.sameBut hs ?_⟩
          rintro rfl
          exact hj (nodup_ix hN e1 (I.ok.inj _ _ _ e hc ▸ hi))
    · by_cases hcc:c'=c
      · subst hcc; exact ⟨_,hc'⟩
      · obtain ⟨w2,z2⟩:=I.cell y c' e
        exact ⟨w2,z2.sameBut hs hcc⟩
    · obtain ⟨e,n,ne,nf,d⟩:=I.pin p hp
      refine ⟨(hs.2 p.1 ?_).trans e,n,ne,nf,d⟩
      intro q
      rw [q,hoc] at e
      have q':oc=p.2:=Option.some.inj e
      exact d w' (by rw [← q']; exact hocd)
theorem store_ok {M:Model} {A:Around} {E:Value→Shared→Prop} {i:Nat} {x:Str} {v:V} {u:Value} {Q:Unit→Shared→Prop} (I:Inv X pins σ H s) (hN:X.N.Nodup) (hi:X.N[i]?=some x) (hx:Loc X.env.scope x) (r:RelV v u)
    (h:∀ s',Inv X pins (σ.set i (some v)) H s'→Q () s') (hf:X.fn x=true∨X.env.scope.names.lookup x=some .local:=by first | exact .inl rfl | exact .inr rfl | assumption):wpAny M A (storeName X.env x u) Q E s :=
  store_ok2 I hN hi hx r (fun s' I' _=>h s' I') hf
theorem Inv.call' {s':Shared} {ch:List Addr} (I:Inv X pins σ H s) (ho:s'.os=s.os) (u:Un (frs X.stack) ch H H' s.heap s'.heap) (hok:HOk X.prog X.w H' s'.heap) (hg:AllBare s'.gens)
    (hch:∀ b∈ch,(b∈X.ex∨X.s₀.heap.objs.size≤b)∧b≠X.env.locals∧(∀ x c,X.env.cells.lookup x=some c→c≠b)∧∀ p∈X.pn++pins,p.1≠b):Inv X pins σ H' s':=by
  obtain ⟨h',g',d',t',o'⟩:=s'
  have e:o'=s.os:=ho
  subst e
  exact I.call (g':=g') (t':=t') (d':=d') u hok hg hch
end
abbrev XK:=Value→Option Addr→Hp→Prop
abbrev St:=List (Option V)
abbrev VK:=V→Hp→Prop
abbrev TE:=St→Hp→VK→Prop
abbrev TT:=St→Hp→(Bool→Hp→Prop)→Prop
abbrev TA:=St→Hp→(List V→Hp→Prop)→Prop
structure Ends where
  nx:St→Hp→Prop
  rt:VK
  bk:St→Hp→Prop:=fun _ _=>False
  ct:St→Hp→Prop:=fun _ _=>False
abbrev TS:=Ends→St→Hp→Prop
def EP (X:Cx) (pins:List (Addr×Obj)) (σ:St) (Q:VK) (u:Value) (s':Shared):Prop:=∃ v H',Inv X pins σ H' s'∧RelV v u∧Q v H'
def TP (X:Cx) (pins:List (Addr×Obj)) (σ:St) (Q:Bool→Hp→Prop) (b:Bool) (s':Shared):Prop:=∃ H',Inv X pins σ H' s'∧Q b H'
def AP (X:Cx) (pins:List (Addr×Obj)) (σ:St) (Q:List V→Hp→Prop) (us:List Value) (s':Shared):Prop:=∃ vs H',Inv X pins σ H' s'∧Vals vs us∧Q vs H'
def SP (X:Cx) (pins:List (Addr×Obj)) (D:Ends) (f:Flow) (s':Shared):Prop :=
  match f with
  | .next=>∃ σ' H',Inv X pins σ' H' s'∧D.nx σ' H'
  | .brk=>∃ σ' H',Inv X pins σ' H' s'∧D.bk σ' H'
  | .cont=>∃ σ' H',Inv X pins σ' H' s'∧D.ct σ' H'
  | .ret u=>∃ v σ' H',Inv X pins σ' H' s'∧RelV v u∧D.rt v H'
def PE (X:Cx) (e:Expr) (t:TE):Prop :=
  ∀ (pins:List (Addr×Obj)) (s:Shared) (σ:St) (H:Hp) (Q:VK),Inv X pins σ H s→t σ H Q→wpAny (model X.prog X.w) X.A (eval e X.env) (EP X pins σ Q) X.xe s
def PT (X:Cx) (e:Expr) (t:TT):Prop :=
  ∀ (pins:List (Addr×Obj)) (s:Shared) (σ:St) (H:Hp) (Q:Bool→Hp→Prop),Inv X pins σ H s→t σ H Q→wpAny (model X.prog X.w) X.A (isTrue e X.env (eval e X.env)) (TP X pins σ Q) X.xe s
def PW (X:Cx) (e:Expr) (t:TT):Prop :=
  ∀ (whole:Sem Value) (pins:List (Addr×Obj)) (s:Shared) (σ:St) (H:Hp) (Q:Bool→Hp→Prop),Inv X pins σ H s→t σ H Q→wpAny (model X.prog X.w) X.A (isTrue e X.env whole) (TP X pins σ Q) X.xe s
theorem PW.pt {X:Cx} {e:Expr} {t:TT} (h:PW X e t):PT X e t:=h _
def PA (X:Cx) (es:List Expr) (t:TA):Prop :=
  ∀ (pos:Pos) (pins:List (Addr×Obj)) (s:Shared) (σ:St) (H:Hp) (Q:List V→Hp→Prop),Inv X pins σ H s→t σ H Q→wpAny (model X.prog X.w) X.A (spliced (backTo pos (starEach es X.env))) (AP X pins σ Q) X.xe s
def PS (X:Cx) (st:Stmt) (t:TS):Prop :=
  ∀ (pins:List (Addr×Obj)) (s:Shared) (σ:St) (H:Hp) (D:Ends),Inv X pins σ H s→t D σ H→wpAny (model X.prog X.w) X.A (exec st X.env) (SP X pins D) X.xe s
def PSs (X:Cx) (st:List Stmt) (t:TS):Prop :=
  ∀ (pins:List (Addr×Obj)) (s:Shared) (σ:St) (H:Hp) (D:Ends),Inv X pins σ H s→t D σ H→wpAny (model X.prog X.w) X.A (execs st X.env) (SP X pins D) X.xe s
theorem thn {α:Type} {t:Sem α} {Q Q':α→Shared→Prop} {M:Model} {A:Around} {E:Value→Shared→Prop} {s:Shared} (h:wpAny M A t Q E s) (hQ:∀ a s,Q a s→Q' a s):wpAny M A t Q' E s:=wpAny_mono h hQ fun _ _ x=>x
theorem thE {t : Sem Value} {Q : VK} {Q' : Value → Shared → Prop} {M : Model} {A : Around} {E : Value → Shared → Prop} {s : Shared} {X : Cx} {pins : List (Addr × Obj)} {σ : St} (h : wpAny M A t (EP X pins σ Q) E s) (k : ∀ v s x H, Inv X pins σ H s → RelV x v → Q x H → Q' v s) : wpAny M A t Q' E s := wpAny_mono h (fun v s z => by obtain ⟨x, H, i, r, q⟩ := z; exact k v s x H i r q) fun _ _ x => x
theorem thA {t : Sem (List Value)} {Q : List V → Hp → Prop} {Q' : List Value → Shared → Prop} {M : Model} {A : Around} {E : Value → Shared → Prop} {s : Shared} {X : Cx} {pins : List (Addr × Obj)} {σ : St} (h : wpAny M A t (AP X pins σ Q) E s) (k : ∀ v s x H, Inv X pins σ H s → Vals x v → Q x H → Q' v s) : wpAny M A t Q' E s := wpAny_mono h (fun v s z => by obtain ⟨x, H, i, r, q⟩ := z; exact k v s x H i r q) fun _ _ x => x
end L2
namespace L2
open PySem PySem.Spec PyProof.Rows
section
variable {X:Cx}
def tVar (i:Nat):TE:=fun σ H Q=>∃ v,σ[i]?=some (some v)∧Q v H
def tC (v:V):TE:=fun _ H Q=>Q v H
theorem pe_var {i:Nat} {x:Str} {pos:Pos} (hN:X.N[i]?=some x) (hv:Vis X.env.scope x) (hd:(x == ("__debug__" : Str))=false:=by decide) (hcd:(x == ("__classdict__" : Str))=false:=by decide):PE X (.Name x pos) (tVar i):=by
  intro pins s σ H Q I h
  obtain ⟨v,e,h⟩:=h
  obtain ⟨m,hn,hl⟩:=I.loc
  obtain ⟨u,r,l⟩:=hl i x v hN e hv
  have fin:EP X pins σ Q u s:=⟨v,H,I,r,h⟩
  rcases l with ⟨hk,hm⟩ | ⟨hk,c,hc,hcell⟩
  · exact wpAny_Name (wpAny_loadName_local I.ok.kind hk hn hm fin) hd
  · rcases hk with hk | hk
    · exact wpAny_Name (wpAny_loadName_cell I.ok.kind hk hc hcell fin) hd
    · exact wpAny_Name (wpAny_loadName_free I.ok.kind hk hc hcell fin hcd) hd
theorem pe_int {i j pos}:PE X (.Constant (.int i) j pos) (tC (.int i)):=fun _ _ _ H _ I h=>wpAny_Constant_int ⟨.int i,H,I.tok _,⟨_,rfl⟩,h⟩
theorem pe_bl {b j pos}:PE X (.Constant (.bool b) j pos) (tC (.bl b)):=fun _ _ _ H _ I h=>Constant_bool ⟨.bl b,H,I,rfl,h⟩
theorem pe_non {j pos}:PE X (.Constant .none j pos) (tC .non):=fun _ _ _ H _ I h=>Constant_none ⟨.non,H,I,rfl,h⟩
theorem pe_str {x j pos}:PE X (.Constant (.str x) j pos) (tC (.str x)):=fun _ _ _ H _ I h=>Calls.Constant_str ⟨.str x,H,I.tok _,⟨_,rfl⟩,h⟩
def Gl (X:Cx) (x:Str):Prop:=X.env.kindOf x=some .globalImplicit
theorem ld_glob {E:Value→Shared→Prop} {pins:List (Addr×Obj)} {s:Shared} {σ:St} {H:Hp} {x:Str} {u:Value} {pos:Pos} {Q:Value→Shared→Prop} (I:Inv X pins σ H s) (hg:Gl X x) (hm:X.mg x=some u) (h:Q u s)
    (hd:(x == ("__debug__" : Str))=false:=by decide):wpAny (model X.prog X.w) X.A (eval (.Name x pos) X.env) Q E s :=
  Calls.Name_function_global I.ok.kind hg (Calls.loadGlobal_global (by rw [I.ok.glob]; exact I.mod.glob.keeps I.bk) hm h) hd
theorem ld_blt {E:Value→Shared→Prop} {pins:List (Addr×Obj)} {s:Shared} {σ:St} {H:Hp} {x:Str} {u:Value} {pos:Pos} {Q:Value→Shared→Prop} (I:Inv X pins σ H s) (hg:Gl X x) (hm:X.mg x=none) (hv:bootBuiltins x=some u) (h:Q u s)
    (hn:x ≠ "__name__" := by decide) (hd:(x == ("__debug__" : Str))=false:=by decide):wpAny (model X.prog X.w) X.A (eval (.Name x pos) X.env) Q E s:=by
  obtain ⟨mb,h1,h2⟩:=I.mod.blt
  exact Calls.Name_function_global I.ok.kind hg (Calls.loadGlobal_builtin (by rw [I.ok.glob]; exact I.mod.glob.keeps I.bk) hm (by rw [I.ok.blt]; exact h1.keeps I.bk) ((h2 x hn).trans hv) h) hd
theorem pe_glob {x:Str} {v:V} {u:Value} {pos:Pos} (hg:Gl X x) (hm:X.mg x=some u) (r:RelV v u) (hd:(x == ("__debug__" : Str))=false:=by decide):PE X (.Name x pos) (tC v) :=
  fun _ _ _ H _ I h=>ld_glob I hg hm ⟨v,H,I,r,h⟩ hd
variable {a b:Expr} {ta tb:TE} {pos:Pos}
def PC (X:Cx) (op:CmpOp) (a b:Expr) (t:TE):Prop :=
  ∀ (pins:List (Addr×Obj)) (s:Shared) (σ:St) (H:Hp) (Q:VK),Inv X pins σ H s→t σ H Q →
    wpAny (model X.prog X.w) X.A (eval a X.env) (fun v s₁=>wpAny (model X.prog X.w) X.A (eval b X.env) (fun u s₂=>wpAny (model X.prog X.w) X.A (compareOp op v u) (EP X pins σ Q) X.xe s₂) X.xe s₁) X.xe s
theorem nobehind (b:Expr) {op:CmpOp} (h:op≠.In) (h2:op≠.NotIn):behindInMarks op b=false:=by
  have e1:(op == CmpOp.In)=false:=by cases op <;> first | rfl | exact absurd rfl h
  have e2:(op == CmpOp.NotIn)=false:=by cases op <;> first | rfl | exact absurd rfl h2
  cases b <;> simp [behindInMarks,e1,e2]
def tIsN (ta:TE):TE:=fun σ H Q=>ta σ H fun x H1=>Q (.bl (decide (x=.non))) H1
def tNotN (ta:TE):TE:=fun σ H Q=>ta σ H fun x H1=>Q (.bl (!decide (x=.non))) H1
theorem RelV.none_iff {x:V} {v:Value} (r:RelV x v):(v == Value.none)=decide (x=.non):=by
  cases x with
  | non=>cases r; rfl
  | bl _=>cases r; rfl
  | int _=>obtain ⟨t,rfl⟩:=r; rfl
  | str _=>obtain ⟨t,rfl⟩:=r; rfl
  | byt _=>obtain ⟨t,rfl⟩:=r; rfl
  | flt _=>obtain ⟨t,rfl⟩:=r; rfl
  | ref _=>cases r; rfl
  | ty _=>cases r; rfl
theorem pc_isN {j pos'} (ha:PE X a ta):PC X .Is a (.Constant .none j pos') (tIsN ta):=by
  intro pins s σ H Q I h
  refine thE (ha pins s σ H _ I h) fun v s1 x H1 I1 r1 q1=>?_
  exact Constant_none (is_none_gen ⟨.bl _,H1,I1,by rw [r1.none_iff]; rfl,q1⟩)
theorem pc_notN {j pos'} (ha:PE X a ta):PC X .IsNot a (.Constant .none j pos') (tNotN ta):=by
  intro pins s σ H Q I h
  refine thE (ha pins s σ H _ I h) fun v s1 x H1 I1 r1 q1=>?_
  exact Constant_none (isnot_none_gen ⟨.bl _,H1,I1,by rw [r1.none_iff]; rfl,q1⟩)
def tB (t:TE):TT:=fun σ H Q=>t σ H fun x H1=>∃ c,x=.bl c∧Q c H1
theorem pe_cmp {op:CmpOp} {t:TE} (h:PC X op a b t) (h1:behindInMarks op b=false:=by first | exact nobehind _ (by decide) (by decide) | rfl):PE X (.Compare a [op] [b] pos) t:=fun pins s σ H Q I hw=>wpAny_Compare1 (h pins s σ H Q I hw) h1
theorem pt_cmp {op:CmpOp} {t:TE} (h:PC X op a b t) (h1:behindInMarks op b=false:=by first | exact nobehind _ (by decide) (by decide) | rfl):PT X (.Compare a [op] [b] pos) (tB t):=by
  intro pins s σ H Q I hw
  refine wpAny_isTrue_Compare1 (thn (h pins s σ H _ I hw) fun v s1 h1=>thn h1 fun u s2 h2=>thn h2 fun c s3 ⟨x,H1,I1,r1,q1⟩=>?_) h1
  obtain ⟨d,rfl,q⟩:=q1
  cases r1
  exact wpAny_truthy_bool ⟨H1,I1,q⟩
theorem pt_val {e:Expr} {t:TE} (h:PE X e t) (he:∀ whole,isTrue e X.env whole=(do let v ← whole; standAt e.pos; holding [v] (truthy v)):=by intro _; rfl):PT X e (tB t):=by
  intro pins s σ H Q I hw
  refine isTrue_plain (thE (h pins s σ H _ I hw) fun v s1 x H1 I1 r1 q1=>?_) (he _)
  obtain ⟨d,rfl,q⟩:=q1
  cases r1
  exact wpAny_truthy_bool ⟨H1,I1,q⟩
variable {tA tB':TT} {rest:List Expr}
def tAnd (t u:TT):TT:=fun σ H Q=>t σ H fun c H1=>if c=true then u σ H1 Q else Q false H1
def tOr (t u:TT):TT:=fun σ H Q=>t σ H fun c H1=>if c=true then Q true H1 else u σ H1 Q
def tNot (t:TT):TT:=fun σ H Q=>t σ H fun c H1=>Q (!c) H1
theorem pw_and1 (ha:PT X a tA):PW X (.BoolOp .And [a] pos) tA:=by
  intro wh pins s σ H Q I h
  refine isTrue_and (thn (ha pins s σ H Q I h) fun c s1 e=>?_)
  cases c with
  | true=>exact isTrue_and_nil e
  | false=>exact e
theorem pw_or1 (ha:PT X a tA):PW X (.BoolOp .Or [a] pos) tA:=by
  intro wh pins s σ H Q I h
  refine isTrue_or (thn (ha pins s σ H Q I h) fun c s1 e=>?_)
  cases c with
  | false=>exact isTrue_or_nil e
  | true=>exact e
theorem pw_and (ha:PT X a tA) (hb:PW X (.BoolOp .And (b :: rest) pos) tB'):PW X (.BoolOp .And (a :: b :: rest) pos) (tAnd tA tB'):=by
  intro wh pins s σ H Q I h
  refine isTrue_and (thn (ha pins s σ H _ I h) fun c s1 ⟨H1,I1,q1⟩=>?_)
  cases c with
  | true=>exact hb wh pins s1 σ H1 Q I1 q1
  | false=>exact ⟨H1,I1,q1⟩
theorem pw_or (ha:PT X a tA) (hb:PW X (.BoolOp .Or (b :: rest) pos) tB'):PW X (.BoolOp .Or (a :: b :: rest) pos) (tOr tA tB'):=by
  intro wh pins s σ H Q I h
  refine isTrue_or (thn (ha pins s σ H _ I h) fun c s1 ⟨H1,I1,q1⟩=>?_)
  cases c with
  | true=>exact ⟨H1,I1,q1⟩
  | false=>exact hb wh pins s1 σ H1 Q I1 q1
theorem pt_not (ha:PT X a tA):PT X (.UnaryOp .Not a pos) (tNot tA):=by
  intro pins s σ H Q I h
  exact isTrue_not (ha pins s σ H (fun c H1=>Q (!c) H1) I h)
def tAndV (ta tb:TE):TE:=fun σ H Q=>ta σ H fun x H1=>∃ c,x=.bl c∧if c=true then tb σ H1 Q else Q (.bl false) H1
def tOrV (ta tb:TE):TE:=fun σ H Q=>ta σ H fun x H1=>∃ c,x=.bl c∧if c=true then Q (.bl true) H1 else tb σ H1 Q
theorem pe_one {op} {t:TE} (h:PE X a t):PE X (.BoolOp op [a] pos) t:=fun pins s σ H Q I hw=>BoolOp_one (h pins s σ H Q I hw)
theorem pe_and (ha:PE X a ta) (hb:PE X (.BoolOp .And (b :: rest) pos) tb):PE X (.BoolOp .And (a :: b :: rest) pos) (tAndV ta tb):=by
  intro pins s σ H Q I h
  refine BoolOp_and (thE (ha pins s σ H _ I h) fun v s1 x H1 I1 r1 q1=>?_)
  obtain ⟨c,rfl,q1⟩:=q1
  cases r1
  refine wpAny_truthy_bool ?_
  cases c with
  | true=>exact hb pins s1 σ H1 Q I1 q1
  | false=>exact ⟨.bl false,H1,I1,rfl,q1⟩
theorem pe_or (ha:PE X a ta) (hb:PE X (.BoolOp .Or (b :: rest) pos) tb):PE X (.BoolOp .Or (a :: b :: rest) pos) (tOrV ta tb):=by
  intro pins s σ H Q I h
  refine BoolOp_or (thE (ha pins s σ H _ I h) fun v s1 x H1 I1 r1 q1=>?_)
  obtain ⟨c,rfl,q1⟩:=q1
  cases r1
  refine wpAny_truthy_bool ?_
  cases c with
  | false=>exact hb pins s1 σ H1 Q I1 q1
  | true=>exact ⟨.bl true,H1,I1,rfl,q1⟩
def tIf (t:TT) (ta tb:TE):TE:=fun σ H Q=>t σ H fun c H1=>if c=true then ta σ H1 Q else tb σ H1 Q
theorem pe_ifExp {c:Expr} (hc:PT X c tA) (ha:PE X a ta) (hb:PE X b tb):PE X (.IfExp c a b pos) (tIf tA ta tb):=by
  intro pins s σ H Q I h
  refine wpAny_IfExp (thn (hc pins s σ H _ I h) fun d s1 ⟨H1,I1,q1⟩=>?_)
  cases d with
  | true=>exact ha pins s1 σ H1 Q I1 q1
  | false=>exact hb pins s1 σ H1 Q I1 q1
end
end L2
namespace L2
open PySem PySem.Spec PyProof.Rows
def SqL (K:PySem.W.Frag) (H:Hp) (a:Addr) (xs:List V):Prop :=
  Rd H a (.lst xs) ∨
    ∃ (o:Obj) (its:Array Value) (n:Nat),K.lookup a=some o∧o.cls=.type "list" ∧ o.dict=none∧o.data=.seq its n∧its.size≤sizeLine∧Vals xs its.toList
def SqT (K:PySem.W.Frag) (H:Hp) (a:Addr) (xs:List V):Prop :=
  Rd H a (.tup xs) ∨
    ∃ (o:Obj) (its:Array Value) (n:Nat),K.lookup a=some o∧o.cls=.type "tuple" ∧ o.data=.seq its n∧its.size≤sizeLine∧Vals xs its.toList
def absV:Value→Option V
  | .none=>some .non
  | .bool b=>some (.bl b)
  | .int i _=>some (.int i)
  | .str x _=>some (.str x)
  | .bytes b _=>some (.byt b)
  | .float b _=>some (.flt b)
  | .ref a=>some (.ref a)
  | .type n=>some (.ty n)
  | _=>none
theorem RelV.abs {x:V} {u:Value} (r:RelV x u):absV u=some x:=by
  cases x with
  | non=>cases r; rfl
  | bl _=>cases r; rfl
  | int _=>obtain ⟨t,rfl⟩:=r; rfl
  | str _=>obtain ⟨t,rfl⟩:=r; rfl
  | byt _=>obtain ⟨t,rfl⟩:=r; rfl
  | flt _=>obtain ⟨t,rfl⟩:=r; rfl
  | ref _=>cases r; rfl
  | ty _=>cases r; rfl
theorem RelV.inj {x y:V} {u:Value} (r:RelV x u) (q:RelV y u):x=y:=Option.some.inj (r.abs.symm.trans q.abs)
theorem Vals.inj:∀ {xs ys:List V} {us:List Value},Vals xs us→Vals ys us→xs=ys
  | _,_,_,.nil,.nil=>rfl
  | _,_,_,.cons r t,.cons r' t'=>by rw [r.inj r',Vals.inj t t']
section
variable {X:Cx} {pins:List (Addr×Obj)} {σ:St} {H:Hp} {s:Shared} {a:Addr} {xs ys:List V}
theorem SqL.of {K:PySem.W.Frag} (h:H a=some (.lst xs)):SqL K H a xs:=.inl (.inl h)
theorem SqT.of {K:PySem.W.Frag} (h:H a=some (.tup xs)):SqT K H a xs:=.inl (.inl h)
theorem Inv.list (I:Inv X pins σ H s) (h:SqL X.K H a xs):∃ its:List Value,Vals xs its∧PlainL s.heap a its.toArray∧xs.length≤sizeLine:=by
  rcases h with h | ⟨o,its,n,hk,hc,hd,hs,hz,r⟩
  · obtain ⟨z,its,n,r,e⟩:=h.ok I.hok
    exact ⟨its,r,⟨_,n,e,rfl,rfl,rfl⟩,z⟩
  · refine ⟨its.toList,r,⟨o,n,I.kIn a o hk,hc,hd,by simpa using hs⟩,?_⟩
    have e:=r.length
    simp only [Array.length_toList] at e
    lia
theorem Inv.tuple (I:Inv X pins σ H s) (h:SqT X.K H a xs):∃ its:List Value,Vals xs its∧IsTup s.heap a its.toArray∧xs.length≤sizeLine:=by
  rcases h with h | ⟨o,its,n,hk,hc,hs,hz,r⟩
  · obtain ⟨z,its,r,p⟩:=h.ok I.hok
    exact ⟨its,r,p,z⟩
  · refine ⟨its.toList,r,⟨o,I.kIn a o hk,hc,n,by simpa using hs⟩,?_⟩
    have e:=r.length
    simp only [Array.length_toList] at e
    lia
theorem Inv.list_inj (I:Inv X pins σ H s) (h:SqL X.K H a xs) (h':SqL X.K H a ys):xs=ys:=by
  obtain ⟨its,r,⟨o,n,e,_,_,d⟩,_⟩:=I.list h
  obtain ⟨its',r',⟨o',n',e',_,_,d'⟩,_⟩:=I.list h'
  rw [e] at e'; cases e'
  rw [d] at d'
  injection d' with d1 _
  have:its=its':=by simpa using congrArg Array.toList d1
  subst this
  exact r.inj r'
theorem Inv.tuple_inj (I:Inv X pins σ H s) (h:SqT X.K H a xs) (h':SqT X.K H a ys):xs=ys:=by
  obtain ⟨its,r,⟨o,e,_,n,d⟩,_⟩:=I.tuple h
  obtain ⟨its',r',⟨o',e',_,n',d'⟩,_⟩:=I.tuple h'
  rw [e] at e'; cases e'
  rw [d] at d'
  injection d' with d1 _
  have:its=its':=by simpa using congrArg Array.toList d1
  subst this
  exact r.inj r'
end
abbrev Cx.wish (X:Cx) (E:Value→Shared→Prop):Cx:={ X with xe:=E }
abbrev Cx.nox (X:Cx):Cx:=X.wish fun _ _=>False
theorem Cx.Ok.wish {X:Cx} (ok:X.Ok) (E:Value→Shared→Prop):(X.wish E).Ok :=
  ⟨ok.mod,ok.kind,ok.glob,ok.blt,ok.above,ok.inj,ok.has,ok.cab,ok.hd,ok.frames,ok.stk,ok.exf,ok.bs,ok.bsz,ok.noex,ok.exfs,ok.funs,ok.frf⟩
theorem Cx.Ok.unwish {X:Cx} {E:Value→Shared→Prop} (ok:(X.wish E).Ok):X.Ok :=
  ⟨ok.mod,ok.kind,ok.glob,ok.blt,ok.above,ok.inj,ok.has,ok.cab,ok.hd,ok.frames,ok.stk,ok.exf,ok.bs,ok.bsz,ok.noex,ok.exfs,ok.funs,ok.frf⟩
section
variable {X:Cx} {pins:List (Addr×Obj)} {σ:St} {H:Hp} {s:Shared} {E:Value→Shared→Prop}
theorem Inv.wish (I:Inv X pins σ H s) (E:Value→Shared→Prop):Inv (X.wish E) pins σ H s:=⟨I.ok.wish E,I.os,I.bare,I.base,I.loc,I.cell,I.free,I.freeC,I.pin,I.hok,I.len⟩
theorem Inv.unwish (I:Inv (X.wish E) pins σ H s):Inv X pins σ H s:=⟨I.ok.unwish,I.os,I.bare,I.base,I.loc,I.cell,I.free,I.freeC,I.pin,I.hok,I.len⟩
theorem SP.unwish {D:Ends} {f:Flow} {s':Shared} (h:SP (X.wish E) pins D f s'):SP X pins D f s':=by
  cases f with
  | next=>obtain ⟨σ',H',I,q⟩:=h; exact ⟨σ',H',I.unwish,q⟩
  | brk=>obtain ⟨σ',H',I,q⟩:=h; exact ⟨σ',H',I.unwish,q⟩
  | cont=>obtain ⟨σ',H',I,q⟩:=h; exact ⟨σ',H',I.unwish,q⟩
  | ret u=>obtain ⟨v,σ',H',I,r,q⟩:=h; exact ⟨v,σ',H',I.unwish,r,q⟩
theorem PSs.nox {st:List Stmt} {t:TS} (h:PSs X.nox st t):PSs X st t:=fun pins s σ H D I hw =>
  wpAny_mono (h pins s σ H D (I.wish _) hw) (fun _ _ q=>q.unwish) fun _ _ z=>False.elim z
end
section
variable {X:Cx} {st:Stmt} {rest:List Stmt} {t u:TS} {e:Expr} {te:TE} {pos:Pos}
def tNext:TS:=fun D σ H=>D.nx σ H
def tSeq (t u:TS):TS:=fun D σ H=>t { D with nx:=u D } σ H
theorem pss_nil:PSs X [] tNext:=fun _ _ σ H _ I h=>wpAny_execs_nil ⟨σ,H,I,h⟩
theorem pss_cons (h1:PS X st t) (h2:PSs X rest u):PSs X (st :: rest) (tSeq t u):=by
  intro pins s σ H D I h
  refine wpAny_execs_cons (thn (h1 pins s σ H { D with nx:=u D } I h) fun f s1 q=>?_)
  cases f with
  | next =>
    obtain ⟨σ',H',I',q⟩:=q
    exact h2 pins s1 σ' H' D I' q
  | ret v=>exact q
  | brk=>exact q
  | cont=>exact q
theorem pss_one (h1:PS X st t):PSs X [st] t:=by
  intro pins s σ H D I h
  refine wpAny_execs_cons (thn (h1 pins s σ H D I h) fun f s1 q=>?_)
  cases f with
  | next=>exact wpAny_execs_nil q
  | ret v=>exact q
  | brk=>exact q
  | cont=>exact q
theorem Inv.quiet {pins:List (Addr×Obj)} {σ:St} {H:Hp} {s:Shared} (I:Inv X pins σ H s):interactive X.env=false:=by simp [interactive,I.ok.kind]
def tDrop (te:TE):TS:=fun D σ H=>te σ H fun _ H1=>D.nx σ H1
theorem ps_expr (he:PE X e te) (hs:swapsWith e none pos.line X.env=pure false:=by rfl):PS X (.Expr e pos) (tDrop te):=by
  intro pins s σ H D I h
  exact wpAny_Expr_any (thE (he pins s σ H _ I h) fun v s1 x H1 I1 r1 q1=>⟨σ,H1,I1,q1⟩) I.quiet hs
def tRet (te:TE):TS:=fun D σ H=>te σ H D.rt
theorem ps_ret (he:PE X e te):PS X (.Return (some e) pos) (tRet te):=by
  intro pins s σ H D I h
  exact wpAny_Return_some (thE (he pins s σ H _ I h) fun v s1 x H1 I1 r1 q1=>⟨x,σ,H1,I1,r1,q1⟩)
def tRetN:TS:=fun D _ H=>D.rt .non H
theorem ps_retN:PS X (.Return none pos) tRetN:=fun _ _ σ H _ I h=>wpAny_Return_none ⟨.non,σ,H,I,rfl,h⟩
def tIfS (c:TT) (t u:TS):TS:=fun D σ H=>c σ H fun b H1=>if b=true then t D σ H1 else u D σ H1
theorem ps_if {c:Expr} {a b:List Stmt} {tc:TT} (hc:PT X c tc) (ha:PSs X a t) (hb:PSs X b u):PS X (.If c a b pos) (tIfS tc t u):=by
  intro pins s σ H D I h
  refine wpAny_If (thn (hc pins s σ H _ I h) fun d s1 ⟨H1,I1,q1⟩=>?_)
  cases d with
  | true=>exact ha pins s1 σ H1 D I1 q1
  | false=>exact hb pins s1 σ H1 D I1 q1
end
abbrev TG:=V→St→Hp→(St→Hp→Prop)→Prop
abbrev TGs:=List V→St→Hp→(St→Hp→Prop)→Prop
def PG (X:Cx) (target:Expr) (t:TG):Prop :=
  ∀ (pins:List (Addr×Obj)) (s:Shared) (σ:St) (H:Hp) (v:V) (u:Value) (Q:St→Hp→Prop),Inv X pins σ H s→RelV v u→t v σ H Q →
    wpAny (model X.prog X.w) X.A (assign target X.env u) (fun _ s'=>∃ σ' H',Inv X pins σ' H' s'∧Q σ' H') X.xe s
def PGs (X:Cx) (ts:List Expr) (t:TGs):Prop :=
  ∀ (pins:List (Addr×Obj)) (s:Shared) (σ:St) (H:Hp) (vs:List V) (us:List Value) (Q:St→Hp→Prop),Inv X pins σ H s→Vals vs us→t vs σ H Q →
    wpAny (model X.prog X.w) X.A (assignInOrder ((assignEach ts X.env).map (·.2)) us) (fun _ s'=>∃ σ' H',Inv X pins σ' H' s'∧Q σ' H') X.xe s
abbrev TSet:=V→V→V→Hp→(Hp→Prop)→Prop
def PSet (X:Cx) (t:TSet):Prop :=
  ∀ (pins:List (Addr×Obj)) (s:Shared) (σ:St) (H:Hp) (o i v:V) (ov iv u:Value) (Q:Hp→Prop),Inv X pins σ H s→RelV o ov→RelV i iv→RelV v u→t o i v H Q →
    wpAny (model X.prog X.w) X.A (setItem ov iv u) (fun _ s'=>∃ H',Inv X pins σ H' s'∧Q H') X.xe s
section
variable {X:Cx} {pos:Pos}
def gName (i:Nat):TG:=fun v σ H Q=>Q (σ.set i (some v)) H
theorem pg_name {i:Nat} {x:Str} (hN:X.N.Nodup) (hi:X.N[i]?=some x) (hx:Loc X.env.scope x) (hf:X.fn x=true∨X.env.scope.names.lookup x=some .local:=by first | exact .inl rfl | exact .inr rfl | assumption):PG X (.Name x pos) (gName i):=by
  intro pins s σ H v u Q I r h
  exact wpAny_assign_Name (store_ok I hN hi hx r (fun s' I'=>⟨_,H,I',h⟩) hf)
def gNil:TGs:=fun vs σ H Q=>vs=[]∧Q σ H
def gCons (t:TG) (u:TGs):TGs:=fun vs σ H Q=>∃ v r,vs=v :: r∧t v σ H fun σ' H'=>u r σ' H' Q
theorem pgs_nil:PGs X [] gNil:=by
  intro pins s σ H vs us Q I r h
  obtain ⟨e,h⟩:=h
  subst e
  cases r
  exact assignInOrder_nil ⟨σ,H,I,h⟩
theorem pgs_cons {e:Expr} {es:List Expr} {t:TG} {u:TGs} (h1:PG X e t) (h2:PGs X es u)
    (hs:(assignEach (e :: es) X.env).map (·.2)=assign e X.env :: (assignEach es X.env).map (·.2):=by rfl):PGs X (e :: es) (gCons t u):=by
  intro pins s σ H vs us Q I r h
  obtain ⟨v,vr,e1,h⟩:=h
  subst e1
  cases r with
  | cons r rr =>
    rw [hs]
    refine assignInOrder_cons (thn (h1 pins s σ H _ _ _ I r h) fun _ s1 ⟨σ1,H1,I1,q1⟩=>?_)
    exact h2 pins s1 σ1 H1 _ _ Q I1 rr q1
def gTup (K:PySem.W.Frag) (n:Nat) (t:TGs):TG:=fun v σ H Q=>∃ a xs,v=.ref a∧SqT K H a xs∧xs.length=n∧t xs σ H Q
theorem pg_tup {es:List Expr} {k:Nat} {t:TGs} {n:Nat} (hc:X.calm=true) (h:PGs X es t)
    (hn:(assignEach es X.env).length=n:=by rfl) (hst:(assignEach es X.env).findIdx? (·.1)=none:=by rfl):PG X (.Tuple es k pos) (gTup X.K n t):=by
  intro pins s σ H v u Q I r hw
  obtain ⟨a,xs,e1,hq,hl,hw⟩:=hw
  subst e1
  cases r
  obtain ⟨its,rv,ht,hz⟩:=I.tuple hq
  refine assign_Tuple_tuple (I.ok.hd hc) ht (by simp [hn,← hl,rv.length]) hst fun h' hx=>?_
  have I1:Inv X pins σ H { s with heap:=h' }:=I.kept (t':=s.toks) fun b o e=>hx b o (Nat.ne_of_lt (Heap.lt_size e)) e
  exact h pins _ σ H xs _ Q I1 (by simpa using rv) hw
def gSub (to ti:TE) (t:TSet):TG:=fun v σ H Q=>to σ H fun o H1=>ti σ H1 fun i H2=>t o i v H2 fun H3=>Q σ H3
theorem pg_sub {o i:Expr} {to ti:TE} {t:TSet} (ho:PE X o to) (hi:PE X i ti) (hs:PSet X t)
    (ha:∀ v,assign (.Subscript o i pos) X.env v=(do
      let ov ← holding [v] (eval o X.env)
      let iv ← holding [v,ov] (eval i X.env)
      standAt pos
      holding [v,ov,iv] (setItem ov iv v)
      release [v,ov,iv] []):=by intro _; rfl):PG X (.Subscript o i pos) (gSub to ti t):=by
  intro pins s σ H v u Q I r h
  rw [ha]
  refine wpAny_bind (wpAny_holding (thE (ho pins s σ H _ I h) fun ov s1 x H1 I1 r1 q1=>?_))
  refine wpAny_bind (wpAny_holding (thE (hi pins s1 σ H1 _ I1 q1) fun iv s2 y H2 I2 r2 q2=>?_))
  refine wpAny_bind (wpAny_standAt (wpAny_bind (wpAny_holding (thn (hs pins s2 σ H2 x y v ov iv u _ I2 r1 r2 r q2) fun _ s3 ⟨H3,I3,q3⟩=>?_))))
  exact wpAny_release ⟨σ,H3,I3,q3⟩
def tAsg (te:TE) (g:TG):TS:=fun D σ H=>te σ H fun x H1=>g x σ H1 D.nx
theorem ps_asg {tg e:Expr} {te:TE} {g:TG} (he:PE X e te) (hg:PG X tg g) (hs:swapsWithSole [tg] e pos.line X.env=pure false:=by rfl) (hw:swappedStores [tg] e X.env=pure none:=by rfl)
    (h1:(assignEach [tg] X.env).map (·.2)=[assign tg X.env]:=by rfl):PS X (.Assign [tg] e pos) (tAsg te g):=by
  intro pins s σ H D I h
  refine wpAny_Assign_stores (thE (he pins s σ H _ I h) fun v s1 x H1 I1 r1 q1=>?_) hs hw
  rw [h1]
  exact thn (hg pins s1 σ H1 x v _ I1 r1 q1) fun _ s2 q=>q
theorem ps_set {i:Nat} {x:Str} {e:Expr} {te:TE} {pos':Pos} (hN:X.N.Nodup) (hi:X.N[i]?=some x) (hx:Loc X.env.scope x) (he:PE X e te) (hs:swapsWith e (some (.Name x pos')) pos.line X.env=pure false:=by rfl) (hf:X.fn x=true∨X.env.scope.names.lookup x=some .local:=by first | exact .inl rfl | exact .inr rfl | assumption) :
    PS X (.Assign [.Name x pos'] e pos) (tAsg te (gName i)):=by
  intro pins s σ H D I h
  refine wpAny_Assign_Name (thE (he pins s σ H _ I h) fun v s1 y H1 I1 r1 q1=>?_) hs
  exact store_ok I1 hN hi hx r1 (fun s2 I2=>⟨_,H1,I2,q1⟩) hf
def tPar (i j:Nat) (ta:TA):TS:=fun D σ H=>ta σ H fun vs H1=>∃ v w,vs=[v,w]∧D.nx ((σ.set i (some v)).set j (some w)) H1
theorem ps_par {i j:Nat} {x y:Str} {a b:Expr} {ta:TA} {px py pt:Pos} {kt k2 pt2} (hc:X.calm=true) (hN:X.N.Nodup) (hi:X.N[i]?=some x) (hj:X.N[j]?=some y) (hij:i≠j)
    (hx:X.env.scope.names.lookup x=some .local) (hy:X.env.scope.names.lookup y=some .local) (ha:PA X [a,b] ta)
    (hw:swappedStores [.Tuple [.Name x px,.Name y py] kt pt] (.Tuple [a,b] k2 pt2) X.env=pure (some [x,y]))
    (hs:swapsWithSole [.Tuple [.Name x px,.Name y py] kt pt] (.Tuple [a,b] k2 pt2) pos.line X.env=pure false:=by rfl) :
    PS X (.Assign [.Tuple [.Name x px,.Name y py] kt pt] (.Tuple [a,b] k2 pt2) pos) (tPar i j ta):=by
  intro pins s σ H D I h
  rw [exec_Assign_arm]
  refine wpAny_bind (wpAny_standAt ?_)
  rw [hs]
  refine wpAny_bind (wpAny_pure ?_)
  rw [if_neg (by decide)]
  refine wpAny_bind (Tuple_ (thA (ha _ pins s σ H _ I h) fun us s1 vs H1 I1 r1 q1=>?_))
  obtain ⟨v,w,e1,q1⟩:=q1
  subst e1
  obtain ⟨u1,u2,rfl,rv,rw'⟩:∃ u1 u2,us=[u1,u2]∧RelV v u1∧RelV w u2:=by
    cases r1 with
    | cons p q =>
      cases q with
      | cons p' q' =>
        cases q'
        exact ⟨_,_,rfl,p,p'⟩
  refine wpAny_newObj_type ?_ (by show 2≤sizeLine; decide)
  have I2:Inv X pins σ H1 { s1 with heap:=s1.heap.push { cls:=.type "tuple",data:=.seq [u1,u2].toArray } }:=I1.kept (t':=s1.toks) fun b o e=>Heap.get?_push_of_some _ e
  rw [hw]
  refine wpAny_bind (wpAny_pure ?_)
  show wpAny (model X.prog X.w) X.A (do rule "assign.swapped-stores"; let items ← unpackItems (.ref s1.heap.objs.size) 2 none; assignInOrder [fun v=>bindName X.env y v,fun v=>bindName X.env x v] items.reverse; pure Flow.next) _ _ _
  refine wpAny_bind (wpAny_rule (wpAny_bind (unpackItems_tuple (items:=#[u1,u2]) (I.ok.hd hc) (IsTup.new s1.heap _) fun h' hx'=>?_)))
  have I3:=I2.kept (h':=h') (t':=s1.toks) fun b o e=>hx' b o (Nat.ne_of_lt (Heap.lt_size e)) e
  show wpAny _ _ (assignInOrder [fun v=>bindName X.env y v,fun v=>bindName X.env x v] [u2,u1] >>= fun _=>pure Flow.next) _ _ _
  refine wpAny_bind (assignInOrder_cons (wpAny_bindName (store_ok I3 hN hj (.inl hy) rw' (fun s2 I4=>?_) (.inr hy))))
  refine assignInOrder_cons (wpAny_bindName (store_ok I4 hN hi (.inl hx) rv (fun s3 I5=>assignInOrder_nil (wpAny_pure ?_)) (.inr hx)))
  rw [List.set_comm _ _ (Ne.symm hij)] at I5
  exact ⟨_,H1,I5,q1⟩
end
structure It where
  go:Nat→Hp→Prop
  yld:Nat→Hp→V→Hp→Prop
  stop:Nat→Hp→Prop
def FpOk (X:Cx) (pins:List (Addr×Obj)) (H:Hp) (b:Addr):Prop :=
  H b=none∧b≠X.env.locals∧b∉X.fs∧(b∈X.ex∨X.s₀.heap.objs.size≤b)∧(∀ x c,X.env.cells.lookup x=some c→c≠b)∧∀ p∈X.pn++pins,p.1≠b
theorem Inv.fpOk {X:Cx} {pins:List (Addr×Obj)} {σ:St} {H H':Hp} {s:Shared} {b:Addr} (I:Inv X pins σ H s) (hb:s.heap.objs.size≤b) (hn:H' b=none):FpOk X pins H' b:=by
  refine ⟨hn,Nat.ne_of_gt (Nat.lt_of_lt_of_le I.lt hb),I.nofs hb,.inr (Nat.le_trans I.sz hb),fun x c e z=>?_,fun p hp z=>?_⟩
  · obtain ⟨v,q⟩:=I.cell x c e
    exact absurd (Nat.lt_of_lt_of_le q.lt (by rw [z]; exact hb)) (Nat.lt_irrefl _)
  · exact absurd (Nat.lt_of_lt_of_le (Heap.lt_size (I.pin p hp).1) (by rw [z]; exact hb)) (Nat.lt_irrefl _)
structure Turn (P:Program) (w:World) (K:PySem.W.Frag) (tg:Expr) (J:It) (fp:List Addr) (it:Addr) (tn:Nat→Heap→Prop):Prop where
  mem:it∈fp
  obj:∀ i h,tn i h→∀ b∈fp,∃ o,h.get? b=some o∧∀ v,o.data≠.cell v
  keep:∀ i h h',tn i h→(∀ b∈fp,∀ o,h.get? b=some o→h'.get? b=some o)→tn i h'
  item:∀ (X:Cx),X.prog=P→X.w=w→X.K=K→X.calm=true→∀ (i:Nat) (pins:List (Addr×Obj)) (s:Shared) (σ:St) (H:Hp) (E:Value→Shared→Prop),Inv X pins σ H s→(∀ b∈fp,FpOk X pins H b)→tn i s.heap→J.go i H →
    wpAny (model P w) X.A (pyNext (.ref it)) (fun r s1=>∃ u,r=some u ∧
      wpAny (model P w) X.A (letOwnedTupleGo tg (.ref it) u) (fun _ s2=>∃ x H',Inv X pins σ H' s2∧RelV x u∧J.yld i H x H'∧tn (i+1) s2.heap∧∀ b∈fp,H' b=none) E s1) E s
  done:∀ (X:Cx),X.prog=P→X.w=w→X.K=K→X.calm=true→∀ (i:Nat) (pins:List (Addr×Obj)) (s:Shared) (σ:St) (H:Hp) (E:Value→Shared→Prop),Inv X pins σ H s→(∀ b∈fp,FpOk X pins H b)→tn i s.heap→J.stop i H →
    wpAny (model P w) X.A (pyNext (.ref it)) (fun r s1=>r=none∧Inv X pins σ H s1) E s
  self:∀ (A:Around) (i:Nat) (s:Shared) (Q:Value→Shared→Prop) (E:Value→Shared→Prop),tn i s.heap→Q (.ref it) s→wpAny (model P w) A (pyIter (.ref it)) Q E s
abbrev TI:=St→Hp→(It→Hp→Prop)→Prop
def PIE (X:Cx) (pins:List (Addr×Obj)) (σ:St) (tg:Expr) (R:It→Hp→Prop) (itv:Value) (s2:Shared):Prop :=
  ∃ (it:Addr) (fp:List Addr) (tn:Nat→Heap→Prop) (J:It) (H':Hp),itv=.ref it∧Inv X pins σ H' s2∧Turn X.prog X.w X.K tg J fp it tn∧tn 0 s2.heap∧(∀ b∈fp,FpOk X pins H' b)∧R J H'
def PI (X:Cx) (tg iter:Expr) (wi:TI):Prop :=
  ∀ (pins:List (Addr×Obj)) (s:Shared) (σ:St) (H:Hp) (R:It→Hp→Prop),Inv X pins σ H s→wi σ H R →
    wpAny (model X.prog X.w) X.A (eval iter X.env) (fun v s1=>wpAny (model X.prog X.w) X.A (pyIter v) (PIE X pins σ tg R) X.xe s1) X.xe s
theorem go_of {M:Model} {A:Around} {E:Value→Shared→Prop} {s:Shared} {tg:Expr} {it:Addr} {u:Value} {o:Obj} {n:String} {vs:Array Value} {Q:Unit→Shared→Prop} (ho:s.heap.get? it=some o) (hc:o.cls=.type n) (hd:o.data=.fields vs)
    (hn:["enumerate", "zip", "dict_itemiterator", "dict_reverseitemiterator", "odict_iterator", "itertools.zip_longest", "itertools.pairwise"].contains n=false) (hQ:Q () s):wpAny M A (letOwnedTupleGo tg (.ref it) u) Q E s:=by
  unfold letOwnedTupleGo
  cases tg <;> first
    | exact wpAny_pure hQ
    | (cases u <;> first
        | exact wpAny_pure hQ
        | (refine wpAny_bind (wpAny_load ho ?_)
           rw [hc,hd]
           show wpAny M A (if (["enumerate", "zip", "dict_itemiterator", "dict_reverseitemiterator", "odict_iterator", "itertools.zip_longest", "itertools.pairwise"].contains n && vs[0]? == some (rawInt _))=true then _ else _) Q E s
           rw [if_neg (by intro h; rw [hn,Bool.false_and] at h; cases h)]
           exact wpAny_pure hQ))
def Itl (K:PySem.W.Frag) (a:Addr):It :=
  ⟨fun i H=>∃ xs x,SqL K H a xs∧xs[i]?=some x,fun i H x H'=>H'=H∧∀ xs,SqL K H a xs→xs[i]?=some x,fun i H=>∃ xs,SqL K H a xs∧xs.length≤i⟩
def Itt (K:PySem.W.Frag) (a:Addr):It :=
  ⟨fun i H=>∃ xs x,SqT K H a xs∧xs[i]?=some x,fun i H x H'=>H'=H∧∀ xs,SqT K H a xs→xs[i]?=some x,fun i H=>∃ xs,SqT K H a xs∧xs.length≤i⟩
def Itr (lo:Int) (n:Nat):It:=⟨fun i _=>i<n,fun i H x H'=>H'=H∧x=.int (lo+i),fun i _=>n≤i⟩
theorem turn_list {P:Program} {w:World} {K:PySem.W.Frag} {tg:Expr} (a it:Addr):Turn P w K tg (Itl K a) [it] it (fun i h=>h.IsListIter it a i) where
  mem:=by simp
  obj:=fun i h st b hb=>by
    have e:b=it:=by simpa using hb
    subst e
    obtain ⟨o,e,c,d⟩:=st
    exact ⟨o,e,fun v z=>by rw [d] at z; cases z⟩
  keep:=fun i h h' st k=>st.at fun o e=>k it (by simp) o e
  item:=by
    intro X hP hw hK hc i pins s σ H E I hf st hg
    subst hP hw hK
    obtain ⟨xs,x,hq,hx⟩:=hg
    obtain ⟨its,rv,p,hz⟩:=I.list hq
    obtain ⟨u,hu,ru⟩:=rv.get hx
    obtain ⟨f0,f1,f2,f3,f4,f5⟩:=hf it (by simp)
    refine wpAny_pyNext_list_item st p.isList (x:=u) (by simpa using hu) fun h' st' sb=>?_
    have I1:Inv X pins σ H { s with heap:=h' }:=I.turned (t':=s.toks) (fun b o hb e=>(sb.2 b hb).trans e) f0 f1 f3 f4 f5
    obtain ⟨o,e,c,d⟩:=id st'
    exact ⟨u,rfl,go_of (s:={ s with heap:=h' }) e c d (by decide) ⟨x,H,I1,ru,⟨rfl,fun ys hy=>by rw [I.list_inj hy hq]; exact hx⟩,st',fun b hb=>(hf b hb).1⟩⟩
  done:=by
    intro X hP hw hK hc i pins s σ H E I hf st hg
    subst hP hw hK
    obtain ⟨xs,hq,hx⟩:=hg
    obtain ⟨its,rv,p,hz⟩:=I.list hq
    obtain ⟨f0,f1,f2,f3,f4,f5⟩:=hf it (by simp)
    have hl:=rv.length
    exact wpAny_pyNext_list_end (I.ok.hd hc) st p.isList (by simp; lia) fun h' eb=>⟨rfl,I.turned (t':=s.toks) (fun b o hb e=>eb b o hb e) f0 f1 f3 f4 f5⟩
  self:=fun _ _ _ _ _ st h=>wpAny_pyIter_listiter st h
theorem turn_tuple {P:Program} {w:World} {K:PySem.W.Frag} {tg:Expr} (a it:Addr):Turn P w K tg (Itt K a) [it] it (fun i h=>h.IsTupleIter it a i) where
  mem:=by simp
  obj:=fun i h st b hb=>by
    have e:b=it:=by simpa using hb
    subst e
    obtain ⟨o,e,c,d⟩:=st
    exact ⟨o,e,fun v z=>by rw [d] at z; cases z⟩
  keep:=fun i h h' st k=>st.at fun o e=>k it (by simp) o e
  item:=by
    intro X hP hw hK hc i pins s σ H E I hf st hg
    subst hP hw hK
    obtain ⟨xs,x,hq,hx⟩:=hg
    obtain ⟨its,rv,p,hz⟩:=I.tuple hq
    obtain ⟨u,hu,ru⟩:=rv.get hx
    obtain ⟨f0,f1,f2,f3,f4,f5⟩:=hf it (by simp)
    refine wpAny_pyNext_tuple_item st (show s.heap.IsTuple a its.toArray from p) (x:=u) (by simpa using hu) fun h' st' sb=>?_
    have I1:Inv X pins σ H { s with heap:=h' }:=I.turned (t':=s.toks) (fun b o hb e=>(sb.2 b hb).trans e) f0 f1 f3 f4 f5
    obtain ⟨o,e,c,d⟩:=id st'
    exact ⟨u,rfl,go_of (s:={ s with heap:=h' }) e c d (by decide) ⟨x,H,I1,ru,⟨rfl,fun ys hy=>by rw [I.tuple_inj hy hq]; exact hx⟩,st',fun b hb=>(hf b hb).1⟩⟩
  done:=by
    intro X hP hw hK hc i pins s σ H E I hf st hg
    subst hP hw hK
    obtain ⟨xs,hq,hx⟩:=hg
    obtain ⟨its,rv,p,hz⟩:=I.tuple hq
    obtain ⟨f0,f1,f2,f3,f4,f5⟩:=hf it (by simp)
    have hl:=rv.length
    exact wpAny_pyNext_tuple_end (I.ok.hd hc) st (show s.heap.IsTuple a its.toArray from p) (by simp; lia) fun h' eb=>⟨rfl,I.turned (t':=s.toks) (fun b o hb e=>eb b o hb e) f0 f1 f3 f4 f5⟩
  self:=fun _ _ _ _ _ st h=>wpAny_pyIter_tupleiter st h
theorem turn_range {P:Program} {w:World} {K:PySem.W.Frag} {tg:Expr} (it:Addr) (lo:Int) (n:Nat):Turn P w K tg (Itr lo n) [it] it (fun i h=>IsRangeIter h it (lo+(i:Nat) * 1) ((n:Int) - (i:Nat)) 1) where
  mem:=by simp
  obj:=fun i h st b hb=>by
    have e:b=it:=by simpa using hb
    subst e
    exact ⟨_,st,fun v z=>by
      have z':Data.fields _=Data.cell v:=z
      cases z'⟩
  keep:=fun i h h' st k=>k it (by simp) _ st
  item:=by
    intro X hP hw hK hc i pins s σ H E I hf st hg
    subst hP hw hK
    obtain ⟨f0,f1,f2,f3,f4,f5⟩:=hf it (by simp)
    have W:=Walks.range (prog:=X.prog) (w:=X.w) (I.ok.hd hc) it lo 1 n
    refine W.item i s _ _ hg st fun v h' tk hv st' kk=>?_
    obtain ⟨t,rfl⟩:=hv
    have I1:Inv X pins σ H { s with heap:=h',toks:=tk }:=I.turned (fun b o hb e=>kk b o (by simpa using hb) e) f0 f1 f3 f4 f5
    refine ⟨_,rfl,go_of (s:={ s with heap:=h',toks:=tk }) (n := "range_iterator") st' rfl rfl (by decide) ⟨.int (lo+i),H,I1,⟨t,?_⟩,⟨rfl,rfl⟩,st',fun b hb=>(hf b hb).1⟩⟩
    rw [Int.mul_one]
  done:=by
    intro X hP hw hK hc i pins s σ H E I hf st hg
    subst hP hw hK
    obtain ⟨f0,f1,f2,f3,f4,f5⟩:=hf it (by simp)
    exact wpAny_pyNext_range_end (I.ok.hd hc) st (by have:n≤i:=hg; lia) fun h' eb=>⟨rfl,I.turned (t':=s.toks) (fun b o hb e=>eb b o hb e) f0 f1 f3 f4 f5⟩
  self:=fun _ _ _ _ _ st h=>wpAny_pyIter_rangeiter st h
end L2
namespace L2
open PySem PySem.Spec PyProof.Rows
section
variable {X:Cx} {tg:Expr}
def iList (K:PySem.W.Frag) (tl:TE):TI:=fun σ H R=>tl σ H fun x H1=>∃ a,x=.ref a∧(∃ xs,SqL K H1 a xs)∧R (Itl K a) H1
def iTup (K:PySem.W.Frag) (tl:TE):TI:=fun σ H R=>tl σ H fun x H1=>∃ a,x=.ref a∧(∃ xs,SqT K H1 a xs)∧R (Itt K a) H1
theorem pi_list {l:Expr} {tl:TE} (hl:PE X l tl):PI X tg l (iList X.K tl):=by
  intro pins s σ H R I h
  refine thE (hl pins s σ H _ I h) fun v s1 x H1 I1 r1 q1=>?_
  obtain ⟨a,e,⟨xs,hq⟩,q⟩:=q1
  subst e
  cases r1
  obtain ⟨its,rv,p,hz⟩:=I1.list hq
  refine wpAny_pyIter_list p.isList ?_
  refine ⟨s1.heap.objs.size,[s1.heap.objs.size],_,_,H1,rfl,I1.kept (t':=s1.toks) fun b o e=>Heap.get?_push_of_some _ e,turn_list a _,⟨_,Heap.get?_push_size _ rfl,rfl,rfl⟩,fun b hb=>?_,q⟩
  have e:b=s1.heap.objs.size:=by simpa using hb
  subst e
  exact I1.fpOk (Nat.le_refl _) (I1.hok.fresh (Nat.le_refl _))
theorem pi_tup {l:Expr} {tl:TE} (hl:PE X l tl):PI X tg l (iTup X.K tl):=by
  intro pins s σ H R I h
  refine thE (hl pins s σ H _ I h) fun v s1 x H1 I1 r1 q1=>?_
  obtain ⟨a,e,⟨xs,hq⟩,q⟩:=q1
  subst e
  cases r1
  obtain ⟨its,rv,p,hz⟩:=I1.tuple hq
  refine wpAny_pyIter_tuple (show s1.heap.IsTuple a its.toArray from p) ?_
  refine ⟨s1.heap.objs.size,[s1.heap.objs.size],_,_,H1,rfl,I1.kept (t':=s1.toks) fun b o e=>Heap.get?_push_of_some _ e,turn_tuple a _,⟨_,Heap.get?_push_size _ rfl,rfl,rfl⟩,fun b hb=>?_,q⟩
  have e:b=s1.heap.objs.size:=by simpa using hb
  subst e
  exact I1.fpOk (Nat.le_refl _) (I1.hok.fresh (Nat.le_refl _))
theorem range_it {pins:List (Addr×Obj)} {σ:St} {H:Hp} {s:Shared} {R:It→Hp→Prop} {E:Value→Shared→Prop} {lo hi:Int} {t u v:Tok} {tk:Nat} (I:Inv X pins σ H s) (h1 : -(2 ^ 62)≤lo) (h2:lo<2 ^ 62) (h3 : -(2 ^ 62)≤hi) (h4:hi<2 ^ 62)
    (q:R (Itr lo (hi - lo).toNat) H):wpAny (model X.prog X.w) X.A (pyIter (.ref s.heap.objs.size)) (PIE X pins σ tg R) E { s with heap:=s.heap.push { cls:=.type "range",data:=.fields #[.int lo t,.int hi u,.int 1 v] },toks:=tk }:=by
  refine wpAny_pyIter_range (IsRange.new ..) (small_one h1 h2 h3 h4) ?_
  have I1:Inv X pins σ H { s with heap:=s.heap.push { cls:=.type "range",data:=.fields #[.int lo t,.int hi u,.int 1 v] },toks:=tk }:=I.kept fun b o e=>Heap.get?_push_of_some _ e
  refine ⟨(s.heap.push { cls:=.type "range",data:=.fields #[.int lo t,.int hi u,.int 1 v] }).objs.size,[(s.heap.push { cls:=.type "range",data:=.fields #[.int lo t,.int hi u,.int 1 v] }).objs.size],_,_,H,rfl,
    I1.kept (t':=tk) fun b o e=>Heap.get?_push_of_some _ e,turn_range _ lo (hi - lo).toNat,?_,fun b hb=>?_,q⟩
  · have e1:lo+((0:Nat):Int) * 1=lo:=by simp
    have e2:(((hi - lo).toNat:Nat):Int) - ((0:Nat):Int)=Builtin.Range.rangeSize lo hi 1:=by rw [rangeSize_one]; split <;> lia
    show IsRangeIter _ _ (lo+((0:Nat):Int) * 1) ((((hi - lo).toNat:Nat):Int) - ((0:Nat):Int)) 1
    rw [e1,e2]
    exact Heap.get?_push_size _ rfl
  · have e:b=(s.heap.push { cls:=.type "range",data:=.fields #[.int lo t,.int hi u,.int 1 v] }).objs.size:=by simpa using hb
    subst e
    exact I1.fpOk (Nat.le_refl _) (I1.hok.fresh (Nat.le_refl _))
def iRng1 (ta:TA):TI:=fun σ H R=>ta σ H fun vs H1=>∃ j:Int,vs=[.int j] ∧ -(2 ^ 62)≤j∧j<2 ^ 62∧R (Itr 0 j.toNat) H1
def iRng2 (ta:TA):TI:=fun σ H R=>ta σ H fun vs H1=>∃ i j:Int,vs=[.int i,.int j]∧(-(2 ^ 62)≤i∧i<2 ^ 62 ∧ -(2 ^ 62)≤j∧j<2 ^ 62)∧R (Itr i (j - i).toNat) H1
theorem pi_range1 {a:Expr} {ta:TA} {p pos:Pos} (hg:Gl X "range") (hm:X.mg "range" = none) (ha:PA X [a] ta) (hs:starEach [a] X.env=[(false,eval a X.env)]:=by rfl):PI X tg (.Call (.Name "range" p) [a] [] pos) (iRng1 ta):=by
  intro pins s σ H R I h
  refine Call_ (ld_blt I hg hm boot_range (PyProof.Rows.callWith_type1 (thA (ha pos pins s σ H _ I h) fun us s1 vs H1 I1 r1 q1=>?_) hs rfl))
  obtain ⟨j,e,q1,q2,q⟩:=q1
  subst e
  cases r1 with
  | cons r rr =>
    cases rr
    obtain ⟨t,rfl⟩:=r
    exact call_range_1 (range_it I1 (by lia) (by lia) q1 q2 (by simpa using q))
theorem pi_range2 {a b:Expr} {ta:TA} {p pos:Pos} (hg:Gl X "range") (hm:X.mg "range" = none) (ha:PA X [a,b] ta) (hs:starEach [a,b] X.env=[(false,eval a X.env),(false,eval b X.env)]:=by rfl) (hs2:starEach [b] X.env=[(false,eval b X.env)]:=by rfl) :
    PI X tg (.Call (.Name "range" p) [a,b] [] pos) (iRng2 ta):=by
  intro pins s σ H R I h
  refine Call_ (ld_blt I hg hm boot_range (PyProof.Rows.callWith_type1 (thA (ha pos pins s σ H _ I h) fun us s1 vs H1 I1 r1 q1=>?_) (by rw [hs,hs2]) (by rw [hs2]; rfl)))
  obtain ⟨i,j,e,⟨q1,q2,q3,q4⟩,q⟩:=q1
  subst e
  cases r1 with
  | cons r rr =>
    cases rr with
    | cons r' rr =>
      cases rr
      obtain ⟨t,rfl⟩:=r
      obtain ⟨t',rfl⟩:=r'
      exact call_range_2 (range_it I1 q1 q2 q3 q4 q)
def tFor (wi:TI) (g:TG) (tb:TS):TS:=fun D σ H=>wi σ H fun J H1=>∃ W:Nat→Nat→St→Hp→Prop,(∃ m,W 0 m σ H1)∧∀ i m σ H,W i m σ H →
  (J.stop i H∧D.nx σ H)∨(J.go i H∧∃ N:St→Hp→Prop,(∀ σ' H',N σ' H'→∃ m',m'<m∧W (i+1) m' σ' H')∧∀ x H',J.yld i H x H'→g x σ H' fun σ2 H2=>tb { D with nx:=N,ct:=N,bk:=D.nx } σ2 H2)
def pinsAt (fp:List Addr) (h:Heap):List (Addr×Obj):=fp.filterMap fun b=>(h.get? b).map fun o=>(b,o)
theorem mem_pinsAt {fp:List Addr} {h:Heap} {b:Addr} {o:Obj} (hb:b∈fp) (e:h.get? b=some o):(b,o)∈pinsAt fp h:=List.mem_filterMap.mpr ⟨b,hb,by rw [e]; rfl⟩
theorem of_pinsAt {fp:List Addr} {h:Heap} {p:Addr×Obj} (hp:p∈pinsAt fp h):p.1∈fp∧h.get? p.1=some p.2:=by
  obtain ⟨b,hb,e⟩:=List.mem_filterMap.mp hp
  cases q:h.get? b with
  | none=>rw [q] at e; cases e
  | some o =>
    rw [q] at e
    have e':(b,o)=p:=Option.some.inj e
    subst e'
    exact ⟨hb,q⟩
theorem Inv.pinned {pins:List (Addr×Obj)} {σ:St} {H:Hp} {s:Shared} {fp:List Addr} (I:Inv X pins σ H s) (hf:∀ b∈fp,FpOk X pins H b) (ho:∀ b∈fp,∃ o,s.heap.get? b=some o∧∀ v,o.data≠.cell v):Inv X (pins++pinsAt fp s.heap) σ H s :=
  I.pins_of fun p hp=>(List.mem_append.mp hp).elim (fun z=>I.pin p (List.mem_append_right _ z)) fun z=>by
    obtain ⟨hb,e⟩:=of_pinsAt z
    obtain ⟨f0,f1,f2,_⟩:=hf p.1 hb
    obtain ⟨o,e',d⟩:=ho p.1 hb
    rw [e] at e'; cases e'
    exact ⟨e,f0,f1,f2,d⟩
theorem Inv.unpinned {pins pl:List (Addr×Obj)} {σ:St} {H:Hp} {s:Shared} (I:Inv X (pins++pl) σ H s):Inv X pins σ H s:=I.pins_of fun p hp=>I.pin p (List.mem_append_right _ (List.mem_append_left _ hp))
theorem ps_for {iter:Expr} {body:List Stmt} {wi:TI} {g:TG} {tb:TS} {pos:Pos} (hp:PassesOwn (model X.prog X.w) X.A X.env X.xe) (hc:X.calm=true) (hi:PI X tg iter wi) (hg:PG X tg g) (hb:PSs X body tb)
    (hs:∀ x,foldedSetIterable iter X.env x=pure x:=by intro _; rfl):PS X (.For tg iter body [] pos) (tFor wi g tb):=by
  intro pins s σ H D I h
  refine wpAny_For (thn (hi pins s σ H _ I h) fun v s1 h1=>thn h1 fun itv s2 h2=>?_) hs
  obtain ⟨it,fp,tn,J,H2,e,I2,T,st2,f2,W,⟨m0,w0⟩,turn⟩:=h2
  subst e
  have stat:∀ {H':Hp},(∀ b∈fp,H' b=none)→∀ b∈fp,FpOk X pins H' b:=fun hn b hb=>⟨hn b hb,(f2 b hb).2⟩
  refine codeAny_forLoop_any (fun n s'=>∃ i σ' H',Inv X pins σ' H' s'∧tn i s'.heap∧(∀ b∈fp,H' b=none)∧W i n σ' H') ?_ m0 ⟨0,σ,H2,I2,st2,fun b hb=>(f2 b hb).1,w0⟩
  rintro n s3 ⟨i,σ3,H3,I3,st3,fr3,w3⟩
  rcases turn i n σ3 H3 w3 with ⟨stop,qn⟩ | ⟨go,N,hN,step⟩
  · refine wpAny_passesOwn hp (thn (T.done X rfl rfl rfl hc i pins s3 σ3 H3 X.xe I3 (stat fr3) st3 stop) fun r s4 ⟨hr,I4⟩=>?_)
    subst hr
    exact wpAny_execs_nil ⟨σ3,H3,I4,qn⟩
  · refine wpAny_passesOwn hp (thn (T.item X rfl rfl rfl hc i pins s3 σ3 H3 X.xe I3 (stat fr3) st3 go) fun r s4 ⟨u,hr,h4⟩=>?_)
    subst hr
    refine wpAny_passesOwn hp (thn h4 fun _ s5 ⟨x,H5,I5,r5,y5,st5,fr5⟩=>?_)
    have I5':=I5.pinned (stat fr5) (T.obj _ _ st5)
    refine wpAny_passesOwn hp (thn (hg _ s5 σ3 H5 x u _ I5' r5 (step x H5 y5)) fun _ s6 ⟨σ6,H6,I6,q6⟩=>?_)
    refine wpAny_passesOwn hp (thn (hb _ s6 σ6 H6 _ I6 q6) fun f s7 q7=>?_)
    have again:∀ {σ7:St} {H7:Hp},Inv X (pins++pinsAt fp s5.heap) σ7 H7 s7→N σ7 H7→∃ m,m<n∧∃ i σ' H',Inv X pins σ' H' s7∧tn i s7.heap∧(∀ b∈fp,H' b=none)∧W i m σ' H':=fun {σ7 H7} I7 n7=>by
      obtain ⟨m',hm,w7⟩:=hN σ7 H7 n7
      refine ⟨m',hm,i+1,σ7,H7,I7.unpinned,T.keep _ _ _ st5 fun b hb o e=>(I7.pin (b,o) (List.mem_append_right _ (List.mem_append_right _ (mem_pinsAt hb e)))).1,fun b hb=>?_,w7⟩
      obtain ⟨o,e,d⟩:=T.obj _ _ st5 b hb
      exact (I7.pin (b,o) (List.mem_append_right _ (List.mem_append_right _ (mem_pinsAt hb e)))).2.1
    cases f with
    | next=>obtain ⟨σ7,H7,I7,n7⟩:=q7; exact again I7 n7
    | cont=>obtain ⟨σ7,H7,I7,n7⟩:=q7; exact again I7 n7
    | brk=>obtain ⟨σ7,H7,I7,q7⟩:=q7; exact ⟨σ7,H7,I7.unpinned,q7⟩
    | ret v=>obtain ⟨x7,σ7,H7,I7,r7,q7⟩:=q7; exact ⟨x7,σ7,H7,I7.unpinned,r7,q7⟩
end
theorem for_list {K:PySem.W.Frag} {a:Addr} {xs:List V} {g:TG} {tb:TS} {D:Ends} {σ:St} {H:Hp} (Pv:Nat→St→Hp→Prop) (h0:Pv 0 σ H) (hl:∀ i σ H,i≤xs.length→Pv i σ H→SqL K H a xs)
    (hs:∀ i x σ H,xs[i]?=some x→Pv i σ H→g x σ H fun σ2 H2=>tb { D with nx:=Pv (i+1),ct:=Pv (i+1),bk:=D.nx } σ2 H2) (hd:∀ σ H,Pv xs.length σ H→D.nx σ H) :
    ∃ W:Nat→Nat→St→Hp→Prop,(∃ m,W 0 m σ H)∧∀ i m σ H,W i m σ H →
      ((Itl K a).stop i H∧D.nx σ H)∨((Itl K a).go i H∧∃ N:St→Hp→Prop,(∀ σ' H',N σ' H'→∃ m',m'<m∧W (i+1) m' σ' H')∧∀ x H',(Itl K a).yld i H x H'→g x σ H' fun σ2 H2=>tb { D with nx:=N,ct:=N,bk:=D.nx } σ2 H2):=by
  refine ⟨fun i m σ H=>m=xs.length - i∧i≤xs.length∧Pv i σ H,⟨xs.length,by simp,Nat.zero_le _,h0⟩,?_⟩
  rintro i m σ H ⟨rfl,hi,p⟩
  have q:=hl i σ H hi p
  by_cases hlt:i<xs.length
  · refine .inr ⟨⟨xs,xs[i],q,by simp [hlt]⟩,Pv (i+1),fun σ' H' p'=>⟨xs.length - (i+1),by lia,rfl,hlt,p'⟩,fun x H' y=>?_⟩
    obtain ⟨e,y⟩:=y
    subst e
    exact hs i x σ _ (y xs q) p
  · have e:i=xs.length:=by lia
    subst e
    exact .inl ⟨⟨xs,q,Nat.le_refl _⟩,hd σ H p⟩
theorem for_range {lo:Int} {n:Nat} {g:TG} {tb:TS} {D:Ends} {σ:St} {H:Hp} (Pv:Nat→St→Hp→Prop) (h0:Pv 0 σ H)
    (hs:∀ i σ H,i<n→Pv i σ H→g (.int (lo+i)) σ H fun σ2 H2=>tb { D with nx:=Pv (i+1),ct:=Pv (i+1),bk:=D.nx } σ2 H2) (hd:∀ σ H,Pv n σ H→D.nx σ H) :
    ∃ W:Nat→Nat→St→Hp→Prop,(∃ m,W 0 m σ H)∧∀ i m σ H,W i m σ H →
      ((Itr lo n).stop i H∧D.nx σ H)∨((Itr lo n).go i H∧∃ N:St→Hp→Prop,(∀ σ' H',N σ' H'→∃ m',m'<m∧W (i+1) m' σ' H')∧∀ x H',(Itr lo n).yld i H x H'→g x σ H' fun σ2 H2=>tb { D with nx:=N,ct:=N,bk:=D.nx } σ2 H2):=by
  refine ⟨fun i m σ H=>m=n - i∧i≤n∧Pv i σ H,⟨n,by simp,Nat.zero_le _,h0⟩,?_⟩
  rintro i m σ H ⟨rfl,hi,p⟩
  by_cases hlt:i<n
  · refine .inr ⟨hlt,Pv (i+1),fun σ' H' p'=>⟨n - (i+1),by lia,rfl,hlt,p'⟩,fun x H' y=>?_⟩
    obtain ⟨e,y⟩:=y
    subst e y
    exact hs i σ _ hlt p
  · have e:i=n:=by lia
    subst e
    exact .inl ⟨Nat.le_refl _,hd σ H p⟩
end L2
namespace L2
open PySem PySem.Spec PyProof.Rows
abbrev R2:=V→V→Hp→VK→Prop
def OpR (X:Cx) (f:Value→Value→Sem Value) (r:R2):Prop :=
  ∀ (pins:List (Addr×Obj)) (s:Shared) (σ:St) (H:Hp) (x y:V) (v u:Value) (Q:VK),Inv X pins σ H s→RelV x v→RelV y u→r x y H Q →
    wpAny (model X.prog X.w) X.A (f v u) (EP X pins σ Q) X.xe s
def UnR (X:Cx) (f:Value→Sem Value) (r:V→Hp→VK→Prop):Prop :=
  ∀ (pins:List (Addr×Obj)) (s:Shared) (σ:St) (H:Hp) (x:V) (v:Value) (Q:VK),Inv X pins σ H s→RelV x v→r x H Q →
    wpAny (model X.prog X.w) X.A (f v) (EP X pins σ Q) X.xe s
def CallR (X:Cx) (f:Value) (r:List V→Hp→VK→Prop):Prop :=
  ∀ (pins:List (Addr×Obj)) (s:Shared) (σ:St) (H:Hp) (xs:List V) (us:List Value) (Q:VK),Inv X pins σ H s→Vals xs us→r xs H Q →
    wpAny (model X.prog X.w) X.A (call f us) (EP X pins σ Q) X.xe s
def tOp (r:R2) (ta tb:TE):TE:=fun σ H Q=>ta σ H fun x H1=>tb σ H1 fun y H2=>r x y H2 Q
def tUn (r:V→Hp→VK→Prop) (ta:TE):TE:=fun σ H Q=>ta σ H fun x H1=>r x H1 Q
def rI (C:Int→Int→Prop) (g:Int→Int→V):R2:=fun x y H Q=>∃ i j,x=.int i∧y=.int j∧C i j∧Q (g i j) H
def rI0 (g:Int→Int→V):R2:=fun x y H Q=>∃ i j,x=.int i∧y=.int j∧Q (g i j) H
def rU (g:Int→V):V→Hp→VK→Prop:=fun x H Q=>∃ i,x=.int i∧Q (g i) H
section
variable {X:Cx} {a b c:Expr} {ta tb tc:TE} {pos:Pos}
theorem binT (ha:PE X a ta) (hb:PE X b tb) {pins:List (Addr×Obj)} {s:Shared} {σ:St} {H:Hp} {R:V→V→Hp→Prop} (I:Inv X pins σ H s)
    (h:ta σ H fun x H1=>tb σ H1 fun y H2=>R x y H2) {Q:Value→Shared→Prop} {f:Value→Value→Sem Value}
    (hf:∀ v u s2 x y H2,Inv X pins σ H2 s2→RelV x v→RelV y u→R x y H2→wpAny (model X.prog X.w) X.A (f v u) Q X.xe s2) :
    wpAny (model X.prog X.w) X.A (eval a X.env) (fun v s₁=>wpAny (model X.prog X.w) X.A (eval b X.env) (fun u s₂=>wpAny (model X.prog X.w) X.A (f v u) Q X.xe s₂) X.xe s₁) X.xe s:=by
  refine thE (ha pins s σ H _ I h) fun v s1 x H1 I1 r1 q1=>?_
  refine thE (hb pins s1 σ H1 _ I1 q1) fun u s2 y H2 I2 r2 q2=>?_
  exact hf v u s2 x y H2 I2 r1 r2 q2
theorem pe_op {op:Operator} {r:R2} (ho:OpR X (binaryOp op) r) (ha:PE X a ta) (hb:PE X b tb):PE X (.BinOp a op b pos) (tOp r ta tb):=by
  intro pins s σ H Q I h
  exact wpAny_BinOp (binT ha hb I h fun v u s2 x y H2 I2 rx ry q=>ho pins s2 σ H2 x y v u Q I2 rx ry q)
theorem pe_un {op:UnaryOp} {r:V→Hp→VK→Prop} (ho:UnR X (unaryOp op) r) (ha:PE X a ta):PE X (.UnaryOp op a pos) (tUn r ta):=by
  intro pins s σ H Q I h
  exact UnaryOp_ (thE (ha pins s σ H _ I h) fun v s1 x H1 I1 r1 q1=>ho pins s1 σ H1 x v Q I1 r1 q1)
theorem opI {f:Value→Value→Sem Value} {C:Int→Int→Prop} {g:Int→Int→Int}
    (rule:∀ (i j:Int) (t u:Tok) (s:Shared) (Q:Value→Shared→Prop) (E:Value→Shared→Prop),C i j→Q (.int (g i j) s.toks) { s with toks:=s.toks+1 }→wpAny (model X.prog X.w) X.A (f (.int i t) (.int j u)) Q E s) :
    OpR X f (rI C fun i j=>.int (g i j)):=by
  intro pins s σ H x y v u Q I rx ry h
  obtain ⟨i,j,rfl,rfl,hc,q⟩:=h
  obtain ⟨t,rfl⟩:=rx
  obtain ⟨t',rfl⟩:=ry
  exact rule i j t t' s _ _ hc ⟨.int (g i j),H,I.tok _,⟨_,rfl⟩,q⟩
theorem opI0 {f:Value→Value→Sem Value} {g:Int→Int→Int}
    (rule:∀ (i j:Int) (t u:Tok) (s:Shared) (Q:Value→Shared→Prop) (E:Value→Shared→Prop),Q (.int (g i j) s.toks) { s with toks:=s.toks+1 }→wpAny (model X.prog X.w) X.A (f (.int i t) (.int j u)) Q E s) :
    OpR X f (rI0 fun i j=>.int (g i j)):=by
  intro pins s σ H x y v u Q I rx ry h
  obtain ⟨i,j,rfl,rfl,q⟩:=h
  obtain ⟨t,rfl⟩:=rx
  obtain ⟨t',rfl⟩:=ry
  exact rule i j t t' s _ _ ⟨.int (g i j),H,I.tok _,⟨_,rfl⟩,q⟩
theorem opB0 {f:Value→Value→Sem Value} {g:Int→Int→Bool}
    (rule:∀ (i j:Int) (t u:Tok) (s:Shared) (Q:Value→Shared→Prop) (E:Value→Shared→Prop),Q (.bool (g i j)) s→wpAny (model X.prog X.w) X.A (f (.int i t) (.int j u)) Q E s) :
    OpR X f (rI0 fun i j=>.bl (g i j)):=by
  intro pins s σ H x y v u Q I rx ry h
  obtain ⟨i,j,rfl,rfl,q⟩:=h
  obtain ⟨t,rfl⟩:=rx
  obtain ⟨t',rfl⟩:=ry
  exact rule i j t t' s _ _ ⟨.bl (g i j),H,I,rfl,q⟩
def CDiv (i j:Int):Prop:=0<j∧j<1073741824
def CPow (i j:Int):Prop:=0≤j∧j≤1000000∧i.natAbs<2 ^ 64
def CMul (i j:Int):Prop:=(-(2 ^ 64)<i∧i<2 ^ 64)∨(-(2 ^ 64)<j∧j<2 ^ 64)
theorem CMul.ok {i j:Int} (h:CMul i j):IntMulOk i j:=by
  rcases h with ⟨h1,h2⟩ | ⟨h1,h2⟩
  · exact .of_left (intBits_le_64 h1 h2)
  · exact .of_right (intBits_le_64 h1 h2)
theorem op_add:OpR X (binaryOp .Add) (rI0 fun i j=>.int (i+j)):=opI0 fun _ _ _ _ _ _ _ q=>add_int q
theorem op_sub:OpR X (binaryOp .Sub) (rI0 fun i j=>.int (i - j)):=opI0 fun _ _ _ _ _ _ _ q=>sub_int q
theorem op_mul:OpR X (binaryOp .Mult) (rI CMul fun i j=>.int (i * j)):=opI fun _ _ _ _ _ _ _ hc q=>mul_int q hc.ok
theorem op_fdiv:OpR X (binaryOp .FloorDiv) (rI CDiv fun i j=>.int (i / j)):=opI fun i j _ _ _ _ _ hc q=>by
  have h1:(0:Int)<j:=hc.1
  have h2:j<1073741824:=hc.2
  exact floordiv_int (by lia) (by rw [Int.fdiv_eq_ediv_of_nonneg i (by lia)]; exact q) (.inl (PyProof.noPylong_small (by lia)))
theorem op_mod:OpR X (binaryOp .Mod) (rI (fun _ j=>0<j) fun i j=>.int (i % j)):=opI fun i j _ _ _ _ _ hc q=>by
  have h1:(0:Int)<j:=hc
  exact mod_int' (by lia) (by rw [Int.fmod_eq_emod_of_nonneg i (by lia)]; exact q)
theorem op_pow:OpR X (binaryOp .Pow) (rI CPow fun i j=>.int (i ^ j.toNat)):=opI fun _ _ _ _ _ _ _ hc q=>pow_int_small hc.1 hc.2.1 hc.2.2 q
theorem unI {f:Value→Sem Value} {g:Int→Int}
    (rule:∀ (i:Int) (t:Tok) (s:Shared) (Q:Value→Shared→Prop) (E:Value→Shared→Prop),Q (.int (g i) s.toks) { s with toks:=s.toks+1 }→wpAny (model X.prog X.w) X.A (f (.int i t)) Q E s) :
    UnR X f (rU fun i=>.int (g i)):=by
  intro pins s σ H x v Q I rx h
  obtain ⟨i,rfl,q⟩:=h
  obtain ⟨t,rfl⟩:=rx
  exact rule i t s _ _ ⟨.int (g i),H,I.tok _,⟨_,rfl⟩,q⟩
theorem un_neg:UnR X (unaryOp .USub) (rU fun i=>.int (-i)):=unI fun _ _ _ _ _ q=>neg_int q
end
def scal:V→V→Bool
  | .non,.non=>true | .non,.int _=>true | .int _,.non=>true | .non,.bl _=>true | .bl _,.non=>true | .non,.str _=>true | .str _,.non=>true
  | .int _,.int _=>true | .bl _,.bl _=>true | .str _,.str _=>true | .byt _,.byt _=>true
  | .int _,.str _=>true | .str _,.int _=>true | .bl _,.str _=>true | .str _,.bl _=>true
  | _,_=>false
def rEq:R2:=fun x y H Q=>scal x y=true∧Q (.bl (decide (x=y))) H
def rNe:R2:=fun x y H Q=>scal x y=true∧Q (.bl (!decide (x=y))) H
theorem dec_int {i j:Int}:decide (V.int i=V.int j)=(i == j):=by
  rw [Bool.eq_iff_iff]
  simp
theorem dec_bl {i j:Bool}:decide (V.bl i=V.bl j)=(i == j):=by
  rw [Bool.eq_iff_iff]
  simp
theorem dec_str {i j:Str}:decide (V.str i=V.str j)=(i == j):=by
  rw [Bool.eq_iff_iff]
  simp
theorem dec_byt {i j:Array UInt8}:decide (V.byt i=V.byt j)=(i.toList == j.toList):=by
  rw [Bool.eq_iff_iff]
  cases i
  cases j
  simp
section
variable {X:Cx} {a b c:Expr} {ta tb tc:TE} {pos:Pos}
theorem fin_bl {pins:List (Addr×Obj)} {σ:St} {H:Hp} {s:Shared} {Q:VK} {k k':Bool} (I:Inv X pins σ H s) (q:Q (.bl k) H) (e:k=k'):EP X pins σ Q (.bool k') s:=by
  subst e
  exact ⟨.bl k,H,I,rfl,q⟩
theorem op_eq:OpR X (compareOp .Eq) rEq:=by
  intro pins s σ H x y v u Q I rx ry h
  obtain ⟨hs,q⟩:=h
  cases x with
  | non =>
    cases rx
    cases y with
    | non=>cases ry; exact PySem.EqNone.eq_none_none (fin_bl I q (by simp))
    | bl j=>cases ry; exact PySem.EqNone.eq_none_bool (fin_bl I q (by simp))
    | int j=>obtain ⟨t',rfl⟩:=ry; exact PySem.EqNone.eq_none_int (fin_bl I q (by simp))
    | str j=>obtain ⟨t',rfl⟩:=ry; exact PySem.EqNone.eq_none_str (fin_bl I q (by simp))
    | _=>exact absurd (show false=true from hs) Bool.false_ne_true
  | bl i =>
    cases rx
    cases y with
    | non=>cases ry; exact PySem.EqNone.eq_bool_none (fin_bl I q (by simp))
    | bl j=>cases ry; exact eq_bool (fin_bl I q dec_bl)
    | str j=>obtain ⟨t',rfl⟩:=ry; exact PySem.EqMixed.eq_bool_str (fin_bl I q (by simp))
    | _=>exact absurd (show false=true from hs) Bool.false_ne_true
  | int i =>
    obtain ⟨t,rfl⟩:=rx
    cases y with
    | non=>cases ry; exact PySem.EqNone.eq_int_none (fin_bl I q (by simp))
    | int j=>obtain ⟨t',rfl⟩:=ry; exact eq_int (fin_bl I q dec_int)
    | str j=>obtain ⟨t',rfl⟩:=ry; exact PySem.EqMixed.eq_int_str (fin_bl I q (by simp))
    | _=>exact absurd (show false=true from hs) Bool.false_ne_true
  | str i =>
    obtain ⟨t,rfl⟩:=rx
    cases y with
    | non=>cases ry; exact PySem.EqNone.eq_str_none (fin_bl I q (by simp))
    | bl j=>cases ry; exact PySem.EqMixed.eq_str_bool (fin_bl I q (by simp))
    | int j=>obtain ⟨t',rfl⟩:=ry; exact PySem.EqMixed.eq_str_int (fin_bl I q (by simp))
    | str j=>obtain ⟨t',rfl⟩:=ry; exact eq_str (fin_bl I q dec_str)
    | _=>exact absurd (show false=true from hs) Bool.false_ne_true
  | byt i =>
    obtain ⟨t,rfl⟩:=rx
    cases y with
    | byt j=>obtain ⟨t',rfl⟩:=ry; exact PySem.W.eq_bytes (fin_bl I q dec_byt)
    | _=>exact absurd (show false=true from hs) Bool.false_ne_true
  | _=>cases y <;> exact absurd (show false=true from hs) Bool.false_ne_true
theorem op_ne:OpR X (compareOp .NotEq) rNe:=by
  intro pins s σ H x y v u Q I rx ry h
  obtain ⟨hs,q⟩:=h
  cases x with
  | non =>
    cases rx
    cases y with
    | non=>cases ry; exact PySem.EqNone.ne_none_none (fin_bl I q (by simp))
    | bl j=>cases ry; exact PySem.EqNone.ne_none_bool (fin_bl I q (by simp))
    | int j=>obtain ⟨t',rfl⟩:=ry; exact PySem.EqNone.ne_none_int (fin_bl I q (by simp))
    | str j=>obtain ⟨t',rfl⟩:=ry; exact PySem.EqNone.ne_none_str (fin_bl I q (by simp))
    | _=>exact absurd (show false=true from hs) Bool.false_ne_true
  | bl i =>
    cases rx
    cases y with
    | non=>cases ry; exact PySem.EqNone.ne_bool_none (fin_bl I q (by simp))
    | bl j=>cases ry; exact ne_bool (fin_bl I q (congrArg not dec_bl))
    | str j=>obtain ⟨t',rfl⟩:=ry; exact PySem.EqMixed.ne_bool_str (fin_bl I q (by simp))
    | _=>exact absurd (show false=true from hs) Bool.false_ne_true
  | int i =>
    obtain ⟨t,rfl⟩:=rx
    cases y with
    | non=>cases ry; exact PySem.EqNone.ne_int_none (fin_bl I q (by simp))
    | int j=>obtain ⟨t',rfl⟩:=ry; exact ne_int (fin_bl I q (congrArg not dec_int))
    | str j=>obtain ⟨t',rfl⟩:=ry; exact PySem.EqMixed.ne_int_str (fin_bl I q (by simp))
    | _=>exact absurd (show false=true from hs) Bool.false_ne_true
  | str i =>
    obtain ⟨t,rfl⟩:=rx
    cases y with
    | non=>cases ry; exact PySem.EqNone.ne_str_none (fin_bl I q (by simp))
    | bl j=>cases ry; exact PySem.EqMixed.ne_str_bool (fin_bl I q (by simp))
    | int j=>obtain ⟨t',rfl⟩:=ry; exact PySem.EqMixed.ne_str_int (fin_bl I q (by simp))
    | str j=>obtain ⟨t',rfl⟩:=ry; exact ne_str (fin_bl I q (congrArg not dec_str))
    | _=>exact absurd (show false=true from hs) Bool.false_ne_true
  | byt i =>
    obtain ⟨t,rfl⟩:=rx
    cases y with
    | byt j=>obtain ⟨t',rfl⟩:=ry; exact PySem.W.ne_bytes (fin_bl I q (congrArg not dec_byt))
    | _=>exact absurd (show false=true from hs) Bool.false_ne_true
  | _=>cases y <;> exact absurd (show false=true from hs) Bool.false_ne_true
theorem op_lt:OpR X (compareOp .Lt) (rI0 fun i j=>.bl (decide (i<j))):=opB0 fun _ _ _ _ _ _ _ q=>lt_int q
theorem op_le:OpR X (compareOp .LtE) (rI0 fun i j=>.bl (decide (i≤j))):=opB0 fun _ _ _ _ _ _ _ q=>le_int q
theorem op_gt:OpR X (compareOp .Gt) (rI0 fun i j=>.bl (decide (j<i))):=opB0 fun _ _ _ _ _ _ _ q=>gt_int q
theorem op_ge:OpR X (compareOp .GtE) (rI0 fun i j=>.bl (decide (j≤i))):=opB0 fun _ _ _ _ _ _ _ q=>ge_int q
theorem nomark (b:Expr) {op:CmpOp} (h:op≠.In:=by decide) (h2:op≠.NotIn:=by decide):behindInMarks op b=false:=by
  have e1:(op == CmpOp.In)=false:=by cases op <;> first | rfl | exact absurd rfl h
  have e2:(op == CmpOp.NotIn)=false:=by cases op <;> first | rfl | exact absurd rfl h2
  cases b <;> simp [behindInMarks,e1,e2]
theorem pe_cmpR {op:CmpOp} {r:R2} (ho:OpR X (compareOp op) r) (ha:PE X a ta) (hb:PE X b tb) (hm:behindInMarks op b=false):PE X (.Compare a [op] [b] pos) (tOp r ta tb):=by
  intro pins s σ H Q I h
  exact wpAny_Compare1 (binT ha hb I h fun v u s2 x y H2 I2 rx ry q=>ho pins s2 σ H2 x y v u Q I2 rx ry q) hm
def tTest (t:TE):TT:=fun σ H Q=>t σ H fun x H'=>∃ k,x=.bl k∧Q k H'
theorem pt_cmpR {op:CmpOp} {r:R2} (ho:OpR X (compareOp op) r) (ha:PE X a ta) (hb:PE X b tb) (hm:behindInMarks op b=false):PT X (.Compare a [op] [b] pos) (tTest (tOp r ta tb)):=by
  intro pins s σ H Q I h
  refine wpAny_isTrue_Compare1 (thE (ha pins s σ H _ I h) fun v s1 x H1 I1 r1 q1=>thE (hb pins s1 σ H1 _ I1 q1) fun u s2 y H2 I2 r2 q2 =>
    thn (ho pins s2 σ H2 x y v u _ I2 r1 r2 q2) fun c s3 ⟨z,H3,I3,r3,k,e,q3⟩=>?_) hm
  subst e
  cases r3
  exact wpAny_truthy_bool ⟨H3,I3,q3⟩
def tChain (r r':R2) (ta tb tc:TE):TE:=fun σ H Q=>ta σ H fun x H1=>tb σ H1 fun y H2=>r x y H2 fun z H3=>∃ k,z=.bl k ∧
  (if k=true then tc σ H3 fun w' H4=>r' y w' H4 Q else Q (.bl false) H3)
theorem pt_chain {op op':CmpOp} {r r':R2} (ho:OpR X (compareOp op) r) (ho':OpR X (compareOp op') r') (ha:PE X a ta) (hb:PE X b tb) (hc:PE X c tc)
    (hm:lastMarks [op,op'] [b,c]=false:=by with_unfolding_all rfl):PT X (.Compare a [op,op'] [b,c] pos) (tTest (tChain r r' ta tb tc)):=by
  intro pins s σ H Q I h
  refine isTrue_chain (thE (ha pins s σ H _ I h) fun v s1 x H1 I1 r1 q1=>test_link (thE (hb pins s1 σ H1 _ I1 q1) fun u s2 y H2 I2 r2 q2 =>
    thn (ho pins s2 σ H2 x y v u _ I2 r1 r2 q2) fun d s3 ⟨z,H3,I3,r3,k,e,q3⟩=>?_)) hm
  subst e
  cases r3
  refine wpAny_truthy_bool ?_
  cases k with
  | false =>
    obtain ⟨k',e',q'⟩:=q3
    cases e'
    exact ite_ff ⟨H3,I3,q'⟩
  | true =>
    refine ite_tt (test_last (thE (hc pins s3 σ H3 _ I3 q3) fun w' s4 z' H4 I4 r4 q4=>thn (ho' pins s4 σ H4 y z' u w' _ I4 r2 r4 q4) fun d' s5 ⟨z2,H5,I5,r5,k2,e2,q5⟩=>?_))
    subst e2
    cases r5
    exact wpAny_truthy_bool ⟨H5,I5,q5⟩
theorem line63:(sizeLine:Nat)<2 ^ 63:=by rw [sizeLine_eq]; decide
theorem vals1 {x:V} {us:List Value} (r:Vals [x] us):∃ u,us=[u]∧RelV x u:=by
  cases r with
  | cons r1 r2=>cases r2; exact ⟨_,rfl,r1⟩
theorem vals2 {x y:V} {us:List Value} (r:Vals [x,y] us):∃ u w',us=[u,w']∧RelV x u∧RelV y w':=by
  cases r with
  | cons r1 r2 =>
    cases r2 with
    | cons r3 r4=>cases r4; exact ⟨_,_,rfl,r1,r3⟩
theorem call_abs:CallR X (.builtin "abs") (fun xs H Q=>∃ i,xs=[.int i]∧Q (.int (if i<0 then -i else i)) H):=by
  intro pins s σ H xs us Q I r h
  obtain ⟨i,rfl,q⟩:=h
  obtain ⟨u,rfl,t,rfl⟩:=vals1 r
  exact call_abs_int fun u tk=>⟨.int (if i<0 then -i else i),H,I.tok _,⟨_,rfl⟩,q⟩
theorem call_max2 (hc:X.calm=true):CallR X (.builtin "max") (fun xs H Q=>∃ i j,xs=[.int i,.int j]∧Q (.int (if j > i then j else i)) H):=by
  intro pins s σ H xs us Q I r h
  obtain ⟨i,j,rfl,q⟩:=h
  obtain ⟨u,w',rfl,⟨t,rfl⟩,⟨t',rfl⟩⟩:=vals2 r
  refine max_two_ints (I.ok.hd hc) fun h' tk k=>⟨_,H,I.kept k,?_,q⟩
  by_cases hj:j > i
  · rw [if_pos hj,if_pos hj]; exact ⟨_,rfl⟩
  · rw [if_neg hj,if_neg hj]; exact ⟨_,rfl⟩
theorem call_min2 (hc:X.calm=true):CallR X (.builtin "min") (fun xs H Q=>∃ i j,xs=[.int i,.int j]∧Q (.int (if j<i then j else i)) H):=by
  intro pins s σ H xs us Q I r h
  obtain ⟨i,j,rfl,q⟩:=h
  obtain ⟨u,w',rfl,⟨t,rfl⟩,⟨t',rfl⟩⟩:=vals2 r
  refine min_two_ints (I.ok.hd hc) fun h' tk k=>⟨_,H,I.kept k,?_,q⟩
  by_cases hj:j<i
  · rw [if_pos hj,if_pos hj]; exact ⟨_,rfl⟩
  · rw [if_neg hj,if_neg hj]; exact ⟨_,rfl⟩
theorem call_int1:CallR X (.type "int") (fun xs H Q=>(∃ i,xs=[.int i]∧Q (.int i) H)∨∃ k,xs=[.bl k]∧Q (.int (if k then 1 else 0)) H):=by
  intro pins s σ H xs us Q I r h
  rcases h with ⟨i,rfl,q⟩ | ⟨k,rfl,q⟩
  · obtain ⟨u,rfl,t,rfl⟩:=vals1 r
    exact call_int_int ⟨.int i,H,I,⟨_,rfl⟩,q⟩
  · obtain ⟨u,rfl,r1⟩:=vals1 r
    cases r1
    exact call_int_bool ⟨.int (if k then 1 else 0),H,I.tok _,⟨_,rfl⟩,q⟩
theorem call_divmod:CallR X (.builtin "divmod") (fun xs H Q=>∃ i j,xs=[.int i,.int j]∧CDiv i j∧∀ p,H p=none→Q (.ref p) (upd H p (.tup [.int (i / j),.int (i % j)]))):=by
  intro pins s σ H xs us Q I r h
  obtain ⟨i,j,rfl,⟨h1,h2⟩,q⟩:=h
  obtain ⟨u,w',rfl,⟨t,rfl⟩,⟨t',rfl⟩⟩:=vals2 r
  refine divmod_int (by lia) ?_ (.inl (PyProof.noPylong_small (by lia)))
  rw [Int.fdiv_eq_ediv_of_nonneg i (by lia),Int.fmod_eq_emod_of_nonneg i (by lia)]
  have hn:H s.heap.objs.size=none:=I.hok.fresh (Nat.le_refl _)
  refine ⟨.ref s.heap.objs.size,_,?_,rfl,q _ hn⟩
  refine I.laid (fun b o e=>Heap.get?_push_of_some _ e) (Nat.le_refl _) ⟨by simp only [List.length_cons,List.length_nil]; rw [sizeLine_eq]; decide,[.int (i / j) s.toks,.int (i % j) (s.toks+1)],.cons ⟨_,rfl⟩ (.cons ⟨_,rfl⟩ .nil),?_⟩
  exact ⟨_,Heap.get?_push_size s.heap rfl,rfl,0,rfl⟩
end
end L2
namespace L2
open PySem PySem.Spec PyProof.Rows
structure ObjM (h:Heap) (x dx C:Addr) (mA:Str→Option Value):Prop where
  obj:h.get? x=some (PySem.W.instObj C dx)
  ns:h.Ns1 dx mA
  ne:dx≠x
theorem lookIn_ns {h:Heap} {dx:Addr} {mA:Str→Option Value} (n:h.Ns1 dx mA):∃ od,h.get? dx=some od∧∀ name,PySem.W.lookIn name od=some (mA name):=by
  obtain ⟨o,es,ep,ho,hd,hk,_,hm⟩:=n
  refine ⟨o,ho,fun name=>?_⟩
  have e:=hm name
  unfold nsFind findBy at e
  rw [← Array.find?_toList] at e
  unfold PySem.W.lookIn
  rw [hd]
  dsimp only
  split
  · rename_i y q
    rw [q] at e
    exact congrArg some e
  · rename_i q
    rw [q] at e
    have a:es.toList.any (·.refKey)=false:=by
      rw [List.any_eq_false]
      intro y hy
      obtain ⟨z,t,hkey⟩:=hk y (Array.mem_toList_iff.mp hy)
      simp [DictEntry.refKey,hkey]
    have a':¬ es.toList.any (·.refKey)=true:=by rw [a]; exact Bool.false_ne_true
    rw [if_neg a']
    exact congrArg some e
theorem ObjM.look {h:Heap} {x dx C:Addr} {mA:Str→Option Value} (I:ObjM h x dx C mA):∃ od,PySem.W.InstAt h x (PySem.W.instObj C dx) C (some od)∧∀ name,PySem.W.lookIn name od=some (mA name) :=
  let ⟨od,ho,hl⟩:=lookIn_ns I.ns
  ⟨od,⟨I.obj,rfl,rfl,ho⟩,hl⟩
section
variable {prog:Program} {w:World} {A:Around} {E:Value→Shared→Prop} {s:Shared} {K:PySem.W.Frag} {x dx C f:Addr} {mA:Str→Option Value} {name:Str} {v:Value}
theorem get_map {expr:Bool} {Q:Value→Shared→Prop} (X:K.In s.heap) (I:ObjM s.heap x dx C mA) (hg:PySem.W.plainGet K C name=true) (hh:PySem.W.hasDictIn K C=true)
    (ha:PySem.W.findIn K (.ref C) name=some none) (hv:mA name=some v) (hv':PySem.W.handedIn v=true) (h:Q v { s with toks:=s.toks+1 }) :
    wpAny (model prog w) A (getAttr (.ref x) name expr) Q E s:=by
  obtain ⟨od,J,hl⟩:=I.look
  exact PySem.W.get_value X J (PySem.W.plainGet_of hg).1 (PySem.W.findObj_own hh ha rfl (by rw [hl,hv])) hv' h
theorem get_meth {pl:Sem Bool} {Q:Value×List Value→Shared→Prop} (X:K.In s.heap) (I:ObjM s.heap x dx C mA) (hg:PySem.W.plainGet K C name=true)
    (hf:PySem.W.findIn K (.ref C) name=some (some (.ref f))) (ht:PySem.W.isFn K (.ref f)=true) (hv:mA name=none) (h:Q (.ref f,[.ref x]) s) :
    wpAny (model prog w) A (getMethod (.ref x) name pl) Q E s:=by
  obtain ⟨od,J,hl⟩:=I.look
  exact PySem.W.method_fn X J (PySem.W.plainGet_of hg).1 (PySem.W.plainGet_of hg).2 hf (beq_iff_eq.mp ht) (by show (PySem.W.lookIn name od).map (·.isSome)=some false; rw [hl,hv]; rfl) h
theorem set_map {ns:List Str} {Q:Unit→Shared→Prop} (X:K.In s.heap) (I:ObjM s.heap x dx C mA)
    (hs:PySem.W.findIn K (.ref C) "__setattr__" = some (some (.builtin "object.__setattr__"))) (hp:PySem.W.plainOver K C=true) (ht:PySem.W.takerIn K C name=some none) (hh:PySem.W.hasDictIn K C=true)
    (hw:PySem.Within mA ns) (hsz:ns.length≤sizeLine)
    (h:∀ h',ObjM h' x dx C (fun y=>if y=name then some v else mA y)→Heap.SameBut dx s.heap h'→Q () { s with heap:=h',toks:=s.toks+2 }) :
    wpAny (model prog w) A (setAttr (.ref x) name v) Q E s:=by
  obtain ⟨od,J,hl⟩:=I.look
  refine PySem.W.set_plain X J hs (PySem.W.osa_open (s:={ s with toks:=s.toks+1 }) (r:=none) X J hp ht fun b=>?_)
  obtain ⟨cd,hc,hd'⟩:=PySem.W.any_some hh
  have hx:s.heap.get? x=some ⟨.ref C,some dx,.plain,#[]⟩:=I.obj
  refine wpAny_bind (wpAny_pure (wpAny_bind (wpAny_bind (wpAny_loadPart hx (wpAny_bind (PySem.W.Looks.here (s:={ s with toks:=s.toks+1 }) (PySem.W.looks_clsIn X hc) ?_))))))
  rw [hd']
  refine wpAny_pure (a:=some dx) (wpAny_bind (wpAny_pure (wpAny_bind ?_)))
  refine wpAny_nsSet1 (s:={ s with toks:=s.toks+1 }) I.ns fun h' hn2 hs2=>?_
  obtain ⟨oD,esD,epD,hoD,hdD,hcD⟩:=hn2.count (PySem.Within.cons name v hw)
  refine wpAny_bind (wpAny_lookBehind hoD (by rw [hdD]; exact pastItsLine_dict (Nat.le_trans hcD (by rw [List.length_cons]; lia))) ?_)
  exact wpAny_pure (h _ ⟨(hs2.2 _ (Ne.symm I.ne)).trans I.obj,hn2,I.ne⟩ hs2)
theorem make_map {R:Result→Shared→Prop} {vs:List Value} {kw:List (Str×Value)} (X:K.In s.heap) (hm:PySem.W.makesIn K C=true)
    (hi:PySem.W.findIn K (.ref C) "__init__" = some (some (.ref f))) (hf:PySem.W.typeIn K (.ref f)=some (.type "function"))
    (h:codeAny (model prog w) (A.under (.builtin "type.__call__" ⟨.ref C :: vs,kw⟩)) (.call (.ref f) ⟨.ref (s.heap.objs.size+1) :: vs,kw⟩) (PySem.W.InitBack (s.heap.objs.size+1) R)
      { s with heap:=(s.heap.push PySem.W.emptyDict).push (PySem.W.instObj C s.heap.objs.size) }) :
    codeAny (model prog w) A (.call (.ref C) ⟨vs,kw⟩) R s:=by
  obtain ⟨hh,g,d,t,os⟩:=s
  exact PySem.W.make_core (PySem.W.makes_of X hm) (PySem.W.looks_findIn X hi) (fun self=>PySem.W.bind_fn X self hf) (.inl rfl) h
end
def putF (f:Str) (v:V):List (Str×V)→List (Str×V)
  | []=>[(f,v)]
  | (g,x) :: r=>if g=f then (g,v) :: r else (g,x) :: putF f v r
theorem lookup_putF (f g:Str) (v:V):∀ fs:List (Str×V),(putF f v fs).lookup g=if g=f then some v else fs.lookup g
  | []=>by
    show List.lookup g [(f,v)]=_
    by_cases h:g=f
    · have hb:(g == f)=true:=beq_iff_eq.mpr h
      simp only [List.lookup,hb,if_pos h]
    · have hb:(g == f)=false:=beq_eq_false_iff_ne.mpr h
      simp only [List.lookup,hb,if_neg h]
  | (k,x) :: r=>by
    have ih:=lookup_putF f g v r
    rw [show putF f v ((k,x) :: r)=(if k=f then (k,v) :: r else (k,x) :: putF f v r) from rfl]
    by_cases hk:k=f
    · rw [if_pos hk]
      by_cases h:g=k
      · have hb:(g == k)=true:=beq_iff_eq.mpr h
        simp only [List.lookup,hb,if_pos (h.trans hk)]
      · have hb:(g == k)=false:=beq_eq_false_iff_ne.mpr h
        simp only [List.lookup,hb,if_neg (fun e:g=f=>h (e.trans hk.symm))]
    · rw [if_neg hk]
      by_cases h:g=k
      · have hb:(g == k)=true:=beq_iff_eq.mpr h
        simp only [List.lookup,hb,if_neg (fun e:g=f=>hk (h.symm.trans e))]
      · have hb:(g == k)=false:=beq_eq_false_iff_ne.mpr h
        simp only [List.lookup,hb]
        exact ih
theorem keys_putF (f:Str) (v:V):∀ fs:List (Str×V),f∈(putF f v fs).map (·.1)∧∀ g,g∈fs.map (·.1)→g∈(putF f v fs).map (·.1)
  | []=>⟨by simp [putF],fun g h=>by simp at h⟩
  | (k,x) :: r=>by
    obtain ⟨i1,i2⟩:=keys_putF f v r
    rw [show putF f v ((k,x) :: r)=(if k=f then (k,v) :: r else (k,x) :: putF f v r) from rfl]
    by_cases hk:k=f
    · rw [if_pos hk]
      subst hk
      exact ⟨by simp,fun g h=>by simpa using h⟩
    · rw [if_neg hk]
      refine ⟨?_,fun g h=>?_⟩
      · rw [List.map_cons]
        exact List.mem_cons_of_mem _ i1
      · rw [List.map_cons] at h ⊢
        rcases List.mem_cons.mp h with e | e
        · exact List.mem_cons.mpr (.inl e)
        · exact List.mem_cons_of_mem _ (i2 g e)
theorem length_putF (f:Str) (v:V):∀ fs:List (Str×V),(putF f v fs).length≤fs.length+1
  | []=>by simp [putF]
  | (k,x) :: r=>by
    have ih:=length_putF f v r
    rw [show putF f v ((k,x) :: r)=(if k=f then (k,v) :: r else (k,x) :: putF f v r) from rfl]
    by_cases hk:k=f
    · rw [if_pos hk,List.length_cons,List.length_cons]; lia
    · rw [if_neg hk,List.length_cons,List.length_cons]; lia
theorem RelO.some_of {v:V} {o:Option Value} (r:RelO (some v) o):∃ u,o=some u∧RelV v u:=by
  cases o with
  | none=>exact (show False from r).elim
  | some u=>exact ⟨u,rfl,r⟩
theorem RelO.none_of {o:Option Value} (r:RelO none o):o=none:=by
  cases o with
  | none=>rfl
  | some u=>exact (show False from r).elim
theorem handed_of {v:V} {u:Value} (r:RelV v u):PySem.W.handedIn u=true:=by
  cases v with
  | non=>cases (show u=Value.none from r); rfl
  | bl b=>cases (show u=Value.bool b from r); rfl
  | int i=>obtain ⟨t,e⟩:=(show ∃ t,u=Value.int i t from r); cases e; rfl
  | str x=>obtain ⟨t,e⟩:=(show ∃ t,u=Value.str x t from r); cases e; rfl
  | byt b=>obtain ⟨t,e⟩:=(show ∃ t,u=Value.bytes b t from r); cases e; rfl
  | flt b=>obtain ⟨t,e⟩:=(show ∃ t,u=Value.float b t from r); cases e; rfl
  | ref a=>cases (show u=Value.ref a from r); rfl
  | ty n=>cases (show u=Value.type n from r); rfl
section
variable {P:Program} {w:World} {H H':Hp} {h h':Heap} {a C dx:Addr} {fs fs':List (Str×V)}
theorem ins_get (hok:HOk P w H h) (e:H a=some (.ins C dx fs)):∃ mA,ObjM h a dx C mA∧(∀ f,RelO (fs.lookup f) (mA f))∧PySem.Within mA (fs.map (·.1))∧fs.length≤1000∧H dx=some (.own a):=by
  obtain ⟨d,z,ne,ob,mA,n,r,q⟩:=(show ObjOk P w H h a (.ins C dx fs) from hok a _ e)
  exact ⟨mA,⟨ob,n,ne⟩,r,q,z,d⟩
end
structure Cls (K:PySem.W.Frag) (C:Addr):Prop where
  pg:PySem.W.plainGet K C Str.empty=true
  hd:PySem.W.hasDictIn K C=true
  po:PySem.W.plainOver K C=true
  sa:PySem.W.findIn K (.ref C) "__setattr__" = some (some (.builtin "object.__setattr__"))
theorem Cls.get {K:PySem.W.Frag} {C:Addr} (c:Cls K C) (f:Str):PySem.W.plainGet K C f=true:=c.pg
def NoAttr (K:PySem.W.Frag) (C:Addr) (f:Str):Prop:=PySem.W.findIn K (.ref C) f=some none
theorem NoAttr.taker {K:PySem.W.Frag} {C:Addr} {f:Str} (n:NoAttr K C f):PySem.W.takerIn K C f=some none:=by
  unfold PySem.W.takerIn
  rw [show PySem.W.findIn K (.ref C) f=some none from n]
  rfl
structure Meth (K:PySem.W.Frag) (C:Addr) (m:Str) (f:Addr):Prop where
  at_:PySem.W.findIn K (.ref C) m=some (some (.ref f))
  fn:PySem.W.isFn K (.ref f)=true
  kp:PySem.W.keepIn K (.ref f)=true
section
variable {X:Cx} {pins:List (Addr×Obj)} {σ:St} {H:Hp} {s:Shared} {a C dx:Addr} {fs:List (Str×V)} {f:Str} {v:V} {A:Around} {E:Value→Shared→Prop}
theorem getattr_ok {b:Bool} {Q:Value→Shared→Prop} (I:Inv X pins σ H s) (e:H a=some (.ins C dx fs)) (c:Cls X.K C) (n:NoAttr X.K C f) (l:fs.lookup f=some v)
    (h:∀ u s',Inv X pins σ H s'→RelV v u→Q u s'):wpAny (model X.prog X.w) A (getAttr (.ref a) f b) Q E s:=by
  obtain ⟨mA,O,r,_,_,_⟩:=ins_get I.hok e
  obtain ⟨u,hu,ru⟩:=RelO.some_of (v:=v) (o:=mA f) (by rw [← l]; exact r f)
  exact get_map I.kIn O (c.get f) c.hd n hu (handed_of ru) (h u _ (I.tok _) ru)
theorem getmeth_ok {m:Str} {g:Addr} {pl:Sem Bool} {Q:Value×List Value→Shared→Prop} (I:Inv X pins σ H s) (e:H a=some (.ins C dx fs)) (c:Cls X.K C) (k:Meth X.K C m g) (l:fs.lookup m=none)
    (h:Q (.ref g,[.ref a]) s):wpAny (model X.prog X.w) A (getMethod (.ref a) m pl) Q E s:=by
  obtain ⟨mA,O,r,_,_,_⟩:=ins_get I.hok e
  have hn:mA m=none:=RelO.none_of (by rw [← l]; exact r m)
  exact get_meth I.kIn O (c.get m) k.at_ k.fn hn h
theorem setattr_ok {y:V} {u:Value} {Q:Unit→Shared→Prop} (I:Inv X pins σ H s) (e:H a=some (.ins C dx fs)) (c:Cls X.K C) (n:NoAttr X.K C f) (hl:fs.length<1000) (ry:RelV y u)
    (h:∀ s',Inv X pins σ (upd H a (.ins C dx (putF f y fs))) s'→Q () s'):wpAny (model X.prog X.w) A (setAttr (.ref a) f u) Q E s:=by
  obtain ⟨mA,O,r,wi,_,ho⟩:=ins_get I.hok e
  have hz:(fs.map (·.1)).length≤sizeLine:=by rw [List.length_map,sizeLine_eq]; lia
  refine set_map I.kIn O c.sa c.po n.taker c.hd wi hz fun h' O' sb=>h _ ?_
  have hd:∃ o,h'.get? dx=some o:=let ⟨o,_,_,e',_⟩:=O'.ns; ⟨o,e'⟩
  refine I.write (x:=a) (e:=dx) (by rw [e]; exact True.intro) (.inr ho) (fun b q hb z=>(sb.2 b hb).trans z) hd ?_
  refine ⟨by rw [upd_ne O.ne]; exact ho,?_,O.ne,O'.obj,_,O'.ns,fun g=>?_,fun g hg=>?_⟩
  · have:=length_putF f y fs; lia
  · show RelO ((putF f y fs).lookup g) (if g=f then some u else mA g)
    rw [lookup_putF]
    by_cases q:g=f
    · rw [if_pos q,if_pos q]; exact ry
    · rw [if_neg q,if_neg q]; exact r g
  · by_cases q:g=f
    · rw [q]; exact (keys_putF f y fs).1
    · refine (keys_putF f y fs).2 g (wi g fun z=>hg ?_)
      show (if g=f then some u else mA g)=none
      rw [if_neg q]; exact z
theorem Inv.made (I:Inv X pins σ H s):Inv X pins σ (upd (upd H s.heap.objs.size (.own (s.heap.objs.size+1))) (s.heap.objs.size+1) (.ins C s.heap.objs.size []))
    { s with heap:=(s.heap.push PySem.W.emptyDict).push (PySem.W.instObj C s.heap.objs.size) }:=by
  have e1:(s.heap.push PySem.W.emptyDict).get? s.heap.objs.size=some PySem.W.emptyDict:=Heap.get?_push_size s.heap rfl
  have e2:((s.heap.push PySem.W.emptyDict).push (PySem.W.instObj C s.heap.objs.size)).get? (s.heap.objs.size+1)=some (PySem.W.instObj C s.heap.objs.size):=by
    have:=Heap.get?_push_size (s.heap.push PySem.W.emptyDict) (o:=PySem.W.instObj C s.heap.objs.size) rfl
    rwa [Heap.size_push] at this
  have e3:(s.heap.push PySem.W.emptyDict).Ns s.heap.objs.size (fun _=>none):=⟨PySem.W.emptyDict,#[],_,e1,rfl,(fun e he=>absurd he (by simp)),fun _=>rfl⟩
  have I1:=I.laid (a:=s.heap.objs.size) (o:=.own (s.heap.objs.size+1)) (h':=s.heap.push PySem.W.emptyDict) (t':=s.toks) (fun b u q=>Heap.get?_push_of_some _ q) (Nat.le_refl _) ⟨_,e1⟩
  refine I1.laid (a:=s.heap.objs.size+1) (o:=.ins C s.heap.objs.size []) (t':=s.toks) (fun b u q=>Heap.get?_push_of_some _ q) (Nat.le_of_eq (Heap.size_push _ _)) ?_
  have ne:s.heap.objs.size≠s.heap.objs.size+1:=Nat.ne_of_lt (Nat.lt_succ_self _)
  refine ⟨by rw [upd_ne ne,upd_same],Nat.zero_le _,ne,e2,fun _=>none,(Heap.Ns1.of_empty e3).at fun o q=>Heap.get?_push_of_some _ q,fun _=>True.intro,fun y hy=>absurd rfl hy⟩
theorem attr_of {prog:Program} {w:World} {env:Env} {e:Expr} {f:Str} {pos:Pos} {s:Shared} {Q:Value→Shared→Prop} (hb:attributeBase e f env (eval e env)=eval e env)
    (h:wpAny (model prog w) A (eval e env) (fun o s₁=>wpAny (model prog w) A (getAttr o f true) Q E s₁) E s):wpAny (model prog w) A (eval (.Attribute e f pos) env) Q E s :=
  Attribute_any_ h (by rw [arm_eval_Attribute,hb])
end
def tFld (K:PySem.W.Frag) (ta:TE) (f:Str):TE:=fun σ H Q=>ta σ H fun x H1=>∃ a C dx fs v,x=.ref a∧H1 a=some (.ins C dx fs)∧Cls K C∧NoAttr K C f∧fs.lookup f=some v∧Q v H1
def sFld (K:PySem.W.Frag) (ta tv:TE) (f:Str):TS:=fun D σ H=>tv σ H fun y H1=>ta σ H1 fun x H2=>∃ a C dx fs,x=.ref a∧H2 a=some (.ins C dx fs)∧Cls K C∧NoAttr K C f∧fs.length<1000 ∧
  D.nx σ (upd H2 a (.ins C dx (putF f y fs)))
def InOp (X:Cx) (op:Operator) (rd:V→V→Hp→VK→Prop):Prop :=
  ∀ (pins:List (Addr×Obj)) (s:Shared) (σ:St) (H:Hp) (x y:V) (u v:Value) (Q:VK),Inv X pins σ H s→RelV x u→RelV y v→rd x y H Q→wpAny (model X.prog X.w) X.A (inplaceOp op u v) (EP X pins σ Q) X.xe s
section
variable {X:Cx} {o e value:Expr} {f:Str} {pos pos' tpos:Pos} {ta tv:TE}
theorem pe_fld (he:PE X e ta) (hb:attributeBase e f X.env (eval e X.env)=eval e X.env):PE X (.Attribute e f pos) (tFld X.K ta f):=by
  intro pins s σ H Q I h
  refine attr_of hb (thn (he pins s σ H _ I h) fun u s1 ⟨x,H1,I1,rx,a,C,dx,fs,v,ex,ea,c,n,l,q⟩=>?_)
  subst ex
  obtain rfl:u=Value.ref a:=rx
  exact getattr_ok I1 ea c n l fun u' s2 I2 ru=>⟨v,H1,I2,ru,q⟩
theorem ps_fld (ha:PE X o ta) (hv:PE X value tv) (hs:swapsWith value (some (.Attribute o f pos')) pos.line X.env=pure false):PS X (.Assign [.Attribute o f pos'] value pos) (sFld X.K ta tv f):=by
  intro pins s σ H D I h
  refine plainObj_wpAny_Assign_Attribute (thE (hv pins s σ H _ I h) fun u s1 y H1 I1 ry q=>thn (ha pins s1 σ H1 _ I1 q) fun ov s2 ⟨x,H2,I2,rx,a,C,dx,fs,ex,ea,c,n,l,q2⟩=>?_) hs
  subst ex
  obtain rfl:ov=Value.ref a:=rx
  exact setattr_ok I2 ea c n l ry fun s3 I3=>⟨σ,_,I3,q2⟩
def rAdd:V→V→Hp→VK→Prop:=fun x y H Q=>∃ i j,x=.int i∧y=.int j∧Q (.int (i+j)) H
theorem in_add:InOp X .Add rAdd:=by
  rintro pins s σ H x y u v Q I rx ry ⟨i,j,rfl,rfl,q⟩
  obtain ⟨t,rfl⟩:=(show ∃ t,u=Value.int i t from rx)
  obtain ⟨t',rfl⟩:=(show ∃ t',v=Value.int j t' from ry)
  exact PyProof.Rows.iadd_int ⟨.int (i+j),H,I.tok _,⟨_,rfl⟩,q⟩
end
end L2
namespace L2
open PySem PySem.Spec PyProof.Rows
structure Room (k:Nat) (A:Around):Prop where
  hd:A.handled=none
  dp:A.depth+3 * k+5<recursionLimit
  un:A.units+16 * k+200<cLine
  gd:A.guards=some []
theorem Room.mono {j k:Nat} {A:Around} (r:Room k A) (h:j≤k):Room j A:=⟨r.hd,by have:=r.dp; lia,by have:=r.un; lia,r.gd⟩
theorem Room.deeper {k:Nat} {A:Around} (r:Room (k+1) A) (env:Env):Room k (A.deeper env) :=
  ⟨r.hd,by have:=r.dp; show A.depth+1+3 * k+5<_; lia,by have:=r.un; show A.units+3+16 * k+200<_; lia,r.gd⟩
theorem make_depth {A:Around} {C:Addr} {us:List Value} {kw:List (Str×Value)}:(A.under (.builtin "type.__call__" ⟨.ref C :: us,kw⟩)).depth=A.depth+1:=by
  first | rfl | simp [Around.under,Code.weight,Code.isCreation,Code.isGuard,Code.isCaller,Code.frames,Code.isFrame,guardIds]
theorem make_units {A:Around} {C:Addr} {us:List Value} {kw:List (Str×Value)}:(A.under (.builtin "type.__call__" ⟨.ref C :: us,kw⟩)).units=A.units+1:=by
  first | rfl | simp [Around.under,Code.cUnits,Code.frames,Code.isFrame]
theorem Room.make {k:Nat} {A:Around} (r:Room (k+1) A) (C:Addr) (us:List Value) (kw:List (Str×Value)):Room k (A.under (.builtin "type.__call__" ⟨.ref C :: us,kw⟩)) :=
  ⟨r.hd,by have:=r.dp; rw [make_depth]; lia,by have:=r.un; rw [make_units]; lia,r.gd⟩
theorem Room.depth {k:Nat} {A:Around} (r:Room k A):A.depth<recursionLimit:=by have:=r.dp; lia
theorem Room.units {k:Nat} {A:Around} (r:Room k A):A.units+64<cLine:=by have:=r.un; lia
def tNil:TA:=fun _ H Q=>Q [] H
def tCons (ta:TE) (tr:TA):TA:=fun σ H Q=>ta σ H fun x H1=>tr σ H1 fun xs H2=>Q (x :: xs) H2
section
variable {X:Cx} {e:Expr} {es:List Expr} {te:TE} {t:TA} {pos:Pos}
theorem pa_nil:PA X [] tNil:=fun _ _ _ _ H Q I h=>Calls.spliced_nil ⟨[],H,I,.nil,h⟩
theorem pa_cons (ha:PE X e te) (hr:PA X es t) (hs:starEach (e :: es) X.env=(false,eval e X.env) :: starEach es X.env:=by rfl):PA X (e :: es) (tCons te t):=by
  intro pos pins s σ H Q I h
  rw [hs]
  show wpAny _ _ (spliced ((false,eval e X.env) :: backTo pos (starEach es X.env))) _ _ s
  refine Calls.spliced_cons (thE (ha pins s σ H _ I h) fun u s1 x H1 I1 r1 q1=>?_)
  exact thA (hr pos pins s1 σ H1 _ I1 q1) fun us s2 xs H2 I2 r2 q2=>⟨x :: xs,H2,I2,.cons r1 r2,q2⟩
def tTup (t:TA):TE:=fun σ H Q=>t σ H fun xs H1=>xs.length≤sizeLine∧∀ p,H1 p=none→Q (.ref p) (upd H1 p (.tup xs))
def tLst (t:TA):TE:=fun σ H Q=>t σ H fun xs H1=>xs.length≤sizeLine∧∀ p,H1 p=none→Q (.ref p) (upd H1 p (.lst xs))
theorem pe_tup {x1} (h:PA X es t):PE X (.Tuple es x1 pos) (tTup t):=by
  intro pins s σ H Q I hq
  refine wpAny_Tuple_spliced (thn (h pos pins s σ H _ I hq) fun us s1 ⟨xs,H1,I1,r,z,q⟩=>⟨by rw [← r.length]; exact z,?_⟩)
  have hf:H1 s1.heap.objs.size=none:=I1.hok.fresh (Nat.le_refl _)
  refine ⟨.ref s1.heap.objs.size,upd H1 s1.heap.objs.size (.tup xs),I1.laid (t':=s1.toks) (fun b u e=>Heap.get?_push_of_some _ e) (Nat.le_refl _) ?_,rfl,q _ hf⟩
  exact ⟨z,us,r,⟨_,Heap.get?_push_size _ rfl,rfl,_,rfl⟩⟩
theorem pe_lst (h:PA X es t):PE X (.List es pos) (tLst t):=by
  intro pins s σ H Q I hq
  refine wpAny_List_spliced (thn (h pos pins s σ H _ I hq) fun us s1 ⟨xs,H1,I1,r,z,q⟩=>⟨by rw [← r.length]; exact z,?_⟩)
  have hf:H1 s1.heap.objs.size=none:=I1.hok.fresh (Nat.le_refl _)
  refine ⟨.ref s1.heap.objs.size,upd H1 s1.heap.objs.size (.lst xs),I1.laid (t':=s1.toks) (fun b u e=>Heap.get?_push_of_some _ e) (Nat.le_refl _) ?_,rfl,q _ hf⟩
  exact ⟨z,us,0,r,Heap.get?_push_size _ rfl⟩
end
abbrev Sp:=List V→Hp→VK→XK→Prop
abbrev CXT:=List Env→Hp→Shared→XK→Value→Shared→Prop
structure Env0 (P:Program) (w:World) (K:PySem.W.Frag) (mg:Str→Option Value) (base:Heap) (A:Around) (outer:List Env) (s:Shared) (H:Hp):Prop where
  frames:A.frames=some outer
  mod:Mod K mg base
  bs:∀ b o,base.get? b=some o→s.heap.get? b=some o∧H b=none
  bsz:base.objs.size≤s.heap.objs.size
  funs:s.heap.FunFrames base outer
  frf:∀ b∈frs outer,H b=none
  hok:HOk P w H s.heap
  bare:AllBare s.gens
def CE (outer:List Env) (P:Program) (w:World) (H:Hp) (s:Shared) (Q:VK) (u:Value) (s':Shared):Prop :=
  ∃ v H',s'.os=s.os∧AllBare s'.gens∧Un (frs outer) [] H H' s.heap s'.heap∧HOk P w H' s'.heap∧RelV v u∧Q v H'
def CR (CX:CXT) (outer:List Env) (P:Program) (w:World) (H:Hp) (s:Shared) (Q:VK) (E:XK) (r:Result) (s':Shared):Prop :=
  match r with
  | .ok (.ret u)=>CE outer P w H s Q u s'
  | .ok _=>False
  | .error e=>CX outer H s E e s'
structure FnOk (P:Program) (w:World) (K:PySem.W.Frag) (mg:Str→Option Value) (base:Heap) (CX:CXT) (k:Nat) (f:Addr) (fd:FuncData) (ps:List Str) (sp:Sp):Prop where
  len:∀ vs H Q E,sp vs H Q E→vs.length=ps.length
  run:∀ (A:Around) (outer:List Env) (s:Shared) (H:Hp) (args:Args) (us:List Value) (vs:List V) (Q:VK) (E:XK),Room k A→Env0 P w K mg base A outer s H→BindsTo s fd args (ps.zip us)→Vals vs us→sp vs H Q E →
    codeAny (model P w) A (.call (.ref f) args) (CR CX outer P w H s Q E) s
theorem Env0.make {P:Program} {w:World} {K:PySem.W.Frag} {mg:Str→Option Value} {base:Heap} {A:Around} {outer:List Env} {s:Shared} {H:Hp} (e:Env0 P w K mg base A outer s H) (C:Addr) (us:List Value) (kw:List (Str×Value)) :
    Env0 P w K mg base (A.under (.builtin "type.__call__" ⟨.ref C :: us,kw⟩)) outer s H:=⟨by first | exact e.frames | (simpa [Around.under,Code.envs,Code.isFrame,pushEnvs] using e.frames),e.mod,e.bs,e.bsz,e.funs,e.frf,e.hok,e.bare⟩
section
variable {X:Cx} {pins:List (Addr×Obj)} {σ:St} {H:Hp} {s s':Shared}
theorem Inv.env0 (I:Inv X pins σ H s):Env0 X.prog X.w X.K X.mg X.base X.A X.stack s H :=
  ⟨I.ok.frames,I.ok.mod,I.bs,Nat.le_trans I.ok.bsz I.sz,I.stack,I.stkFree,I.hok,I.bare⟩
theorem Inv.after {Q:VK} {u:Value} (I:Inv X pins σ H s) (h:CE X.stack X.prog X.w H s Q u s'):EP X pins σ Q u s':=by
  obtain ⟨v,H',os,bare,un,hok,r,q⟩:=h
  obtain ⟨hh,g,d,t,os'⟩:=s'
  obtain rfl:os'=s.os:=os
  exact ⟨v,H',I.call (h':=hh) (g':=g) (d':=d) (t':=t) (ch:=[]) un hok bare (fun b z=>absurd z (by simp)),r,q⟩
end
def tCall (sp:Sp) (dvs:List V) (E:XK) (t:TA):TE:=fun σ H Q=>t σ H fun vs H1=>sp (vs++dvs) H1 Q E
def tMeth (C:Addr) (m:Str) (sp:Sp) (dvs:List V) (E:XK) (ta:TE) (t:TA):TE:=fun σ H Q=>ta σ H fun x H1=>∃ a dx fs,x=.ref a∧H1 a=some (.ins C dx fs)∧fs.lookup m=none ∧
  t σ H1 fun vs H2=>sp (x :: (vs++dvs)) H2 Q E
def tMake (C:Addr) (sp:Sp) (dvs:List V) (E:XK) (t:TA):TE:=fun σ H Q=>t σ H fun vs H1=>∀ x dx,H1 x=none→H1 dx=none→dx≠x →
  sp (.ref x :: (vs++dvs)) (upd (upd H1 dx (.own x)) x (.ins C dx [])) (fun v H2=>v=.non∧Q (.ref x) H2) E
def Binds (K:PySem.W.Frag) (fd:FuncData) (ps:List Str) (ds:List Value):Prop :=
  ∀ (s:Shared) (us:List Value),K.In s.heap→(us++ds).length=ps.length→BindsTo s fd ⟨us,[]⟩ (ps.zip (us++ds))
theorem Binds.all {K:PySem.W.Frag} {fd:FuncData} {ps:List Str} (h:∀ us:List Value,us.length=ps.length→bindArgs fd ⟨us,[]⟩=pure (ps.zip us)):Binds K fd ps []:=fun s us _ hl=>by
  rw [List.append_nil] at hl ⊢
  exact .of_eq (h us hl)
def Passes (CX:CXT) (X:Cx) (E:XK):Prop:=∀ (pins:List (Addr×Obj)) (σ:St) (H:Hp) (s:Shared) (e:Value) (s':Shared),Inv X pins σ H s→CX X.stack H s E e s'→X.xe e s'
section
variable {X:Cx} {CX:CXT} {k:Nat} {f C:Addr} {fd:FuncData} {ps:List Str} {sp:Sp} {dvs:List V} {ds:List Value} {E:XK} {x m:Str} {p pos apos:Pos} {e o:Expr} {es:List Expr} {ta:TE} {t:TA}
theorem run_fn {pins:List (Addr×Obj)} {σ:St} {H:Hp} {s:Shared} {Q:VK} {us:List Value} {vs:List V} (F:FnOk X.prog X.w X.K X.mg X.base CX k f fd ps sp) (hr:Room k X.A) (hb:Binds X.K fd ps ds) (hd:Vals dvs ds) (hx:Passes CX X E)
    (I:Inv X pins σ H s) (r:Vals vs us) (h:sp (vs++dvs) H Q E):wpAny (model X.prog X.w) X.A (call (.ref f) us) (EP X pins σ Q) X.xe s:=by
  have r2:Vals (vs++dvs) (us++ds):=r.append hd
  have hl:(us++ds).length=ps.length:=by rw [← r2.length]; exact F.len _ _ _ _ h
  refine wpAny_call (codeAny_mono (F.run X.A X.stack s H ⟨us,[]⟩ (us++ds) (vs++dvs) Q E hr I.env0 (hb s us I.kIn hl) r2 h) fun r s' hq=>?_)
  cases r with
  | error e=>exact hx pins σ H s e s' I hq
  | ok fl =>
    cases fl with
    | ret u=>exact I.after hq
    | next=>exact False.elim hq
    | brk=>exact False.elim hq
    | cont=>exact False.elim hq
theorem pe_call (F:FnOk X.prog X.w X.K X.mg X.base CX k f fd ps sp) (hr:Room k X.A) (hg:Gl X x) (hm:X.mg x=some (.ref f)) (hk:PySem.W.keepIn X.K (.ref f)=true) (hb:Binds X.K fd ps ds) (hd:Vals dvs ds) (hx:Passes CX X E)
    (ha:PA X (e :: es) t) (hdb:(x == ("__debug__" : Str))=false:=by decide) (he:starEach (e :: es) X.env=(false,eval e X.env) :: starEach es X.env:=by rfl) (hpl:(backTo pos (starEach es X.env)).any (·.1)=false:=by rfl) :
    PE X (.Call (.Name x p) (e :: es) [] pos) (tCall sp dvs E t):=by
  intro pins s σ H Q I h
  refine wpAny_Call_Name_kw (ld_glob I hg hm ?_ hdb)
  refine PySem.W.callWith_K (h₀:=X.base) I.ok.mod.kin hk (thA (ha pos pins s σ H _ I h) fun us s1 vs H1 I1 r q=>⟨I1.kIn,?_⟩) he hpl
  exact run_fn F hr hb hd hx I1 r q
theorem pe_meth {pl:Sem Bool} (he:PE X o ta) (c:Cls X.K C) (hm:Meth X.K C m f) (F:FnOk X.prog X.w X.K X.mg X.base CX k f fd ps sp) (hr:Room k X.A) (hb:Binds X.K fd ps ds) (hd:Vals dvs ds) (hx:Passes CX X E) (ha:PA X (e :: es) t)
    (hst:starEach (e :: es) X.env=(false,eval e X.env) :: starEach es X.env:=by rfl) (hpl:(backTo pos (starEach es X.env)).any (·.1)=false:=by rfl)
    (ht:eval (.Call (.Attribute o m apos) (e :: es) [] pos) X.env=(do
      let ov ← eval o X.env
      standAt apos.atName
      let (f,first) ← holding [ov] (getMethod ov m pl)
      callWith pos f first (backTo pos (starEach (e :: es) X.env)) (backToKw pos (keywordEach [] X.env))):=by rfl) :
    PE X (.Call (.Attribute o m apos) (e :: es) [] pos) (tMeth C m sp dvs E ta t):=by
  intro pins s σ H Q I h
  refine PySem.W.methodCall_KW (pl:=pl) (thn (he pins s σ H _ I h) fun u s1 ⟨x,H1,I1,rx,a,dx,fs,ex,ea,l,q⟩=>?_) ht
  subst ex
  obtain rfl:u=Value.ref a:=rx
  refine getmeth_ok I1 ea c hm l ?_
  refine PySem.W.callWith_K (first:=[.ref a]) (h₀:=X.base) I.ok.mod.kin hm.kp (thA (ha pos pins s1 σ H1 _ I1 q) fun us s2 vs H2 I2 r q2=>⟨I2.kIn,?_⟩) hst hpl
  exact run_fn (us:=.ref a :: us) (vs:=.ref a :: vs) F hr hb hd hx I2 (.cons rfl r) q2
theorem pe_meth0 {pl:Sem Bool} (he:PE X o ta) (c:Cls X.K C) (hm:Meth X.K C m f) (F:FnOk X.prog X.w X.K X.mg X.base CX k f fd ps sp) (hr:Room k X.A) (hb:Binds X.K fd ps ds) (hd:Vals dvs ds) (hx:Passes CX X E)
    (ht:eval (.Call (.Attribute o m apos) [] [] pos) X.env=(do
      let ov ← eval o X.env
      standAt apos.atName
      let (f,first) ← holding [ov] (getMethod ov m pl)
      callWith pos f first (backTo pos (starEach [] X.env)) (backToKw pos (keywordEach [] X.env))):=by rfl) :
    PE X (.Call (.Attribute o m apos) [] [] pos) (tMeth C m sp dvs E ta tNil):=by
  intro pins s σ H Q I h
  refine PySem.W.methodCall_KW (pl:=pl) (thn (he pins s σ H _ I h) fun u s1 ⟨x,H1,I1,rx,a,dx,fs,ex,ea,l,q⟩=>?_) ht
  subst ex
  obtain rfl:u=Value.ref a:=rx
  refine getmeth_ok I1 ea c hm l ?_
  exact PySem.W.callWith_K0 (first:=[.ref a]) I1.kIn hm.kp (run_fn (us:=[.ref a]) (vs:=[.ref a]) F hr hb hd hx I1 (.cons rfl .nil) q)
structure Mk (K:PySem.W.Frag) (C f:Addr):Prop where
  makes:PySem.W.makesIn K C=true
  init:PySem.W.findIn K (.ref C) "__init__" = some (some (.ref f))
  fn:PySem.W.isFn K (.ref f)=true
  kp:PySem.W.keepIn K (.ref C)=true
theorem run_make {pins:List (Addr×Obj)} {σ:St} {H:Hp} {s:Shared} {Q:VK} {us:List Value} {vs:List V} (M:Mk X.K C f) (F:FnOk X.prog X.w X.K X.mg X.base CX k f fd ps sp) (hr:Room (k+1) X.A) (hb:Binds X.K fd ps ds) (hd:Vals dvs ds)
    (hx:Passes CX X E) (I:Inv X pins σ H s) (r:Vals vs us)
    (h:∀ x dx,H x=none→H dx=none→dx≠x→sp (.ref x :: (vs++dvs)) (upd (upd H dx (.own x)) x (.ins C dx [])) (fun v H2=>v=.non∧Q (.ref x) H2) E) :
    wpAny (model X.prog X.w) X.A (call (.ref C) us) (EP X pins σ Q) X.xe s:=by
  have hq:=h (s.heap.objs.size+1) s.heap.objs.size (I.hok.fresh (Nat.le_succ _)) (I.hok.fresh (Nat.le_refl _)) (Nat.ne_of_lt (Nat.lt_succ_self _))
  have I2:=Inv.made (C:=C) I
  have r2:Vals (V.ref (s.heap.objs.size+1) :: (vs++dvs)) (Value.ref (s.heap.objs.size+1) :: (us++ds)):=.cons rfl (r.append hd)
  have hl:(Value.ref (s.heap.objs.size+1) :: us++ds).length=ps.length:=by
    have e:=r2.length
    rw [F.len _ _ _ _ hq] at e
    exact e.symm
  refine wpAny_call (make_map (f:=f) I.kIn M.makes M.init (beq_iff_eq.mp M.fn) (codeAny_mono (F.run _ X.stack _ _ ⟨Value.ref (s.heap.objs.size+1) :: us,[]⟩ (Value.ref (s.heap.objs.size+1) :: (us++ds)) _ _ E (hr.make C us [])
    (I2.env0.make C us []) (hb _ (Value.ref (s.heap.objs.size+1) :: us) I2.kIn hl) r2 hq) fun r s' hq'=>?_))
  cases r with
  | error e=>exact hx pins σ _ _ e s' I2 hq'
  | ok fl =>
    cases fl with
    | ret u =>
      obtain ⟨v,H',I3,rv,ev,q3⟩:=I2.after hq'
      subst ev
      exact ⟨rv,⟨V.ref (s.heap.objs.size+1),H',I3,rfl,q3⟩⟩
    | next=>exact False.elim hq'
    | brk=>exact False.elim hq'
    | cont=>exact False.elim hq'
theorem pe_make (M:Mk X.K C f) (F:FnOk X.prog X.w X.K X.mg X.base CX k f fd ps sp) (hr:Room (k+1) X.A) (hg:Gl X x) (hm:X.mg x=some (.ref C)) (hb:Binds X.K fd ps ds) (hd:Vals dvs ds) (hx:Passes CX X E)
    (ha:PA X (e :: es) t) (hdb:(x == ("__debug__" : Str))=false:=by decide) (he:starEach (e :: es) X.env=(false,eval e X.env) :: starEach es X.env:=by rfl) (hpl:(backTo pos (starEach es X.env)).any (·.1)=false:=by rfl) :
    PE X (.Call (.Name x p) (e :: es) [] pos) (tMake C sp dvs E t):=by
  intro pins s σ H Q I h
  refine wpAny_Call_Name_kw (ld_glob I hg hm ?_ hdb)
  refine PySem.W.callWith_K (h₀:=X.base) I.ok.mod.kin M.kp (thA (ha pos pins s σ H _ I h) fun us s1 vs H1 I1 r q=>⟨I1.kIn,?_⟩) he hpl
  exact run_make M F hr hb hd hx I1 r q
end
structure FnScope (N P:List Str) (sc:Scope):Prop where
  kind:sc.kind=.function
  co:sc.isCoroutine=false
  gen:sc.isGenerator=false
  nd:N.Nodup
  pre:N.take P.length=P
  par:∀ x∈P,sc.names.lookup x=some .local∨sc.names.lookup x=some .cell
  nofree:∀ y∈sc.names,y.2≠.free
theorem bindL_out {kindOf:Str→Option NameKind} {x:Str}:∀ {binds:List (Str×Value)} {m:Str→Option Value},(∀ v,(x,v)∉binds)→bindL kindOf binds m x=m x
  | [],_,_=>rfl
  | (n,v) :: r,m,h=>by
    unfold bindL
    rw [bindL_out fun w hw=>h w (List.mem_cons_of_mem _ hw)]
    split
    · have:x≠n:=by rintro rfl; exact h v List.mem_cons_self
      simp [this]
    · rfl
theorem bindC_out {kindOf:Str→Option NameKind} {x:Str}:∀ {binds:List (Str×Value)} {m:Str→Option Value},(∀ v,(x,v)∉binds)→bindC kindOf binds m x=m x
  | [],_,_=>rfl
  | (n,v) :: r,m,h=>by
    unfold bindC
    rw [bindC_out fun w hw=>h w (List.mem_cons_of_mem _ hw)]
    split
    · rfl
    · have:x≠n:=by rintro rfl; exact h v List.mem_cons_self
      simp [this]
theorem bindL_get {kindOf:Str→Option NameKind} {x:Str} {v:Value}:∀ {P:List Str} {vs:List Value} {i:Nat} {m:Str→Option Value},P.Nodup→P[i]?=some x→vs[i]?=some v→kindOf x=some .local →
    bindL kindOf (P.zip vs) m x=some v
  | [],_,_,_,_,h,_,_=>by simp at h
  | _ :: _,[],_,_,_,_,h,_=>by simp at h
  | p :: P,w :: vs,0,m,nd,h1,h2,hk=>by
    simp at h1 h2; subst h1; subst h2
    show bindL kindOf ((p,w) :: P.zip vs) m p=_
    unfold bindL
    rw [bindL_out fun v hv=>(List.nodup_cons.mp nd).1 (List.of_mem_zip hv).1,if_pos hk]
    simp
  | p :: P,w :: vs,i+1,m,nd,h1,h2,hk=>by
    show bindL kindOf ((p,w) :: P.zip vs) m x=_
    unfold bindL
    exact bindL_get (i:=i) (List.nodup_cons.mp nd).2 (by simpa using h1) (by simpa using h2) hk
theorem bindC_get {kindOf:Str→Option NameKind} {x:Str} {v:Value}:∀ {P:List Str} {vs:List Value} {i:Nat} {m:Str→Option Value},P.Nodup→P[i]?=some x→vs[i]?=some v→kindOf x≠some .local →
    bindC kindOf (P.zip vs) m x=some v
  | [],_,_,_,_,h,_,_=>by simp at h
  | _ :: _,[],_,_,_,_,h,_=>by simp at h
  | p :: P,w :: vs,0,m,nd,h1,h2,hk=>by
    simp at h1 h2; subst h1; subst h2
    show bindC kindOf ((p,w) :: P.zip vs) m p=_
    unfold bindC
    rw [bindC_out fun v hv=>(List.nodup_cons.mp nd).1 (List.of_mem_zip hv).1,if_neg hk]
    simp
  | p :: P,w :: vs,i+1,m,nd,h1,h2,hk=>by
    show bindC kindOf ((p,w) :: P.zip vs) m x=_
    unfold bindC
    exact bindC_get (i:=i) (List.nodup_cons.mp nd).2 (by simpa using h1) (by simpa using h2) hk
def start (N:List Str) (vs:List V):St:=vs.map some++List.replicate (N.length - vs.length) none
def cxOf (CX:CXT) (P:Program) (w:World) (K:PySem.W.Frag) (mg:Str→Option Value) (base:Heap) (N:List Str) (qual:Str) (scope:Scope) (f:Addr) (cd:Value) (A:Around) (outer:List Env) (s:Shared) (H:Hp) (E:XK):Cx where
  prog:=P
  w:=w
  K:=K
  mg:=mg
  base:=base
  A:=A.deeper (envOfC qual scope s.heap.objs.size f cd)
  N:=N
  s₀:=s
  H₀:=H
  env:=envOfC qual scope s.heap.objs.size f cd
  outer:=outer
  stack:=envOfC qual scope s.heap.objs.size f cd :: outer
  ex:=[]
  calm:=true
  fn:=fun _=>true
  pn:=[]
  xe:=fun e s'=>wpAny (model P w) (A.deeper (envOfC qual scope s.heap.objs.size f cd)) (leaving (envOfC qual scope s.heap.objs.size f cd) e) (fun _ s''=>CX outer H s E e s'') (fun e' s''=>CX outer H s E e' s'') s'
theorem cell_has {sc:Scope} {n:Nat} {x:Str} (h:sc.names.lookup x=some .cell):∃ c,(cellsFrom n sc.names []).lookup x=some c:=by
  have q:=PySem.W.cellsFrom_some sc.names n [] (.inl h)
  exact Option.isSome_iff_exists.mp q
theorem inv_start {CX:CXT} {P:Program} {w:World} {K:PySem.W.Frag} {mg:Str→Option Value} {base:Heap} {N ps:List Str} {qual:Str} {scope:Scope} {f:Addr} {cd:Value} {A:Around} {outer:List Env} {s s1:Shared} {H:Hp} {E:XK} {us:List Value} {vs:List V}
    (S:FnScope N ps scope) (hd:A.handled=none) (e0:Env0 P w K mg base A outer s H) (hl:vs.length=ps.length) (r:Vals vs us)
    (x:InCallC s s.heap.objs.size (bindL (envOfC qual scope s.heap.objs.size f cd).kindOf (ps.zip us) fun _=>none) (cellsFrom (s.heap.objs.size+1) scope.names []) (bindC (envOfC qual scope s.heap.objs.size f cd).kindOf (ps.zip us) fun _=>none) s1) :
    Inv (cxOf CX P w K mg base N qual scope f cd A outer s H E) [] (start N vs) H s1:=by
  have hpl:ps.length≤N.length:=by have:=congrArg List.length S.pre; rw [List.length_take] at this; lia
  obtain ⟨h1,tk,rfl,hk⟩:=x.done
  have noA:∀ b:Addr,b∉(cxOf CX P w K mg base N qual scope f cd A outer s H E).ex:=fun b z=>absurd (show b∈([]:List Addr) from z) (by simp)
  refine ⟨⟨e0.mod,S.kind,rfl,rfl,Nat.le_refl _,fun y z c h1 h2=>?_,fun y hy=>?_,fun y c _ h=>?_,fun _=>hd,Around.frames_deeper e0.frames,.inr ⟨rfl,rfl⟩,fun b z=>absurd z (noA b),e0.bs,e0.bsz,fun b _ _=>noA b,fun b z=>absurd z (noA b),e0.funs,e0.frf⟩,
    rfl,e0.bare,Un.kept hk,⟨_,x.toInCall.ns,fun i y v h1 h2 h3=>?_⟩,fun y c h=>⟨_,x.cell y c h⟩,e0.hok.fresh (Nat.le_refl _),fun y c h=>?_,fun p hp=>absurd (show p∈([]:List (Addr×Obj)) from hp) (by simp),e0.hok.kept hk,?_⟩
  · exact name_of_addr x.apart (PySem.mem_of_lookup h1) (PySem.mem_of_lookup h2)
  · have hy:scope.names.lookup y=some .cell∨scope.names.lookup y=some .free:=hy
    rcases hy with hy | hy
    · exact cell_has hy
    · exact absurd rfl (S.nofree _ (PySem.mem_of_lookup hy))
  · exact Nat.le_of_lt (x.above y c (PySem.mem_of_lookup h))
  · have hi:i<vs.length:=by
      unfold start at h2
      by_cases hi:i<vs.length
      · exact hi
      · rw [List.getElem?_append_right (by simpa using hi)] at h2
        rw [List.getElem?_replicate] at h2
        split at h2 <;> cases h2
    have ha:vs[i]?=some v:=by
      unfold start at h2
      rw [List.getElem?_append_left (by simpa using hi),List.getElem?_map] at h2
      cases e:vs[i]? with
      | none=>rw [e] at h2; cases h2
      | some a=>rw [e] at h2; cases h2; rfl
    obtain ⟨u,hu,rv⟩:=r.get ha
    have hp:ps[i]?=some y:=by
      rw [← S.pre,List.getElem?_take_of_lt (by lia)]; exact h1
    have ndP:ps.Nodup:=by rw [← S.pre]; exact S.nd.sublist (List.take_sublist _ _)
    refine ⟨u,rv,?_⟩
    rcases S.par y (List.mem_of_getElem? hp) with k | k
    · exact .inl ⟨k,bindL_get ndP hp hu k⟩
    · obtain ⟨c,e⟩:=cell_has (n:=s.heap.objs.size+1) k
      refine .inr ⟨.inl k,c,e,?_⟩
      have q:=x.cell y c e
      rw [bindC_get ndP hp hu (by show scope.names.lookup y≠_; rw [k]; decide)] at q
      exact q
  · exact e0.hok.fresh (Nat.le_of_lt (x.above y c (PySem.mem_of_lookup h)))
  · unfold start
    show _=N.length
    rw [List.length_append,List.length_map,List.length_replicate]
    lia
theorem fn_of {CX:CXT} {P:Program} {w:World} {K:PySem.W.Frag} {mg:Str→Option Value} {base:Heap} {k:Nat} {f:Addr} {name qual:Str} {params:Arguments} {body:List Stmt} {scope:Scope} {dV kV doc pm cdv ct oc:Value} {an od:Option Addr}
    {osl:Array (Option Value)} {N ps:List Str} {sp:Sp} (lk:K.lookup f=some ⟨oc,od,.func (PySem.W.fnOf name qual params body scope dV kV doc pm an cdv ct),osl⟩) (hcd:PySem.W.codeIn K cdv qual=true) (S:FnScope N ps scope)
    (len:∀ vs H Q E,sp vs H Q E→vs.length=ps.length)
    (hbody:∀ (A:Around) (outer:List Env) (s:Shared) (H:Hp) (vs:List V) (Q:VK) (E:XK),Room k (A.deeper (envOfC qual scope s.heap.objs.size f cdv))→sp vs H Q E →
      ∃ t,PSs (cxOf CX P w K mg base N qual scope f cdv A outer s H E) body t∧t { nx:=fun _ H'=>Q .non H',rt:=Q } (start N vs) H) :
    FnOk P w K mg base CX (k+1) f (PySem.W.fnOf name qual params body scope dV kV doc pm an cdv ct) ps sp:=by
  refine ⟨len,fun A outer s H args us vs Q E hr e0 hb r hsp=>?_⟩
  have hl:=len _ _ _ _ hsp
  have KX:K.In s.heap:=e0.mod.kin.keeps fun b o e=>(e0.bs b o e).1
  have lim:s.heap.NoLimit:=e0.mod.nolimit.keeps fun b o e=>(e0.bs b o e).1
  have hkind:∀ y∈ps.zip us,scope.names.lookup y.1=some .local∨(scope.names.lookup y.1=some .cell∧((cellsFrom (s.heap.objs.size+1) scope.names []).lookup y.1).isSome=true):=fun ⟨n,v⟩ hy=>by
    rcases S.par n (List.of_mem_zip hy).1 with q | q
    · exact .inl q
    · exact .inr ⟨q,PySem.W.cellsFrom_some _ _ _ (.inl q)⟩
  refine codeAny_call_function hr.depth (KX _ _ lk) rfl S.co S.gen rfl (PySem.W.codeRec_of KX hcd) (hb _ _ _ _ ?_)
  refine wpAny_newFunctionEnv_cells S.kind hkind fun env he s1 x=>?_
  subst he
  refine ⟨lim.keeps x.toInCall.keep,codeAny_func ?_⟩
  obtain ⟨t,ht,hq⟩:=hbody A outer s H vs Q E (hr.deeper _) hsp
  have I:Inv (cxOf CX P w K mg base N qual scope f cdv A outer s H E) [] (start N vs) H s1:=inv_start S hr.hd e0 hl r x
  refine wpAny_mono (ht [] s1 (start N vs) H _ I hq) (fun fl s' hs=>?_) fun e s' hs=>hs
  have fin:∀ {σ':St} {H':Hp} {v:V} {u:Value},Inv (cxOf CX P w K mg base N qual scope f cdv A outer s H E) [] σ' H' s'→RelV v u→Q v H'→CE outer P w H s Q u s' :=
    fun {σ' H' v u} J rv q=>⟨v,H',J.os,J.bare,J.base,J.hok,rv,q⟩
  cases fl with
  | ret u =>
    obtain ⟨v,σ',H',J,rv,q⟩:=hs
    exact fin J rv q
  | next =>
    obtain ⟨σ',H',J,q⟩:=hs
    exact fin (v:=V.non) (u:=Value.none) J rfl q
  | brk =>
    obtain ⟨_,_,_,q⟩:=hs
    exact False.elim q
  | cont =>
    obtain ⟨_,_,_,q⟩:=hs
    exact False.elim q
end L2
namespace L2
open PySem PySem.Spec PyProof.Rows
section
variable {X:Cx} {x:Str} {p pos:Pos} {e:Expr} {es:List Expr} {t:TA} {id T:String} {r:List V→Hp→VK→Prop}
def tCB (r:List V→Hp→VK→Prop) (t:TA):TE:=fun σ H Q=>t σ H fun vs H1=>r vs H1 Q
theorem pe_callB (hc:CallR X (.builtin id) r) (hg:Gl X x) (hm:X.mg x=none) (hv:bootBuiltins x=some (.builtin id)) (ha:PA X (e :: es) t) (hn:x ≠ "__name__" := by decide) (hdb:(x == ("__debug__" : Str))=false:=by decide)
    (he:starEach (e :: es) X.env=(false,eval e X.env) :: starEach es X.env:=by rfl) (hpl:(backTo pos (starEach es X.env)).any (·.1)=false:=by rfl):PE X (.Call (.Name x p) (e :: es) [] pos) (tCB r t):=by
  intro pins s σ H Q I h
  refine wpAny_Call_Name_kw (ld_blt I hg hm hv ?_ hn hdb)
  exact PyProof.Rows.callWith_builtin1 (thA (ha pos pins s σ H _ I h) fun us s1 vs H1 I1 r1 q1=>hc pins s1 σ H1 vs us Q I1 r1 q1) he hpl
theorem pe_callTy (hc:CallR X (.type T) r) (hg:Gl X x) (hm:X.mg x=none) (hv:bootBuiltins x=some (.type T)) (ha:PA X (e :: es) t) (hn:x ≠ "__name__" := by decide) (hdb:(x == ("__debug__" : Str))=false:=by decide)
    (he:starEach (e :: es) X.env=(false,eval e X.env) :: starEach es X.env:=by rfl) (hpl:(backTo pos (starEach es X.env)).any (·.1)=false:=by rfl):PE X (.Call (.Name x p) (e :: es) [] pos) (tCB r t):=by
  intro pins s σ H Q I h
  refine wpAny_Call_Name_kw (ld_blt I hg hm hv ?_ hn hdb)
  exact PyProof.Rows.callWith_type1 (thA (ha pos pins s σ H _ I h) fun us s1 vs H1 I1 r1 q1=>hc pins s1 σ H1 vs us Q I1 r1 q1) he hpl
end
end L2
namespace HT
open PySem PyProof.Rows
section
open PySem.SeqAt
open PySem.AutoSeq1 (wpAny_loadPart')
open PySem.MeetsSeq PySem.MeetsSeq2 PySem.MeetsSeq3
end
section
variable {prog:Program} {w:World} {A:Around} {E:Value→Shared→Prop} {s:Shared}
def sIx (n d:Nat):Option Int→Nat
  | none=>d
  | some v=>if v<0 then (v+(n:Int)).toNat else min v.toNat n
theorem sIx_none (n d:Nat):sIx n d none=d:=rfl
theorem sIx_nat (n d k:Nat):sIx n d (some (k:Int))=min k n:=by
  show (if (k:Int)<0 then ((k:Int)+(n:Int)).toNat else min (k:Int).toNat n)=min k n
  rw [if_neg (by lia),Int.toNat_natCast]
end
end HT
namespace L2
open PySem PySem.Spec PyProof.Rows
abbrev TO:=St→Hp→(Option Int→Hp→Prop)→Prop
def PO (X:Cx) (e:Option Expr) (t:TO):Prop :=
  ∀ (pins:List (Addr×Obj)) (s:Shared) (σ:St) (H:Hp) (Q:Option Int→Hp→Prop),Inv X pins σ H s→t σ H Q →
    wpAny (model X.prog X.w) X.A (evalPart e X.env) (fun u s'=>∃ o H',Inv X pins σ H' s'∧IsPart u o∧Q o H') X.xe s
def tNoPart:TO:=fun _ H Q=>Q none H
def tPart (t:TE):TO:=fun σ H Q=>t σ H fun x H1=>∃ i,x=.int i∧Q (some i) H1
theorem intsAre_of {ns:List Int}:∀ {us:List Value},Vals (ns.map V.int) us→IntsAre us ns:=by
  induction ns with
  | nil=>intro us r; rw [List.map_nil] at r; cases r; exact .nil
  | cons n ns ih =>
    intro us r
    rw [List.map_cons] at r
    cases r with
    | cons r1 r2 =>
      obtain ⟨t,e⟩:=r1
      subst e
      exact .cons n t (ih r2)
section
variable {X:Cx} {e:Expr} {te:TE} {lo hi:Option Expr} {tl th:TO} {pos p2:Pos}
theorem po_none:PO X none tNoPart:=by
  intro pins s σ H Q I h
  rw [evalPart_none]
  exact wpAny_pure ⟨none,H,I,.none,h⟩
theorem po_some (h:PE X e te):PO X (some e) (tPart te):=by
  intro pins s σ H Q I hw
  rw [evalPart_some]
  refine thE (h pins s σ H _ I hw) fun u s1 x H1 I1 r1 q1=>?_
  obtain ⟨i,rfl,q⟩:=q1
  obtain ⟨t,rfl⟩:=r1
  exact ⟨some i,H1,I1,.int i t,q⟩
def SlR (X:Cx) (r:V→Option Int→Option Int→Hp→VK→Prop):Prop :=
  ∀ (pins:List (Addr×Obj)) (s:Shared) (σ:St) (H:Hp) (x:V) (v vl vu:Value) (lo hi:Option Int) (sl:Addr) (Q:VK),Inv X pins σ H s→RelV x v→s.heap.IsSliceOf sl vl vu .none→IsPart vl lo→IsPart vu hi→r x lo hi H Q →
    ∃ T id,typeLookup (.type T) "__getitem__" = pure (some (.builtin id))∧s.TypeIs v T∧wpAny (model X.prog X.w) X.A (getItem v (.ref sl)) (EP X pins σ Q) X.xe s
def tSl (r:V→Option Int→Option Int→Hp→VK→Prop) (te:TE) (tl th:TO):TE:=fun σ H Q=>te σ H fun x H1=>tl σ H1 fun l H2=>th σ H2 fun u H3=>r x l u H3 Q
theorem pe_slice {r:V→Option Int→Option Int→Hp→VK→Prop} (hr:SlR X r) (he:PE X e te) (hl:PO X lo tl) (hu:PO X hi th):PE X (.Subscript e (.Slice lo hi none p2) pos) (tSl r te tl th):=by
  intro pins s σ H Q I h
  refine Subscript_ (thE (he pins s σ H _ I h) fun v s1 x H1 I1 r1 q1=>?_)
  refine wpAny_Slice (thn (hl pins s1 σ H1 _ I1 q1) fun vl s2 ⟨l,H2,I2,pl,q2⟩=>thn (hu pins s2 σ H2 _ I2 q2) fun vu s3 ⟨u,H3,I3,pu,q3⟩=>?_)
  rw [evalPart_none]
  refine wpAny_pure ?_
  have I4:Inv X pins σ H3 { s3 with heap:=s3.heap.push { cls:=.type "slice",data:=.fields #[vl,vu,.none] } }:=I3.kept (t':=s3.toks) fun b ob q=>Heap.get?_push_of_some _ q
  obtain ⟨T,id,hT,ht,hg⟩:=hr pins { s3 with heap:=s3.heap.push { cls:=.type "slice",data:=.fields #[vl,vu,.none] } } σ H3 x v vl vu l u s3.heap.objs.size Q I4 r1 (Heap.IsSliceOf.new ..) pl pu q3
  show wpAny (model X.prog X.w) X.A (subscriptTail e (.Slice lo hi none p2) v (.ref s3.heap.objs.size)) (EP X pins σ Q) X.xe { s3 with heap:=s3.heap.push { cls:=.type "slice",data:=.fields #[vl,vu,.none] } }
  exact tail_any (ops:=[.ref s3.heap.objs.size,v]) ht hT hg (by with_unfolding_all rfl)
def cutV (xs:List V) (lo hi:Option Int):List V:=(xs.drop (HT.sIx xs.length 0 lo)).take (HT.sIx xs.length xs.length hi - HT.sIx xs.length 0 lo)
theorem cutV_length (xs:List V) (lo hi:Option Int):(cutV xs lo hi).length≤xs.length:=by
  unfold cutV
  rw [List.length_take,List.length_drop]
  lia
end
end L2
namespace L2
open PySem PySem.Spec PyProof.Rows
def ixN (n:Nat) (i:Int):Option Nat:=if 0≤i then (if i<n then some i.toNat else none) else if -(n:Int)≤i then some (i+n).toNat else none
def atI {α:Type} (xs:List α) (i:Int):Option α:=(ixN xs.length i).bind fun j=>xs[j]?
theorem ixN_seq {n:Nat} {i:Int} {j:Nat} (h:ixN n i=some j):seqIndex? i n=some j∧j<n ∧ -(n:Int)≤i∧i<n:=by
  unfold ixN at h
  by_cases h0:0≤i
  · rw [if_pos h0] at h
    by_cases h1:i<n
    · rw [if_pos h1] at h
      have e:i.toNat=j:=Option.some.inj h
      exact ⟨by rw [seqIndex_of h0 h1,e],by lia,by lia,h1⟩
    · rw [if_neg h1] at h; cases h
  · rw [if_neg h0] at h
    by_cases h1 : -(n:Int)≤i
    · rw [if_pos h1] at h
      have e:(i+n).toNat=j:=Option.some.inj h
      exact ⟨by rw [seqIndex_neg (by lia) h1,e],by lia,h1,by lia⟩
    · rw [if_neg h1] at h; cases h
theorem atI_get {α:Type} {xs:List α} {i:Int} {v:α} (h:atI xs i=some v):∃ j,seqIndex? i xs.length=some j∧xs[j]?=some v∧j<xs.length ∧ -(xs.length:Int)≤i∧i<xs.length:=by
  unfold atI at h
  cases e:ixN xs.length i with
  | none=>rw [e] at h; cases h
  | some j =>
    rw [e] at h
    obtain ⟨h1,h2,h3,h4⟩:=ixN_seq e
    exact ⟨j,h1,h,h2,h3,h4⟩
theorem atI_nat {α:Type} {xs:List α} {j:Nat} {v:α} (h:xs[j]?=some v):atI xs (j:Int)=some v:=by
  have hj:j<xs.length:=(List.getElem?_eq_some_iff.mp h).1
  have e:ixN xs.length (j:Int)=some j:=by
    unfold ixN
    rw [if_pos (by lia),if_pos (by lia)]; simp
  unfold atI; rw [e]; exact h
def PlainIx (b:Expr):Prop:=∀ o i,subscripted b false o i=operate [o,i] (getItem o i)
def IxR (X:Cx) (r:R2):Prop :=
  ∀ (value slice:Expr) (pins:List (Addr×Obj)) (s:Shared) (σ:St) (H:Hp) (x y:V) (v u:Value) (Q:VK),Inv X pins σ H s→RelV x v→RelV y u→r x y H Q →
    subscripted slice false v u=operate [v,u] (getItem v u)→wpAny (model X.prog X.w) X.A (subscriptTail value slice v u) (EP X pins σ Q) X.xe s
def MtR (X:Cx) (id:String) (r:V→List V→Hp→VK→Prop):Prop :=
  ∀ (pins:List (Addr×Obj)) (s:Shared) (σ:St) (H:Hp) (x:V) (xs:List V) (v:Value) (us:List Value) (Q:VK),Inv X pins σ H s→RelV x v→Vals xs us→r x xs H Q →
    wpAny (model X.prog X.w) X.A (call (.builtin id) (v :: us)) (EP X pins σ Q) X.xe s
section
variable {X:Cx} {a b:Expr} {ta tb:TE} {pos:Pos}
theorem pe_ix {r:R2} (hr:IxR X r) (ha:PE X a ta) (hb:PE X b tb) (hs:PlainIx b):PE X (.Subscript a b pos) (tOp r ta tb):=by
  intro pins s σ H Q I h
  exact Subscript_ (binT ha hb I h fun v u s2 x y H2 I2 rx ry q=>hr a b pins s2 σ H2 x y v u Q I2 rx ry q (hs _ _))
def rIxL (K:PySem.W.Frag):R2:=fun x y H Q=>∃ p xs i v,x=.ref p∧y=.int i∧SqL K H p xs∧atI xs i=some v∧Q v H
def rIxT (K:PySem.W.Frag):R2:=fun x y H Q=>∃ p xs i v,x=.ref p∧y=.int i∧SqT K H p xs∧atI xs i=some v∧Q v H
theorem ix_list:IxR X (rIxL X.K):=by
  intro value slice pins s σ H x y v u Q I rx ry h hs
  obtain ⟨p,xs,i,z,rfl,rfl,hq,he,q⟩:=h
  cases rx
  obtain ⟨t,rfl⟩:=ry
  obtain ⟨its,r,pl,hz⟩:=I.list hq
  obtain ⟨j,h1,h2,h3,h4,h5⟩:=atI_get he
  obtain ⟨w,ew,rw'⟩:=r.get h2
  have hl:=r.length
  have hn:=line63
  have fin:EP X pins σ Q w s:=⟨z,H,I,rw',q⟩
  by_cases h0:0≤i
  · have hj:i.toNat=j:=by
      rw [seqIndex_of h0 h5] at h1
      exact Option.some.inj h1
    exact item_listR pl.isList h0 (by lia) (by rw [hj]; simpa using ew) fin hs
  · have hj:(i+(its.toArray.size:Int)).toNat=j:=by
      rw [seqIndex_neg (by lia) h4] at h1
      rw [List.size_toArray,← hl]
      exact Option.some.inj h1
    exact subscriptTail_builtinR (x:=w) pl.isList.typeIs slot_list_getitem.lookup
      (wpAny_getItem_list_neg (Q:=fun r s'=>r=w∧EP X pins σ Q r s') pl.isList (by lia) (by rw [List.size_toArray] <;> lia) (by lia) (by rw [hj]; simpa using ew) ⟨rfl,fin⟩) hs
theorem ix_tup:IxR X (rIxT X.K):=by
  intro value slice pins s σ H x y v u Q I rx ry h hs
  obtain ⟨p,xs,i,z,rfl,rfl,hq,he,q⟩:=h
  cases rx
  obtain ⟨t,rfl⟩:=ry
  obtain ⟨its,r,pl,hz⟩:=I.tuple hq
  obtain ⟨j,h1,h2,h3,h4,h5⟩:=atI_get he
  obtain ⟨w,ew,rw'⟩:=r.get h2
  have hl:=r.length
  have hn:=line63
  have fin:EP X pins σ Q w s:=⟨z,H,I,rw',q⟩
  exact subscriptTail_builtinR (x:=w) pl.typeIs slot_tuple_getitem.lookup
    (getItem_tuple (j:=j) (Q:=fun r s'=>r=w∧EP X pins σ Q r s') pl (by lia) (by lia) (by rw [List.size_toArray,← hl]; exact h1) (by simpa using ew) ⟨rfl,fin⟩) hs
theorem mapSeq_set (its:List Value) (n j:Nat) (u:Value):Obj.mapSeq (·.setIfInBounds j u) { cls:=.type "list",data:=.seq its.toArray n }={ cls:=.type "list",data:=.seq (its.set j u).toArray n }:=by
  simp [Obj.mapSeq]
theorem Inv.lst {pins:List (Addr×Obj)} {σ:St} {H:Hp} {s:Shared} {p:Addr} {xs:List V} (I:Inv X pins σ H s) (h:H p=some (.lst xs)) :
    ∃ (its:List Value) (n:Nat),Vals xs its∧s.heap.get? p=some { cls:=.type "list",data:=.seq its.toArray n }∧xs.length≤sizeLine:=by
  obtain ⟨z,its,n,r,e⟩:=I.hok p _ h
  exact ⟨its,n,r,e,z⟩
theorem Inv.lstUpd {pins:List (Addr×Obj)} {σ:St} {H:Hp} {s:Shared} {p:Addr} {xs ys:List V} {its its':List Value} {n n':Nat} {f:Obj→Obj} (I:Inv X pins σ H s) (h:H p=some (.lst xs))
    (ho:s.heap.get? p=some { cls:=.type "list",data:=.seq its.toArray n }) (hf:f { cls:=.type "list",data:=.seq its.toArray n }={ cls:=.type "list",data:=.seq its'.toArray n' }) (r:Vals ys its') (hz:ys.length≤sizeLine) (t:Nat) :
    Inv X pins σ (upd H p (.lst ys)) { s with heap:=s.heap.update p f,toks:=t }:=by
  have e:(s.heap.update p f).get? p=some { cls:=.type "list",data:=.seq its'.toArray n' }:=by
    rw [Heap.get?_update_self f ho (by rw [hf] <;> rfl),hf]
  refine I.write (x:=p) (e:=p) (by rw [h]; trivial) (.inl rfl) (fun b u hb q=>(Heap.get?_update_other _ _ (Ne.symm hb)).trans q) ⟨_,e⟩ ?_
  exact ⟨hz,its',n',r,e⟩
def rSetL:V→V→V→Hp→(Hp→Prop)→Prop:=fun o i v H Q=>∃ p xs k j,o=.ref p∧i=.int k∧H p=some (.lst xs)∧ixN xs.length k=some j∧Q (upd H p (.lst (xs.set j v)))
theorem set_list:PSet X rSetL:=by
  intro pins s σ H o i v ov iv u Q I ro ri rv h
  obtain ⟨p,xs,k,j,rfl,rfl,hp,hj,q⟩:=h
  cases ro
  obtain ⟨t,rfl⟩:=ri
  obtain ⟨its,n,r,ho,hz⟩:=I.lst hp
  obtain ⟨h1,h2,h3,h4⟩:=ixN_seq hj
  have hl:=r.length
  have hn:=line63
  have I':Inv X pins σ (upd H p (.lst (xs.set j v))) { s with heap:=s.heap.update p (Obj.mapSeq (·.setIfInBounds j u)) } :=
    I.lstUpd hp ho (mapSeq_set its n j u) (r.set rv j) (by rw [List.length_set]; exact hz) s.toks
  by_cases h0:0≤k
  · have hk:k.toNat=j:=by
      rw [seqIndex_of h0 h4] at h1
      exact Option.some.inj h1
    exact PySem.W.ki_setAt ho h0 (by lia) (by rw [List.size_toArray,← hl]; exact h4) (by rw [hk]; exact ⟨_,I',q⟩)
  · have hk:(k+(its.toArray.size:Int)).toNat=j:=by
      rw [seqIndex_neg (by lia) h3] at h1
      rw [List.size_toArray,← hl]
      exact Option.some.inj h1
    exact PySem.W.ki_setBack ho (by lia) (by rw [List.size_toArray,← hl]; exact h3) (by lia) (by rw [hk]; exact ⟨_,I',q⟩)
theorem slice_bounds (lo hi:Option Int) (n:Nat):(sliceBounds lo hi none n).1=((HT.sIx n 0 lo:Nat):Int)∧(sliceBounds lo hi none n).2.1=((HT.sIx n n hi:Nat):Int)∧(sliceBounds lo hi none n).2.2=1:=by
  refine ⟨?_,?_,rfl⟩
  · cases lo with
    | none=>simp [sliceBounds,HT.sIx]
    | some i =>
      simp only [sliceBounds,HT.sIx,Option.getD_none,show (1:Int) > 0 by decide,if_true]
      by_cases h:i<0
      · simp only [h,if_true] <;> lia
      · simp only [h,if_false] <;> lia
  · cases hi with
    | none=>simp [sliceBounds,HT.sIx]
    | some i =>
      simp only [sliceBounds,HT.sIx,Option.getD_none,show (1:Int) > 0 by decide,if_true]
      by_cases h:i<0
      · simp only [h,if_true] <;> lia
      · simp only [h,if_false] <;> lia
theorem slicePick_cut (its:List Value) (lo hi:Option Int):slicePick its.toArray lo hi none=((its.drop (HT.sIx its.length 0 lo)).take (HT.sIx its.length its.length hi - HT.sIx its.length 0 lo)).toArray:=by
  obtain ⟨h1,h2,h3⟩:=slice_bounds lo hi its.toArray.size
  unfold slicePick
  rw [h1,h2,h3]
  simp only [sliceRange_one,pick_run,List.size_toArray] <;> rfl
def rSlL (K:PySem.W.Frag):V→Option Int→Option Int→Hp→VK→Prop:=fun x lo hi H Q=>∃ a xs,x=.ref a∧SqL K H a xs∧∀ p,H p=none→Q (.ref p) (upd H p (.lst (cutV xs lo hi)))
theorem sl_list:SlR X (rSlL X.K):=by
  intro pins s σ H x v vl vu lo hi sl Q I rx hs pl pu h
  obtain ⟨a,xs,rfl,hx,q⟩:=h
  cases rx
  obtain ⟨its,r,ht,hz⟩:=I.list hx
  have hlen:=r.length
  refine ⟨"list",_,slot_list_getitem.lookup,ht.isList.typeIs,?_⟩
  refine wpAny_getItem_list_slice ht.isList hs pl pu .none (by simp) ?_ (by rw [List.size_toArray] <;> lia)
  rw [slicePick_cut,← hlen]
  refine ⟨.ref s.heap.objs.size,_,I.laid (t':=s.toks) (o:=.lst (cutV xs lo hi)) (fun b ob q=>Heap.get?_push_of_some _ q) (Nat.le_refl _) ?_,rfl,q _ (I.hok.fresh (Nat.le_refl _))⟩
  exact ⟨Nat.le_trans (cutV_length xs lo hi) hz,_,0,(r.drop (HT.sIx xs.length 0 lo)).take (HT.sIx xs.length xs.length hi - HT.sIx xs.length 0 lo),Heap.get?_push_size _ rfl⟩
def flatV:V→Bool
  | .non=>true
  | .bl _=>true
  | .int _=>true
  | .str _=>true
  | _=>false
def eqV:V→V→Bool
  | .non,.non=>true
  | .bl a,.bl b=>a == b
  | .bl a,.int b=>(if a then 1 else 0) == b
  | .int a,.bl b=>a == (if b then 1 else 0)
  | .int a,.int b=>a == b
  | .str a,.str b=>a == b
  | _,_=>false
theorem eqAt_V {A:Around} {s:Shared} {y x:V} {u v:Value} (ry:RelV y u) (rx:RelV x v) (fy:flatV y=true) (fx:flatV x=true):SeqAt.EqAt A s u v (eqV y x):=by
  cases y with
  | non =>
    cases ry
    cases x with
    | non=>cases rx; exact SeqAt.EqAt.same _
    | bl b=>cases rx; exact SeqAt.EqAt.none_bool b
    | int b=>obtain ⟨t,rfl⟩:=rx; exact SeqAt.EqAt.none_int b t
    | str b=>obtain ⟨t,rfl⟩:=rx; exact SeqAt.EqAt.none_str b t
    | _=>exact absurd (show false=true from fx) Bool.false_ne_true
  | bl a =>
    cases ry
    cases x with
    | non=>cases rx; exact SeqAt.EqAt.bool_none a
    | bl b=>cases rx; exact SeqAt.EqAt.bool_bool a b
    | int b=>obtain ⟨t,rfl⟩:=rx; exact SeqAt.EqAt.bool_int a b t
    | str b=>obtain ⟨t,rfl⟩:=rx; exact SeqAt.EqAt.bool_str a b t
    | _=>exact absurd (show false=true from fx) Bool.false_ne_true
  | int a =>
    obtain ⟨t',rfl⟩:=ry
    cases x with
    | non=>cases rx; exact SeqAt.EqAt.int_none a t'
    | bl b=>cases rx; exact SeqAt.EqAt.int_bool a t' b
    | int b=>obtain ⟨t,rfl⟩:=rx; exact SeqAt.EqAt.int_int a t' b t
    | str b=>obtain ⟨t,rfl⟩:=rx; exact SeqAt.EqAt.int_str a t' b t
    | _=>exact absurd (show false=true from fx) Bool.false_ne_true
  | str a =>
    obtain ⟨t',rfl⟩:=ry
    cases x with
    | non=>cases rx; exact SeqAt.EqAt.str_none a t'
    | bl b=>cases rx; exact SeqAt.EqAt.str_bool a t' b
    | int b=>obtain ⟨t,rfl⟩:=rx; exact SeqAt.EqAt.str_int a t' b t
    | str b=>obtain ⟨t,rfl⟩:=rx; exact SeqAt.EqAt.str_str a t' b t
    | _=>exact absurd (show false=true from fx) Bool.false_ne_true
  | _=>exact absurd (show false=true from fy) Bool.false_ne_true
def eqU (x:V) (u:Value):Bool:=match u with
  | .none=>eqV .non x
  | .bool b=>eqV (.bl b) x
  | .int i _=>eqV (.int i) x
  | .str z _=>eqV (.str z) x
  | _=>false
theorem eqU_of {x y:V} {u:Value} (r:RelV y u) (f:flatV y=true):eqU x u=eqV y x:=by
  cases y with
  | non=>cases r; rfl
  | bl b=>cases r; rfl
  | int i=>obtain ⟨t,rfl⟩:=r; rfl
  | str z=>obtain ⟨t,rfl⟩:=r; rfl
  | _=>exact absurd (show false=true from f) Bool.false_ne_true
theorem any_eqU {x:V}:∀ {xs:List V} {us:List Value},Vals xs us→xs.all flatV=true→us.any (eqU x)=xs.any fun y=>eqV y x
  | _,_,.nil,_=>rfl
  | y :: xs,u :: us,.cons r t,f=>by
    rw [List.all_cons,Bool.and_eq_true] at f
    rw [List.any_cons,List.any_cons,eqU_of r f.1,any_eqU t f.2]
theorem mem_eqAt {A:Around} {s:Shared} {x:V} {v:Value} (rx:RelV x v) (fx:flatV x=true):∀ {xs:List V} {us:List Value},Vals xs us→xs.all flatV=true→∀ u∈us,SeqAt.EqAt A s u v (eqU x u)
  | _,_,.nil,_=>fun u hu=>by cases hu
  | y :: xs,u :: us,.cons r t,f=>fun u' hu=>by
    rw [List.all_cons,Bool.and_eq_true] at f
    rcases List.mem_cons.mp hu with rfl | hu
    · rw [eqU_of r f.1]; exact eqAt_V r rx f.1 fx
    · exact mem_eqAt rx fx t f.2 u' hu
def inV (x:V) (xs:List V):Bool:=xs.any fun y=>eqV y x
def rIn (K:PySem.W.Frag) (neg:Bool):R2:=fun x y H Q=>∃ p xs,y=.ref p∧(SqL K H p xs∨SqT K H p xs)∧flatV x=true∧xs.all flatV=true∧Q (.bl (if neg then !inV x xs else inV x xs)) H
theorem op_in_seq:OpR X (compareOp .In) (rIn X.K false):=by
  intro pins s σ H x y v u Q I rx ry h
  obtain ⟨p,xs,rfl,hq,fx,fs,q⟩:=h
  cases ry
  rcases hq with hq | hq
  · obtain ⟨its,r,pl,hz⟩:=I.list hq
    refine SeqAt.in_listAt (eqU x) pl.isList (fun w hw=>mem_eqAt rx fx r fs w (by simpa using hw)) ⟨.bl _,H,I,rfl,?_⟩
    rw [show its.toArray.any (eqU x)=its.any (eqU x) by simp,any_eqU r fs]
    exact q
  · obtain ⟨its,r,pl,hz⟩:=I.tuple hq
    refine SeqAt.in_tupleAt (eqU x) pl (fun w hw=>mem_eqAt rx fx r fs w (by simpa using hw)) ⟨.bl _,H,I,rfl,?_⟩
    rw [show its.toArray.any (eqU x)=its.any (eqU x) by simp,any_eqU r fs]
    exact q
theorem op_notIn_seq:OpR X (compareOp .NotIn) (rIn X.K true):=by
  intro pins s σ H x y v u Q I rx ry h
  obtain ⟨p,xs,rfl,hq,fx,fs,q⟩:=h
  cases ry
  rcases hq with hq | hq
  · obtain ⟨its,r,pl,hz⟩:=I.list hq
    refine SeqAt.notIn_listAt (eqU x) pl.isList (fun w hw=>mem_eqAt rx fx r fs w (by simpa using hw)) ⟨.bl _,H,I,rfl,?_⟩
    rw [show its.toArray.any (eqU x)=its.any (eqU x) by simp,any_eqU r fs]
    exact q
  · obtain ⟨its,r,pl,hz⟩:=I.tuple hq
    refine SeqAt.notIn_tupleAt (eqU x) pl (fun w hw=>mem_eqAt rx fx r fs w (by simpa using hw)) ⟨.bl _,H,I,rfl,?_⟩
    rw [show its.toArray.any (eqU x)=its.any (eqU x) by simp,any_eqU r fs]
    exact q
theorem call_len_seq:CallR X (.builtin "len") (fun xs H Q=>∃ p ys,xs=[.ref p]∧(SqL X.K H p ys∨SqT X.K H p ys)∧Q (.int ys.length) H):=by
  intro pins s σ H xs us Q I r h
  obtain ⟨p,ys,rfl,hq,q⟩:=h
  obtain ⟨u,rfl,rx⟩:=vals1 r
  cases rx
  have hn:=line63
  rcases hq with hq | hq
  · obtain ⟨its,r',pl,hz⟩:=I.list hq
    have hlen:=r'.length
    exact Calls.call_len_list pl.isList (by simp only [List.size_toArray] <;> lia) ⟨.int ys.length,H,I.tok _,⟨s.toks+1,by rw [List.size_toArray,hlen]⟩,q⟩
  · obtain ⟨its,r',pl,hz⟩:=I.tuple hq
    have hlen:=r'.length
    exact len_tuple pl (by simp only [List.size_toArray] <;> lia) ⟨.int ys.length,H,I.tok _,⟨s.toks+1,by rw [List.size_toArray,hlen]⟩,q⟩
theorem call_list_of:CallR X (.type "list") (fun xs H Q=>∃ p ys,xs=[.ref p]∧(SqL X.K H p ys∨SqT X.K H p ys)∧∀ l,H l=none→Q (.ref l) (upd H l (.lst ys))):=by
  intro pins s σ H xs us Q I r h
  obtain ⟨p,ys,rfl,hq,q⟩:=h
  obtain ⟨u,rfl,rx⟩:=vals1 r
  cases rx
  have fin:∀ (its:List Value),Vals ys its→ys.length≤sizeLine→∀ (h':Heap) (c':Nat),(∀ b o',s.heap.get? b=some o'→h'.get? b=some o') →
      h'.get? s.heap.objs.size=some { cls:=.type "list",dict:=none,data:=.seq its.toArray c',slots:=#[] }→EP X pins σ Q (.ref s.heap.objs.size) { s with heap:=h' }:=fun its r' hz h' c' kp e =>
    ⟨.ref s.heap.objs.size,_,I.laid (t':=s.toks) kp (Nat.le_refl _) (show ObjOk X.prog X.w _ h' _ (.lst ys) from ⟨hz,its,c',r',e⟩),rfl,q _ (I.hok.fresh (Nat.le_refl _))⟩
  rcases hq with hq | hq
  · obtain ⟨its,r',pl,hz⟩:=I.list hq
    have hlen:=r'.length
    obtain ⟨o,ho,hc,n,hd⟩:=pl.isList
    exact call_list_seq p (.inl rfl) ho hc hd (fun h' c' kp e=>fin its r' hz h' c' kp e) (by simp only [List.size_toArray] <;> lia)
  · obtain ⟨its,r',pl,hz⟩:=I.tuple hq
    have hlen:=r'.length
    obtain ⟨o,ho,hc,n,hd⟩:=pl
    exact call_list_seq p (.inr rfl) ho hc hd (fun h' c' kp e=>fin its r' hz h' c' kp e) (by simp only [List.size_toArray] <;> lia)
theorem call_tuple_of:CallR X (.type "tuple") (fun xs H Q=>∃ p ys,xs=[.ref p]∧((SqL X.K H p ys∧∀ l,H l=none→Q (.ref l) (upd H l (.tup ys)))∨(SqT X.K H p ys∧Q (.ref p) H))):=by
  intro pins s σ H xs us Q I r h
  obtain ⟨p,ys,rfl,h⟩:=h
  obtain ⟨u,rfl,rx⟩:=vals1 r
  cases rx
  rcases h with ⟨hq,q⟩ | ⟨hq,q⟩
  · obtain ⟨its,r',pl,hz⟩:=I.list hq
    have hlen:=r'.length
    refine call_tuple_list pl.isList (fun h' kp=>?_) (by simp only [List.size_toArray] <;> lia)
    have I1:Inv X pins σ H { s with heap:=h' }:=I.kept (t':=s.toks) kp
    have I2:Inv X pins σ (upd H h'.objs.size (.tup ys)) { s with heap:=h'.push { cls:=.type "tuple",data:=.seq its.toArray } } :=
      I1.laid (t':=s.toks) (fun b o e=>Heap.get?_push_of_some _ e) (Nat.le_refl _) (show ObjOk X.prog X.w _ _ _ (.tup ys) from ⟨hz,its,r',IsTup.new _ _⟩)
    exact ⟨.ref h'.objs.size,_,I2,rfl,q _ (I1.hok.fresh (Nat.le_refl _))⟩
  · obtain ⟨its,r',pl,hz⟩:=I.tuple hq
    exact call_tuple_same pl ⟨.ref p,H,I,rfl,q⟩
def tyV (K:PySem.W.Frag) (T:String) (x:V) (H:Hp):Prop:=match x with
  | .str _=>T = "str"
  | .int _=>T = "int"
  | .ref p=>(T = "list" ∧ ∃ xs,SqL K H p xs)∨(T = "tuple" ∧ ∃ o,K.lookup p=some o∧o.cls=.type "tuple" ∧ o.dict=none) ∨
      (T = "dict" ∧ ((∃ kvs,H p=some (.dK kvs))∨∃ kvs,H p=some (.dT kvs)))∨(T = "set" ∧ ∃ S n,H p=some (.set S n))
  | _=>False
theorem tyV_is {pins:List (Addr×Obj)} {σ:St} {H:Hp} {s:Shared} {T:String} {x:V} {v:Value} (I:Inv X pins σ H s) (r:RelV x v) (ty:tyV X.K T x H) :
    s.TypeIs v T∧∀ a,v=.ref a→∃ ob,s.heap.get? a=some ob∧ob.dict=none:=by
  cases x with
  | str z =>
    obtain ⟨t,rfl⟩:=r
    cases (show T = "str" from ty)
    exact ⟨typeIs_str s z t,fun _ e=>nomatch e⟩
  | int i =>
    obtain ⟨t,rfl⟩:=r
    cases (show T = "int" from ty)
    exact ⟨typeIs_int s i t,fun _ e=>nomatch e⟩
  | ref p =>
    cases r
    rcases ty with ⟨rfl,xs,hq⟩ | ⟨rfl,o,hk,hc,hd⟩ | ⟨rfl,hk⟩ | ⟨rfl,S,n,hk⟩
    · obtain ⟨its,_,pl,_⟩:=I.list hq
      refine ⟨pl.isList.typeIs,fun a e=>?_⟩
      cases e
      obtain ⟨o,n,e,c,hd,_⟩:=pl
      exact ⟨o,e,hd⟩
    · refine ⟨⟨o,I.kIn p o hk,hc⟩,fun a e=>?_⟩
      cases e
      exact ⟨o,I.kIn _ o hk,hd⟩
    · have z:∃ o,s.heap.get? p=some o∧o.ExactDict:=by
        rcases hk with ⟨kvs,hk⟩ | ⟨kvs,hk⟩
        · obtain ⟨_,_,_,_,o,_,_,e,ex,_⟩:=I.hok p _ hk
          exact ⟨o,e,ex⟩
        · obtain ⟨_,_,_,_,o,_,_,e,ex,_⟩:=I.hok p _ hk
          exact ⟨o,e,ex⟩
      obtain ⟨o,e,ex⟩:=z
      refine ⟨⟨o,e,ex.1⟩,fun a e2=>?_⟩
      cases e2
      exact ⟨o,e,ex.2.1⟩
    · obtain ⟨o,_,_,_,e,ex,_⟩:=I.hok p _ hk
      refine ⟨⟨o,e,ex.1⟩,fun a e2=>?_⟩
      cases e2
      exact ⟨o,e,ex.2.1⟩
  | _=>exact False.elim ty
def tBM (K:PySem.W.Frag) (T:String) (r:V→List V→Hp→VK→Prop) (to:TE) (t:TA):TE:=fun σ H Q=>to σ H fun x H1=>tyV K T x H1∧t σ H1 fun xs H2=>r x xs H2 Q
variable {o e:Expr} {es:List Expr} {to:TE} {t:TA} {name:Str} {apos cpos:Pos} {T id:String} {r:V→List V→Hp→VK→Prop}
theorem pe_bm (pa:PlainAttrs T) (slot:Slot T name id) (hty:typeOf (.builtin id)=pure (.type "method_descriptor")) (hm:MtR X id r) (ho:PE X o to) (ha:PA X (e :: es) t)
    (hbase:attributeBase o name X.env (eval o X.env)=eval o X.env:=by rfl)
    (hfew:((backTo cpos (starEach (e :: es) X.env)).all (fun x=>!x.1) && (backToKw cpos (keywordEach [] X.env)).all (fun x=>x.1.isSome)
      && decide ((e :: es).length+([]:List Keyword).length+(if ([]:List Keyword).isEmpty then 0 else 1)<30))=true:=by rfl)
    (hline:(apos.endLine == cpos.line)=true:=by rfl) (hs:starEach (e :: es) X.env=(false,eval e X.env) :: starEach es X.env:=by rfl) (hplain:(backTo cpos (starEach es X.env)).any (·.1)=false:=by rfl) :
    PE X (.Call (.Attribute o name apos) (e :: es) [] cpos) (tBM X.K T r to t):=by
  intro pins s σ H Q I h
  refine wpAny_Call_method_late hbase hfew hline rfl (thn (ho pins s σ H _ I h) fun v s1 ⟨x,H1,I1,r1,ty,q1⟩=>?_)
  obtain ⟨h1,h2⟩:=tyV_is I1 r1 ty
  refine ⟨T,id,pa,slot,hty,h1,h2,?_⟩
  have hA:=ha cpos pins s1 σ H1 _ I1 q1
  rw [hs] at hA ⊢
  refine Calls.callWith_builtin (by show (false || (backTo cpos (starEach es X.env)).any (·.1))=false; rw [hplain] <;> rfl) (Calls.evalArgs_plain ?_)
  exact thn hA fun us s2 ⟨vs,H2,I2,r2,q2⟩=>hm pins s2 σ H2 x vs v us Q I2 r1 r2 q2
/- xs.append(e),list.index on a module's tuple .. are MtR facts of 06m -/
end
end L2
namespace L2
open PySem PySem.Spec PyProof.Rows
def MtM (X:Cx) (id:String) (r:V→List V→Hp→VK→Prop):Prop :=
  ∀ (pins:List (Addr×Obj)) (s:Shared) (σ:St) (H:Hp) (x:V) (xs:List V) (v:Value) (us:List Value) (Q:VK),Inv X pins σ H s→RelV x v→Vals xs us→r x xs H Q →
    wpAny (model X.prog X.w) X.A (call (.builtin id) (v :: us)) (EP X pins σ Q) X.xe s
theorem Vals.one:∀ {x:V} {us:List Value},Vals [x] us→∃ u,us=[u]∧RelV x u
  | _,_,.cons r .nil=>⟨_,rfl,r⟩
theorem Vals.rep {xs:List V} {us:List Value} (h:Vals xs us):∀ k:Nat,Vals (List.replicate k xs).flatten (List.replicate k us).flatten
  | 0=>.nil
  | k+1=>by
    rw [List.replicate_succ,List.replicate_succ,List.flatten_cons,List.flatten_cons]
    exact Vals.append h (Vals.rep h k)
theorem foldl_rep (its:List Value):∀ (k:Nat) (acc:List Value),
    List.foldl (fun x1 x2=>x1++x2) acc.toArray (List.replicate k its.toArray)=(acc++(List.replicate k its).flatten).toArray
  | 0,acc=>by simp
  | k+1,acc=>by
    have e:acc.toArray++its.toArray=(acc++its).toArray:=by simp
    have e2:(acc++its)++(List.replicate k its).flatten=acc++(List.replicate (k+1) its).flatten:=by
      rw [List.replicate_succ,List.flatten_cons,List.append_assoc]
    rw [← e2,← foldl_rep its k (acc++its),← e,List.replicate_succ,List.foldl_cons]
section
variable {X:Cx} {pins:List (Addr×Obj)} {σ:St} {H:Hp} {s:Shared} {l b:Addr} {xs ys zs:List V}
theorem Inv.lset {its its':List Value} {n:Nat} {f:Array Value→Array Value} {t':Nat} (I:Inv X pins σ H s) (hH:H l=some (.lst xs))
    (e:s.heap.get? l=some { cls:=.type "list",data:=.seq its.toArray n }) (hf:f its.toArray=its'.toArray) (hv:Vals ys its') (hz:ys.length≤sizeLine) :
    Inv X pins σ (upd H l (.lst ys)) { s with heap:=s.heap.update l (Obj.mapSeq f),toks:=t' }:=by
  have q:=PySem.IsL.update e f
  rw [hf] at q
  refine I.write (x:=l) (e:=l) (by rw [hH]; exact trivial) (.inl rfl) (fun b' u hb hu=>(Heap.get?_update_other s.heap (Obj.mapSeq f) (Ne.symm hb)).trans hu) ⟨_,q⟩ ?_
  exact ⟨hz,its',_,hv,q⟩
theorem Inv.lnew {its:List Value} {t':Nat} (I:Inv X pins σ H s) (hv:Vals ys its) (hz:ys.length≤sizeLine) :
    Inv X pins σ (upd H s.heap.objs.size (.lst ys)) { s with heap:=s.heap.push { cls:=.type "list",data:=.seq its.toArray },toks:=t' } :=
  I.laid (fun _ _ q=>Heap.get?_push_of_some _ q) (Nat.le_refl _) ⟨hz,its,0,hv,Heap.get?_push_size _ rfl⟩
theorem Inv.fresh (I:Inv X pins σ H s):H s.heap.objs.size=none:=I.hok.fresh (Nat.le_refl _)
theorem Inv.lstM (I:Inv X pins σ H s) (hH:H l=some (.lst xs)):xs.length≤sizeLine∧∃ (its:List Value) (n:Nat),Vals xs its∧xs.length=its.length∧s.heap.get? l=some { cls:=.type "list",data:=.seq its.toArray n }:=by
  obtain ⟨z,its,n,r,e⟩:=I.hok l _ hH
  exact ⟨z,its,n,r,r.length,e⟩
theorem notLongL {n:Nat} (h:n≤sizeLine):Builtin.List.listTooLong n=false:=by
  unfold Builtin.List.listTooLong
  exact decide_eq_false (by lia)
end
section
variable {X:Cx}
def rAppend:V→List V→Hp→VK→Prop:=fun x vs H Q=>∃ l xs y,x=.ref l∧vs=[y]∧H l=some (.lst xs)∧xs.length<sizeLine∧Q .non (upd H l (.lst (xs++[y])))
theorem mt_append:MtM X "list.append" rAppend:=by
  intro pins s σ H x vs v us Q I rx rv h
  obtain ⟨l,xs,y,rfl,rfl,hH,hz,q⟩:=h
  cases rx
  obtain ⟨u,rfl,ru⟩:=rv.one
  obtain ⟨z,its,n,r,hl,e⟩:=I.lstM hH
  refine call_meets F.slot_list_append ⟨_,e,rfl⟩ F.entry_list_append (F.args_list_append_2 _ _) (PySem.list_append l its.toArray n u (by rw [List.size_toArray]; lia)) ⟨e,?_⟩
  refine ⟨.non,_,I.lset (its':=its++[u]) hH e (by simp) (r.append (.cons ru .nil)) ?_,rfl,q⟩
  rw [List.length_append,List.length_singleton]
  lia
def rCat:R2:=fun x y H Q=>∃ l b xs zs,x=.ref l∧y=.ref b∧H l=some (.lst xs)∧H b=some (.lst zs)∧xs.length+zs.length≤sizeLine∧∀ p,H p=none→Q (.ref p) (upd H p (.lst (xs++zs)))
theorem op_cat:OpR X (binaryOp .Add) rCat:=by
  intro pins s σ H x y v u Q I rx ry h
  obtain ⟨l,b,xs,zs,rfl,rfl,hH,hB,hz,q⟩:=h
  cases rx
  cases ry
  obtain ⟨z,its,n,r,hl,e⟩:=I.lstM hH
  obtain ⟨z2,its2,n2,r2,hl2,e2⟩:=I.lstM hB
  refine PySem.P.add_list e e2 ?_ (by rw [List.size_toArray,List.size_toArray]; lia)
  have ea:its.toArray++its2.toArray=(its++its2).toArray:=by simp
  rw [ea]
  exact ⟨.ref _,_,I.lnew (t':=s.toks) (r.append r2) (by rw [List.length_append]; lia),rfl,q _ I.fresh⟩
def rRep:R2:=fun x y H Q=>∃ l k xs,x=.ref l∧y=.int k∧H l=some (.lst xs) ∧ -(2 ^ 63)≤k∧k<2 ^ 63∧xs.length * k.toNat≤sizeLine ∧
  ∀ p,H p=none→Q (.ref p) (upd H p (.lst (List.replicate k.toNat xs).flatten))
theorem len_rep {α:Type} (xs:List α) (k:Nat):(List.replicate k xs).flatten.length=k * xs.length:=by
  induction k with
  | zero=>simp
  | succ k ih=>rw [List.replicate_succ,List.flatten_cons,List.length_append,ih,Nat.succ_mul,Nat.add_comm]
theorem op_rep:OpR X (binaryOp .Mult) rRep:=by
  intro pins s σ H x y v u Q I rx ry h
  obtain ⟨l,k,xs,rfl,rfl,hH,h1,h2,hz,q⟩:=h
  cases rx
  obtain ⟨t,rfl⟩:=ry
  obtain ⟨z,its,n,r,hl,e⟩:=I.lstM hH
  have hlen:its.toArray.size * k.toNat≤sizeLine:=by rw [List.size_toArray,← hl]; exact hz
  have hcap:¬ its.toArray.size * k.toNat > (2 ^ 63 - 1) / 8:=by
    have:(sizeLine:Nat)≤(2 ^ 63 - 1) / 8:=by decide
    lia
  have hfit:¬ (!Builtin.List.listFitsIndex k)=true:=by
    rw [fitsIndex_both h1 h2]
    exact Bool.false_ne_true
  have hlong:¬ Builtin.List.listTooLong (its.toArray.size * k.toNat)=true:=by
    rw [notLongL hlen]
    exact Bool.false_ne_true
  have hnew:List.foldl (fun x1 x2=>x1++x2) #[] (List.replicate (if its.toArray.isEmpty=true then 0 else k.toNat) its.toArray)=(List.replicate k.toNat its).flatten.toArray:=by
    have f0:∀ m:Nat,List.foldl (fun x1 x2=>x1++x2) #[] (List.replicate m its.toArray)=(List.replicate m its).flatten.toArray:=fun m=>by
      have:=foldl_rep its m []
      rw [List.nil_append] at this
      exact this
    rw [f0]
    cases its with
    | nil=>simp
    | cons a r'=>rw [if_neg (by simp)]
  refine wpAny_binaryOp_repeat_ref (T := "list") (U := "int") (by decide) ⟨_,e,rfl⟩ (fun s'=>typeIs_int s' k t) noFill_list_mul F.fills_int_mul F.slot_int_rmul repeat_list F.slot_int_index.lookup
    (call_meets F.slot_int_rmul (typeIs_int s k t) F.entry_int_rmul (F.args_int_rmul_2 _ _) (int___rmul___int_list k t l its.toArray n)
      ⟨e,rfl,⟨_,e,rfl⟩,call_meets F.slot_list_mul ⟨_,e,rfl⟩ F.entry_list_mul (F.args_list_mul_2 _ _) (AutoListH.list___mul___list_int_3 l its.toArray n k t hfit hcap hlong) ⟨e,?_⟩⟩)
  rw [hnew]
  exact ⟨.ref _,_,I.lnew (t':=s.toks) (r.rep k.toNat) (by rw [len_rep,Nat.mul_comm]; exact hz),rfl,q _ I.fresh⟩
end
end L2
namespace Att
open PySem PySem.W PySem.Calls PyProof.Rows
theorem ints_of_wellAll {P:Params} {h:Heap}:∀ (ns:List Int) (vs:List Value),WellAll P h vs (ns.map WData.int)→IntsAre vs ns:=by
  intro ns
  induction ns with
  | nil =>
    intro vs w
    rw [List.map_nil] at w
    cases w
    exact .nil
  | cons n ns ih =>
    intro vs w
    rw [List.map_cons] at w
    cases w with
    | cons a b =>
      cases a
      exact .cons _ _ (ih _ b)
theorem script_of {l:OpenLaw} {n:Nat} (hn:l.most=some n) {P:Params} {h:Heap} {args:List WData} {vals:List Value}
    (hpre:l.row.toRowW.claim.pre args=true) (hwl:WellAll P h vals args) :
    ∃ a vs ns,vals=[Value.ref a]∧args=[WData.list (ns.map WData.int)]∧h.get? a=some { cls:=.type "list",data:=.seq vs.toArray }∧IntsAre vs ns∧ns.length≤n:=by
  have hsh:WShape.hasAll [] args [.list .int]=true:=(pre_splitW hpre).1
  have hc:l.pre.holds [] { args:=args }=true:=(pre_splitW hpre).2
  obtain ⟨d,r,rfl,h1,h2⟩:=hasAllW_cons hsh
  obtain rfl:=hasAllW_nil h2
  obtain ⟨xs,rfl,h3⟩:=hasW_list h1
  obtain ⟨ns,rfl⟩:=items_int h3
  have hlen:ns.length≤n:=by
    unfold OpenLaw.pre at hc
    have h4:(WTm.not (.lt (.lit (.int (n:Int))) (.len (.arg 0)))).holds [] { args:=[.list (ns.map .int)] }=true:=by
      have h4:=(holds_andW hc).1
      rw [hn] at h4
      exact h4
    have h5:=condW_of h4 (w_not (w_lt w_lit (w_len_list (w_arg rfl))))
    rw [List.length_map] at h5
    refine Nat.le_of_not_lt fun q=>?_
    have q':(n:Int)<((ns.length:Nat):Int):=by lia
    first
      | (rw [decide_eq_true q'] at h5; exact absurd h5 (by decide))
      | (simp at h5; lia)
  cases hwl with
  | cons w1 w2 =>
    cases w2
    cases w1 with
    | list ho hall=>exact ⟨_,_,ns,rfl,rfl,ho,ints_of_wellAll ns _ hall,hlen⟩
theorem post_true (l:OpenLaw) (args:List WData):l.row.toRowW.claim.post args (.bool true) args=true :=
  postW_of (r:=l.row.toRowW) (X:=(true == true))
    (show WShape.has [] (.bool true) .bool=true by first | rfl | decide | simp [WShape.has,WShape.arms,WShape.armsAll])
    (show (WTm.eq .res (.lit (.bool true))).value [] { args:=args,res:=some (.bool true),after:=args }=some (.bool (true == true)) from w_eq_bool (w_res rfl) w_lit) rfl
theorem attach_call {l:OpenLaw} {n:Nat} {q:Program} {loose:List Str} {XP:(Str→Option Value)→Heap→Prop} {YP:World→Heap→Prop} {d:DefRec}
    (hn:l.most=some n) (hdf:d.params.defaults=[])
    (call:∀ (w:World) (s₀ s₁:Shared) (mg mb:Str→Option Value) (fa:Addr) (o:Obj) (pm cd doc:Value) (a:Addr) (vs:List Value) (ns:List Int),
      Ground q loose [] XP w s₀ mg mb s₁.heap→YP w s₁.heap →
      s₁.heap.get? fa=some o→o.data=.func (docDef d.name d.params d.body d.scope pm cd doc)→s₁.heap.CodeRec cd d.name→mg d.name=some (.ref fa) →
      s₁.heap.get? a=some { cls:=.type "list",data:=.seq vs.toArray }→IntsAre vs ns→ns.length≤n→s₁.gens=#[] →
      codeAny (model l.prog w) callerA (.call (.ref fa) ⟨[.ref a],[]⟩) (fun r s'=>r=.ok (.ret (.bool true))∧OldK s₁.heap s'.heap∧s'.os=s₁.os∧AllBare s'.gens) s₁) :
    WalkO q loose XP YP l.row.toRowW d [] (fun f vs=>PySem.call f vs):=by
  intro w s₀ s₁ mg mb G Y fa o pm cd doc dV kV ho hd hcd hD hmg hg args vals as hpre hlay hrd hwl hlo
  obtain rfl:dV=.none:=Dflts.none hD hdf
  obtain rfl:kV=.none:=Dflts.noKw hD
  obtain ⟨a,vs,ns,rfl,rfl,hobj,hints,hlen⟩:=script_of hn hpre hwl
  refine enter_call (codeAny_mono (call w s₀ s₁ mg mb fa o pm cd doc a vs ns G Y ho (fd_plain hd) hcd hmg hobj hints hlen hg) fun r s' hq=>?_)
  obtain ⟨rfl,h2,h3,h4⟩:=hq
  exact ⟨.inl ⟨.bool true,.bool true,[],rfl,fun _=>rfl,.bool true,post_true l _,fun _=>⟨List.Pairwise.nil,fun _ hm=>(nomatch hm)⟩⟩,h2,h3,h4⟩
end Att
namespace L2
open PySem PySem.Spec PyProof.Rows
theorem vals_ints:∀ {vs:List Value} {ns:List Int},IntsAre vs ns→Vals (ns.map V.int) vs
  | _,_,.nil=>.nil
  | _,_,.cons n t h=>.cons ⟨t,rfl⟩ (vals_ints h)
end L2
namespace L2
open PySem PySem.Spec PyProof.Rows
end L2
namespace L2
open PySem PySem.Spec PyProof.Rows
def inClass (s:Stmt) (j:Nat):Stmt:=match s with
  | .ClassDef _ _ _ body _ _ _ _ _ _ _=>body.getD j (.Pass ⟨0,0,0,0⟩)
  | _=>.Pass ⟨0,0,0,0⟩
def defArgs (s:Stmt):Arguments:=match s with
  | .FunctionDef _ a _ _ _ _ _ _ _ _=>a
  | _=>{ posonlyargs:=[],args:=[],vararg:=none,kwonlyargs:=[],kw_defaults:=[],kwarg:=none,defaults:=[] }
def defBody (s:Stmt):List Stmt:=match s with
  | .FunctionDef _ _ b _ _ _ _ _ _ _=>b
  | _=>[]
def defScope (s:Stmt):Scope:=match s with
  | .FunctionDef _ _ _ _ _ _ sc _ _ _=>sc
  | _=>{ kind:=.function,names:=[],isGenerator:=false,isCoroutine:=false }
abbrev CX0:CXT:=fun _ _ _ _ _ _=>False
abbrev E0:XK:=fun _ _ _=>False
theorem pass0 {X:Cx}:Passes CX0 X E0:=fun _ _ _ _ _ _ _ h=>h.elim
structure Fun (K:PySem.W.Frag) (x qual:Str) (st:Stmt) (f:Addr) (fd:FuncData):Prop where
  ex:∃ (oc:Value) (od:Option Addr) (kV doc pm:Value) (an:Option Addr) (cdv ct:Value) (osl:Array (Option Value)),
    fd=PySem.W.fnOf x qual (defArgs st) (defBody st) (defScope st) .none kV doc pm an cdv ct∧K.lookup f=some ⟨oc,od,.func fd,osl⟩∧PySem.W.codeIn K cdv qual=true
  kp:PySem.W.keepIn K (.ref f)=true
section
variable {P:Program} {w:World} {K:PySem.W.Frag} {mg:Str→Option Value} {base:Heap}
theorem Fun.ok {x qual:Str} {st:Stmt} {f:Addr} {fd:FuncData} {N ps:List Str} {k:Nat} {sp:Sp} (F:Fun K x qual st f fd) (S:FnScope N ps (defScope st)) (len:∀ vs H Q E,sp vs H Q E→vs.length=ps.length)
    (hbody:∀ (cdv:Value) (A:Around) (outer:List Env) (s:Shared) (H:Hp) (vs:List V) (Q:VK) (E:XK),Room k (A.deeper (envOfC qual (defScope st) s.heap.objs.size f cdv))→sp vs H Q E →
      ∃ t,PSs (cxOf CX0 P w K mg base N qual (defScope st) f cdv A outer s H E).nox (defBody st) t∧t { nx:=fun _ H'=>Q .non H',rt:=Q } (start N vs) H):FnOk P w K mg base CX0 (k+1) f fd ps sp:=by
  obtain ⟨oc,od,kV,doc,pm,an,cdv,ct,osl,rfl,lk,hcd⟩:=F.ex
  refine fn_of lk hcd S len fun A outer s H vs Q E hr hsp=>?_
  obtain ⟨t,h,q⟩:=hbody cdv A outer s H vs Q E hr hsp
  exact ⟨t,h.nox,q⟩
theorem Fun.binds {x qual:Str} {st:Stmt} {f:Addr} {fd:FuncData} {ps:List Str} (F:Fun K x qual st f fd)
    (h:∀ (kV doc pm:Value) (an:Option Addr) (cdv ct:Value) (us:List Value),us.length=ps.length→bindArgs (PySem.W.fnOf x qual (defArgs st) (defBody st) (defScope st) .none kV doc pm an cdv ct) ⟨us,[]⟩=pure (ps.zip us)):Binds K fd ps []:=by
  obtain ⟨oc,od,kV,doc,pm,an,cdv,ct,osl,rfl,lk,hcd⟩:=F.ex
  exact .all (h kV doc pm an cdv ct)
theorem fun_mk {x qual:Str} {st:Stmt} {f:Addr} {oc:Value} {od an:Option Addr} {osl:Array (Option Value)} {kV doc pm cdv ct:Value} (l:K.lookup f=some ⟨oc,od,.func (PySem.W.fnOf x qual (defArgs st) (defBody st) (defScope st) .none kV doc pm an cdv ct),osl⟩)
    (c:PySem.W.codeIn K cdv qual=true) (k:PySem.W.keepIn K (.ref f)=true):Fun K x qual st f (PySem.W.fnOf x qual (defArgs st) (defBody st) (defScope st) .none kV doc pm an cdv ct):=⟨⟨oc,od,kV,doc,pm,an,cdv,ct,osl,rfl,l,c⟩,k⟩
end
theorem hu_of {A:Around} {k:Nat} (hr:Room k A):A.units+1<cLine:=Nat.lt_of_le_of_lt (Nat.add_le_add_left (by decide:1≤64) _) hr.units
theorem small1000 {n:Nat} (h:n≤1000):n<sizeLine:=Nat.lt_of_le_of_lt h (by decide)
section
variable {X:Cx}
theorem pv (i:Nat) {x:Str} {pos:Pos} (hN:X.N[i]?=some x:=by rfl) (hv:Vis X.env.scope x:=by first | exact Or.inl rfl | exact Or.inr (Or.inl rfl) | exact Or.inr (Or.inr rfl)) (hd:(x == ("__debug__" : Str))=false:=by decide)
    (hcd:(x == ("__classdict__" : Str))=false:=by decide):PE X (.Name x pos) (tVar i):=pe_var hN hv hd hcd
end
def Same (H H':Hp):Prop:=∀ b o,H b=some o→H' b=some o
theorem Same.refl (H:Hp):Same H H:=fun _ _ h=>h
theorem Same.trans {H H1 H2:Hp} (a:Same H H1) (b:Same H1 H2):Same H H2:=fun c o h=>b c o (a c o h)
theorem Same.free {H H':Hp} (e:Same H H') {l:Addr} (h:H' l=Option.none):H l=Option.none:=by
  cases q:H l with
  | none=>rfl
  | some o =>
    rw [e l o q] at h
    cases h
theorem Same.seq {K:PySem.W.Frag} {H H':Hp} {a:Addr} {xs:List V} (e:Same H H') (h:SqL K H a xs):SqL K H' a xs:=by
  rcases h with (h | ⟨o,h⟩) | h
  · exact .inl (.inl (e _ _ h))
  · exact .inl (.inr ⟨o,e _ _ h⟩)
  · exact .inr h
end L2
set_option Elab.async false
set_option linter.all false
set_option maxRecDepth 100000
set_option maxHeartbeats 4000000
namespace L2
open PySem PySem.Spec PyProof.Rows
def cxIn (X:Cx) (N:List Str) (scope:Scope) (cl:List (Str×Addr)) (C:Addr) (s0:Shared) (H0:Hp) (fp:List Addr) (pins:List (Addr×Obj)):Cx :=
  { X with N:=N,s₀:=s0,H₀:=H0,env:=compEnvC scope cl C X.env,outer:=X.stack,stack:=X.stack,ex:=fp,fn:=fun x=>scope.names.lookup x == some .cell,pn:=X.pn++pins,xe:=fun _ _=>False }
theorem closure_for {env:Env}:∀ (names:List (Str×NameKind)) (acc:List (Str×Addr)),(∀ p∈names,p.2=.free→∃ c,env.cells.lookup p.1=some c)→(∀ x c,acc.lookup x=some c→env.cells.lookup x=some c) →
    ∃ cl,(forIn names acc fun (x:Str×NameKind) cs=>(match x with | (name,kind)=>if (kind == NameKind.free)=true then do let a ← cellOf env name; pure (ForInStep.yield ((name,a) :: cs)) else pure (ForInStep.yield cs):Sem (ForInStep (List (Str×Addr)))))=(pure cl:Sem (List (Str×Addr))) ∧
      (∀ x c,cl.lookup x=some c→env.cells.lookup x=some c)∧(∀ x c,acc.lookup x=some c→cl.lookup x=some c)∧∀ p∈names,p.2=.free→∃ c,cl.lookup p.1=some c
  | [],acc,_,h=>⟨acc,rfl,h,fun _ _ e=>e,fun _ z=>nomatch z⟩
  | (n,k) :: r,acc,h,ha=>by
    by_cases hk:k=.free
    · subst hk
      obtain ⟨c,hc⟩:=h (n,.free) List.mem_cons_self rfl
      have ha':∀ x d,((n,c) :: acc).lookup x=some d→env.cells.lookup x=some d:=fun x d e=>by
        rw [List.lookup_cons] at e
        cases q:x == n with
        | true =>
          rw [q] at e
          have hxn:x=n:=by simpa using q
          subst hxn
          cases e
          exact hc
        | false =>
          rw [q] at e
          exact ha x d e
      obtain ⟨cl,e1,e2,e3,e4⟩:=closure_for r ((n,c) :: acc) (fun p hp=>h p (List.mem_cons_of_mem _ hp)) ha'
      have top:∃ d,cl.lookup n=some d:=⟨c,e3 n c (by rw [List.lookup_cons]; simp)⟩
      refine ⟨cl,?_,e2,fun x d e=>?_,fun p hp hf=>?_⟩
      · rw [List.forIn_cons]
        simp only [cellOf,hc,beq_self_eq_true,if_true]
        exact e1
      · cases q:x == n with
        | true =>
          have hxn:x=n:=by simpa using q
          subst hxn
          have z:=ha x d e
          rw [hc] at z; cases z
          exact e3 x c (by rw [List.lookup_cons]; simp)
        | false=>exact e3 x d (by rw [List.lookup_cons,q]; exact e)
      · rcases List.mem_cons.mp hp with rfl | hp
        · exact top
        · exact e4 p hp hf
    · obtain ⟨cl,e1,e2,e3,e4⟩:=closure_for r acc (fun p hp=>h p (List.mem_cons_of_mem _ hp)) ha
      have hb:(k == NameKind.free)=false:=by simpa using hk
      refine ⟨cl,?_,e2,e3,fun p hp hf=>?_⟩
      · rw [List.forIn_cons]
        simp only [hb,Bool.false_eq_true,if_false]
        exact e1
      · rcases List.mem_cons.mp hp with rfl | hp
        · exact absurd hf hk
        · exact e4 p hp hf
theorem lookup_keep {α:Type} (f:Str→α→α) (x:Str):∀ l:List (Str×α),(l.map fun p=>(p.1,f p.1 p.2)).lookup x=(l.lookup x).map (f x)
  | []=>rfl
  | (n,k) :: r=>by
    have ih:=lookup_keep f x r
    rw [List.map_cons,List.lookup_cons,List.lookup_cons]
    cases q:x == n with
    | true =>
      have e:x=n:=by simpa using q
      subst e
      rfl
    | false=>exact ih
def kindIn (env:Env) (n:Str) (k:NameKind):NameKind:=if (k == NameKind.free && env.scope.kind == .function && env.kindOf n == some .cell)=true then .cell else k
theorem relabel_look (scope:Scope) (env:Env) (x:Str):(relabel scope env).names.lookup x=(scope.names.lookup x).map (kindIn env x):=by
  rw [← lookup_keep (kindIn env) x scope.names]
  show (scope.names.map _).lookup x=_
  congr 1
  refine List.map_congr_left fun p _=>?_
  show (if _ then _ else _)=_
  unfold kindIn
  split <;> rfl
theorem kindIn_cases (env:Env) (n:Str) (k:NameKind):kindIn env n k=k∨(k=.free∧kindIn env n k=.cell):=by
  unfold kindIn
  by_cases h:(k == NameKind.free && env.scope.kind == .function && env.kindOf n == some .cell)=true
  · refine .inr ⟨?_,if_pos h⟩
    rw [Bool.and_eq_true,Bool.and_eq_true] at h
    exact beq_iff_eq.mp h.1.1
  · exact .inl (if_neg h)
theorem lookup_relabel_kind {scope:Scope} {env:Env} {x:Str} {k:NameKind} (h:scope.names.lookup x=some k) :
    (relabel scope env).names.lookup x=some k∨(k=.free∧(relabel scope env).names.lookup x=some .cell):=by
  rw [relabel_look,h]
  rcases kindIn_cases env x k with q | ⟨q,q'⟩
  · exact .inl (congrArg some q)
  · exact .inr ⟨q,congrArg some q'⟩
theorem relabel_back {scope:Scope} {env:Env} {x:Str} {k:NameKind} (h:(relabel scope env).names.lookup x=some k):∃ k',scope.names.lookup x=some k'∧(k'=k∨k'=.free):=by
  rw [relabel_look] at h
  cases q:scope.names.lookup x with
  | none=>rw [q] at h; cases h
  | some k' =>
    rw [q] at h
    have h':kindIn env x k'=k:=Option.some.inj h
    rcases kindIn_cases env x k' with z | ⟨z,_⟩
    · exact ⟨k',rfl,.inl (z.symm.trans h')⟩
    · exact ⟨k',rfl,.inr z⟩
theorem lookup_mem {α:Type} {x:Str}:∀ {l:List (Str×α)} {k:α},l.lookup x=some k→(x,k)∈l
  | [],_,h=>by simp at h
  | (n,k) :: r,k',h=>by
    rw [List.lookup_cons] at h
    cases hx:x == n with
    | true =>
      rw [hx] at h; cases h
      have:x=n:=by simpa using hx
      subst this
      exact List.mem_cons_self
    | false =>
      rw [hx] at h
      exact List.mem_cons_of_mem _ (lookup_mem h)
theorem comp_loop {prog:Program} {w:World} {A:Around} {s:Shared} {elt target iter:PySem.Expr} {ifs:List PySem.Expr} {scope:Scope} {pos:Pos} {it acc:Value} {env:Env} {R:Result→Shared→Prop} (I:Nat→Shared→Prop)
    (turn:∀ n s,I n s→wpAny (model prog w) A (pyNext it) (fun r s1=>match r with
      | none=>R (.ok .next) s1
      | some v=>wpAny (model prog w) A (letOwnedTupleGo target it v) (fun _ s0=>wpAny (model prog w) A (assign target env v) (fun _ s2 =>
          wpAny (model prog w) A (forIn ifs true fun c r=>if r=true then do let ok ← isTrue c env (eval c env); pure (ForInStep.yield ok) else pure (ForInStep.yield r)) (fun ok s3 =>
            if ok=true then wpAny (model prog w) A (eval elt env) (fun x s4 =>
              wpAny (model prog w) A (call (.builtin "list.append") [acc,x]) (fun _ s5=>∃ m,m<n∧I m s5) (fun _ _=>False) s4) (fun _ _=>False) s3
            else ∃ m,m<n∧I m s3) (fun _ _=>False) s2) (fun _ _=>False) s0) (fun _ _=>False) s1) (fun _ _=>False) s)
    (n:Nat) (h:I n s):codeAny (model prog w) A (.compLoop (.ListComp elt [⟨target,iter,ifs,0⟩] scope pos) 0 it acc env) R s:=by
  have body:∀ n s,I n s→wpAny (model prog w) A (compTurn (.ListComp elt [⟨target,iter,ifs,0⟩] scope pos) 0 it acc env)
      (fun fin s'=>match fin with | .done f=>R (.ok f) s' | .again c=>c=.compLoop (.ListComp elt [⟨target,iter,ifs,0⟩] scope pos) 0 it acc env∧∃ m,m<n∧I m s') (fun _ _=>False) s:=fun n s hI=>by
    rw [compTurn_list]
    refine wpAny_bind (wpAny_standAt (wpAny_bind (thn (turn n s hI) fun r s1 h1=>?_)))
    cases r with
    | none=>exact wpAny_pure h1
    | some v =>
      refine wpAny_bind (thn h1 fun _ s0 h0=>wpAny_bind (thn h0 fun _ s2 h2=>wpAny_bind (thn h2 fun ok s3 h3=>?_)))
      cases ok with
      | true=>exact wpAny_bind (wpAny_bind (thn h3 fun x s4 h4=>wpAny_bind (thn h4 fun _ s5 h5=>wpAny_pure (wpAny_pure ⟨rfl,h5⟩))))
      | false=>exact wpAny_pure ⟨rfl,h3⟩
  exact codeAny_loop rfl I (fun n s hI=>wpAny_noted (wpAny_mono (body n s hI) (fun _ _ q=>q) fun _ _ q=>q.elim)) n h
def tComp (own:Nat) (js:List Nat) (wi:TI) (g:TG) (tc:TT) (te:TE):TE:=fun σ H Q=>wi σ H fun J H1=>∀ l,H1 l=none →
  ∃ W:Nat→Nat→List V→St→Hp→Prop,(∃ m,W 0 m [] (List.replicate own none++js.map fun j=>(σ[j]?).join) (upd H1 l (.lst [])))∧∀ i m ys σ' H',W i m ys σ' H' →
    (J.stop i H'∧Q (.ref l) H')∨(J.go i H'∧∀ x H2,J.yld i H' x H2→g x σ' H2 fun σ2 H3=>tc σ2 H3 fun b H4 =>
      if b=true then te σ2 H4 fun y H5=>H5 l=some (.lst ys)∧ys.length<sizeLine∧∃ m',m'<m∧W (i+1) m' (ys++[y]) σ2 (upd H5 l (.lst (ys++[y])))
      else ∃ m',m'<m∧W (i+1) m' ys σ2 H4)
def tTrue:TT:=fun _ H Q=>Q true H
structure CompOk (X:Cx) (scope:Scope) (N:List Str) (own:Nat) (js:List Nat):Prop where
  kind:scope.kind=.function
  cell:∀ y∈scope.names,y.2=.cell→scope.names.lookup y.1=some .cell
  names:∀ y∈scope.names,y.2=.local→scope.names.lookup y.1=some .local
  free:∀ y∈scope.names,y.2=.free→X.env.kindOf y.1=some .cell∨X.env.kindOf y.1=some .free
  len:N.length=own+js.length
  js:∀ k j,js[k]?=some j→N[own+k]?=X.N[j]?
  jf:∀ k x,N[own+k]?=some x→scope.names.lookup x=some .free
theorem Un.but {fs ex:List Addr} {H H':Hp} {h h1 h2:Heap} {C:Addr} (u:Un fs ex H H' h h1) (hc:h.objs.size≤C) (sb:∀ b o,b≠C→h1.get? b=some o→h2.get? b=some o):Un fs ex H H' h h2:=by
  have ne:∀ b o,h.get? b=some o→b≠C:=fun b o e=>Nat.ne_of_lt (Nat.lt_of_lt_of_le (Heap.lt_size e) hc)
  refine ⟨fun b o q n hb hx=>sb b o (ne b o q) (u.keep b o q n hb hx),fun b o q n hb hx=>?_,u.free,fun b o q hx=>?_,u.tups,u.frzs,u.tbls⟩
  · obtain ⟨sl,e⟩:=u.slot b o q n hb hx
    exact ⟨sl,sb b _ (ne b o q) e⟩
  · obtain ⟨o',e⟩:=u.there b o q hx
    exact ⟨o',sb b o' (ne b o q) e⟩
theorem cf_app:∀ (names:List (Str×NameKind)) (n:Nat) (acc:List (Str×Addr)),cellsFrom n names acc=cellsFrom n names []++acc
  | [],_,_=>rfl
  | (x,k) :: r,n,acc=>by
    unfold cellsFrom
    by_cases hk:(k == NameKind.cell)=true
    · rw [if_pos hk,if_pos hk,cf_app r (n+1) ((x,n) :: acc),cf_app r (n+1) [(x,n)],List.append_assoc]
      rfl
    · rw [if_neg hk,if_neg hk]
      exact cf_app r n acc
theorem cf_from:∀ (names:List (Str×NameKind)) (n:Nat) (x:Str) (c:Addr),(x,c)∈cellsFrom n names []→(x,NameKind.cell)∈names
  | [],_,_,_,h=>nomatch h
  | (y,k) :: r,n,x,c,h=>by
    unfold cellsFrom at h
    by_cases hk:(k == NameKind.cell)=true
    · rw [if_pos hk,cf_app] at h
      rcases List.mem_append.mp h with q | q
      · exact List.mem_cons_of_mem _ (cf_from r _ x c q)
      · have e:(x,c)=(y,n):=by simpa using q
        cases e
        have hk':k=.cell:=by simpa using hk
        subst hk'
        exact List.mem_cons_self
    · rw [if_neg hk] at h
      exact List.mem_cons_of_mem _ (cf_from r _ x c h)
theorem lookup_of_mem {α:Type}:∀ {l:List (Str×α)} {x:Str} {c:α},(x,c)∈l→∃ d,l.lookup x=some d
  | (y,v) :: r,x,c,h=>by
    rw [List.lookup_cons]
    cases q:x == y with
    | true=>exact ⟨v,rfl⟩
    | false =>
      rcases List.mem_cons.mp h with e | e
      · cases e; simp at q
      · exact lookup_of_mem e
theorem cf_has:∀ (names:List (Str×NameKind)) (n:Nat) (x:Str),(x,NameKind.cell)∈names→∃ c,(x,c)∈cellsFrom n names []
  | [],_,_,h=>nomatch h
  | (y,k) :: r,n,x,h=>by
    unfold cellsFrom
    rcases List.mem_cons.mp h with e | e
    · cases e
      rw [if_pos (show (NameKind.cell == NameKind.cell)=true from rfl),cf_app]
      exact ⟨n,List.mem_append_right _ (by simp)⟩
    · by_cases hk:(k == NameKind.cell)=true
      · rw [if_pos hk,cf_app]
        obtain ⟨c,q⟩:=cf_has r (n+1) x e
        exact ⟨c,List.mem_append_left _ q⟩
      · rw [if_neg hk]
        exact cf_has r n x e
theorem lookup_two {α:Type}:∀ (l m:List (Str×α)) (x:Str),(l++m).lookup x=match l.lookup x with | some c=>some c | none=>m.lookup x
  | [],m,x=>rfl
  | (y,v) :: r,m,x=>by
    rw [List.cons_append,List.lookup_cons,List.lookup_cons]
    cases x == y with
    | true=>rfl
    | false=>exact lookup_two r m x
theorem newEnv_cells {M:Model} {A:Around} {E:Value→Shared→Prop} {s:Shared} {scope:Scope} {globals:Addr} {cl:List (Str×Addr)} {qual:Str} {env:Env} {Q:Env→Shared→Prop}
    (h:Q (newEnv scope s.heap.objs.size globals (cellsFrom (s.heap.objs.size+1) scope.names cl) qual none .none (some env) builtinsNs) { s with heap:=pushCells (s.heap.push { cls:=.type "dict",data:=.dict #[] }) scope.names }) :
    wpAny M A (newFunctionEnv scope globals cl [] qual none .none (some env)) Q E s:=by
  simp only [newFunctionEnv,Option.isSome_some,if_true]
  refine wpAny_bind (wpAny_alloc (wpAny_bind (wpAny_layCells _ (fun name kind cells=>by cases hkc:kind == NameKind.cell <;> simp [hkc]) _ _ _ _ ?_)))
  rw [show ({ s with heap:=s.heap.push { cls:=.type "dict",data:=.dict #[] } }:Shared).heap.objs.size=s.heap.objs.size+1 from Heap.size_push ..]
  rw [List.forIn_nil]
  exact wpAny_bind (wpAny_pure (wpAny_pure h))
structure CellsIn (X:Cx) (scope:Scope) (cl':List (Str×Addr)) (n:Nat) (h':Heap):Prop where
  k1:∀ x c,cl'.lookup x=some c→X.env.cells.lookup x=some c∨(n<c∧h'.IsCell c none∧(x,NameKind.cell)∈scope.names)
  k2:∀ x,scope.names.lookup x=some .free→∃ c,cl'.lookup x=some c∧X.env.cells.lookup x=some c
  k3:∀ p∈scope.names,p.2=.cell∨p.2=.free→∃ c,cl'.lookup p.1=some c
  k4:∀ x y c,cl'.lookup x=some c→cl'.lookup y=some c→x=y
  k5:∀ x c,scope.names.lookup x=some .cell→cl'.lookup x=some c→n<c
section
variable {X:Cx} {scope:Scope} {N:List Str} {own:Nat} {js:List Nat}
theorem cellsIn_mk {cl:List (Str×Addr)} {n:Nat} {h0:Heap} (c:CompOk X scope N own js) (cl1:∀ x c,cl.lookup x=some c→X.env.cells.lookup x=some c) (cl2:∀ p∈scope.names,p.2=.free→∃ c,cl.lookup p.1=some c)
    (inj:∀ x y c,X.env.cells.lookup x=some c→X.env.cells.lookup y=some c→x=y) (lt:∀ x c,X.env.cells.lookup x=some c→c<n) (hn:h0.objs.size=n+1):CellsIn X scope (cellsFrom (n+1) scope.names cl) n (pushCells h0 scope.names):=by
  have ok:=cellsFrom_ok scope.names h0 (n+1) [] ⟨fun _ _ hm=>(nomatch hm),List.Pairwise.nil⟩ (by rw [hn]; exact Nat.le_refl _)
  rw [hn] at ok
  have two:∀ x,(cellsFrom (n+1) scope.names cl).lookup x=match (cellsFrom (n+1) scope.names []).lookup x with | some c=>some c | none=>cl.lookup x:=fun x=>by
    rw [cf_app,lookup_two]
    cases (cellsFrom (n+1) scope.names []).lookup x <;> rfl
  have own':∀ x d,(cellsFrom (n+1) scope.names []).lookup x=some d→(pushCells h0 scope.names).IsCell d none∧n<d∧(x,NameKind.cell)∈scope.names:=fun x d e =>
    ⟨(ok.empty x d (mem_of_lookup e)).1,(ok.empty x d (mem_of_lookup e)).2,cf_from _ _ x d (mem_of_lookup e)⟩
  have part:∀ x d,(cellsFrom (n+1) scope.names cl).lookup x=some d→(cellsFrom (n+1) scope.names []).lookup x=some d∨((cellsFrom (n+1) scope.names []).lookup x=none∧cl.lookup x=some d):=fun x d e=>by
    rw [two] at e
    cases q:(cellsFrom (n+1) scope.names []).lookup x with
    | some d'=>rw [q] at e; exact .inl e
    | none=>rw [q] at e; exact .inr ⟨rfl,e⟩
  have has:∀ x,(x,NameKind.cell)∈scope.names→∃ d,(cellsFrom (n+1) scope.names []).lookup x=some d:=fun x m=>by
    obtain ⟨d,q⟩:=cf_has scope.names (n+1) x m
    exact lookup_of_mem q
  refine ⟨fun x d e=>?_,fun x e=>?_,fun p hp hk=>?_,fun x y d e1 e2=>?_,fun x d e1 e2=>?_⟩
  · rcases part x d e with q | ⟨_,q⟩
    · exact .inr ⟨(own' x d q).2.1,(own' x d q).1,(own' x d q).2.2⟩
    · exact .inl (cl1 x d q)
  · obtain ⟨d,q⟩:=cl2 _ (lookup_mem e) rfl
    have no:(cellsFrom (n+1) scope.names []).lookup x=none:=by
      cases z:(cellsFrom (n+1) scope.names []).lookup x with
      | none=>rfl
      | some d' =>
        have y:=c.cell _ (own' x d' z).2.2 rfl
        rw [show scope.names.lookup x=_ from e] at y
        cases y
    exact ⟨d,by rw [two,no]; exact q,cl1 x d q⟩
  · rw [two]
    cases z:(cellsFrom (n+1) scope.names []).lookup p.1 with
    | some d'=>exact ⟨d',rfl⟩
    | none =>
      rcases hk with hk | hk
      · obtain ⟨d,q⟩:=has p.1 (by rw [← hk]; exact hp)
        rw [z] at q; cases q
      · exact cl2 p hp hk
  · rcases part x d e1 with q1 | ⟨_,q1⟩
    · rcases part y d e2 with q2 | ⟨_,q2⟩
      · exact name_of_addr ok.apart (mem_of_lookup q1) (mem_of_lookup q2)
      · exact absurd (Nat.lt_trans (own' x d q1).2.1 (lt y d (cl1 y d q2))) (Nat.lt_irrefl _)
    · rcases part y d e2 with q2 | ⟨_,q2⟩
      · exact absurd (Nat.lt_trans (own' y d q2).2.1 (lt x d (cl1 x d q1))) (Nat.lt_irrefl _)
      · exact inj x y d (cl1 x d q1) (cl1 y d q2)
  · obtain ⟨d',q⟩:=has x (lookup_mem e1)
    rw [two,q] at e2
    cases e2
    exact (own' x d q).2.1
theorem comp_start {pins:List (Addr×Obj)} {σ:St} {H:Hp} {s:Shared} {cl:List (Str×Addr)} {fp:List Addr} {h':Heap} {t':Nat} (c:CompOk X scope N own js) (I:Inv X pins σ H s) (hf:∀ b∈fp,FpOk X pins H b)
    (fo:∀ b∈fp,b<s.heap.objs.size)
    (ci:CellsIn X scope cl s.heap.objs.size h')
    (hn:h'.Ns s.heap.objs.size (fun _=>none)) (hk:∀ b o,s.heap.get? b=some o→h'.get? b=some o) :
    Inv (cxIn X N scope cl s.heap.objs.size s H fp pins) [] (List.replicate own none++js.map fun j=>(σ[j]?).join) H { s with heap:=h',toks:=t' }:=by
  have cne:∀ x c,cl.lookup x=some c→c≠s.heap.objs.size:=fun x c e=>by
    rcases ci.k1 x c e with q | ⟨q,_⟩
    · obtain ⟨v,q⟩:=I.cell x c q
      exact Nat.ne_of_lt q.lt
    · exact Nat.ne_of_gt q
  have ok:(cxIn X N scope cl s.heap.objs.size s H fp pins).Ok:=by
    refine ⟨I.ok.mod,c.kind,I.ok.glob,I.ok.blt,Nat.le_refl _,ci.k4,fun x hx=>?_,fun x d z e=>Nat.le_of_lt (ci.k5 x d (beq_iff_eq.mp (show (scope.names.lookup x == some .cell)=true from z)) e),I.ok.hd,I.ok.frames,.inl rfl,fun b hb=>⟨Nat.ne_of_lt (fo b hb),fun x d e=>(ci.k1 x d e).elim (fun q=>(hf b hb).2.2.2.2.1 x d q) fun q=>Nat.ne_of_gt (Nat.lt_trans (fo b hb) q.1)⟩,I.bs,
      Nat.le_trans I.ok.bsz I.sz,fun b o e hb=>?_,fun b hb z=>?_,I.stack,I.stkFree⟩
    · have back:∀ k,(relabel scope X.env).names.lookup x=some k→k=.cell∨k=.free→∃ k',(x,k')∈scope.names∧(k'=NameKind.cell∨k'=NameKind.free):=fun k e hk=>by
        obtain ⟨k',e',z⟩:=relabel_back e
        refine ⟨k',lookup_mem e',?_⟩
        rcases z with z | z
        · subst z; exact hk
        · exact .inr z
      obtain ⟨k',m,hk'⟩:∃ k',(x,k')∈scope.names∧(k'=NameKind.cell∨k'=NameKind.free):=by
        rcases hx with hx | hx
        · exact back _ hx (.inl rfl)
        · exact back _ hx (.inr rfl)
      exact ci.k3 _ m hk'
    · rcases (hf b hb).2.2.2.1 with z | z
      · exact I.ok.noex b o e z
      · exact absurd (Nat.lt_of_lt_of_le (Nat.lt_of_lt_of_le (Heap.lt_size e) I.ok.bsz) z) (Nat.lt_irrefl _)
    · rcases List.mem_cons.mp (I.stkSub b z) with q | q
      · exact (hf b hb).2.1 q
      · exact (hf b hb).2.2.1 q
  refine ⟨ok,rfl,I.bare,Un.kept hk,⟨_,hn,fun i x v e1 e2 e3=>?_⟩,fun x d e=>?_,I.hok.fresh (Nat.le_refl _),fun x d e=>(ci.k1 x d e).elim (fun q=>I.freeC x d q) fun q=>I.hok.fresh (Nat.le_of_lt q.1),fun p hp=>?_,I.hok.kept hk,?_⟩
  · -- a name with a value is one that the block closes over
    have hi:own≤i:=by
      by_cases hi:i<own
      · rw [List.getElem?_append_left (by simpa using hi),List.getElem?_replicate] at e2
        split at e2 <;> cases e2
      · lia
    obtain ⟨k,rfl⟩:∃ k,i=own+k:=⟨i - own,by lia⟩
    rw [List.getElem?_append_right (by simp),List.length_replicate,Nat.add_sub_cancel_left,List.getElem?_map] at e2
    cases q:js[k]? with
    | none=>rw [q] at e2; cases e2
    | some j =>
      rw [q] at e2
      have e2':(σ[j]?).join=some v:=by simpa using e2
      have e4:σ[j]?=some (some v):=by
        cases z:σ[j]? with
        | none=>rw [z] at e2'; cases e2'
        | some o=>rw [z] at e2'; rw [show o=some v from e2']
      have e1':N[own+k]?=some x:=e1
      have hXN:X.N[j]?=some x:=(c.js k j q).symm.trans e1'
      have hfr:=c.jf k x e1'
      have hmem:=lookup_mem hfr
      have hk2:=c.free _ hmem rfl
      have vis:Vis X.env.scope x:=by
        rcases hk2 with z | z
        · exact .inr (.inl z)
        · exact .inr (.inr z)
      obtain ⟨m,_,hl⟩:=I.loc
      obtain ⟨u,r,l⟩:=hl j x v hXN e4 vis
      refine ⟨u,r,?_⟩
      rcases l with ⟨z,_⟩ | ⟨_,d,e,⟨od,ho,hd⟩⟩
      · rcases hk2 with y | y
        · rw [show X.env.kindOf x=_ from z] at y; cases y
        · rw [show X.env.kindOf x=_ from z] at y; cases y
      · obtain ⟨d',e',z'⟩:=ci.k2 x hfr
        have:d'=d:=by have z:=z'; rw [e] at z; exact (Option.some.inj z).symm
        subst this
        refine .inr ⟨?_,d',e',⟨od,hk _ _ ho,hd⟩⟩
        rcases lookup_relabel_kind (scope:=scope) (env:=X.env) hfr with z | ⟨_,z⟩
        · exact .inr z
        · exact .inl z
  · rcases ci.k1 x d e with q | ⟨_,q,_⟩
    · obtain ⟨v,⟨o,ho,hd⟩⟩:=I.cell x d q
      exact ⟨v,o,hk _ _ ho,hd⟩
    · exact ⟨none,q⟩
  · have hp':p∈X.pn++pins:=by
      have z:p∈(X.pn++pins)++[]:=hp
      rwa [List.append_nil] at z
    obtain ⟨a1,a2,a3,a4,a5⟩:=I.pin p hp'
    refine ⟨hk _ _ a1,a2,Nat.ne_of_lt (Heap.lt_size a1),fun z=>?_,a5⟩
    rcases List.mem_cons.mp (I.stkSub p.1 z) with q | q
    · exact a3 q
    · exact a4 q
  · show _=N.length
    rw [c.len]; simp
theorem comp_block {pins:List (Addr×Obj)} {σ:St} {H:Hp} {s:Shared} {elt target iter:PySem.Expr} {ifs:List PySem.Expr} {pos:Pos} {it:Addr} {fp:List Addr} {tn:Nat→Heap→Prop} {J:It} {cl:List (Str×Addr)} {g:TG} {tc:TT} {te:TE} {E:Value→Shared→Prop} {Q:VK}
    {RR:Value→Addr→Result→Shared→Prop}
    (c:CompOk X scope N own js) (hc:X.calm=true) (I:Inv X pins σ H s) (T:Turn X.prog X.w X.K target J fp it tn) (st:tn 0 s.heap) (hf:∀ b∈fp,FpOk X pins H b)
    (cl1:∀ x c,cl.lookup x=some c→X.env.cells.lookup x=some c) (cl2:∀ p∈scope.names,p.2=.free→∃ c,cl.lookup p.1=some c)
    (hg:∀ cl C s0 H0 fp pins,PG (cxIn X N scope cl C s0 H0 fp pins) target g)
    (ht:∀ cl C s0 H0 fp pins pins' s σ H Q,Inv (cxIn X N scope cl C s0 H0 fp pins) pins' σ H s→tc σ H Q→wpAny (model X.prog X.w) X.A (forIn ifs true fun c r=>if r=true then do let ok ← isTrue c (compEnvC scope cl C X.env) (eval c (compEnvC scope cl C X.env)); pure (ForInStep.yield ok) else pure (ForInStep.yield r))
      (TP (cxIn X N scope cl C s0 H0 fp pins) pins' σ Q) (fun _ _=>False) s)
    (he:∀ cl C s0 H0 fp pins,PE (cxIn X N scope cl C s0 H0 fp pins) elt te)
    (h:∀ l,H l=none→∃ W:Nat→Nat→List V→St→Hp→Prop,(∃ m,W 0 m [] (List.replicate own none++js.map fun j=>(σ[j]?).join) (upd H l (.lst [])))∧∀ i m ys σ' H',W i m ys σ' H' →
      (J.stop i H'∧Q (.ref l) H')∨(J.go i H'∧∀ x H2,J.yld i H' x H2→g x σ' H2 fun σ2 H3=>tc σ2 H3 fun b H4 =>
        if b=true then te σ2 H4 fun y H5=>H5 l=some (.lst ys)∧ys.length<sizeLine∧∃ m',m'<m∧W (i+1) m' (ys++[y]) σ2 (upd H5 l (.lst (ys++[y])))
        else ∃ m',m'<m∧W (i+1) m' ys σ2 H4))
    (hRR:∀ l C H' s' m',s.heap.objs.size≤C→s'.heap.Ns C m'→H' C=none→C≠X.env.locals→C∉X.fs→(∀ h2,Heap.SameBut C s'.heap h2→Inv X pins σ H' { s' with heap:=h2 })→Q (.ref l) H'→RR (.ref l) C (.ok .next) s') :
    wpAny (model X.prog X.w) X.A (newList []) (fun acc s3=>wpAny (model X.prog X.w) X.A (newFunctionEnv scope X.env.globals cl [] X.env.qual none .none (some X.env)) (fun cenv s4 =>
      codeAny (model X.prog X.w) X.A (.compStart (.ListComp elt [⟨target,iter,ifs,0⟩] scope pos) 0 (.ref it) acc { cenv with scope:=relabel scope X.env }) (RR acc cenv.locals) s4) E s3) E s:=by
  have I2:Inv X pins σ (upd H s.heap.objs.size (.lst [])) { s with heap:=s.heap.push { cls:=.type "list",dict:=none,data:=.seq ([]:List Value).toArray },toks:=s.toks }:=I.lnew (ys:=[]) .nil (Nat.zero_le _)
  obtain ⟨W,⟨m0,w0⟩,turn⟩:=h s.heap.objs.size I.fresh
  refine wpAny_newObj_type (newEnv_cells ?_)
  dsimp only
  generalize hS:({ s with heap:=s.heap.push { cls:=.type "list",dict:=none,data:=.seq ([]:List Value).toArray },toks:=s.toks }:Shared)=s2 at I2
  have e2:s2.heap=s.heap.push { cls:=.type "list",dict:=none,data:=.seq ([]:List Value).toArray }:=by rw [← hS]
  have sz2:s2.heap.objs.size=s.heap.objs.size+1:=by rw [e2,Heap.size_push]
  rw [← e2]
  have ci:=cellsIn_mk (h0:=s2.heap.push { cls:=.type "dict",data:=.dict #[] }) (n:=s2.heap.objs.size) c cl1 cl2 I2.ok.inj (fun x d e=>by obtain ⟨v,q⟩:=I2.cell x d e; exact q.lt) (Heap.size_push ..)
  have hns1':(pushCells (s2.heap.push { cls:=.type "dict",data:=.dict #[] }) scope.names).Ns s2.heap.objs.size (fun _=>none):=(Heap.Ns.new s2.heap (.type "dict")).keeps (pushCells_keeps _ _)
  have old:∀ b o,s2.heap.get? b=some o→(pushCells (s2.heap.push { cls:=.type "dict",data:=.dict #[] }) scope.names).get? b=some o:=fun b o e=>pushCells_keeps _ _ b o (Heap.get?_push_of_some _ e)
  generalize pushCells (s2.heap.push { cls:=.type "dict",data:=.dict #[] }) scope.names=h1 at ci hns1' old ⊢
  generalize hcl:cellsFrom (s2.heap.objs.size+1) scope.names cl=cl' at ci ⊢
  have lt1:∀ b,b∈fp→b<s.heap.objs.size:=fun b hb=>by
    obtain ⟨o,e,_⟩:=T.obj 0 _ st b hb
    exact Heap.lt_size e
  have hf2:∀ b∈fp,FpOk X pins (upd H s.heap.objs.size (.lst [])) b:=fun b hb=>⟨by rw [upd_ne (Nat.ne_of_lt (lt1 b hb))]; exact (hf b hb).1,(hf b hb).2⟩
  have lt2:∀ b∈fp,b<s2.heap.objs.size:=fun b hb=>by rw [sz2]; exact Nat.lt_succ_of_lt (lt1 b hb)
  have st2:tn 0 s2.heap:=T.keep 0 _ _ st fun b _ o e=>by rw [e2]; exact Heap.get?_push_of_some _ e
  have I4:=comp_start (t':=s.toks) c I2 hf2 lt2 ci hns1' old
  have st4:tn 0 h1:=T.keep 0 _ _ st2 fun b _ o e=>old b o e
  have es:({ s2 with heap:=h1,toks:=s.toks }:Shared)={ s with heap:=h1,toks:=s.toks }:=by rw [← hS]
  rw [es] at I4
  generalize hs4:({ s with heap:=h1,toks:=s.toks }:Shared)=s4 at I4
  have st4':tn 0 s4.heap:=by rw [← hs4]; exact st4
  have loop:codeAny (model X.prog X.w) X.A (.compLoop (.ListComp elt [⟨target,iter,ifs,0⟩] scope pos) 0 (.ref it) (.ref s.heap.objs.size) (compEnvC scope cl' s2.heap.objs.size X.env)) (RR (.ref s.heap.objs.size) s2.heap.objs.size) s4:=by
    refine comp_loop (fun n s'=>∃ i ys σ' H',Inv (cxIn X N scope cl' s2.heap.objs.size s2 (upd H s.heap.objs.size (.lst [])) fp pins) [] σ' H' s'∧tn i s'.heap∧(∀ b∈fp,H' b=none)∧W i n ys σ' H') ?_ m0
      ⟨0,[],_,_,I4,st4',fun b hb=>(hf2 b hb).1,w0⟩
    rintro n s5 ⟨i,ys,σ5,H5,I5,st5,fr5,w5⟩
    have stat:∀ {H':Hp} {s':Shared} {σ':St},Inv (cxIn X N scope cl' s2.heap.objs.size s2 (upd H s.heap.objs.size (.lst [])) fp pins) [] σ' H' s'→(∀ b∈fp,H' b=none)→∀ b∈fp,FpOk (cxIn X N scope cl' s2.heap.objs.size s2 (upd H s.heap.objs.size (.lst [])) fp pins) [] H' b:=fun J' hn b hb =>
      ⟨hn b hb,(J'.ok.exf b hb).1,J'.ok.exfs b hb,.inl hb,(J'.ok.exf b hb).2,fun p hp z=>by
        have hp':p∈X.pn++pins:=by
          have q:p∈(X.pn++pins)++[]:=hp
          rwa [List.append_nil] at q
        exact (hf b hb).2.2.2.2.2 p hp' z⟩
    rcases turn i n ys σ5 H5 w5 with ⟨stop,q⟩ | ⟨go,step⟩
    · refine wpAny_mono (T.done (cxIn X N scope cl' s2.heap.objs.size s2 (upd H s.heap.objs.size (.lst [])) fp pins) rfl rfl rfl hc i [] s5 σ5 H5 (fun _ _=>False) I5 (stat I5 fr5) st5 stop) (fun r s6 ⟨hr,I6⟩=>?_) fun _ _ z=>z
      subst hr
      obtain ⟨m',hn',_⟩:=I6.loc
      have hC:s.heap.objs.size≤s2.heap.objs.size:=by rw [sz2]; exact Nat.le_succ _
      refine hRR _ _ H5 s6 m' hC hn' I6.free ?_ ?_ (fun h2 sb=>?_) q
      · exact Nat.ne_of_gt I2.lt
      · exact I2.nofs (Nat.le_refl _)
      · have u:Un (frs X.stack) fp (upd H s.heap.objs.size (.lst [])) H5 s2.heap h2:=I6.base.but (Nat.le_refl _) sb.extBut
        have z6:H5 s2.heap.objs.size=none:=I6.free
        have hok:HOk X.prog X.w H5 h2:=fun b ob e=>(I6.hok b ob e).stay (fun d w' hd z=>sb.extBut d w' (by
          rintro rfl
          rcases hd with rfl | hd
          · rw [z6] at e; cases e
          · rw [z6] at hd; cases hd) z) (fun _ z=>z) fun _ _ z=>z
        have J:=I2.call' (s':={ s6 with heap:=h2 }) (ch:=fp) (by show s6.os=s2.os; exact I6.os) u hok I6.bare fun b hb=>⟨(hf b hb).2.2.2.1,(hf b hb).2.1,(hf b hb).2.2.2.2.1,(hf b hb).2.2.2.2.2⟩
        exact J
    · refine wpAny_mono (T.item (cxIn X N scope cl' s2.heap.objs.size s2 (upd H s.heap.objs.size (.lst [])) fp pins) rfl rfl rfl hc i [] s5 σ5 H5 (fun _ _=>False) I5 (stat I5 fr5) st5 go) (fun r s6 ⟨u,hr,h6⟩=>?_) fun _ _ z=>z
      subst hr
      refine wpAny_mono h6 (fun _ s7 ⟨x,H7,I7,r7,y7,st7,fr7⟩=>?_) fun _ _ z=>z
      have I7':=I7.pinned (stat I7 fr7) (T.obj _ _ st7)
      refine wpAny_mono (hg _ _ _ _ _ _ _ s7 σ5 H7 x u _ I7' r7 (step x H7 y7)) (fun _ s8 ⟨σ8,H8,I8,q8⟩=>?_) fun _ _ z=>z
      refine wpAny_mono (ht _ _ _ _ _ _ _ s8 σ8 H8 _ I8 q8) (fun b s9 ⟨H9,I9,q9⟩=>?_) fun _ _ z=>z
      have fin:∀ {s':Shared} {H':Hp} {m':Nat} {ys':List V},Inv (cxIn X N scope cl' s2.heap.objs.size s2 (upd H s.heap.objs.size (.lst [])) fp pins) ([]++pinsAt fp s7.heap) σ8 H' s'→m'<n→W (i+1) m' ys' σ8 H' →
          ∃ m,m<n∧∃ i ys σ' H',Inv (cxIn X N scope cl' s2.heap.objs.size s2 (upd H s.heap.objs.size (.lst [])) fp pins) [] σ' H' s'∧tn i s'.heap∧(∀ b∈fp,H' b=none)∧W i m ys σ' H':=fun {s' H' m' ys'} J' hm w'=>by
        refine ⟨m',hm,i+1,ys',σ8,H',J'.unpinned,T.keep _ _ _ st7 fun b hb o e=>(J'.pin (b,o) (List.mem_append_right _ (List.mem_append_right _ (mem_pinsAt hb e)))).1,fun b hb=>?_,w'⟩
        obtain ⟨o,e,d⟩:=T.obj _ _ st7 b hb
        exact (J'.pin (b,o) (List.mem_append_right _ (List.mem_append_right _ (mem_pinsAt hb e)))).2.1
      cases b with
      | false =>
        rw [if_neg Bool.false_ne_true] at q9 ⊢
        obtain ⟨m',hm,w'⟩:=q9
        exact fin I9 hm w'
      | true =>
        rw [if_pos rfl] at q9 ⊢
        refine wpAny_mono (he _ _ _ _ _ _ _ s9 σ8 H9 _ I9 q9) (fun y s10 ⟨z,H10,I10,r10,el,ez,m',hm,w'⟩=>?_) fun _ _ z=>z
        refine wpAny_mono (mt_append (X:=cxIn X N scope cl' s2.heap.objs.size s2 (upd H s.heap.objs.size (.lst [])) fp pins) _ s10 σ8 H10 (.ref s.heap.objs.size) [z] _ [y] (fun _ H'=>H'=upd H10 s.heap.objs.size (.lst (ys++[z]))) I10 rfl (.cons r10 .nil) ⟨_,_,_,rfl,rfl,el,ez,rfl⟩) (fun _ s11 ⟨_,H11,I11,_,e11⟩=>?_) fun _ _ z=>z
        subst e11
        exact fin I11 hm w'
  have fin:codeAny (model X.prog X.w) X.A (.compStart (.ListComp elt [⟨target,iter,ifs,0⟩] scope pos) 0 (.ref it) (.ref s.heap.objs.size) (compEnvC scope cl' s2.heap.objs.size X.env)) (RR (.ref s.heap.objs.size) s2.heap.objs.size) s4 :=
    codeAny_compStart_list loop (T.self X.A 0 s4 _ _ st4' loop)
  exact fin
theorem pe_compG {elt target iter:PySem.Expr} {ifs:List PySem.Expr} {pos:Pos} {wi:TI} {g:TG} {tc:TT} {te:TE} (c:CompOk X scope N own js) (hc:X.calm=true) (hi:PI X target iter wi)
    (hg:∀ cl C s0 H0 fp pins,PG (cxIn X N scope cl C s0 H0 fp pins) target g)
    (ht:∀ cl C s0 H0 fp pins pins' s σ H Q,Inv (cxIn X N scope cl C s0 H0 fp pins) pins' σ H s→tc σ H Q→wpAny (model X.prog X.w) X.A (forIn ifs true fun c r=>if r=true then do let ok ← isTrue c (compEnvC scope cl C X.env) (eval c (compEnvC scope cl C X.env)); pure (ForInStep.yield ok) else pure (ForInStep.yield r))
      (TP (cxIn X N scope cl C s0 H0 fp pins) pins' σ Q) (fun _ _=>False) s)
    (he:∀ cl C s0 H0 fp pins,PE (cxIn X N scope cl C s0 H0 fp pins) elt te)
    (hs:∀ x,foldedSetIterable iter X.env x=pure x:=by intro _; rfl):PE X (.ListComp elt [⟨target,iter,ifs,0⟩] scope pos) (tComp own js wi g tc te):=by
  intro pins s σ H Q I h
  obtain ⟨cl,e1,cl1,_,cl2⟩:=closure_for (env:=X.env) scope.names [] (fun p hp hf=>I.ok.has _ (c.free p hp hf)) (fun x d e=>by simp at e)
  have hclos:closureFor scope X.env=pure cl:=by
    unfold closureFor
    refine (congrArg (fun z=>z >>= fun cs=>pure cs) e1).trans ?_
    rfl
  rw [eval_ListComp]
  refine wpAny_comprehension_free (use:=none) rfl hs hclos c.kind c.names (wpAny_mono (hi pins s σ H _ I h) (fun x s1 h1=>wpAny_mono h1 (fun itv s2 h2=>?_) fun _ _ e=>e) fun _ _ e=>e)
  obtain ⟨it,fp,tn,J,H2,e,I2,T,st2,f2,q⟩:=h2
  subst e
  refine comp_block (Q:=Q) (RR:=fun acc C=>compPost (model X.prog X.w) X.A X.xe none (EP X pins σ Q) acc C) c hc I2 T st2 f2 cl1 cl2 hg ht he q ?_
  intro l C H' s' m' hC hn hf hL hfs hI hq
  exact ⟨m',hn,fun h2 sb=>⟨.ref l,H',hI h2 sb,rfl,hq⟩⟩
theorem ps_compG {elt target iter:PySem.Expr} {ifs:List PySem.Expr} {pos pos' spos:Pos} {y:Str} {k:Nat} {wi:TI} {g:TG} {tc:TT} {te:TE} (c:CompOk X scope N own js) (hc:X.calm=true) (hN:X.N.Nodup) (hk:X.N[k]?=some y) (hy:X.env.scope.names.lookup y=some .local) (hi:PI X target iter wi)
    (hg:∀ cl C s0 H0 fp pins,PG (cxIn X N scope cl C s0 H0 fp pins) target g)
    (ht:∀ cl C s0 H0 fp pins pins' s σ H Q,Inv (cxIn X N scope cl C s0 H0 fp pins) pins' σ H s→tc σ H Q→wpAny (model X.prog X.w) X.A (forIn ifs true fun c r=>if r=true then do let ok ← isTrue c (compEnvC scope cl C X.env) (eval c (compEnvC scope cl C X.env)); pure (ForInStep.yield ok) else pure (ForInStep.yield r))
      (TP (cxIn X N scope cl C s0 H0 fp pins) pins' σ Q) (fun _ _=>False) s)
    (he:∀ cl C s0 H0 fp pins,PE (cxIn X N scope cl C s0 H0 fp pins) elt te)
    (hs:∀ x,foldedSetIterable iter X.env x=pure x:=by intro _; rfl)
    (hsw:swapsWith (.ListComp elt [⟨target,iter,ifs,0⟩] scope pos) (some (.Name y pos')) spos.line X.env=pure true:=by rfl):PS X (.Assign [.Name y pos'] (.ListComp elt [⟨target,iter,ifs,0⟩] scope pos) spos) (tAsg (tComp own js wi g tc te) (gName k)):=by
  intro pins s σ H D I h
  obtain ⟨cl,e1,cl1,_,cl2⟩:=closure_for (env:=X.env) scope.names [] (fun p hp hf=>I.ok.has _ (c.free p hp hf)) (fun x d e=>by simp at e)
  have hclos:closureFor scope X.env=pure cl:=by
    unfold closureFor
    refine (congrArg (fun z=>z >>= fun cs=>pure cs) e1).trans ?_
    rfl
  rw [exec_Assign_Name_used _ _ _ _ hsw]
  refine wpAny_bind (wpAny_standAt (wpAny_bind ?_))
  show wpAny _ X.A (do let _ ← comprehension (.ListComp elt [⟨target,iter,ifs,0⟩] scope pos) scope X.env _ (newList []) false (eval iter X.env) (some (assign (.Name y pos') X.env))) _ _ s
  refine wpAny_bind (wpAny_mono (wpAny_comprehension_free (use:=some (assign (.Name y pos') X.env)) (Q:=fun _ s'=>SP X pins D .next s') rfl hs hclos c.kind c.names
    (wpAny_mono (hi pins s σ H _ I h) (fun xv s1 h1=>wpAny_mono h1 (fun it s2 h2=>?_) fun _ _ e=>e) fun _ _ e=>e)) (fun _ s' hq=>wpAny_pure (wpAny_pure hq)) fun _ _ e=>e)
  obtain ⟨it,fp,tn,J,H2,e,I2,T,st2,f2,q⟩:=h2
  subst e
  refine comp_block (Q:=fun x H1=>gName k x σ H1 D.nx) (RR:=fun acc C=>compPost (model X.prog X.w) X.A X.xe (some (assign (.Name y pos') X.env)) (fun _ s'=>SP X pins D .next s') acc C) c hc I2 T st2 f2 cl1 cl2 hg ht he q ?_
  intro l C H' s' m' hC hn hf hL hfs hI hq
  have J0:=hI s'.heap (Heap.SameBut.refl ..)
  show wpAny _ X.A (assign (.Name y pos') X.env (.ref l)) _ _ _
  have J1:Inv X pins σ H' s':=J0
  refine wpAny_assign_Name (store_ok2 (v:=.ref l) J1 hN hk (.inl hy) rfl (fun s'' I'' hsb=>?_) (.inr hy))
  obtain ⟨a,sb,ha⟩:=hsb
  have hne:C≠a:=by
    rcases ha with rfl | ha
    · exact hL
    · rintro rfl
      obtain ⟨v,⟨o,ho,hd⟩⟩:=J1.cell y C ha
      obtain ⟨o',es,ep,ho',hd',_⟩:=hn
      rw [ho] at ho'; cases ho'
      rw [hd] at hd'; cases hd'
  refine ⟨m',hn.sameBut sb hne,fun h2 sb2=>?_⟩
  have hok:HOk X.prog X.w H' h2:=fun b ob e=>(I''.hok b ob e).stay (fun d w' hd z=>sb2.extBut d w' (by
    rintro rfl
    rcases hd with rfl | hd
    · rw [hf] at e; cases e
    · rw [hf] at hd; cases hd) z) (fun _ z=>z) fun _ _ z=>z
  have cne:∀ x d,X.env.cells.lookup x=some d→d≠C:=fun x d e z=>by
    subst z
    obtain ⟨v,⟨o,ho,hd⟩⟩:=J1.cell x d e
    obtain ⟨o',es,ep,ho',hd',_⟩:=hn
    rw [ho] at ho'; cases ho'
    rw [hd] at hd'; cases hd'
  have hpn:∀ p∈X.pn++pins,p.1≠C:=fun p hp z=>by
    have a1:=(I2.pin p hp).1
    exact absurd (Nat.lt_of_lt_of_le (Heap.lt_size a1) (by rw [z]; exact hC)) (Nat.lt_irrefl _)
  have fin:Inv X pins (σ.set k (some (.ref l))) H' { s'' with heap:=h2 }:=I''.turned (t':=s''.toks) (it:=C) (fun b o hb e=>sb2.extBut b o hb e) hf hL (.inr (Nat.le_trans I2.sz hC)) cne hpn
  exact ⟨_,H',fin,hq⟩
theorem pe_comp0 {elt target iter:PySem.Expr} {pos:Pos} {wi:TI} {g:TG} {te:TE} (c:CompOk X scope N own js) (hc:X.calm=true) (hi:PI X target iter wi)
    (hg:∀ cl C s0 H0 fp pins,PG (cxIn X N scope cl C s0 H0 fp pins) target g) (he:∀ cl C s0 H0 fp pins,PE (cxIn X N scope cl C s0 H0 fp pins) elt te)
    (hs:∀ x,foldedSetIterable iter X.env x=pure x:=by intro _; rfl):PE X (.ListComp elt [⟨target,iter,[],0⟩] scope pos) (tComp own js wi g tTrue te) :=
  pe_compG c hc hi hg (fun cl C s0 H0 fp pins pins' s σ H Q I h=>wpAny_tests_nil ⟨H,I,h⟩) he hs
theorem pe_comp1 {elt target iter tst:PySem.Expr} {pos:Pos} {wi:TI} {g:TG} {tc:TT} {te:TE} (c:CompOk X scope N own js) (hc:X.calm=true) (hi:PI X target iter wi)
    (hg:∀ cl C s0 H0 fp pins,PG (cxIn X N scope cl C s0 H0 fp pins) target g) (ht:∀ cl C s0 H0 fp pins,PT (cxIn X N scope cl C s0 H0 fp pins) tst tc) (he:∀ cl C s0 H0 fp pins,PE (cxIn X N scope cl C s0 H0 fp pins) elt te)
    (hs:∀ x,foldedSetIterable iter X.env x=pure x:=by intro _; rfl):PE X (.ListComp elt [⟨target,iter,[tst],0⟩] scope pos) (tComp own js wi g tc te) :=
  pe_compG c hc hi hg (fun cl C s0 H0 fp pins pins' s σ H Q I h=>wpAny_tests_one (ht cl C s0 H0 fp pins pins' s σ H Q I h)) he hs
theorem ps_comp0 {elt target iter:PySem.Expr} {pos pos' spos:Pos} {y:Str} (k:Nat) {wi:TI} {g:TG} {te:TE} (c:CompOk X scope N own js) (hc:X.calm=true) (hN:X.N.Nodup) (hk:X.N[k]?=some y) (hy:X.env.scope.names.lookup y=some .local) (hi:PI X target iter wi)
    (hg:∀ cl C s0 H0 fp pins,PG (cxIn X N scope cl C s0 H0 fp pins) target g) (he:∀ cl C s0 H0 fp pins,PE (cxIn X N scope cl C s0 H0 fp pins) elt te)
    (hs:∀ x,foldedSetIterable iter X.env x=pure x:=by intro _; rfl)
    (hsw:swapsWith (.ListComp elt [⟨target,iter,[],0⟩] scope pos) (some (.Name y pos')) spos.line X.env=pure true:=by rfl):PS X (.Assign [.Name y pos'] (.ListComp elt [⟨target,iter,[],0⟩] scope pos) spos) (tAsg (tComp own js wi g tTrue te) (gName k)) :=
  ps_compG c hc hN hk hy hi hg (fun cl C s0 H0 fp pins pins' s σ H Q I h=>wpAny_tests_nil ⟨H,I,h⟩) he hs hsw
theorem ps_comp1 {elt target iter tst:PySem.Expr} {pos pos' spos:Pos} {y:Str} (k:Nat) {wi:TI} {g:TG} {tc:TT} {te:TE} (c:CompOk X scope N own js) (hc:X.calm=true) (hN:X.N.Nodup) (hk:X.N[k]?=some y) (hy:X.env.scope.names.lookup y=some .local) (hi:PI X target iter wi)
    (hg:∀ cl C s0 H0 fp pins,PG (cxIn X N scope cl C s0 H0 fp pins) target g) (ht:∀ cl C s0 H0 fp pins,PT (cxIn X N scope cl C s0 H0 fp pins) tst tc) (he:∀ cl C s0 H0 fp pins,PE (cxIn X N scope cl C s0 H0 fp pins) elt te)
    (hs:∀ x,foldedSetIterable iter X.env x=pure x:=by intro _; rfl)
    (hsw:swapsWith (.ListComp elt [⟨target,iter,[tst],0⟩] scope pos) (some (.Name y pos')) spos.line X.env=pure true:=by rfl):PS X (.Assign [.Name y pos'] (.ListComp elt [⟨target,iter,[tst],0⟩] scope pos) spos) (tAsg (tComp own js wi g tc te) (gName k)) :=
  ps_compG c hc hN hk hy hi hg (fun cl C s0 H0 fp pins pins' s σ H Q I h=>wpAny_tests_one (ht cl C s0 H0 fp pins pins' s σ H Q I h)) he hs hsw
end
end L2
set_option Elab.async false
set_option linter.all false
set_option maxRecDepth 100000
set_option maxHeartbeats 4000000
namespace L2
open PySem PySem.Spec PyProof.Rows
section
variable {X:Cx} {pins:List (Addr×Obj)} {σ:St} {H:Hp} {s:Shared}
theorem HOk.offCh {P:Program} {w:World} {h h':Heap} {ch:List Addr} (hok:HOk P w H h) (hn:∀ b∈ch,H b=none) (k:∀ b o,b∉ch→h.get? b=some o→h'.get? b=some o):HOk P w H h':=fun b ob e =>
  (hok b ob e).stay (fun d u hd z=>k d u (fun m=>by
    rcases hd with rfl | hd
    · rw [hn _ m] at e; cases e
    · rw [hn _ m] at hd; cases hd) z) (fun _ z=>z) fun _ _ z=>z
theorem Inv.turnedCh {ch:List Addr} {h':Heap} {t':Nat} (I:Inv X pins σ H s) (hch:∀ b∈ch,FpOk X pins H b) (k:∀ b o,b∉ch→s.heap.get? b=some o→h'.get? b=some o) :
    Inv X pins σ H { s with heap:=h',toks:=t' }:=by
  have u:Un (frs X.stack) ch H H s.heap h':=⟨fun b o q _ _ hx=>k b o hx q,fun b o q _ _ hx=>⟨o.slots,k b o hx q⟩,fun _ _ _ n _=>n,fun b o q hx=>⟨o,k b o hx q⟩,fun _ _ q=>q,fun _ _ _ q=>q,fun _ _ _ q=>q⟩
  exact I.call (g':=s.gens) (d':=s.drawn) (t':=t') u (I.hok.offCh (fun b hb=>(hch b hb).1) k) I.bare fun b hb=>⟨(hch b hb).2.2.2.1,(hch b hb).2.1,(hch b hb).2.2.2.2.1,(hch b hb).2.2.2.2.2⟩
theorem Inv.laidCh {ch:List Addr} {h':Heap} {t':Nat} {o:HO} (I:Inv X pins σ H s) (hch:∀ b∈ch,FpOk X pins H b) (k:∀ b o,b∉ch→s.heap.get? b=some o→h'.get? b=some o)
    (new:ObjOk X.prog X.w (upd H s.heap.objs.size o) h' s.heap.objs.size o):Inv X pins σ (upd H s.heap.objs.size o) { s with heap:=h',toks:=t' }:=by
  have fr:H s.heap.objs.size=none:=I.hok.fresh (Nat.le_refl _)
  have ne:∀ b ob,s.heap.get? b=some ob→b≠s.heap.objs.size:=fun b ob e=>Nat.ne_of_lt (Heap.lt_size e)
  have nt:∀ b ob,H b=some ob→b≠s.heap.objs.size:=fun b ob e=>ne_of_none e fr
  have u:Un (frs X.stack) ch H (upd H s.heap.objs.size o) s.heap h':=⟨fun b o q _ _ hx=>k b o hx q,fun b o q _ _ hx=>⟨o.slots,k b o hx q⟩,fun b ob q n _=>by rw [upd_ne (ne b ob q)]; exact n,fun b o q hx=>⟨o,k b o hx q⟩,
    fun b xs q=>by rw [upd_ne (nt b _ q)]; exact q,fun b ob xs q=>by rw [upd_ne (nt b _ q)]; exact q,fun b _ _ q=>by rw [upd_ne (nt b _ q)]; exact q⟩
  have hok:HOk X.prog X.w (upd H s.heap.objs.size o) h':=fun b ob e=>by
    by_cases hb:b=s.heap.objs.size
    · subst hb
      rw [upd_same] at e; cases e
      exact new
    · rw [upd_ne hb] at e
      refine (I.hok b ob e).stay (fun d u hd z=>k d u (fun m=>?_) z) (fun d z=>by rw [upd_ne (nt d _ z)]; exact z) (fun d xs z=>by rw [upd_ne (nt d _ z)]; exact z) fun d oz z=>by rw [upd_ne (nt d _ z)]; exact z
      have hn:=(hch d m).1
      rcases hd with rfl | hd
      · rw [hn] at e; cases e
      · rw [hn] at hd; cases hd
  exact I.call (g':=s.gens) (d':=s.drawn) (t':=t') u hok I.bare fun b hb=>⟨(hch b hb).2.2.2.1,(hch b hb).2.1,(hch b hb).2.2.2.2.1,(hch b hb).2.2.2.2.2⟩
end
theorem nne {a b:Nat} (h:a<b∨b<a):@Ne Addr a b:=fun e=>by
  have e':a=b:=e
  lia
theorem zip_apart (n l1 l2:Nat) (h1:l1<n) (h2:l2<n):ZipApart (n+4) (n+2) (n+3) n (n+1) l1 l2 :=
  ⟨nne (by lia),nne (by lia),nne (by lia),nne (by lia),nne (by lia),nne (by lia),nne (by lia),nne (by lia),nne (by lia),nne (by lia),nne (by lia),nne (by lia),nne (by lia),nne (by lia),nne (by lia),nne (by lia),nne (by lia),nne (by lia)⟩
def Itz (K:PySem.W.Frag) (a b:Addr):It :=
  ⟨fun i H=>∃ xs ys x y,SqL K H a xs∧SqL K H b ys∧xs[i]?=some x∧ys[i]?=some y,
   fun i H v H'=>∃ t x y,H t=none∧v=.ref t∧H'=upd H t (.tup [x,y])∧(∀ xs,SqL K H a xs→xs[i]?=some x)∧∀ ys,SqL K H b ys→ys[i]?=some y,
   fun i H=>∃ xs ys,SqL K H a xs∧SqL K H b ys∧(xs.length≤i∨ys.length≤i)⟩
theorem iter_obj {h:Heap} {it l:Addr} {i:Nat} (x:h.IsListIter it l i):∃ o,h.get? it=some o∧∀ v,o.data≠.cell v:=by
  obtain ⟨o,e,c,d⟩:=x
  exact ⟨o,e,fun v z=>by rw [d] at z; cases z⟩
theorem turn_zip {P:Program} {w:World} {K:PySem.W.Frag} {elts:List PySem.Expr} {x1} {pos:Pos} (z TI TO i1 i2 a b:Addr) (D:ZipApart z TI TO i1 i2 a b) :
    Turn P w K (.Tuple elts x1 pos) (Itz K a b) [z,TI,TO,i1,i2] z (fun i h=>IsZip h z TI TO .none∧IsPair h TI (.ref i1) (.ref i2)∧(∃ u v,IsPair h TO u v)∧h.IsListIter i1 a i∧h.IsListIter i2 b i) where
  mem:=by simp
  obj:=fun i h st c hc=>by
    obtain ⟨hz,hTI,⟨u,v,hTO⟩,h1,h2⟩:=st
    simp only [List.mem_cons,List.not_mem_nil,or_false] at hc
    rcases hc with rfl | rfl | rfl | rfl | rfl
    · exact ⟨_,hz,fun v e=>by cases e⟩
    · exact ⟨_,hTI,fun v e=>by cases e⟩
    · exact ⟨_,hTO,fun v e=>by cases e⟩
    · exact iter_obj h1
    · exact iter_obj h2
  keep:=fun i h h' st k=>by
    obtain ⟨hz,hTI,⟨u,v,hTO⟩,h1,h2⟩:=st
    exact ⟨k z (by simp) _ hz,k TI (by simp) _ hTI,⟨u,v,k TO (by simp) _ hTO⟩,h1.at fun o e=>k i1 (by simp) o e,h2.at fun o e=>k i2 (by simp) o e⟩
  item:=by
    intro X hP hw hK hc i pins s σ H E I hf st hg
    subst hP hw hK
    obtain ⟨xs,ys,x,y,hqa,hqb,hx,hy⟩:=hg
    obtain ⟨hz,hTI,⟨u0,v0,hTO⟩,h1,h2⟩:=st
    obtain ⟨itsa,ra,pa,za⟩:=I.list hqa
    obtain ⟨itsb,rb,pb,zb⟩:=I.list hqb
    obtain ⟨ux,hux,rux⟩:=ra.get hx
    obtain ⟨uy,huy,ruy⟩:=rb.get hy
    refine wpAny_pyNext_zip_item D hz hTI hTO h1 h2 pa.isList pb.isList (x:=ux) (y:=uy) (by simpa using hux) (by simpa using huy) fun h' a1 a2 a3 a4 a5 a6 a7=>?_
    refine ⟨.ref s.heap.objs.size,rfl,?_⟩
    refine wpAny_letOwnedTupleGo_zip a1 fun h2' hz' hs'=>?_
    have hzlt:z<s.heap.objs.size:=Heap.lt_size hz
    have kk:∀ c o,c∉[z,TI,TO,i1,i2]→s.heap.get? c=some o→h2'.get? c=some o:=fun c o hc e=>by
      simp only [List.mem_cons,List.not_mem_nil,or_false,not_or] at hc
      exact hs'.extBut c o hc.1 (a7 c o hc.1 hc.2.2.1 hc.2.2.2.1 hc.2.2.2.2 e)
    have tp:h2'.get? s.heap.objs.size=some { cls:=.type "tuple",data:=.seq #[ux,uy] }:=hs'.extBut _ _ (Nat.ne_of_gt hzlt) a5
    have I1:Inv X pins σ (upd H s.heap.objs.size (.tup [x,y])) { s with heap:=h2',toks:=s.toks } :=
      I.laidCh hf kk ⟨by show 2≤sizeLine; decide,[ux,uy],.cons rux (.cons ruy .nil),⟨_,tp,rfl,_,rfl⟩⟩
    have TIk:h2'.get? TI=s.heap.get? TI:=by
      rw [hTI]
      exact hs'.extBut _ _ D.TIz (a7 _ _ D.TIz D.TITO D.TIi1 D.TIi2 hTI)
    refine ⟨.ref s.heap.objs.size,_,I1,rfl,⟨s.heap.objs.size,x,y,I.hok.fresh (Nat.le_refl _),rfl,rfl,fun xs' h=>by rw [I.list_inj h hqa]; exact hx,fun ys' h=>by rw [I.list_inj h hqb]; exact hy⟩,⟨hz',?_,⟨ux,uy,hs'.extBut _ _ D.TOz a2⟩,a3.at fun o e=>hs'.extBut _ o D.i1z e,a4.at fun o e=>hs'.extBut _ o D.i2z e⟩,fun c hc=>?_⟩
    · show h2'.get? TI=_
      rw [TIk]; exact hTI
    · have hc':=hc
      have hlt:c<s.heap.objs.size:=by
        simp only [List.mem_cons,List.not_mem_nil,or_false] at hc'
        rcases hc' with rfl | rfl | rfl | rfl | rfl
        · exact hzlt
        · exact Heap.lt_size hTI
        · exact Heap.lt_size hTO
        · obtain ⟨o,e,_⟩:=iter_obj h1; exact Heap.lt_size e
        · obtain ⟨o,e,_⟩:=iter_obj h2; exact Heap.lt_size e
      rw [upd_ne (Nat.ne_of_lt hlt)]
      exact (hf c hc).1
  done:=by
    intro X hP hw hK hc i pins s σ H E I hf st hg
    subst hP hw hK
    obtain ⟨xs,ys,hqa,hqb,hend⟩:=hg
    obtain ⟨hz,hTI,⟨u0,v0,hTO⟩,h1,h2⟩:=st
    obtain ⟨itsa,ra,pa,za⟩:=I.list hqa
    obtain ⟨itsb,rb,pb,zb⟩:=I.list hqb
    have la:=ra.length
    have lb:=rb.length
    refine wpAny_pyNext_zip_end (I.ok.hd hc) D hz hTI hTO h1 h2 pa.isList pb.isList ?_ fun h' hk=>⟨rfl,?_⟩
    · rcases hend with q | q
      · exact .inl (by simp; lia)
      · exact .inr (by simp; lia)
    · refine I.turnedCh (t':=s.toks) hf fun c o hc e=>?_
      simp only [List.mem_cons,List.not_mem_nil,or_false,not_or] at hc
      exact hk c o hc.1 hc.2.2.1 hc.2.2.2.1 hc.2.2.2.2 e
  self:=fun _ _ _ _ _ st h=>wpAny_pyIter_zip st.1 h
def iZip (K:PySem.W.Frag) (ta:TA):TI:=fun σ H R=>ta σ H fun vs H1=>∃ a b,vs=[.ref a,.ref b]∧(∃ xs,SqL K H1 a xs)∧(∃ ys,SqL K H1 b ys)∧R (Itz K a b) H1
section
variable {X:Cx}
theorem boot_zip:bootBuiltins "zip" = some (.type "zip"):=by first | rfl | decide +kernel | kernel_rfl
theorem boot_enumerate:bootBuiltins "enumerate" = some (.type "enumerate"):=by first | rfl | decide +kernel | kernel_rfl
theorem pi_zip {elts:List PySem.Expr} {x1} {tpos:Pos} {a b:PySem.Expr} {ta:TA} {p pos:Pos} (hg:Gl X "zip") (hm:X.mg "zip" = none) (ha:PA X [a,b] ta) (hs:starEach [a,b] X.env=[(false,eval a X.env),(false,eval b X.env)]:=by rfl) (hs2:starEach [b] X.env=[(false,eval b X.env)]:=by rfl) :
    PI X (.Tuple elts x1 tpos) (.Call (.Name "zip" p) [a,b] [] pos) (iZip X.K ta):=by
  intro pins s σ H R I h
  refine Call_ (ld_blt I hg hm boot_zip (PyProof.Rows.callWith_type1 (thA (ha pos pins s σ H _ I h) fun us s1 vs H1 I1 r1 q1=>?_) (by rw [hs,hs2]) (by rw [hs2]; rfl)))
  obtain ⟨l1,l2,e,⟨xs,hqa⟩,⟨ys,hqb⟩,q⟩:=q1
  subst e
  obtain ⟨v1,v2,rfl,r,r'⟩:=vals2 r1
  cases r
  cases r'
  obtain ⟨itsa,ra,pa,za⟩:=I1.list hqa
  obtain ⟨itsb,rb,pb,zb⟩:=I1.list hqb
  have lt1:l1<s1.heap.objs.size:=by obtain ⟨o,e,_⟩:=pa.isList; exact Heap.lt_size e
  have lt2:l2<s1.heap.objs.size:=by obtain ⟨o,e,_⟩:=pb.isList; exact Heap.lt_size e
  refine call_zip_2 pa.isList pb.isList fun h' g5 g3 g4 g1 g2 hsz kp=>wpAny_pyIter_zip g5 ?_
  refine ⟨_,[_,_,_,_,_],_,_,H1,rfl,I1.kept (t':=s1.toks) kp,turn_zip _ _ _ _ _ l1 l2 (zip_apart s1.heap.objs.size l1 l2 lt1 lt2),⟨g5,g3,⟨_,_,g4⟩,g1,g2⟩,fun c hc=>?_,q⟩
  have hc':s1.heap.objs.size≤c:=by
    simp only [List.mem_cons,List.not_mem_nil,or_false] at hc
    rcases hc with rfl | rfl | rfl | rfl | rfl <;> first | exact Nat.le_refl _ | exact Nat.le_add_right _ _
  exact I1.fpOk hc' (I1.hok.fresh hc')
def Ite (K:PySem.W.Frag) (a:Addr):It :=
  ⟨fun i H=>∃ xs x,SqL K H a xs∧xs[i]?=some x,
   fun i H v H'=>∃ t x,H t=none∧v=.ref t∧H'=upd H t (.tup [.int i,x])∧∀ xs,SqL K H a xs→xs[i]?=some x,
   fun i H=>∃ xs,SqL K H a xs∧xs.length=i⟩
theorem turn_enum {P:Program} {w:World} {K:PySem.W.Frag} {elts:List PySem.Expr} {x1} {pos:Pos} (e it a:Addr) (hei:e≠it) (hae:a≠e) (hai:a≠it) :
    Turn P w K (.Tuple elts x1 pos) (Ite K a) [e,it] e (fun i h=>(∃ old,IsEnum h e it i old)∧h.IsListIter it a i) where
  mem:=by simp
  obj:=fun i h st c hc=>by
    obtain ⟨⟨old,he⟩,h1⟩:=st
    simp only [List.mem_cons,List.not_mem_nil,or_false] at hc
    rcases hc with rfl | rfl
    · exact ⟨_,he,fun v z=>by cases z⟩
    · obtain ⟨o,q,c,d⟩:=h1; exact ⟨o,q,fun v z=>by rw [d] at z; cases z⟩
  keep:=fun i h h' st k=>by
    obtain ⟨⟨old,he⟩,h1⟩:=st
    exact ⟨⟨old,k e (by simp) _ he⟩,h1.at fun o q=>k it (by simp) o q⟩
  item:=by
    intro X hP hw hK hc i pins s σ H E I hf st hg
    subst hP hw hK
    obtain ⟨xs,x,hq,hx⟩:=hg
    obtain ⟨⟨old,he⟩,h1⟩:=st
    obtain ⟨its,rv,p,hz⟩:=I.list hq
    obtain ⟨u,hu,ru⟩:=rv.get hx
    have hlt:i<its.toArray.size:=by
      have:=(List.getElem?_eq_some_iff.mp hu).1
      simpa using this
    refine wpAny_pyNext_enum_itemD (Draws.list (A:=X.A.in1) (show X.A.in1.handled=none from I.ok.hd hc) it a hai its.toArray) he ⟨h1,p.isList⟩ hlt hei (by simp [hei,Ne.symm hae]) fun v h' tk hP ho hs' hT hsz hk=>?_
    have hP':v=u:=by
      have z:its[i]?=some v:=by simpa using hP
      rw [hu] at z; exact (Option.some.inj z).symm
    subst hP'
    refine ⟨.ref s.heap.objs.size,rfl,?_⟩
    refine wpAny_letOwnedTupleGo_enum ho fun h2 he2 sb2=>?_
    have helt:e<s.heap.objs.size:=Heap.lt_size he
    have kk:∀ c o,c∉[e,it]→s.heap.get? c=some o→h2.get? c=some o:=fun c o hc q=>by
      simp only [List.mem_cons,List.not_mem_nil,or_false,not_or] at hc
      exact (sb2.2 c hc.1).trans (hk c o hc.1 hc.2 q)
    have tp:h2.get? s.heap.objs.size=some { cls:=.type "tuple",data:=.seq #[.int i tk,v] }:=(sb2.2 _ (Nat.ne_of_gt helt)).trans hT
    have I1:Inv X pins σ (upd H s.heap.objs.size (.tup [.int i,x])) { s with heap:=h2,toks:=tk+1 } :=
      I.laidCh hf kk ⟨by show 2≤sizeLine; decide,[.int i tk,v],.cons ⟨tk,rfl⟩ (.cons ru .nil),⟨_,tp,rfl,_,rfl⟩⟩
    refine ⟨.ref s.heap.objs.size,_,I1,rfl,⟨s.heap.objs.size,x,I.hok.fresh (Nat.le_refl _),rfl,rfl,fun ys hy=>by rw [I.list_inj hy hq]; exact hx⟩,⟨⟨v,by simpa using he2⟩,hs'.1.at fun o q=>(sb2.2 _ (Ne.symm hei)).trans q⟩,fun c hc=>?_⟩
    have hlt':c<s.heap.objs.size:=by
      simp only [List.mem_cons,List.not_mem_nil,or_false] at hc
      rcases hc with rfl | rfl
      · exact helt
      · obtain ⟨o,q,_⟩:=h1; exact Heap.lt_size q
    rw [upd_ne (Nat.ne_of_lt hlt')]
    exact (hf c hc).1
  done:=by
    intro X hP hw hK hc i pins s σ H E I hf st hg
    subst hP hw hK
    obtain ⟨xs,hq,hx⟩:=hg
    obtain ⟨⟨old,he⟩,h1⟩:=st
    obtain ⟨its,rv,p,hz⟩:=I.list hq
    have hl:=rv.length
    have ei:i=its.toArray.size:=by simp; lia
    subst ei
    refine wpAny_pyNext_enum_endD (Draws.list (A:=X.A.in1) (show X.A.in1.handled=none from I.ok.hd hc) it a hai its.toArray) he ⟨h1,p.isList⟩ fun h' hx'=>⟨rfl,?_⟩
    refine I.turnedCh (t':=s.toks) hf fun c o hc q=>?_
    simp only [List.mem_cons,List.not_mem_nil,or_false,not_or] at hc
    exact hx' c o hc.2 q
  self:=fun _ _ _ _ _ st h=>by
    obtain ⟨⟨old,he⟩,_⟩:=st
    exact wpAny_pyIter_enum he h
def iEnum (K:PySem.W.Frag) (ta:TA):TI:=fun σ H R=>ta σ H fun vs H1=>∃ a,vs=[.ref a]∧(∃ xs,SqL K H1 a xs)∧R (Ite K a) H1
theorem pi_enum {elts:List PySem.Expr} {x1} {tpos:Pos} {a:PySem.Expr} {ta:TA} {p pos:Pos} (hg:Gl X "enumerate") (hm:X.mg "enumerate" = none) (ha:PA X [a] ta) (hs:starEach [a] X.env=[(false,eval a X.env)]:=by rfl) :
    PI X (.Tuple elts x1 tpos) (.Call (.Name "enumerate" p) [a] [] pos) (iEnum X.K ta):=by
  intro pins s σ H R I h
  refine Call_ (ld_blt I hg hm boot_enumerate (PyProof.Rows.callWith_type1 (thA (ha pos pins s σ H _ I h) fun us s1 vs H1 I1 r1 q1=>?_) hs rfl))
  obtain ⟨l,e,⟨xs,hq⟩,q⟩:=q1
  subst e
  cases r1 with
  | cons r rr =>
    cases rr
    cases r
    obtain ⟨its,rv,pl,hz⟩:=I1.list hq
    have lt1:l<s1.heap.objs.size:=by obtain ⟨o,e,_⟩:=pl.isList; exact Heap.lt_size e
    refine call_enumerate_list pl.isList fun h' he hi hsz hk=>?_
    refine wpAny_pyIter_enum he ?_
    refine ⟨s1.heap.objs.size+1,[s1.heap.objs.size+1,s1.heap.objs.size],_,_,H1,rfl,I1.kept (t':=s1.toks) hk,turn_enum (s1.heap.objs.size+1) s1.heap.objs.size l (Nat.succ_ne_self _) (nne (.inl (Nat.lt_succ_of_lt lt1))) (Nat.ne_of_lt lt1),⟨⟨_,he⟩,hi⟩,fun c hc=>?_,q⟩
    have hc':s1.heap.objs.size≤c:=by
      simp only [List.mem_cons,List.not_mem_nil,or_false] at hc
      rcases hc with rfl | rfl <;> lia
    exact I1.fpOk hc' (I1.hok.fresh hc')
end
end L2
set_option Elab.async false
set_option linter.all false
set_option maxRecDepth 100000
set_option maxHeartbeats 4000000
namespace L2
open PySem PySem.Spec PyProof.Rows
section
variable {X:Cx}
theorem boot_all:bootBuiltins "all" = some (.builtin "all"):=by first | rfl | decide +kernel | kernel_rfl
theorem boot_any:bootBuiltins "any" = some (.builtin "any"):=by first | rfl | decide +kernel | kernel_rfl
theorem boot_max:bootBuiltins "max" = some (.builtin "max"):=by first | rfl | decide +kernel | kernel_rfl
theorem boot_min:bootBuiltins "min" = some (.builtin "min"):=by first | rfl | decide +kernel | kernel_rfl
theorem boot_abs:bootBuiltins "abs" = some (.builtin "abs"):=by first | rfl | decide +kernel | kernel_rfl
theorem boot_divmod:bootBuiltins "divmod" = some (.builtin "divmod"):=by first | rfl | decide +kernel | kernel_rfl
theorem boot_intT:bootBuiltins "int" = some (.type "int"):=by first | rfl | decide +kernel | kernel_rfl
theorem boot_listT:bootBuiltins "list" = some (.type "list"):=by first | rfl | decide +kernel | kernel_rfl
theorem boot_tupleT:bootBuiltins "tuple" = some (.type "tuple"):=by first | rfl | decide +kernel | kernel_rfl
theorem boot_dictT:bootBuiltins "dict" = some (.type "dict"):=by first | rfl | decide +kernel | kernel_rfl
theorem bool_vals:∀ {bs:List Bool} {its:List Value},Vals (bs.map V.bl) its→its=bs.map Value.bool
  | [],_,.nil=>rfl
  | b :: bs,_,.cons r t=>by rw [bool_vals t]; cases r; rfl
theorem range_getD {bs:List Bool} (f:Nat→Bool) (hf:∀ i b,bs[i]?=some b→f i=b):(List.range bs.length).map f=bs:=by
  apply List.ext_getElem?
  intro i
  rw [List.getElem?_map]
  by_cases h:i<bs.length
  · rw [List.getElem?_range h,List.getElem?_eq_getElem h]
    simp only [Option.map_some]
    rw [hf i _ (List.getElem?_eq_getElem h)]
  · rw [List.getElem?_eq_none (by simpa using h),List.getElem?_eq_none (by lia)]; rfl
theorem call_allL (hc:X.calm=true):CallR X (.builtin "all") (fun xs H Q=>∃ (p:Addr) (bs:List Bool),xs=[.ref p]∧SqL X.K H p (bs.map V.bl)∧Q (.bl (bs.all id)) H):=by
  intro pins s σ H xs us Q I r h
  obtain ⟨p,bs,rfl,hq,q⟩:=h
  obtain ⟨u,rfl,rx⟩:=vals1 r
  cases rx
  obtain ⟨its,rv,pl,hz⟩:=I.list hq
  have e:=bool_vals rv
  subst e
  refine call_all_walk (wpAny_pyIter_list pl.isList ?_)
  refine ⟨s.heap.objs.size,_,[s.heap.objs.size],_,_,_,fun i=>bs.getD i true,rfl,Walks.list (A:=X.A.in1) (show X.A.in1.handled=none from I.ok.hd hc) s.heap.objs.size p ?_ (bs.map Value.bool).toArray,⟨⟨_,Heap.get?_push_size _ rfl,rfl,rfl⟩,pl.isList.at fun o e=>Heap.get?_push_of_some _ e⟩,?_,?_⟩
  · obtain ⟨o,e,_⟩:=pl.isList; exact Nat.ne_of_lt (Heap.lt_size e)
  · intro i v s' Q' E' hP hQ
    have hP':(bs.map Value.bool)[i]?=some v:=by simpa using hP
    rw [List.getElem?_map] at hP'
    cases z:bs[i]? with
    | none=>rw [z] at hP'; cases hP'
    | some b =>
      rw [z] at hP'
      cases hP'
      have:bs.getD i true=b:=by rw [List.getD_eq_getElem?_getD,z]; rfl
      have hQ':Q' (bs.getD i true) s':=hQ
      rw [this] at hQ'
      exact wpAny_truthy_bool hQ'
  · intro h' tk hk
    refine ⟨.bl (bs.all id),H,I.kept (t':=tk) (fun b o e=>hk b o (by simpa using Nat.ne_of_lt (Heap.lt_size e)) (Heap.get?_push_of_some _ e)),?_,q⟩
    have z:(List.range bs.length).map (fun i=>bs.getD i true)=bs:=range_getD _ fun i b e=>by rw [List.getD_eq_getElem?_getD,e]; rfl
    have z2:(List.range bs.length).all (fun i=>bs.getD i true)=bs.all id:=by
      conv=>rhs; rw [← z]
      rw [List.all_map]; rfl
    show Value.bool _=Value.bool _
    have z3:(bs.map Value.bool).toArray.size=bs.length:=by simp
    rw [z3,z2]
theorem rangeN (lo:Int) (n:Nat):∀ {acc:Array Value},ItemsOf (fun i v=>∃ t,v=.int (lo+i * 1) t) acc n→Vals ((List.range n).map fun i=>V.int (lo+(i:Nat))) acc.toList:=by
  intro acc h
  obtain ⟨hs,hi⟩:=h
  have gen:∀ (l:List Value) (k:Nat) (xs:List V),xs.length=l.length→(∀ (j:Nat) (v:Value) (x:V),l[j]?=some v→xs[j]?=some x→RelV x v)→Vals xs l:=by
    intro l
    induction l with
    | nil=>intro k xs hl _; cases xs with | nil=>exact .nil | cons _ _=>simp at hl
    | cons u l ih =>
      intro k xs hl hr
      cases xs with
      | nil=>simp at hl
      | cons x xs=>exact .cons (hr 0 u x rfl rfl) (ih k xs (by simpa using hl) fun j v y e1 e2=>hr (j+1) v y (by simpa using e1) (by simpa using e2))
  refine gen _ 0 _ (by simp [hs]) fun j v x e1 e2=>?_
  have e1':acc[j]?=some v:=by simpa using e1
  obtain ⟨t,rfl⟩:=hi j v e1'
  have hj:j<n:=by rw [← hs]; exact (Array.getElem?_eq_some_iff.mp e1').1
  rw [List.getElem?_map,List.getElem?_range hj] at e2
  cases e2
  exact ⟨t,by simp⟩
def tListRange (ta:TA):TE:=fun σ H Q=>ta σ H fun vs H1=>∃ i j:Int,vs=[.int i,.int j]∧(-(2 ^ 62)≤i∧i<2 ^ 62 ∧ -(2 ^ 62)≤j∧j<2 ^ 62)∧(j - i).toNat≤sizeLine ∧
  ∀ p,H1 p=none→Q (.ref p) (upd H1 p (.lst ((List.range (j - i).toNat).map fun k=>V.int (i+(k:Nat)))))
theorem pe_listrange {a b:PySem.Expr} {ta:TA} {p q pos pos2:Pos} (hc:X.calm=true) (hg1:Gl X "list") (hm1:X.mg "list" = none) (hg:Gl X "range") (hm:X.mg "range" = none) (ha:PA X [a,b] ta)
    (hs:starEach [a,b] X.env=[(false,eval a X.env),(false,eval b X.env)]:=by rfl) (hs2:starEach [b] X.env=[(false,eval b X.env)]:=by rfl)
    (hs3:starEach [PySem.Expr.Call (.Name "range" p) [a,b] [] pos] X.env=[(false,eval (PySem.Expr.Call (.Name "range" p) [a,b] [] pos) X.env)]:=by rfl) :
    PE X (.Call (.Name "list" q) [.Call (.Name "range" p) [a,b] [] pos] [] pos2) (tListRange ta):=by
  intro pins s σ H Q I h
  refine Call_ (ld_blt I hg1 hm1 boot_listT (PyProof.Rows.callWith_type1 (Q:=EP X pins σ Q) ?_ hs3 rfl))
  rw [hs3]
  refine Calls.spliced_cons (Call_ (ld_blt I hg hm boot_range (PyProof.Rows.callWith_type1 (thA (ha pos pins s σ H _ I h) fun us s1 vs H1 I1 r1 q1=>?_) (by rw [hs,hs2]) (by rw [hs2]; rfl))))
  obtain ⟨i,j,e,⟨q1,q2,q3,q4⟩,hz,q⟩:=q1
  subst e
  cases r1 with
  | cons r rr =>
    cases rr with
    | cons r' rr =>
      cases rr
      obtain ⟨t,rfl⟩:=r
      obtain ⟨t',rfl⟩:=r'
      refine call_range_2 (Calls.spliced_nil ?_)
      have I2:Inv X pins σ H1 { s1 with heap:=s1.heap.push { cls:=.type "range",data:=.fields #[.int i t,.int j t',.int 1 s1.toks] },toks:=s1.toks+1 }:=I1.kept fun b o e=>Heap.get?_push_of_some _ e
      have hsz:sizeLine=16777216:=sizeLine_eq
      refine call_list_range (n:=(j - i).toNat) (I.ok.hd hc) (IsRange.new ..) (small_one q1 q2 q3 q4) (by rw [rangeSize_one]; split <;> lia) (by lia) fun h' tk acc' c' hk hS hit=>?_
      refine ⟨.ref _,_,I2.laid (o:=.lst ((List.range (j - i).toNat).map fun k=>V.int (i+(k:Nat)))) hk (Nat.le_refl _) ⟨by simpa using hz,acc'.toList,c',rangeN i _ hit,by simpa using hS⟩,rfl,q _ (I2.hok.fresh (Nat.le_refl _))⟩
end
end L2
set_option Elab.async false
set_option linter.all false
set_option maxRecDepth 100000
set_option maxHeartbeats 4000000
namespace L2
open PySem PySem.Spec PyProof.Rows
structure Def (P:Program) (w:World) (K:PySem.W.Frag) (mg:Str→Option Value) (base:Heap) (x:Str) (k:Nat) (ps:List Str) (sp:Sp):Prop where
  ex:∃ (f:Addr) (fd:FuncData),FnOk P w K mg base CX0 k f fd ps sp∧mg x=some (.ref f)∧PySem.W.keepIn K (.ref f)=true∧Binds K fd ps []
section
variable {X:Cx} {x:Str} {p pos:Pos} {e:PySem.Expr} {es:List PySem.Expr} {t:TA} {k:Nat} {ps:List Str} {sp:Sp}
theorem pe_def (D:Def X.prog X.w X.K X.mg X.base x k ps sp) (hr:Room k X.A) (hg:Gl X x) (ha:PA X (e :: es) t)
    (he:starEach (e :: es) X.env=(false,eval e X.env) :: starEach es X.env:=by rfl) (hpl:(backTo pos (starEach es X.env)).any (·.1)=false:=by rfl) (hd:(x == ("__debug__" : Str))=false:=by decide) :
    PE X (.Call (.Name x p) (e :: es) [] pos) (tCall sp [] E0 t):=by
  obtain ⟨f,fd,F,hm,hk,hb⟩:=D.ex
  exact pe_call F hr hg hm hk hb .nil pass0 ha (hdb:=hd) (he:=he) (hpl:=hpl)
end
theorem pg_tupK {X:Cx} {K:PySem.W.Frag} {es:List PySem.Expr} {k:Nat} {t:TGs} {n:Nat} {pos:Pos} (hK:X.K=K) (hc:X.calm=true) (h:PGs X es t)
    (hn:(assignEach es X.env).length=n:=by rfl) (hst:(assignEach es X.env).findIdx? (·.1)=none:=by rfl):PG X (.Tuple es k pos) (gTup K n t):=by
  subst hK
  exact pg_tup hc h hn hst
def compB (osc:Scope) (oN:List Str) (scope:Scope) (N:List Str) (own:Nat) (js:List Nat):Bool :=
  scope.kind == .function && scope.names.all (fun y=>y.2 != .cell || scope.names.lookup y.1 == some .cell) && scope.names.all (fun y=>y.2 != .local || scope.names.lookup y.1 == some .local) &&
  scope.names.all (fun y=>y.2 != .free || (osc.names.lookup y.1 == some .cell || osc.names.lookup y.1 == some .free)) && N.length == own+js.length &&
  (js.map fun j=>oN[j]?) == (N.drop own).map some && (N.drop own).all fun x=>scope.names.lookup x == some .free
theorem compOk_of {X:Cx} {osc:Scope} {oN:List Str} {scope:Scope} {N:List Str} {own:Nat} {js:List Nat} (h:compB osc oN scope N own js=true) (hs:X.env.scope=osc) (hN:X.N=oN):CompOk X scope N own js:=by
  unfold compB at h
  simp only [Bool.and_eq_true,List.all_eq_true,Bool.or_eq_true,beq_iff_eq,bne_iff_ne,ne_eq] at h
  obtain ⟨⟨⟨⟨⟨⟨h1,h2⟩,h3⟩,h4⟩,h5⟩,h6⟩,h7⟩:=h
  refine ⟨h1,fun y hy hl=>?_,fun y hy hl=>?_,fun y hy hf=>?_,h5,fun k j e=>?_,fun k x e=>?_⟩
  · rcases h2 y hy with q | q
    · exact absurd hl q
    · exact q
  · rcases h3 y hy with q | q
    · exact absurd hl q
    · exact q
  · rcases h4 y hy with q | q
    · exact absurd hf q
    · show X.env.scope.names.lookup y.1=_∨X.env.scope.names.lookup y.1=_
      rw [hs]; exact q
  · rw [hN]
    have z:=congrArg (fun l=>l[k]?) h6
    simp only [List.getElem?_map,e,Option.map_some,List.getElem?_drop] at z
    cases q:N[own+k]? with
    | none=>rw [q] at z; cases z
    | some y=>rw [q] at z; exact (Option.some.inj z).symm
  · refine h7 x ?_
    exact List.mem_of_getElem? (i:=k) (by rw [List.getElem?_drop]; exact e)
def SB (b:Addr) (H H':Hp):Prop:=∀ a o,a≠b→H a=some o→H' a=some o
theorem SB.trans {b:Addr} {H H1 H2:Hp} (x:SB b H H1) (y:SB b H1 H2):SB b H H2:=fun a o n h=>y a o n (x a o n h)
theorem Same.sb {H H':Hp} (x:Same H H') (b:Addr):SB b H H':=fun a o _ h=>x a o h
theorem sb_upd (b:Addr) (H:Hp) (o:HO):SB b H (upd H b o):=fun a u n h=>by rw [upd_ne n]; exact h
theorem same_upd {H:Hp} {p:Addr} (h:H p=none) (o:HO):Same H (upd H p o):=fun b u q=>by rw [upd_ne (ne_of_none q h)]; exact q
def CNx (n:Nat) (l:Addr) (Pv:Nat→List V→St→Hp→Prop) (i:Nat) (ys:List V) (σ:St) (y:V) (H:Hp):Prop :=
  H l=some (.lst ys)∧ys.length<sizeLine∧∃ m',m'<n - i∧(m'=n - (i+1)∧i+1≤n∧(ys++[y]).length≤i+1∧Pv (i+1) (ys++[y]) σ (upd H l (.lst (ys++[y]))))
def CNo (n:Nat) (Pv:Nat→List V→St→Hp→Prop) (i:Nat) (ys:List V) (σ:St) (H:Hp):Prop:=∃ m',m'<n - i∧(m'=n - (i+1)∧i+1≤n∧ys.length≤i+1∧Pv (i+1) ys σ H)
theorem CNx.of {n:Nat} {l:Addr} {Pv:Nat→List V→St→Hp→Prop} {i:Nat} {ys:List V} {σ:St} {y:V} {H:Hp} (hn:n≤sizeLine) (hi:i<n) (hy:ys.length≤i) (h1:H l=some (.lst ys)) (h2:Pv (i+1) (ys++[y]) σ (upd H l (.lst (ys++[y])))):CNx n l Pv i ys σ y H :=
  ⟨h1,by lia,n - (i+1),by lia,rfl,hi,by rw [List.length_append,List.length_singleton]; lia,h2⟩
theorem CNo.of {n:Nat} {Pv:Nat→List V→St→Hp→Prop} {i:Nat} {ys:List V} {σ:St} {H:Hp} (hi:i<n) (hy:ys.length≤i) (h2:Pv (i+1) ys σ H):CNo n Pv i ys σ H :=
  ⟨n - (i+1),by lia,rfl,hi,by lia,h2⟩
theorem comp_range {lo:Int} {n:Nat} {l:Addr} {g:TG} {tc:TT} {te:TE} {σ0:St} {H0:Hp} {Qf:Hp→Prop} (Pv:Nat→List V→St→Hp→Prop) (h0:Pv 0 [] σ0 H0)
    (hs:∀ i ys σ' H',i<n→ys.length≤i→Pv i ys σ' H'→g (.int (lo+i)) σ' H' fun σ2 H3=>tc σ2 H3 fun b H4=>if b=true then te σ2 H4 fun y H5=>CNx n l Pv i ys σ2 y H5 else CNo n Pv i ys σ2 H4)
    (hd:∀ ys σ' H',ys.length≤n→Pv n ys σ' H'→Qf H') :
    ∃ W:Nat→Nat→List V→St→Hp→Prop,(∃ m,W 0 m [] σ0 H0)∧∀ i m ys σ' H',W i m ys σ' H' →
    ((Itr lo n).stop i H'∧Qf H')∨((Itr lo n).go i H'∧∀ x H2,(Itr lo n).yld i H' x H2→g x σ' H2 fun σ2 H3=>tc σ2 H3 fun b H4 =>
      if b=true then te σ2 H4 fun y H5=>H5 l=some (.lst ys)∧ys.length<sizeLine∧∃ m',m'<m∧W (i+1) m' (ys++[y]) σ2 (upd H5 l (.lst (ys++[y])))
      else ∃ m',m'<m∧W (i+1) m' ys σ2 H4):=by
  refine ⟨fun i m ys σ' H'=>m=n - i∧i≤n∧ys.length≤i∧Pv i ys σ' H',⟨n,rfl,Nat.zero_le _,Nat.le_refl _,h0⟩,?_⟩
  rintro i m ys σ' H' ⟨rfl,hi,hy,p⟩
  by_cases hlt:i<n
  · refine .inr ⟨hlt,fun x H2 q=>?_⟩
    obtain ⟨rfl,rfl⟩:=q
    exact hs i ys σ' _ hlt hy p
  · have e:i=n:=by lia
    subst e
    exact .inl ⟨Nat.le_refl _,hd ys σ' H' hy p⟩
theorem comp_list {K:PySem.W.Frag} {a:Addr} {xs:List V} {l:Addr} {g:TG} {tc:TT} {te:TE} {σ0:St} {H0:Hp} {Qf:Hp→Prop} (Pv:Nat→List V→St→Hp→Prop) (h0:Pv 0 [] σ0 H0)
    (hl:∀ i ys σ' H',i≤xs.length→Pv i ys σ' H'→SqL K H' a xs)
    (hs:∀ i x ys σ' H',i<xs.length→xs[i]?=some x→ys.length≤i→Pv i ys σ' H'→g x σ' H' fun σ2 H3=>tc σ2 H3 fun b H4=>if b=true then te σ2 H4 fun y H5=>CNx xs.length l Pv i ys σ2 y H5 else CNo xs.length Pv i ys σ2 H4)
    (hd:∀ ys σ' H',ys.length≤xs.length→Pv xs.length ys σ' H'→Qf H') :
    ∃ W:Nat→Nat→List V→St→Hp→Prop,(∃ m,W 0 m [] σ0 H0)∧∀ i m ys σ' H',W i m ys σ' H' →
    ((Itl K a).stop i H'∧Qf H')∨((Itl K a).go i H'∧∀ x H2,(Itl K a).yld i H' x H2→g x σ' H2 fun σ2 H3=>tc σ2 H3 fun b H4 =>
      if b=true then te σ2 H4 fun y H5=>H5 l=some (.lst ys)∧ys.length<sizeLine∧∃ m',m'<m∧W (i+1) m' (ys++[y]) σ2 (upd H5 l (.lst (ys++[y])))
      else ∃ m',m'<m∧W (i+1) m' ys σ2 H4):=by
  refine ⟨fun i m ys σ' H'=>m=xs.length - i∧i≤xs.length∧ys.length≤i∧Pv i ys σ' H',⟨xs.length,rfl,Nat.zero_le _,Nat.le_refl _,h0⟩,?_⟩
  rintro i m ys σ' H' ⟨rfl,hi,hy,p⟩
  have q:=hl i ys σ' H' hi p
  by_cases hlt:i<xs.length
  · refine .inr ⟨⟨xs,xs[i],q,by simp [hlt]⟩,fun x H2 z=>?_⟩
    obtain ⟨rfl,z⟩:=z
    exact hs i x ys σ' _ hlt (z xs q) hy p
  · have e:i=xs.length:=by lia
    subst e
    exact .inl ⟨⟨xs,q,Nat.le_refl _⟩,hd ys σ' H' hy p⟩
theorem for_enum {K:PySem.W.Frag} {a:Addr} {xs:List V} {g:TG} {tb:TS} {D:Ends} {σ:St} {H:Hp} (Pv:Nat→St→Hp→Prop) (h0:Pv 0 σ H) (hl:∀ i σ H,i≤xs.length→Pv i σ H→SqL K H a xs)
    (hs:∀ i x t σ H,xs[i]?=some x→Pv i σ H→H t=none→g (.ref t) σ (upd H t (.tup [.int i,x])) fun σ2 H2=>tb { D with nx:=Pv (i+1),ct:=Pv (i+1),bk:=D.nx } σ2 H2) (hd:∀ σ H,Pv xs.length σ H→D.nx σ H) :
    ∃ W:Nat→Nat→St→Hp→Prop,(∃ m,W 0 m σ H)∧∀ i m σ H,W i m σ H →
      ((Ite K a).stop i H∧D.nx σ H)∨((Ite K a).go i H∧∃ N:St→Hp→Prop,(∀ σ' H',N σ' H'→∃ m',m'<m∧W (i+1) m' σ' H')∧∀ x H',(Ite K a).yld i H x H'→g x σ H' fun σ2 H2=>tb { D with nx:=N,ct:=N,bk:=D.nx } σ2 H2):=by
  refine ⟨fun i m σ H=>m=xs.length - i∧i≤xs.length∧Pv i σ H,⟨xs.length,by simp,Nat.zero_le _,h0⟩,?_⟩
  rintro i m σ H ⟨rfl,hi,p⟩
  have q:=hl i σ H hi p
  by_cases hlt:i<xs.length
  · refine .inr ⟨⟨xs,xs[i],q,by simp [hlt]⟩,Pv (i+1),fun σ' H' p'=>⟨xs.length - (i+1),by lia,rfl,hlt,p'⟩,fun x H' y=>?_⟩
    obtain ⟨t,u,ht,rfl,rfl,y⟩:=y
    exact hs i u t σ _ (y xs q) p ht
  · have e:i=xs.length:=by lia
    subst e
    exact .inl ⟨⟨xs,q,rfl⟩,hd σ H p⟩
theorem atI0 {α:Type} {x:α} {xs:List α}:atI (x :: xs) 0=some x:=atI_nat (j:=0) rfl
theorem atI1 {α:Type} {x y:α} {xs:List α}:atI (x :: y :: xs) 1=some y:=atI_nat (j:=1) rfl
theorem atI2 {α:Type} {x y z:α} {xs:List α}:atI (x :: y :: z :: xs) 2=some z:=atI_nat (j:=2) rfl
theorem atI3 {α:Type} {x y z u:α} {xs:List α}:atI (x :: y :: z :: u :: xs) 3=some u:=atI_nat (j:=3) rfl
theorem ite_dec {p A B:Prop} [Decidable p] (h1:p→A) (h2:¬ p→B):if decide p=true then A else B:=by
  by_cases h:p
  · rw [if_pos (decide_eq_true h)]; exact h1 h
  · rw [if_neg (by rw [decide_eq_false h]; exact Bool.false_ne_true)]; exact h2 h
end L2
set_option Elab.async false
set_option linter.all false
set_option maxRecDepth 100000
set_option maxHeartbeats 4000000
namespace HT
open PySem PySem.Spec PyProof.Rows
end HT
namespace L2
open PySem PySem.Spec PyProof.Rows
def NS:PySem.Expr→Prop
  | .Starred _ _=>False
  | _=>True
theorem star_ns {e:PySem.Expr} {es:List PySem.Expr} {env:Env} (h:NS e):starEach (e :: es) env=(false,eval e env) :: starEach es env:=by
  cases e <;> first | rfl | exact h.elim
def NSs:List PySem.Expr→Prop
  | []=>True
  | e :: es=>NS e∧NSs es
theorem back_ns {pos:Pos} {env:Env}:∀ {es:List PySem.Expr},NSs es→(backTo pos (starEach es env)).any (·.1)=false
  | [],_=>rfl
  | e :: es,h=>by
    rw [star_ns h.1]
    have ih:=back_ns (pos:=pos) (env:=env) h.2
    simp only [backTo] at ih ⊢
    simpa using ih
section
variable {X:Cx} {x:Str} {p pos:Pos} {e:PySem.Expr} {es:List PySem.Expr} {te:TE} {t:TA} {k:Nat} {ps:List Str} {sp:Sp} {id T:String} {r:List V→Hp→VK→Prop}
theorem pc (ha:PE X e te) (hr:PA X es t) (hn:NS e:=by exact True.intro):PA X (e :: es) (tCons te t):=pa_cons ha hr (star_ns hn)
theorem pe_defN (D:Def X.prog X.w X.K X.mg X.base x k ps sp) (hr:Room k X.A) (hg:Gl X x) (ha:PA X (e :: es) t) (hn:NSs (e :: es):=by repeat' (first | exact True.intro | refine ⟨?_,?_⟩)) (hd:(x == ("__debug__" : Str))=false:=by decide) :
    PE X (.Call (.Name x p) (e :: es) [] pos) (tCall sp [] E0 t):=pe_def D hr hg ha (star_ns hn.1) (back_ns hn.2) hd
theorem pe_callBN (hc:CallR X (.builtin id) r) (hg:Gl X x) (hm:X.mg x=none) (hv:bootBuiltins x=some (.builtin id)) (ha:PA X (e :: es) t) (hnn:NSs (e :: es):=by repeat' (first | exact True.intro | refine ⟨?_,?_⟩)) (hn:x ≠ "__name__" := by decide) (hdb:(x == ("__debug__" : Str))=false:=by decide) :
    PE X (.Call (.Name x p) (e :: es) [] pos) (tCB r t):=pe_callB hc hg hm hv ha hn hdb (star_ns hnn.1) (back_ns hnn.2)
theorem pe_callTyN (hc:CallR X (.type T) r) (hg:Gl X x) (hm:X.mg x=none) (hv:bootBuiltins x=some (.type T)) (ha:PA X (e :: es) t) (hnn:NSs (e :: es):=by repeat' (first | exact True.intro | refine ⟨?_,?_⟩)) (hn:x ≠ "__name__" := by decide) (hdb:(x == ("__debug__" : Str))=false:=by decide) :
    PE X (.Call (.Name x p) (e :: es) [] pos) (tCB r t):=pe_callTy hc hg hm hv ha hn hdb (star_ns hnn.1) (back_ns hnn.2)
end
end L2
set_option Elab.async false
set_option linter.all false
set_option maxRecDepth 100000
set_option maxHeartbeats 4000000
namespace L2
open PySem PySem.Spec PyProof.Rows
theorem comp_tup {K:PySem.W.Frag} {a:Addr} {xs:List V} {l:Addr} {g:TG} {tc:TT} {te:TE} {σ0:St} {H0:Hp} {Qf:Hp→Prop} (Pv:Nat→List V→St→Hp→Prop) (h0:Pv 0 [] σ0 H0)
    (hl:∀ i ys σ' H',i≤xs.length→Pv i ys σ' H'→SqT K H' a xs)
    (hs:∀ i x ys σ' H',i<xs.length→xs[i]?=some x→ys.length≤i→Pv i ys σ' H'→g x σ' H' fun σ2 H3=>tc σ2 H3 fun b H4=>if b=true then te σ2 H4 fun y H5=>CNx xs.length l Pv i ys σ2 y H5 else CNo xs.length Pv i ys σ2 H4)
    (hd:∀ ys σ' H',ys.length≤xs.length→Pv xs.length ys σ' H'→Qf H') :
    ∃ W:Nat→Nat→List V→St→Hp→Prop,(∃ m,W 0 m [] σ0 H0)∧∀ i m ys σ' H',W i m ys σ' H' →
    ((Itt K a).stop i H'∧Qf H')∨((Itt K a).go i H'∧∀ x H2,(Itt K a).yld i H' x H2→g x σ' H2 fun σ2 H3=>tc σ2 H3 fun b H4 =>
      if b=true then te σ2 H4 fun y H5=>H5 l=some (.lst ys)∧ys.length<sizeLine∧∃ m',m'<m∧W (i+1) m' (ys++[y]) σ2 (upd H5 l (.lst (ys++[y])))
      else ∃ m',m'<m∧W (i+1) m' ys σ2 H4):=by
  refine ⟨fun i m ys σ' H'=>m=xs.length - i∧i≤xs.length∧ys.length≤i∧Pv i ys σ' H',⟨xs.length,rfl,Nat.zero_le _,Nat.le_refl _,h0⟩,?_⟩
  rintro i m ys σ' H' ⟨rfl,hi,hy,p⟩
  have q:=hl i ys σ' H' hi p
  by_cases hlt:i<xs.length
  · refine .inr ⟨⟨xs,xs[i],q,by simp [hlt]⟩,fun x H2 z=>?_⟩
    obtain ⟨rfl,z⟩:=z
    exact hs i x ys σ' _ hlt (z xs q) hy p
  · have e:i=xs.length:=by lia
    subst e
    exact .inl ⟨⟨xs,q,Nat.le_refl _⟩,hd ys σ' H' hy p⟩
end L2
set_option Elab.async false
set_option linter.all false
set_option maxRecDepth 100000
set_option maxHeartbeats 4000000
namespace L2
open PySem PySem.Spec PyProof.Rows
section
variable {X:Cx} {K:PySem.W.Frag}
theorem ix_listK (hK:X.K=K):IxR X (rIxL K):=hK ▸ ix_list
theorem ix_tupK (hK:X.K=K):IxR X (rIxT K):=hK ▸ ix_tup
theorem sl_listK (hK:X.K=K):SlR X (rSlL K):=hK ▸ sl_list
theorem op_in_seqK (hK:X.K=K):OpR X (compareOp .In) (rIn K false):=hK ▸ op_in_seq
theorem op_notIn_seqK (hK:X.K=K):OpR X (compareOp .NotIn) (rIn K true):=hK ▸ op_notIn_seq
theorem call_len_seqK (hK:X.K=K):CallR X (.builtin "len") (fun xs H Q=>∃ p ys,xs=[.ref p]∧(SqL K H p ys∨SqT K H p ys)∧Q (.int ys.length) H):=hK ▸ call_len_seq
theorem call_list_ofK (hK:X.K=K):CallR X (.type "list") (fun xs H Q=>∃ p ys,xs=[.ref p]∧(SqL K H p ys∨SqT K H p ys)∧∀ l,H l=none→Q (.ref l) (upd H l (.lst ys))):=hK ▸ call_list_of
theorem call_tuple_ofK (hK:X.K=K):CallR X (.type "tuple") (fun xs H Q=>∃ p ys,xs=[.ref p]∧((SqL K H p ys∧∀ l,H l=none→Q (.ref l) (upd H l (.tup ys)))∨(SqT K H p ys∧Q (.ref p) H))):=hK ▸ call_tuple_of
theorem ints_range {ns ms:List Int} (h:ns.length=ms.length):(List.range ns.length).all (fun j=>ns.getD j 0 == ms.getD j 0)=decide (ns=ms):=by
  rw [Bool.eq_iff_iff,List.all_eq_true,decide_eq_true_eq]
  constructor
  · intro z
    refine List.ext_getElem h fun j h1 h2=>?_
    have:=z j (List.mem_range.mpr h1)
    rw [List.getD_eq_getElem?_getD,List.getD_eq_getElem?_getD,List.getElem?_eq_getElem h1,List.getElem?_eq_getElem h2] at this
    simpa using this
  · rintro rfl j _
    simp
def rEqL (K:PySem.W.Frag) (neg:Bool):R2:=fun x y H Q=>∃ (a b:Addr) (ns ms:List Int),x=.ref a∧y=.ref b∧SqL K H a (ns.map V.int)∧SqL K H b (ms.map V.int)∧Q (.bl (if neg then !decide (ns=ms) else decide (ns=ms))) H
theorem ints_eqAt {A:Around} {s:Shared} {ns:List Int} {us:List Value} (r:Vals (ns.map V.int) us) {ms:List Int} {ws:List Value} (r2:Vals (ms.map V.int) ws) (j:Nat) (h1:j<us.toArray.size) (h2:j<ws.toArray.size):SeqAt.EqAt A s us.toArray[j] ws.toArray[j] (ns.getD j 0 == ms.getD j 0):=by
  have l1:ns.length=us.length:=by have:=r.length; rwa [List.length_map] at this
  have l2:ms.length=ws.length:=by have:=r2.length; rwa [List.length_map] at this
  have k1:j<ns.length:=by rw [l1]; simpa using h1
  have k2:j<ms.length:=by rw [l2]; simpa using h2
  obtain ⟨u,hu,ru⟩:=r.get (i:=j) (x:=.int ns[j]) (by rw [List.getElem?_map,List.getElem?_eq_getElem k1]; rfl)
  obtain ⟨v,hv,rv⟩:=r2.get (i:=j) (x:=.int ms[j]) (by rw [List.getElem?_map,List.getElem?_eq_getElem k2]; rfl)
  obtain ⟨t,rfl⟩:=ru
  obtain ⟨t',rfl⟩:=rv
  have e1:us.toArray[j]=.int ns[j] t:=by
    have:us[j]?=some us[j]:=List.getElem?_eq_getElem (by simpa using h1)
    rw [hu] at this
    simpa using (Option.some.inj this).symm
  have e2:ws.toArray[j]=.int ms[j] t':=by
    have:ws[j]?=some ws[j]:=List.getElem?_eq_getElem (by simpa using h2)
    rw [hv] at this
    simpa using (Option.some.inj this).symm
  rw [e1,e2,List.getD_eq_getElem?_getD,List.getD_eq_getElem?_getD,List.getElem?_eq_getElem k1,List.getElem?_eq_getElem k2]
  exact SeqAt.EqAt.int_int _ _ _ _
theorem op_neL (hu:X.A.units<cLine) (hK:X.K=K):OpR X (compareOp .NotEq) (rEqL K true):=by
  subst hK
  intro pins s σ H x y v u Q I rx ry h
  obtain ⟨a,b,ns,ms,rfl,rfl,ha,hb,q⟩:=h
  cases rx
  cases ry
  obtain ⟨its,r1,p1,_⟩:=I.list ha
  obtain ⟨its2,r2,p2,_⟩:=I.list hb
  have l1:ns.length=its.length:=by have:=r1.length; rwa [List.length_map] at this
  have l2:ms.length=its2.length:=by have:=r2.length; rwa [List.length_map] at this
  by_cases hl:ns.length=ms.length
  · refine SeqAt.RcNeAt.lists (e:=fun j=>ns.getD j 0 == ms.getD j 0) p1.isList p2.isList (by simp; lia) hu (fun j h1 h2=>ints_eqAt r1 r2 j h1 h2) X.prog X.w X.xe _ ⟨.bl _,H,I,rfl,?_⟩
    rw [List.size_toArray,← l1,ints_range hl]
    exact q
  · refine SeqAt.RcNeAt.lists_lengths p1.isList p2.isList (by simp; lia) hu X.prog X.w X.xe _ ⟨.bl true,H,I,rfl,?_⟩
    have e:decide (ns=ms)=false:=decide_eq_false fun z=>hl (by rw [z])
    rw [e] at q
    exact q
end
end L2
set_option Elab.async false
set_option linter.all false
set_option maxRecDepth 100000
set_option maxHeartbeats 4000000
namespace L2
open PySem PySem.Spec PyProof.Rows
end L2
set_option Elab.async false
set_option linter.all false
set_option maxRecDepth 100000
set_option maxHeartbeats 4000000
namespace HT
open PySem PyProof.Rows
section
open PySem.SeqAt
open PySem.AutoSeq1 (wpAny_loadPart')
open PySem.MeetsSeq PySem.MeetsSeq2 PySem.MeetsSeq3
end
end HT
namespace L2
open PySem PySem.Spec PyProof.Rows
end L2
namespace L2
open PySem PySem.Spec PyProof.Rows
section
variable {X:Cx}
def rRemove:V→List V→Hp→VK→Prop:=fun x vs H Q=>∃ (l:Addr) (ns:List Int) (k:Int),x=.ref l∧vs=[.int k]∧H l=some (.lst (ns.map V.int))∧k∈ns∧Q .non (upd H l (.lst ((ns.erase k).map V.int)))
theorem first_at (k:Int):∀ (ns:List Int),k∈ns→∃ j,ns[j]?=some k∧(∀ m z,m<j→ns[m]?=some z→z≠k)∧ns.erase k=ns.eraseIdx j
  | [],h=>nomatch h
  | x :: ns,h=>by
    by_cases hx:x=k
    · subst hx
      exact ⟨0,rfl,fun m z hm=>absurd hm (Nat.not_lt_zero _),by rw [List.erase_cons_head,List.eraseIdx_cons_zero]⟩
    · have hm:k∈ns:=by
        rcases List.mem_cons.mp h with e | e
        · exact absurd e.symm hx
        · exact e
      obtain ⟨j,h1,h2,h3⟩:=first_at k ns hm
      refine ⟨j+1,by simpa using h1,fun m z hm hz=>?_,?_⟩
      · cases m with
        | zero =>
          have e:x=z:=by simpa using hz
          rw [← e]; exact hx
        | succ m=>exact h2 m z (by lia) (by simpa using hz)
      · rw [List.erase_cons_tail (by simpa using hx),h3,List.eraseIdx_cons_succ]
theorem vals_erase {xs:List V} {us:List Value}:∀ (j:Nat),Vals xs us→Vals (xs.eraseIdx j) (us.eraseIdx j):=by
  intro j r
  induction r generalizing j with
  | nil=>exact .nil
  | cons h t ih =>
    cases j with
    | zero=>exact t
    | succ j=>exact .cons h (ih j)
theorem mt_remove:MtM X "list.remove" rRemove:=by
  intro pins s σ H x vs v us Q I rx rv h
  obtain ⟨l,ns,k,rfl,rfl,hH,hk,q⟩:=h
  cases rx
  obtain ⟨u,rfl,ru⟩:=rv.one
  obtain ⟨tk,rfl⟩:=ru
  obtain ⟨z,its,n,r,hl,e⟩:=I.lstM hH
  rw [List.length_map] at hl z
  obtain ⟨j,h1,h2,h3⟩:=first_at k ns hk
  have get:∀ (m:Nat) (hm:m<its.toArray.size),∃ (i:Int) (t:Tok),ns[m]?=some i∧its.toArray[m]=.int i t:=fun m hm=>by
    have hm':m<ns.length:=by rw [hl]; simpa using hm
    obtain ⟨w,hw,rw'⟩:=r.get (i:=m) (x:=.int ns[m]) (by rw [List.getElem?_map,List.getElem?_eq_getElem hm']; rfl)
    obtain ⟨t,rfl⟩:=rw'
    refine ⟨ns[m],t,List.getElem?_eq_getElem hm',?_⟩
    have:its[m]?=some its[m]:=List.getElem?_eq_getElem (by simpa using hm)
    rw [hw] at this
    simpa using (Option.some.inj this).symm
  have hj:j<its.toArray.size:=by
    have:=(List.getElem?_eq_some_iff.mp h1).1
    rw [hl] at this; simpa using this
  refine call_meets F.slot_list_remove ⟨_,e,rfl⟩ F.entry_list_remove (F.args_list_remove_2 _ _) (MeetsSeq.list_remove l its.toArray n (.int k tk) (fun y=>match y with | .int i _=>i == k | _=>false) (fun y hy=>?_) j hj ?_ (fun m hm hmj=>?_) (by rw [List.size_toArray,← hl]; exact z)) ⟨e,?_⟩
  · obtain ⟨m,hm,rfl⟩:=Array.getElem_of_mem hy
    obtain ⟨i,t,_,e2⟩:=get m hm
    rw [e2]
    exact MeetsSeq.EqGives.int i k t tk
  · obtain ⟨i,t,e1,e2⟩:=get j hj
    rw [h1] at e1; cases e1
    rw [e2]
    simp
  · obtain ⟨i,t,e1,e2⟩:=get m hm
    rw [e2]
    simpa using h2 m i hmj e1
  · refine ⟨.non,_,I.lset (its':=its.eraseIdx j) (ys:=(ns.erase k).map V.int) hH e ?_ ?_ ?_,rfl,q⟩
    · rw [List.eraseIdxIfInBounds_toArray]
    · rw [h3]
      have em:∀ (xs:List Int) (i:Nat),(xs.eraseIdx i).map V.int=(xs.map V.int).eraseIdx i:=fun xs=>by
        induction xs with
        | nil=>intro i; rfl
        | cons y xs ih=>intro i; cases i with
          | zero=>rfl
          | succ i=>rw [List.eraseIdx_cons_succ,List.map_cons,List.map_cons,List.eraseIdx_cons_succ,ih]
      rw [em]
      exact vals_erase j r
    · rw [List.length_map]
      exact Nat.le_trans List.length_erase_le z
end
end L2
set_option Elab.async false
set_option linter.all false
set_option maxRecDepth 100000
set_option maxHeartbeats 4000000
namespace L2
open PySem PySem.Spec PyProof.Rows
section
variable {κ:Type} [DecidableEq κ]
def valV (kvs:List (κ×V)) (k:κ):Option V:=(kvs.find? fun kv=>decide (kv.1=k)).map (·.2)
def putK (kvs:List (κ×V)) (k:κ) (v:V):List (κ×V) :=
  if (kvs.any fun kv=>decide (kv.1=k))=true then kvs.map (fun kv=>if kv.1=k then (kv.1,v) else kv) else kvs++[(k,v)]
def dropK (kvs:List (κ×V)) (k:κ):List (κ×V):=kvs.filter fun kv=>decide (kv.1≠k)
theorem valV_pos {p:κ×V} {r:List (κ×V)} {k:κ} (e:p.1=k):valV (p :: r) k=some p.2:=by simp [valV,List.find?_cons,e]
theorem valV_neg {p:κ×V} {r:List (κ×V)} {k:κ} (e:¬ p.1=k):valV (p :: r) k=valV r k:=by simp [valV,List.find?_cons,e]
theorem valV_any (k:κ):∀ kvs:List (κ×V),(kvs.any fun kv=>decide (kv.1=k))=(valV kvs k).isSome
  | []=>rfl
  | p :: r=>by
    rw [List.any_cons]
    by_cases e:p.1=k
    · simp only [valV_pos e,decide_eq_true e,Bool.true_or,Option.isSome_some]
    · rw [valV_neg e,decide_eq_false e,Bool.false_or]; exact valV_any k r
theorem valV_map (k j:κ) (y:V):∀ kvs:List (κ×V),valV (kvs.map fun kv=>if kv.1=k then (kv.1,y) else kv) j=(valV kvs j).map fun x=>if j=k then y else x
  | []=>rfl
  | p :: r=>by
    have ih:=valV_map k j y r
    rw [List.map_cons]
    by_cases h:p.1=k
    · rw [if_pos h]
      by_cases e:p.1=j
      · rw [valV_pos (p:=(p.1,y)) e,valV_pos e,Option.map_some,if_pos (e.symm.trans h)]
      · rw [valV_neg (p:=(p.1,y)) e,valV_neg e,ih]
    · rw [if_neg h]
      by_cases e:p.1=j
      · rw [valV_pos (p:=p) e,valV_pos e,Option.map_some,if_neg (fun z=>h (e.trans z))]
      · rw [valV_neg (p:=p) e,valV_neg e,ih]
theorem valV_snoc (k j:κ) (y:V):∀ kvs:List (κ×V),valV kvs k=none→valV (kvs++[(k,y)]) j=if j=k then some y else valV kvs j
  | [],_=>by
    by_cases e:k=j
    · rw [if_pos e.symm]; exact valV_pos (p:=(k,y)) e
    · rw [if_neg (fun z=>e z.symm)]; exact valV_neg (p:=(k,y)) e
  | p :: r,hn=>by
    rw [List.cons_append]
    have hk:¬ p.1=k:=fun z=>by rw [valV_pos z] at hn; cases hn
    rw [valV_neg hk] at hn
    have ih:=valV_snoc k j y r hn
    by_cases e:p.1=j
    · rw [valV_pos e,valV_pos e,if_neg (fun z=>hk (e.trans z))]
    · rw [valV_neg e,valV_neg e,ih]
theorem valV_put (kvs:List (κ×V)) (k j:κ) (y:V):valV (putK kvs k y) j=if j=k then some y else valV kvs j:=by
  unfold putK
  by_cases a:(kvs.any fun kv=>decide (kv.1=k))=true
  · rw [if_pos a,valV_map]
    rw [valV_any] at a
    by_cases e:j=k
    · obtain ⟨x,hx⟩:=Option.isSome_iff_exists.mp a
      rw [if_pos e,e,hx,Option.map_some,if_pos rfl]
    · rw [if_neg e]
      cases valV kvs j with
      | none=>rfl
      | some x=>rw [Option.map_some,if_neg e]
  · rw [if_neg a]
    refine valV_snoc k j y kvs ?_
    rw [valV_any] at a
    cases q:valV kvs k with
    | none=>rfl
    | some x=>rw [q] at a; exact (a rfl).elim
theorem length_putK (kvs:List (κ×V)) (k:κ) (v:V):(putK kvs k v).length≤kvs.length+1:=by
  unfold putK
  split
  · rw [List.length_map]; lia
  · rw [List.length_append,List.length_cons,List.length_nil]; lia
theorem RelO.isSome_eq {o:Option V} {u:Option Value} (r:RelO o u):o.isSome=u.isSome:=by
  cases o with
  | none=>cases u with
    | none=>rfl
    | some _=>exact (show False from r).elim
  | some _=>cases u with
    | none=>exact (show False from r).elim
    | some _=>rfl
theorem RelO.getD {o:Option V} {u:Option Value} {d:V} {d':Value} (r:RelO o u) (rd:RelV d d'):RelV (o.getD d) (u.getD d'):=by
  cases o with
  | none=>cases u with
    | none=>exact rd
    | some _=>exact (show False from r).elim
  | some _=>cases u with
    | none=>exact (show False from r).elim
    | some _=>exact r
theorem KV.val {kvs:List (κ×V)} {vs:List (κ×Value)} (r:KV kvs vs) (k:κ):RelO (valV kvs k) (valueAt vs k):=by
  unfold KV at r
  induction r with
  | nil=>exact True.intro
  | @cons p q ps qs h t ih =>
    obtain ⟨h1,h2⟩:=h
    by_cases e:p.1=k
    · have e':q.1=k:=h1.symm.trans e
      have b:valueAt (q :: qs) k=some q.2:=by simp [valueAt,List.find?_cons,e']
      rw [valV_pos e,b]; exact h2
    · have e':¬ q.1=k:=fun z=>e (h1.trans z)
      have b:valueAt (q :: qs) k=valueAt qs k:=by simp [valueAt,List.find?_cons,e']
      rw [valV_neg e,b]; exact ih
theorem KV.any {kvs:List (κ×V)} {vs:List (κ×Value)} (r:KV kvs vs) (k:κ):(kvs.any fun kv=>decide (kv.1=k))=vs.any fun kv=>decide (kv.1=k):=by
  unfold KV at r
  induction r with
  | nil=>rfl
  | cons h t ih=>rw [List.any_cons,List.any_cons,ih,h.1]
theorem KV.repl {kvs:List (κ×V)} {vs:List (κ×Value)} (r:KV kvs vs) (k:κ) {y:V} {u:Value} (ry:RelV y u) :
    KV (kvs.map fun kv=>if kv.1=k then (kv.1,y) else kv) (vs.map fun kv=>if kv.1=k then (kv.1,u) else kv):=by
  unfold KV at r ⊢
  induction r with
  | nil=>exact .nil
  | @cons p q ps qs h t ih =>
    rw [List.map_cons,List.map_cons]
    refine .cons ?_ ih
    obtain ⟨h1,h2⟩:=h
    by_cases e:p.1=k
    · rw [if_pos e,if_pos (h1.symm.trans e)]; exact ⟨h1,ry⟩
    · rw [if_neg e,if_neg (fun z=>e (h1.trans z))]; exact ⟨h1,h2⟩
theorem KV.put {kvs:List (κ×V)} {vs:List (κ×Value)} (r:KV kvs vs) (k:κ) {y:V} {u:Value} (ry:RelV y u):KV (putK kvs k y) (stored vs k u):=by
  unfold putK stored
  rw [r.any k]
  by_cases e:(vs.any fun kv=>decide (kv.1=k))=true
  · rw [if_pos e,if_pos e]; exact r.repl k ry
  · rw [if_neg e,if_neg e]; exact Paired.snoc r ⟨rfl,ry⟩
theorem KV.drop {kvs:List (κ×V)} {vs:List (κ×Value)} (r:KV kvs vs) (k:κ):KV (dropK kvs k) (without vs k):=by
  unfold KV at r ⊢
  unfold dropK without
  induction r with
  | nil=>exact .nil
  | @cons p q ps qs h t ih =>
    obtain ⟨h1,h2⟩:=h
    rw [List.filter_cons,List.filter_cons]
    by_cases e:p.1=k
    · have a:¬ decide (p.1≠k)=true:=by simp [e]
      have b:¬ decide (q.1≠k)=true:=by simp [h1.symm.trans e]
      rw [if_neg a,if_neg b]; exact ih
    · have e':¬ q.1=k:=fun z=>e (h1.trans z)
      have a:decide (p.1≠k)=true:=by simp [e]
      have b:decide (q.1≠k)=true:=by simp [e']
      rw [if_pos a,if_pos b]; exact .cons ⟨h1,h2⟩ ih
theorem KV.length {kvs:List (κ×V)} {vs:List (κ×Value)} (r:KV kvs vs):kvs.length=vs.length:=Paired.length r
theorem dropK_le (kvs:List (κ×V)) (k:κ):(dropK kvs k).length≤kvs.length:=List.length_filter_le _ _
end
theorem kV_is {P:Program} {w:World} {k:Key} {u:Value} (r:RelV (kV k) u):(mixKind P w).is k u=true:=by
  cases k with
  | inl i=>obtain ⟨t,e⟩:=(show ∃ t,u=Value.int i t from r); subst e; exact mixKind_int P w i t
  | inr x=>obtain ⟨t,e⟩:=(show ∃ t,u=Value.str x t from r); subst e; exact mixKind_str P w x t
theorem items_are {P:Program} {w:World}:∀ {ks:List Key} {us:List Value},Vals (ks.map kV) us→ItemsAre (mixKind P w) ks us
  | [],_,r=>by rw [List.map_nil] at r; cases r; exact .nil
  | k :: ks,_,r=>by
    rw [List.map_cons] at r
    cases r with
    | cons h t=>exact .cons (kV_is h) (items_are t)
abbrev KT (H:Hp):List (List Key×V)→List (List Key×Addr×Value)→Prop:=Paired fun p q=>p.1=q.1∧H q.2.1=some (.tup (p.1.map kV))∧RelV p.2 q.2.2
theorem KT.val {H:Hp} {kvs:List (List Key×V)} {xs:List (List Key×Addr×Value)} (r:KT H kvs xs) (k:List Key):RelO (valV kvs k) ((atKey xs k).map (·.2)):=by
  induction r with
  | nil=>exact True.intro
  | @cons p q ps qs h t ih =>
    obtain ⟨h1,_,h2⟩:=h
    by_cases e:p.1=k
    · have e':q.1=k:=h1.symm.trans e
      have b:atKey (q :: qs) k=some q.2:=by simp [atKey,List.find?_cons,e']
      rw [valV_pos e,b]; exact h2
    · have e':¬ q.1=k:=fun z=>e (h1.trans z)
      have b:atKey (q :: qs) k=atKey qs k:=by simp [atKey,List.find?_cons,e']
      rw [valV_neg e,b]; exact ih
theorem KT.repl {H:Hp} {kvs:List (List Key×V)} {xs:List (List Key×Addr×Value)} (r:KT H kvs xs) (k:List Key) {y:V} {u:Value} (ry:RelV y u) :
    KT H (kvs.map fun kv=>if kv.1=k then (kv.1,y) else kv) (xs.map (putAt k u)):=by
  induction r with
  | nil=>exact .nil
  | @cons p q ps qs h t ih =>
    rw [List.map_cons,List.map_cons]
    refine .cons ?_ ih
    obtain ⟨h1,h2,h3⟩:=h
    unfold putAt
    by_cases e:p.1=k
    · rw [if_pos e,if_pos (h1.symm.trans e)]; exact ⟨h1,h2,ry⟩
    · rw [if_neg e,if_neg (fun z=>e (h1.trans z))]; exact ⟨h1,h2,h3⟩
theorem KT.put {H:Hp} {kvs:List (List Key×V)} {xs:List (List Key×Addr×Value)} (r:KT H kvs xs) (k:List Key) {b:Addr} {y:V} {u:Value} (hb:H b=some (.tup (k.map kV))) (ry:RelV y u) :
    KT H (putK kvs k y) (storedH xs k b u):=by
  have e:(kvs.any fun kv=>decide (kv.1=k))=(atKey xs k).isSome:=by
    rw [valV_any,(r.val k).isSome_eq,Option.isSome_map]
  unfold putK storedH
  rw [e]
  by_cases q:(atKey xs k).isSome=true
  · rw [if_pos q,if_pos q]; exact r.repl k ry
  · rw [if_neg q,if_neg q]; exact Paired.snoc r ⟨rfl,hb,ry⟩
theorem KT.keeps {H H':Hp} {kvs:List (List Key×V)} {xs:List (List Key×Addr×Value)} (r:KT H kvs xs) (ht:∀ b ys,H b=some (.tup ys)→H' b=some (.tup ys)):KT H' kvs xs :=
  Paired.mapP r fun _ _ z=>⟨z.1,ht _ _ z.2.1,z.2.2⟩
section
variable {P:Program} {w:World} {H:Hp} {h:Heap} {a:Addr}
theorem rd_of {u:HO} (ok:HOk P w H h) (e:Rd H a u):ObjOk P w H h a u:=e.ok ok
theorem dk_rd {kvs:List (Key×V)} (ok:HOk P w H h) (e:Rd H a (.dK kvs)):kvs.length≤sizeLine∧(a == sysModules)=false∧∃ vs,KV kvs vs∧h.DictOf (mixKind P w) a vs :=
  show ObjOk P w H h a (.dK kvs) from rd_of ok e
theorem dk_of {kvs:List (Key×V)} (ok:HOk P w H h) (e:H a=some (.dK kvs)):kvs.length≤sizeLine∧(a == sysModules)=false∧∃ vs,KV kvs vs∧h.DictOf (mixKind P w) a vs:=dk_rd ok (.inl e)
theorem key_of {ks:List Key} (ok:HOk P w H h) (e:H a=some (.tup (ks.map kV))):(tupleKind (mixKind P w)).is h ks a:=by
  obtain ⟨_,its,r,o,h1,h2,n,h3⟩:=(show ObjOk P w H h a (.tup (ks.map kV)) from ok a _ e)
  exact ⟨o,its.toArray,n,h1,h2,h3,by simpa using items_are r⟩
theorem dt_rd {kvs:List (List Key×V)} (ok:HOk P w H h) (e:Rd H a (.dT kvs)):kvs.length≤sizeLine∧(a == sysModules)=false ∧
    ∃ xs,KT H kvs xs∧h.DictOfH (tupleKind (mixKind P w)) a xs:=by
  obtain ⟨z,y,xs,r,o,es,ep,h1,h2,h3,h4,h5⟩:=(show ObjOk P w H h a (.dT kvs) from rd_of ok e)
  refine ⟨z,y,xs,r,o,es,ep,h1,h2,h3,h4,fun x hx=>?_,h5⟩
  have all:∀ {l:List (List Key×V)} {m:List (List Key×Addr×Value)},KT H l m→∀ x∈m,(tupleKind (mixKind P w)).is h x.1 x.2.1:=by
    intro l m q
    induction q with
    | nil=>intro x hx; exact nomatch hx
    | @cons p q ps qs hq t ih =>
      intro x hx
      rcases List.mem_cons.mp hx with e | hx
      · subst e
        exact key_of ok (by rw [← hq.1]; exact hq.2.1)
      · exact ih x hx
  exact all r x hx
theorem dt_of {kvs:List (List Key×V)} (ok:HOk P w H h) (e:H a=some (.dT kvs)):kvs.length≤sizeLine∧(a == sysModules)=false ∧
    ∃ xs,KT H kvs xs∧h.DictOfH (tupleKind (mixKind P w)) a xs:=dt_rd ok (.inl e)
end
def DGet (H:Hp) (a:Addr) (y:V) (r:Option V):Prop :=
  (∃ kvs k,Rd H a (.dK kvs)∧y=kV k∧r=valV kvs k)∨∃ kvs k b,Rd H a (.dT kvs)∧y=.ref b∧H b=some (.tup (k.map kV))∧r=valV kvs k
def DPut (H:Hp) (a:Addr) (y v:V) (H':Hp):Prop :=
  (∃ kvs k,H a=some (.dK kvs)∧y=kV k∧kvs.length<sizeLine∧H'=upd H a (.dK (putK kvs k v))) ∨
  ∃ kvs k b,H a=some (.dT kvs)∧y=.ref b∧H b=some (.tup (k.map kV))∧kvs.length<sizeLine∧H'=upd H a (.dT (putK kvs k v))
theorem DGet.k {H:Hp} {a:Addr} {kvs:List (Key×V)} {k:Key} (e:H a=some (.dK kvs)):DGet H a (kV k) (valV kvs k):=.inl ⟨kvs,k,.inl e,rfl,rfl⟩
theorem DPut.k {H:Hp} {a:Addr} {kvs:List (Key×V)} {k:Key} {v:V} (e:H a=some (.dK kvs)) (hl:kvs.length<sizeLine):DPut H a (kV k) v (upd H a (.dK (putK kvs k v))):=.inl ⟨kvs,k,e,rfl,hl,rfl⟩
section
variable {X:Cx} {pins:List (Addr×Obj)} {σ:St} {H:Hp} {s:Shared} {a:Addr} {y v:V} {u r:Value} {o:Option V} {A:Around} {E:Value→Shared→Prop}
theorem Inv.big (I:Inv X pins σ H s):sysModules<s.heap.objs.size:=by
  have h:mainGlobals<s.heap.objs.size:=(I.mod.glob.keeps I.bk).lt
  exact Nat.lt_trans (by decide) h
theorem d_getItem {Q:Value→Shared→Prop} (hu:A.units+1<cLine) (I:Inv X pins σ H s) (g:DGet H a y (some v)) (ry:RelV y u) (h:∀ w' s',Inv X pins σ H s'→RelV v w'→Q w' s') :
    wpAny (model X.prog X.w) A (getItem (.ref a) u) Q E s:=by
  rcases g with ⟨kvs,k,e,ey,l⟩ | ⟨kvs,k,b,e,ey,eb,l⟩
  · subst ey
    obtain ⟨z,hd,vs,rel,dd⟩:=dk_rd I.hok e
    obtain ⟨w',hw,rw'⟩:=RelO.some_of (v:=v) (o:=valueAt vs k) (by rw [l]; exact rel.val k)
    exact wpAny_getItem_of (kV_is ry) dd.mapOf hw (h w' _ (I.tok _) rw')
  · subst ey
    cases (show u=Value.ref b from ry)
    obtain ⟨z,hd,xs,rel,dd⟩:=dt_rd I.hok e
    obtain ⟨w',hw,rw'⟩:=RelO.some_of (v:=v) (o:=(atKey xs k).map (·.2)) (by rw [l]; exact rel.val k)
    obtain ⟨p,hp,hp2⟩:=Option.map_eq_some_iff.mp hw
    refine wpAny_getItem_heap (tupleKind_room_in1 hu) (key_of I.hok eb) dd hp ?_
    rw [hp2]
    exact h w' _ (I.tok _) rw'
theorem d_in {Q:Value→Shared→Prop} (hu:A.units+1<cLine) (I:Inv X pins σ H s) (g:DGet H a y o) (ry:RelV y u) (h:∀ s',Inv X pins σ H s'→Q (.bool o.isSome) s') :
    wpAny (model X.prog X.w) A (compareOp .In u (.ref a)) Q E s:=by
  rcases g with ⟨kvs,k,e,ey,l⟩ | ⟨kvs,k,b,e,ey,eb,l⟩
  · subst ey
    obtain ⟨z,hd,vs,rel,dd⟩:=dk_rd I.hok e
    refine wpAny_in_of (kV_is ry) hd dd.mapOf ?_
    rw [← (rel.val k).isSome_eq,← l]
    exact h _ (I.tok _)
  · subst ey
    cases (show u=Value.ref b from ry)
    obtain ⟨z,hd,xs,rel,dd⟩:=dt_rd I.hok e
    refine wpAny_in_heap (tupleKind_room_in1 hu) (key_of I.hok eb) hd dd ?_
    have q:=(rel.val k).isSome_eq
    rw [Option.isSome_map] at q
    rw [← q,← l]
    exact h _ (I.tok _)
theorem d_write {h':Heap} {t':Nat} {ob:HO} (I:Inv X pins σ H s) (mu:Mut (H a)) (hs:Heap.SameBut a s.heap h') (he:∃ q,h'.get? a=some q) (new:ObjOk X.prog X.w (upd H a ob) h' a ob) :
    Inv X pins σ (upd H a ob) { s with heap:=h',toks:=t' } :=
  I.write (x:=a) (e:=a) mu (.inl rfl) (fun b q hb z=>(hs.2 b hb).trans z) he new
theorem dk_new {P:Program} {w:World} {H':Hp} {h':Heap} {kvs:List (Key×V)} {vs:List (Key×Value)} (z:kvs.length≤sizeLine) (hd:(a == sysModules)=false) (rel:KV kvs vs) (dd:h'.DictOf (mixKind P w) a vs) :
    ObjOk P w H' h' a (.dK kvs):=⟨z,hd,vs,rel,dd⟩
theorem d_setItem {H':Hp} {Q:Unit→Shared→Prop} (hu:A.units+1<cLine) (I:Inv X pins σ H s) (g:DPut H a y v H') (ry:RelV y u) (rv:RelV v r) (h:∀ s',Inv X pins σ H' s'→Q () s') :
    wpAny (model X.prog X.w) A (setItem (.ref a) u r) Q E s:=by
  rcases g with ⟨kvs,k,e,ey,l,eH⟩ | ⟨kvs,k,b,e,ey,eb,l,eH⟩
  · subst ey eH
    obtain ⟨z,hd,vs,rel,dd⟩:=dk_of I.hok e
    have hz:vs.length≤sizeLine:=by rw [← rel.length]; exact z
    have hl:(putK kvs k v).length≤sizeLine:=by have:=length_putK kvs k v; lia
    refine wpAny_setItem_pairs (hsz:=hz) (kV_is ry) dd fun h' dd' hs=>h _ ?_
    have he:∃ q,h'.get? a=some q:=let ⟨q,_,_,hq,_⟩:=dd'; ⟨q,hq⟩
    exact d_write I (by rw [e]; exact True.intro) hs he (dk_new hl hd (rel.put k rv) dd')
  · subst ey eH
    cases (show u=Value.ref b from ry)
    obtain ⟨z,hd,xs,rel,dd⟩:=dt_of I.hok e
    have hz:xs.length≤sizeLine:=by rw [← Paired.length rel]; exact z
    have hl:(putK kvs k v).length≤sizeLine:=by have:=length_putK kvs k v; lia
    refine wpAny_setItem_heap (hsz:=hz) (tupleKind_room_in1 hu) (key_of I.hok eb) dd fun h' dd' hs=>h _ ?_
    obtain ⟨q,es,ep,hq,h2,h3,h4,_,h5⟩:=dd'
    refine d_write I (by rw [e]; exact True.intro) hs ⟨q,hq⟩ ⟨hl,hd,_,(rel.put k eb rv).keeps fun c ys ec=>?_,q,es,ep,hq,h2,h3,h4,h5⟩
    rw [upd_ne (ne_of ec e (fun z=>nomatch z))]
    exact ec
end
section
variable {X:Cx} {pins:List (Addr×Obj)} {σ:St} {H:Hp} {s:Shared} {a:Addr} {kvs:List (Key×V)} {k:Key} {u:Value} {A:Around} {E:Value→Shared→Prop}
theorem d_pop {v:V} {more:List Value} {Q:Value→Shared→Prop} (I:Inv X pins σ H s) (e:H a=some (.dK kvs)) (ry:RelV (kV k) u) (l:valV kvs k=some v) (hm:more=[]∨∃ x,more=[x])
    (h:∀ w' s',Inv X pins σ (upd H a (.dK (dropK kvs k))) s'→RelV v w'→Q w' s'):wpAny (model X.prog X.w) A (call (.builtin "dict.pop") (.ref a :: u :: more)) Q E s:=by
  obtain ⟨z,hd,vs,rel,dd⟩:=dk_of I.hok e
  obtain ⟨w',hw,rw'⟩:=RelO.some_of (v:=v) (o:=valueAt vs k) (by rw [← l]; exact rel.val k)
  have hp:(keyPart u).isSome=true:=by
    cases k with
    | inl i=>obtain ⟨t,q⟩:=(show ∃ t,u=Value.int i t from ry); subst q; rfl
    | inr x=>obtain ⟨t,q⟩:=(show ∃ t,u=Value.str x t from ry); subst q; rfl
  have ha:argsOk "dict.pop" ⟨.ref a :: u :: more,[]⟩:=by
    rcases hm with q | ⟨x,q⟩
    · subst q; exact PySem.F.args_dict_pop_2 _ _
    · subst q; exact PySem.F.args_dict_pop_3 _ _ _
  refine call_meetsIn PySem.F.slot_dict_pop dd.typeIs PySem.F.entry_dict_pop ha (meets_dict_pop_there (mixKind X.prog X.w) a (kV_is ry) more hm hp)
    ⟨vs,w',dd,by rw [← rel.length]; exact z,hw,fun h' dd' hs=>h w' _ ?_ rw'⟩
  have he:∃ q,h'.get? a=some q:=let ⟨q,_,_,hq,_⟩:=dd'; ⟨q,hq⟩
  exact d_write I (by rw [e]; exact True.intro) hs he (dk_new (Nat.le_trans (dropK_le kvs k) z) hd (rel.drop k) dd')
theorem d_popD {r:Value} {Q:Value→Shared→Prop} (I:Inv X pins σ H s) (e:H a=some (.dK kvs)) (ry:RelV (kV k) u) (l:valV kvs k=none) (h:∀ s',Inv X pins σ H s'→Q r s') :
    wpAny (model X.prog X.w) A (call (.builtin "dict.pop") [.ref a,u,r]) Q E s:=by
  obtain ⟨z,hd,vs,rel,dd⟩:=dk_of I.hok e
  have hn:valueAt vs k=none:=RelO.none_of (by rw [← l]; exact rel.val k)
  have hp:(keyPart u).isSome=true:=by
    cases k with
    | inl i=>obtain ⟨t,q⟩:=(show ∃ t,u=Value.int i t from ry); subst q; rfl
    | inr x=>obtain ⟨t,q⟩:=(show ∃ t,u=Value.str x t from ry); subst q; rfl
  exact call_meetsIn PySem.F.slot_dict_pop dd.typeIs PySem.F.entry_dict_pop (PySem.F.args_dict_pop_3 _ _ _) (meets_dict_pop_default (mixKind X.prog X.w) a (kV_is ry) hd hp r) ⟨vs,dd,hn,h _ (I.tok _)⟩
end
def NoSl (i:Expr):Prop:=∀ ov iv,subscripted i false ov iv=operate [ov,iv] (getItem ov iv)
theorem subD_of {prog:Program} {w:World} {A:Around} {E:Value→Shared→Prop} {s:Shared} {env:Env} {value slice:Expr} {pos:Pos} {T id:String} {Q:Value→Shared→Prop}
    (hl:typeLookup (.type T) "__getitem__" = pure (some (.builtin id))) (hs:NoSl slice)
    (h:wpAny (model prog w) A (eval value env) (fun o s₁=>wpAny (model prog w) A (eval slice env) (fun i s₂=>s₂.TypeIs o T∧wpAny (model prog w) A (getItem o i) Q E s₂) E s₁) E s) :
    wpAny (model prog w) A (eval (.Subscript value slice pos) env) Q E s:=by
  refine Subscript_ (wpAny_mono h (fun o s₁ h₁=>wpAny_mono h₁ (fun i s₂ h₂=>?_) fun _ _ x=>x) fun _ _ x=>x)
  obtain ⟨hT,h₂⟩:=h₂
  unfold subscriptTail
  refine wpAny_bind ?_
  rw [getitemInPython_of_ne hT.not_modules]
  refine wpAny_bind (wpAny_specialOf hT hl ?_)
  have fin:wpAny (model prog w) A (subscripted slice false o i) (fun r s₃=>wpAny (model prog w) A (letTemporaryGo value o r >>= fun _=>pure r) Q E s₃) E s₂:=by
    rw [hs o i]
    exact wpAny_operating (wpAny_mono h₂ (fun r s₃ h₃=>wpAny_bind (wpAny_letTemporaryGo (wpAny_pure h₃))) fun _ _ x=>x)
  first
    | exact wpAny_pure (wpAny_bind fin)
    | exact wpAny_bind (wpAny_pure (wpAny_bind fin))
    | exact wpAny_bind fin
theorem dict_typeIs {X:Cx} {pins:List (Addr×Obj)} {σ:St} {H:Hp} {s:Shared} {a:Addr} {y:V} {o:Option V} (I:Inv X pins σ H s) (g:DGet H a y o):s.TypeIs (.ref a) "dict" := by
  rcases g with ⟨kvs,k,e,_,_⟩ | ⟨kvs,k,b,e,_,_,_⟩
  · obtain ⟨_,_,vs,_,dd⟩:=dk_rd I.hok e
    exact dd.typeIs
  · obtain ⟨_,_,xs,_,dd⟩:=dt_rd I.hok e
    exact dd.typeIs
def tDGet (td ty:TE):TE:=fun σ H Q=>td σ H fun x H1=>ty σ H1 fun y H2=>∃ a v,x=.ref a∧DGet H2 a y (some v)∧Q v H2
def tDIn (ty td:TE):TE:=fun σ H Q=>ty σ H fun y H1=>td σ H1 fun x H2=>∃ a o,x=.ref a∧DGet H2 a y o∧Q (.bl o.isSome) H2
def sDPut (td ty tv:TE):TS:=fun D σ H=>tv σ H fun v H1=>td σ H1 fun x H2=>ty σ H2 fun y H3=>∃ a H4,x=.ref a∧DPut H3 a y v H4∧D.nx σ H4
def sDAug (td ty tv:TE) (rd:V→V→Hp→VK→Prop):TS:=fun D σ H=>td σ H fun x H1=>ty σ H1 fun y H2=>∃ a v,x=.ref a∧DGet H2 a y (some v) ∧
  tv σ H2 fun y2 H3=>rd v y2 H3 fun z H4=>∃ H5,DPut H4 a y z H5∧D.nx σ H5
section
variable {X:Cx} {o i e value:Expr} {pos pos' tpos:Pos} {td ty tv:TE}
theorem pe_dget (hu:X.A.units+1<cLine) (ho:PE X o td) (hi:PE X i ty) (hs:NoSl i):PE X (.Subscript o i pos) (tDGet td ty):=by
  intro pins s σ H Q I h
  refine subD_of PySem.F.slot_dict_getitem.lookup hs (thE (ho pins s σ H _ I h) fun u s1 x H1 I1 rx q1=>thn (hi pins s1 σ H1 _ I1 q1) fun iv s2 ⟨y,H2,I2,ry,a,v,ex,g,q2⟩=>?_)
  subst ex
  obtain rfl:u=Value.ref a:=rx
  exact ⟨dict_typeIs I2 g,d_getItem hu I2 g ry fun w' s3 I3 rw'=>⟨v,H2,I3,rw',q2⟩⟩
theorem pc_din (hu:X.A.units+1<cLine) (hi:PE X i ty) (ho:PE X o td):PC X .In i o (tDIn ty td):=by
  intro pins s σ H Q I h
  refine thE (hi pins s σ H _ I h) fun iv s1 y H1 I1 ry q1=>thn (ho pins s1 σ H1 _ I1 q1) fun u s2 ⟨x,H2,I2,rx,a,ov,ex,g,q2⟩=>?_
  subst ex
  obtain rfl:u=Value.ref a:=rx
  exact d_in hu I2 g ry fun s3 I3=>⟨.bl ov.isSome,H2,I3,rfl,q2⟩
theorem ps_dput (hu:X.A.units+1<cLine) (ho:PE X o td) (hi:PE X i ty) (hv:PE X value tv) (hs:swapsWith value (some (.Subscript o i pos')) pos.line X.env=pure false) :
    PS X (.Assign [.Subscript o i pos'] value pos) (sDPut td ty tv):=by
  intro pins s σ H D I h
  refine wpAny_Assign_Subscript (thE (hv pins s σ H _ I h) fun r s1 v H1 I1 rv q1=>thE (ho pins s1 σ H1 _ I1 q1) fun u s2 x H2 I2 rx q2=>thn (hi pins s2 σ H2 _ I2 q2) fun iv s3 ⟨y,H3,I3,ry,a,H4,ex,g,q3⟩=>?_) hs
  subst ex
  obtain rfl:u=Value.ref a:=rx
  exact d_setItem hu I3 g ry rv fun s4 I4=>⟨σ,H4,I4,q3⟩
theorem ps_daug {op:Operator} {rd:V→V→Hp→VK→Prop} (hu:X.A.units+1<cLine) (ho:PE X o td) (hi:PE X i ty) (hv:PE X value tv) (hop:InOp X op rd)
    (ha:∀ ov iv new,augStore i ov iv new=(do holding [new,ov,iv] (setItem ov iv new); release [new,ov,iv] []; pure .next)):PS X (.AugAssign (.Subscript o i tpos) op value pos) (sDAug td ty tv rd):=by
  intro pins s σ H D I h
  refine wpAny_AugAssign_SubscriptAny (thE (ho pins s σ H _ I h) fun u s1 x H1 I1 rx q1=>thn (hi pins s1 σ H1 _ I1 q1) fun iv s2 ⟨y,H2,I2,ry,a,v,ex,g,q2⟩=>?_) ha
  subst ex
  obtain rfl:u=Value.ref a:=rx
  refine d_getItem hu I2 g ry fun w' s3 I3 rw'=>thE (hv pins s3 σ H2 _ I3 q2) fun w2 s4 y2 H3 I4 ry2 q3=>thn (hop pins s4 σ H3 v y2 w' w2 _ I4 rw' ry2 q3) fun w3 s5 ⟨z,H4,I5,rz,H5,g5,q4⟩=>?_
  exact d_setItem hu I5 g5 ry rz fun s6 I6=>⟨σ,H5,I6,q4⟩
end
theorem dk_empty {P:Program} {w:World} {H:Hp} (h:Heap) (hb:sysModules<h.objs.size):ObjOk P w H (h.push { cls:=.type "dict",data:=.dict #[] }) h.objs.size (.dK []) :=
  ⟨Nat.zero_le _,beq_eq_false_iff_ne.mpr (Ne.symm (Nat.ne_of_lt hb)),[],.nil,Heap.DictOf.new h⟩
def tDNewK:TE:=fun _ H Q=>∀ p,H p=none→Q (.ref p) (upd H p (.dK []))
section
variable {X:Cx} {pos:Pos}
theorem pe_dnewK:PE X (.Dict [] [] pos) tDNewK:=fun pins s σ H Q I h =>
  wpAny_Dict_empty ⟨.ref s.heap.objs.size,_,I.laid (a:=s.heap.objs.size) (o:=.dK []) (t':=s.toks) (fun _ _ q=>Heap.get?_push_of_some _ q) (Nat.le_refl _) (dk_empty s.heap I.big),rfl,h _ (I.hok.fresh (Nat.le_refl _))⟩
end
structure M1 (X:Cx) (o:Expr) (m:Str) (apos:Pos) (e:Expr) (cpos:Pos):Prop where
  base:attributeBase o m X.env (eval o X.env)=eval o X.env
  few:((backTo cpos (starEach [e] X.env)).all (fun x=>!x.1) && (backToKw cpos (keywordEach [] X.env)).all (fun x=>x.1.isSome)
    && decide (([e]:List Expr).length+([]:List Keyword).length+(if ([]:List Keyword).isEmpty then 0 else 1)<30))=true
  line:(apos.endLine == cpos.line)=true
  trees:backTo cpos (starEach [e] X.env)=[(false,eval e X.env)]
structure M2 (X:Cx) (o:Expr) (m:Str) (apos:Pos) (e f:Expr) (cpos:Pos):Prop where
  base:attributeBase o m X.env (eval o X.env)=eval o X.env
  few:((backTo cpos (starEach [e,f] X.env)).all (fun x=>!x.1) && (backToKw cpos (keywordEach [] X.env)).all (fun x=>x.1.isSome)
    && decide (([e,f]:List Expr).length+([]:List Keyword).length+(if ([]:List Keyword).isEmpty then 0 else 1)<30))=true
  line:(apos.endLine == cpos.line)=true
  trees:backTo cpos (starEach [e,f] X.env)=[(false,eval e X.env),(false,eval f X.env)]
def IsD (H:Hp) (a:Addr):Prop:=(∃ kvs,Rd H a (.dK kvs))∨∃ kvs,Rd H a (.dT kvs)
theorem isD_at {X:Cx} {pins:List (Addr×Obj)} {σ:St} {H:Hp} {s:Shared} {a:Addr} (I:Inv X pins σ H s) (d:IsD H a) :
    s.TypeIs (.ref a) "dict" ∧ (∀ b,Value.ref a=.ref b→∃ ob,s.heap.get? b=some ob∧ob.dict=none)∧(a == sysModules)=false:=by
  rcases d with ⟨kvs,e⟩ | ⟨kvs,e⟩
  · obtain ⟨_,hd,vs,_,dd⟩:=dk_rd I.hok e
    refine ⟨dd.typeIs,fun b q=>?_,hd⟩
    cases q
    obtain ⟨ob,_,_,h1,h2,_⟩:=dd
    exact ⟨ob,h1,h2.2.1⟩
  · obtain ⟨_,hd,xs,_,dd⟩:=dt_rd I.hok e
    refine ⟨dd.typeIs,fun b q=>?_,hd⟩
    cases q
    obtain ⟨ob,_,_,h1,h2,_⟩:=dd
    exact ⟨ob,h1,h2.2.1⟩
section
variable {X:Cx} {pins:List (Addr×Obj)} {σ:St} {H:Hp} {s:Shared} {a:Addr} {y d:V} {u r:Value} {o:Option V} {A:Around} {E:Value→Shared→Prop}
theorem d_get2 {Q:Value→Shared→Prop} (hu:A.units+1<cLine) (I:Inv X pins σ H s) (g:DGet H a y o) (ry:RelV y u) (rd:RelV d r) (h:∀ w' s',Inv X pins σ H s'→RelV (o.getD d) w'→Q w' s') :
    wpAny (model X.prog X.w) A (call (.builtin "dict.get") [.ref a,u,r]) Q E s:=by
  rcases g with ⟨kvs,k,e,ey,l⟩ | ⟨kvs,k,b,e,ey,eb,l⟩
  · subst ey
    obtain ⟨z,hd,vs,rel,dd⟩:=dk_rd I.hok e
    refine call_meetsIn PySem.F.slot_dict_get dd.typeIs PySem.F.entry_dict_get (PySem.F.args_dict_get_3 _ _ _) (meets_dict_get_default (mixKind X.prog X.w) a (kV_is ry) hd r) ⟨_,dd.mapOf,h _ _ (I.tok _) ?_⟩
    rw [l]
    exact (rel.val k).getD rd
  · subst ey
    cases (show u=Value.ref b from ry)
    obtain ⟨z,hd,xs,rel,dd⟩:=dt_rd I.hok e
    refine call_meetsIn PySem.F.slot_dict_get dd.typeIs PySem.F.entry_dict_get (PySem.F.args_dict_get_3 _ _ _) (meetsH_dict_get_default (tupleKind (mixKind X.prog X.w)) a b hd r) ⟨tupleKind_room_in1 hu,k,xs,key_of I.hok eb,dd,h _ _ (I.tok _) ?_⟩
    rw [l]
    exact (rel.val k).getD rd
end
def tDGet2 (td ty tx:TE):TE:=fun σ H Q=>td σ H fun x H1=>∃ a,x=.ref a∧IsD H1 a∧ty σ H1 fun y H2=>tx σ H2 fun z H3=>∃ o,DGet H3 a y o∧Q (o.getD z) H3
def tDPop1 (td ty:TE):TE:=fun σ H Q=>td σ H fun x H1=>∃ a,x=.ref a∧IsD H1 a∧ty σ H1 fun y H2=>∃ kvs k v,H2 a=some (.dK kvs)∧y=kV k∧valV kvs k=some v∧Q v (upd H2 a (.dK (dropK kvs k)))
def tDPop2 (td ty tx:TE):TE:=fun σ H Q=>td σ H fun x H1=>∃ a,x=.ref a∧IsD H1 a∧ty σ H1 fun y H2=>tx σ H2 fun z H3=>∃ kvs k,H3 a=some (.dK kvs)∧y=kV k ∧
  (∀ v,valV kvs k=some v→Q v (upd H3 a (.dK (dropK kvs k))))∧(valV kvs k=none→Q z H3)
section
variable {X:Cx} {o e f:Expr} {apos cpos:Pos} {td ty tx:TE}
theorem pe_dget2 (hu:X.A.units+1<cLine) (ho:PE X o td) (he:PE X e ty) (hf:PE X f tx) (m:M2 X o "get" apos e f cpos):PE X (.Call (.Attribute o "get" apos) [e,f] [] cpos) (tDGet2 td ty tx):=by
  intro pins s σ H Q I h
  refine wpAny_Call_method m.base m.few m.line PySem.F.plainAttrs_dict PySem.F.slot_dict_get PySem.F.type_dict_get (thn (ho pins s σ H _ I h) fun u s1 ⟨x,H1,I1,rx,a,ex,d,q1⟩=>?_)
  subst ex
  obtain rfl:u=Value.ref a:=rx
  obtain ⟨t1,t2,_⟩:=isD_at I1 d
  refine ⟨t1,t2,?_⟩
  rw [m.trees]
  refine Calls.callWith_builtin rfl (Calls.evalArgs_plain (Calls.spliced_cons (thE (he pins s1 σ H1 _ I1 q1) fun iv s2 y H2 I2 ry q2 =>
    Calls.spliced_cons (thn (hf pins s2 σ H2 _ I2 q2) fun fv s3 ⟨z,H3,I3,rz,ov,g,q3⟩=>Calls.spliced_nil ?_))))
  exact d_get2 hu I3 g ry rz fun w' s4 I4 rw'=>⟨_,H3,I4,rw',q3⟩
theorem pe_dpop1 (ho:PE X o td) (he:PE X e ty) (m:M1 X o "pop" apos e cpos):PE X (.Call (.Attribute o "pop" apos) [e] [] cpos) (tDPop1 td ty):=by
  intro pins s σ H Q I h
  refine wpAny_Call_method m.base m.few m.line PySem.F.plainAttrs_dict PySem.F.slot_dict_pop PySem.F.type_dict_pop (thn (ho pins s σ H _ I h) fun u s1 ⟨x,H1,I1,rx,a,ex,d,q1⟩=>?_)
  subst ex
  obtain rfl:u=Value.ref a:=rx
  obtain ⟨t1,t2,_⟩:=isD_at I1 d
  refine ⟨t1,t2,?_⟩
  rw [m.trees]
  refine Calls.callWith_builtin rfl (Calls.evalArgs_plain (Calls.spliced_cons (thn (he pins s1 σ H1 _ I1 q1) fun iv s2 ⟨y,H2,I2,ry,kvs,k,v,ea,ey,l,q2⟩=>Calls.spliced_nil ?_)))
  subst ey
  exact d_pop I2 ea ry l (.inl rfl) fun w' s3 I3 rw'=>⟨v,_,I3,rw',q2⟩
theorem pe_dpop2 (ho:PE X o td) (he:PE X e ty) (hf:PE X f tx) (m:M2 X o "pop" apos e f cpos):PE X (.Call (.Attribute o "pop" apos) [e,f] [] cpos) (tDPop2 td ty tx):=by
  intro pins s σ H Q I h
  refine wpAny_Call_method m.base m.few m.line PySem.F.plainAttrs_dict PySem.F.slot_dict_pop PySem.F.type_dict_pop (thn (ho pins s σ H _ I h) fun u s1 ⟨x,H1,I1,rx,a,ex,d,q1⟩=>?_)
  subst ex
  obtain rfl:u=Value.ref a:=rx
  obtain ⟨t1,t2,_⟩:=isD_at I1 d
  refine ⟨t1,t2,?_⟩
  rw [m.trees]
  refine Calls.callWith_builtin rfl (Calls.evalArgs_plain (Calls.spliced_cons (thE (he pins s1 σ H1 _ I1 q1) fun iv s2 y H2 I2 ry q2 =>
    Calls.spliced_cons (thn (hf pins s2 σ H2 _ I2 q2) fun fv s3 ⟨z,H3,I3,rz,kvs,k,ea,ey,q3,q4⟩=>Calls.spliced_nil ?_))))
  subst ey
  cases l:valV kvs k with
  | some v=>exact d_pop I3 ea ry l (.inr ⟨fv,rfl⟩) fun w' s4 I4 rw'=>⟨v,_,I4,rw',q3 v l⟩
  | none=>exact d_popD I3 ea ry l fun s4 I4=>⟨z,H3,I4,rz,q4 l⟩
end
end L2
namespace L2
open PySem PySem.Spec PyProof.Rows
section
variable {κ:Type} [DecidableEq κ]
theorem nd_snoc:∀ {l:List κ} {k:κ},l.Nodup→¬ k∈l→(l++[k]).Nodup
  | [],k,_,_=>by simp
  | a :: r,k,h,hk=>by
    obtain ⟨h1,h2⟩:=List.nodup_cons.mp h
    show (a :: (r++[k])).Nodup
    refine List.nodup_cons.mpr ⟨fun m=>?_,nd_snoc h2 fun m=>hk (List.mem_cons.mpr (Or.inr m))⟩
    rcases List.mem_append.mp m with q | q
    · exact h1 q
    · exact hk (List.mem_cons.mpr (Or.inl (List.mem_singleton.mp q).symm))
theorem dropK_pos {p:κ×V} {r:List (κ×V)} {k:κ} (e:p.1=k):dropK (p :: r) k=dropK r k:=by
  unfold dropK
  rw [List.filter_cons,if_neg (by simp [e])]
theorem dropK_neg {p:κ×V} {r:List (κ×V)} {k:κ} (e:¬ p.1=k):dropK (p :: r) k=p :: dropK r k:=by
  unfold dropK
  rw [List.filter_cons,if_pos (by simp [e])]
end
end L2
set_option Elab.async false
set_option linter.all false
set_option maxRecDepth 100000
set_option maxHeartbeats 4000000
namespace L2
open PySem PySem.Spec PyProof.Rows
theorem relV_key {P:Program} {w:World} {k:Key} {u:Value} (h:(mixKind P w).is k u=true):RelV (kV k) u:=by
  rw [mixKind_is] at h
  rcases keyIs_shape h with ⟨i,t,rfl,rfl⟩ | ⟨x,t,rfl,rfl⟩
  · exact ⟨t,rfl⟩
  · exact ⟨t,rfl⟩
end L2
set_option Elab.async false
set_option linter.all false
set_option maxRecDepth 100000
set_option maxHeartbeats 4000000
namespace L2
open PySem PySem.Spec PyProof.Rows
end L2
set_option Elab.async false
set_option linter.all false
set_option maxRecDepth 100000
set_option maxHeartbeats 4000000
namespace L2
open PySem PySem.Spec PyProof.Rows
section
variable {X:Cx} {K:PySem.W.Frag} {tg:PySem.Expr}
theorem pi_listK (hK:X.K=K) {l:PySem.Expr} {tl:TE} (hl:PE X l tl):PI X tg l (iList K tl):=hK ▸ pi_list hl
theorem pi_tupK (hK:X.K=K) {l:PySem.Expr} {tl:TE} (hl:PE X l tl):PI X tg l (iTup K tl):=hK ▸ pi_tup hl
end
end L2
set_option Elab.async false
set_option linter.all false
set_option maxRecDepth 100000
set_option maxHeartbeats 4000000
namespace L2
open PySem PySem.Spec PyProof.Rows
def EqD (K:PySem.W.Frag) (H:Hp):Nat→V→V→Bool→Prop
  | 0,x,y,b=>flatV x=true∧flatV y=true∧b=eqV x y
  | n+1,x,y,b=>(flatV x=true∧flatV y=true∧b=eqV x y)∨∃ (a c:Addr) (xs ys:List V) (e:Nat→Bool),x=.ref a∧y=.ref c∧(∀ (i:Nat) (u v:V),xs[i]?=some u→ys[i]?=some v→EqD K H n u v (e i)) ∧
      ((SqL K H a xs∧SqL K H c ys∧((xs.length=ys.length∧b=(List.range xs.length).all e)∨(xs.length≠ys.length∧b=false))) ∨
       (SqT K H a xs∧SqT K H c ys∧b=((List.range (min xs.length ys.length)).all e && xs.length == ys.length)))
theorem eqV_self {x:V} (h:flatV x=true):eqV x x=true:=by
  cases x with
  | non=>rfl
  | bl b=>exact beq_self_eq_true b
  | int i=>exact beq_self_eq_true i
  | str z=>exact beq_self_eq_true z
  | _=>exact absurd h Bool.false_ne_true
section
variable {X:Cx} {pins:List (Addr×Obj)} {σ:St} {H:Hp} {s:Shared}
theorem eqD_self (I:Inv X pins σ H s):∀ (n:Nat) (x:V) (b:Bool),EqD X.K H n x x b→b=true
  | 0,x,b,⟨h1,_,h2⟩=>by rw [h2]; exact eqV_self h1
  | n+1,x,b,h=>by
    rcases h with ⟨h1,_,h2⟩ | ⟨a,c,xs,ys,e,rfl,h2,hi,⟨ha,hc,hb⟩ | ⟨ha,hc,hb⟩⟩
    · rw [h2]; exact eqV_self h1
    · cases h2
      have exy:ys=xs:=I.list_inj hc ha
      subst exy
      rcases hb with ⟨_,hb⟩ | ⟨hb,_⟩
      · rw [hb,List.all_eq_true]
        intro i hi'
        have hlt:=List.mem_range.mp hi'
        exact eqD_self I n ys[i] (e i) (hi i ys[i] ys[i] (List.getElem?_eq_getElem hlt) (List.getElem?_eq_getElem hlt))
      · exact absurd rfl hb
    · cases h2
      have exy:ys=xs:=I.tuple_inj hc ha
      subst exy
      rw [hb,Nat.min_self,beq_self_eq_true,Bool.and_true,List.all_eq_true]
      intro i hi'
      have hlt:=List.mem_range.mp hi'
      exact eqD_self I n ys[i] (e i) (hi i ys[i] ys[i] (List.getElem?_eq_getElem hlt) (List.getElem?_eq_getElem hlt))
theorem at_rel {xs:List V} {us:List Value} (r:Vals xs us) {j:Nat} (h:j<us.toArray.size):∃ x,xs[j]?=some x∧RelV x us.toArray[j]:=by
  have hj:j<us.length:=by simpa using h
  have hx:j<xs.length:=by rw [r.length]; exact hj
  obtain ⟨u,hu,ru⟩:=r.get (i:=j) (x:=xs[j]) (List.getElem?_eq_getElem hx)
  rw [List.getElem?_eq_getElem hj] at hu
  cases hu
  exact ⟨xs[j],List.getElem?_eq_getElem hx,by simpa using ru⟩
theorem eqD_at (I:Inv X pins σ H s):∀ (n:Nat) (A:Around) (x y:V) (u v:Value) (b:Bool),A.units+n<cLine→RelV x u→RelV y v→EqD X.K H n x y b→SeqAt.EqAt A s u v b
  | 0,A,x,y,u,v,b,hu,rx,ry,⟨h1,h2,h3⟩=>by rw [h3]; exact eqAt_V rx ry h1 h2
  | n+1,A,x,y,u,v,b,hu,rx,ry,h=>by
    rcases h with ⟨h1,h2,h3⟩ | ⟨a,c,xs,ys,e,rfl,rfl,hi,hh⟩
    · rw [h3]; exact eqAt_V rx ry h1 h2
    · cases rx
      cases ry
      by_cases hac:a=c
      · subst hac
        have hb:b=true:=eqD_self I (n+1) (.ref a) b (.inr ⟨a,a,xs,ys,e,rfl,rfl,hi,hh⟩)
        rw [hb]
        exact SeqAt.EqAt.same _
      · have hu0:A.units<cLine:=by lia
        have hu1:A.in1.units+n<cLine:=by
          have q:A.in1.units=A.units+1:=rfl
          rw [q]; lia
        refine SeqAt.EqAt.of_refs hac ?_
        rcases hh with ⟨ha,hc,hb⟩ | ⟨ha,hc,hb⟩
        · obtain ⟨its,r1,p1,_⟩:=I.list ha
          obtain ⟨its2,r2,p2,_⟩:=I.list hc
          have l1:=r1.length
          have l2:=r2.length
          rcases hb with ⟨hl,hb⟩ | ⟨hl,hb⟩
          · have q:=SeqAt.RcAt.lists (A:=A) (e:=e) p1.isList p2.isList (by simp; lia) hu0 fun j h1 h2=>by
              obtain ⟨x,hx,rx⟩:=at_rel r1 h1
              obtain ⟨y,hy,ry⟩:=at_rel r2 h2
              exact eqD_at I n A.in1 x y _ _ (e j) hu1 rx ry (hi j x y hx hy)
            rw [List.size_toArray,← l1,← hb] at q
            exact q
          · rw [hb]
            exact SeqAt.RcAt.lists_lengths p1.isList p2.isList (by simp; lia) hu0
        · obtain ⟨its,r1,p1,_⟩:=I.tuple ha
          obtain ⟨its2,r2,p2,_⟩:=I.tuple hc
          have l1:=r1.length
          have l2:=r2.length
          have q:=SeqAt.RcAt.tuples (A:=A) (e:=e) (show s.heap.IsTuple a its.toArray from p1) (show s.heap.IsTuple c its2.toArray from p2) hu0 fun j h1 h2=>by
            obtain ⟨x,hx,rx⟩:=at_rel r1 h1
            obtain ⟨y,hy,ry⟩:=at_rel r2 h2
            exact eqD_at I n A.in1 x y _ _ (e j) hu1 rx ry (hi j x y hx hy)
          rw [List.size_toArray,List.size_toArray,← l1,← l2,← hb] at q
          exact q
end
section
variable {X:Cx} {K:PySem.W.Frag}
theorem hu_to {A:Around} {k:Nat} (hr:Room k A) (n:Nat) (h:n≤60):A.units+1+n<cLine:=by have:=hr.units; lia
end
section
variable {X:Cx}
theorem call_anyL (hc:X.calm=true):CallR X (.builtin "any") (fun xs H Q=>∃ (p:Addr) (bs:List Bool),xs=[.ref p]∧SqL X.K H p (bs.map V.bl)∧Q (.bl (bs.any id)) H):=by
  intro pins s σ H xs us Q I r h
  obtain ⟨p,bs,rfl,hq,q⟩:=h
  obtain ⟨u,rfl,rx⟩:=vals1 r
  cases rx
  obtain ⟨its,rv,pl,hz⟩:=I.list hq
  have e:=bool_vals rv
  subst e
  refine call_any_walk (wpAny_pyIter_list pl.isList ?_)
  refine ⟨s.heap.objs.size,_,[s.heap.objs.size],_,_,_,fun i=>bs.getD i true,rfl,Walks.list (A:=X.A.in1) (show X.A.in1.handled=none from I.ok.hd hc) s.heap.objs.size p ?_ (bs.map Value.bool).toArray,⟨⟨_,Heap.get?_push_size _ rfl,rfl,rfl⟩,pl.isList.at fun o e=>Heap.get?_push_of_some _ e⟩,?_,?_⟩
  · obtain ⟨o,e,_⟩:=pl.isList; exact Nat.ne_of_lt (Heap.lt_size e)
  · intro i v s' Q' E' hP hQ
    have hP':(bs.map Value.bool)[i]?=some v:=by simpa using hP
    rw [List.getElem?_map] at hP'
    cases z:bs[i]? with
    | none=>rw [z] at hP'; cases hP'
    | some b =>
      rw [z] at hP'
      cases hP'
      have:bs.getD i true=b:=by rw [List.getD_eq_getElem?_getD,z]; rfl
      have hQ':Q' (bs.getD i true) s':=hQ
      rw [this] at hQ'
      exact wpAny_truthy_bool hQ'
  · intro h' tk hk
    refine ⟨.bl (bs.any id),H,I.kept (t':=tk) (fun b o e=>hk b o (by simpa using Nat.ne_of_lt (Heap.lt_size e)) (Heap.get?_push_of_some _ e)),?_,q⟩
    have z:(List.range bs.length).map (fun i=>bs.getD i true)=bs:=range_getD _ fun i b e=>by rw [List.getD_eq_getElem?_getD,e]; rfl
    have z2:(List.range bs.length).any (fun i=>bs.getD i true)=bs.any id:=by
      conv=>rhs; rw [← z]
      rw [List.any_map]; rfl
    show Value.bool _=Value.bool _
    have z3:(bs.map Value.bool).toArray.size=bs.length:=by simp
    rw [z3,z2]
end
end L2
set_option Elab.async false
set_option linter.all false
set_option maxRecDepth 100000
set_option maxHeartbeats 4000000
namespace L2
open PySem PySem.Spec PyProof.Rows
theorem boot_setT:bootBuiltins "set" = some (.type "set"):=by first | rfl | decide +kernel | kernel_rfl
def met (ns:List Int):List Int:=firstMet (fun i=>ns.getD i 0) ns.length
theorem met_map (ns:List Int):(List.range ns.length).map (fun i=>ns.getD i 0)=ns:=by
  apply List.ext_getElem?
  intro i
  rw [List.getElem?_map]
  by_cases h:i<ns.length
  · rw [List.getElem?_range h,List.getElem?_eq_getElem h]
    show some (ns.getD i 0)=_
    rw [List.getD_eq_getElem?_getD,List.getElem?_eq_getElem h]; rfl
  · rw [List.getElem?_eq_none (by simpa using h),List.getElem?_eq_none (by lia)]; rfl
theorem mem_met (ns:List Int) (k:Int):k∈met ns↔k∈ns:=by
  have h:=firstMet_any (fun i=>ns.getD i 0) ns.length k
  rw [met_map] at h
  rw [Bool.eq_iff_iff,List.any_eq_true,List.any_eq_true] at h
  constructor
  · intro m
    obtain ⟨x,hx,e⟩:=h.mp ⟨k,m,by simp⟩
    have:x=k:=by simpa using e
    rw [← this]; exact hx
  · intro m
    obtain ⟨x,hx,e⟩:=h.mpr ⟨k,m,by simp⟩
    have:x=k:=by simpa using e
    rw [← this]; exact hx
theorem nd_met (ns:List Int):(met ns).Nodup:=by
  unfold met
  generalize ns.length=n
  induction n with
  | zero=>exact List.nodup_nil
  | succ n ih =>
    rw [firstMet_succ]
    unfold step_dedup
    split
    · exact ih
    · rename_i c
      refine nd_snoc ih fun m=>c ?_
      first | exact List.elem_eq_true_of_mem m | exact List.any_eq_true.mpr ⟨_,m,by simp⟩ | simpa using m
section
variable {X:Cx} {K:PySem.W.Frag}
theorem call_setL (hc:X.calm=true):CallR X (.type "set") (fun xs H Q=>∃ (p:Addr) (ns:List Int),xs=[.ref p]∧SqL X.K H p (ns.map V.int)∧ns.length≤1000∧∀ q,H q=none→Q (.ref q) (upd H q (.set (fun k=>(met ns).any (· == k)) (met ns).length))):=by
  intro pins s σ H xs us Q I r h
  obtain ⟨p,ns,rfl,hq,hl,q⟩:=h
  obtain ⟨u,rfl,rx⟩:=vals1 r
  cases rx
  obtain ⟨its,rv,pl,hz⟩:=I.list hq
  have hlen:ns.length=its.length:=by have:=rv.length; rwa [List.length_map] at this
  refine call_set_list (items:=its.toArray) (ns:=ns) (I.ok.hd hc) pl.isList (by simpa using intsAre_of rv) (by rw [List.size_toArray,← hlen]; exact Nat.lt_of_le_of_lt (Nat.add_le_add_right hl 1) (by decide)) fun h' tk hS hk=>?_
  have e3:its.toArray.size=ns.length:=by rw [List.size_toArray]; exact hlen.symm
  rw [e3] at hS
  refine ⟨.ref s.heap.objs.size,_,I.laid (t':=tk) (o:=.set (fun k=>(met ns).any (· == k)) (met ns).length) (fun b o e=>hk b o (Heap.lt_size e) e) (Nat.le_refl _) hS,rfl,q _ (I.hok.fresh (Nat.le_refl _))⟩
theorem call_lenS:CallR X (.builtin "len") (fun xs H Q=>∃ (p:Addr) (S:Int→Bool) (n:Nat),xs=[.ref p]∧H p=some (.set S n)∧Q (.int n) H):=by
  intro pins s σ H xs us Q I r h
  obtain ⟨p,S,n,rfl,hp,q⟩:=h
  obtain ⟨u,rfl,rx⟩:=vals1 r
  cases rx
  obtain ⟨o,es,ep,t,ho,hex,hd,_,_,hlt,hf,rfl⟩:=(show s.heap.SetOf (intKind X.prog X.w) p S n from I.hok p _ hp)
  refine call_len_set ho hex hd hf ?_ ⟨.int _,H,I.tok _,⟨_,rfl⟩,q⟩
  have:es.size<4096:=hlt
  lia
end
end L2
set_option Elab.async false
set_option linter.all false
set_option maxRecDepth 100000
set_option maxHeartbeats 4000000
namespace L2
open PySem PySem.Spec PyProof.Rows
def ItDn (hi:Int) (n:Nat):It:=⟨fun i _=>i<n,fun i H x H'=>H'=H∧x=.int (hi - i),fun i _=>n≤i⟩
theorem turn_down {P:Program} {w:World} {K:PySem.W.Frag} {tg:PySem.Expr} (it:Addr) (lo:Int) (n:Nat):Turn P w K tg (ItDn lo n) [it] it (fun i h=>IsRangeIter h it (lo+(i:Nat) * (-1)) ((n:Int) - (i:Nat)) (-1)) where
  mem:=by simp
  obj:=fun i h st b hb=>by
    have e:b=it:=by simpa using hb
    subst e
    exact ⟨_,st,fun v z=>by
      have z':Data.fields _=Data.cell v:=z
      cases z'⟩
  keep:=fun i h h' st k=>k it (by simp) _ st
  item:=by
    intro X hP hw hK hc i pins s σ H E I hf st hg
    subst hP hw hK
    obtain ⟨f0,f1,f2,f3,f4,f5⟩:=hf it (by simp)
    have W:=Walks.range (prog:=X.prog) (w:=X.w) (I.ok.hd hc) it lo (-1) n
    refine W.item i s _ _ hg st fun v h' tk hv st' kk=>?_
    obtain ⟨t,rfl⟩:=hv
    have I1:Inv X pins σ H { s with heap:=h',toks:=tk }:=I.turned (fun b o hb e=>kk b o (by simpa using hb) e) f0 f1 f3 f4 f5
    refine ⟨_,rfl,go_of (s:={ s with heap:=h',toks:=tk }) (n := "range_iterator") st' rfl rfl (by decide) ⟨.int (lo - i),H,I1,⟨t,?_⟩,⟨rfl,rfl⟩,st',fun b hb=>(hf b hb).1⟩⟩
    rw [show lo+(i:Int) * (-1)=lo - i by lia]
  done:=by
    intro X hP hw hK hc i pins s σ H E I hf st hg
    subst hP hw hK
    obtain ⟨f0,f1,f2,f3,f4,f5⟩:=hf it (by simp)
    exact wpAny_pyNext_range_end (I.ok.hd hc) st (by have:n≤i:=hg; lia) fun h' eb=>⟨rfl,I.turned (t':=s.toks) (fun b o hb e=>eb b o hb e) f0 f1 f3 f4 f5⟩
  self:=fun _ _ _ _ _ st h=>wpAny_pyIter_rangeiter st h
section
variable {X:Cx} {tg:PySem.Expr}
theorem range_itd {pins:List (Addr×Obj)} {σ:St} {H:Hp} {s:Shared} {R:It→Hp→Prop} {E:Value→Shared→Prop} {lo hi:Int} {t u v:Tok} {tk:Nat} (I:Inv X pins σ H s) (h1 : -(2 ^ 62)≤lo) (h2:lo<2 ^ 62) (h3 : -(2 ^ 62)≤hi) (h4:hi<2 ^ 62)
    (q:R (ItDn lo (lo - hi).toNat) H):wpAny (model X.prog X.w) X.A (pyIter (.ref s.heap.objs.size)) (PIE X pins σ tg R) E { s with heap:=s.heap.push { cls:=.type "range",data:=.fields #[.int lo t,.int hi u,.int (-1) v] },toks:=tk }:=by
  refine wpAny_pyIter_range (IsRange.new ..) (PySem.W.small_down h1 h2 h3 h4) ?_
  have I1:Inv X pins σ H { s with heap:=s.heap.push { cls:=.type "range",data:=.fields #[.int lo t,.int hi u,.int (-1) v] },toks:=tk }:=I.kept fun b o e=>Heap.get?_push_of_some _ e
  refine ⟨(s.heap.push { cls:=.type "range",data:=.fields #[.int lo t,.int hi u,.int (-1) v] }).objs.size,[(s.heap.push { cls:=.type "range",data:=.fields #[.int lo t,.int hi u,.int (-1) v] }).objs.size],_,_,H,rfl,
    I1.kept (t':=tk) fun b o e=>Heap.get?_push_of_some _ e,turn_down _ lo (lo - hi).toNat,?_,fun b hb=>?_,q⟩
  · have e1:lo+((0:Nat):Int) * (-1)=lo:=by simp
    have e2:(((lo - hi).toNat:Nat):Int) - ((0:Nat):Int)=Builtin.Range.rangeSize lo hi (-1):=by rw [PySem.W.rangeSize_downNat]; lia
    show IsRangeIter _ _ (lo+((0:Nat):Int) * (-1)) ((((lo - hi).toNat:Nat):Int) - ((0:Nat):Int)) (-1)
    rw [e1,e2]
    exact Heap.get?_push_size _ rfl
  · have e:b=(s.heap.push { cls:=.type "range",data:=.fields #[.int lo t,.int hi u,.int (-1) v] }).objs.size:=by simpa using hb
    subst e
    exact I1.fpOk (Nat.le_refl _) (I1.hok.fresh (Nat.le_refl _))
def iRngD (ta:TA):TI:=fun σ H R=>ta σ H fun vs H1=>∃ i j:Int,vs=[.int i,.int j,.int (-1)]∧(-(2 ^ 61)≤i∧i<2 ^ 61 ∧ -(2 ^ 61)≤j∧j<2 ^ 61)∧R (ItDn i (i - j).toNat) H1
theorem pi_range3 {a b c:PySem.Expr} {ta:TA} {p pos:Pos} (hg:Gl X "range") (hm:X.mg "range" = none) (ha:PA X [a,b,c] ta) (hs:starEach [a,b,c] X.env=(false,eval a X.env) :: starEach [b,c] X.env:=by rfl) (hpl:(backTo pos (starEach [b,c] X.env)).any (·.1)=false:=by rfl) :
    PI X tg (.Call (.Name "range" p) [a,b,c] [] pos) (iRngD ta):=by
  intro pins s σ H R I h
  refine Call_ (ld_blt I hg hm boot_range (PyProof.Rows.callWith_type1 (thA (ha pos pins s σ H _ I h) fun us s1 vs H1 I1 r1 q1=>?_) hs hpl))
  obtain ⟨i,j,e,⟨q1,q2,q3,q4⟩,q⟩:=q1
  subst e
  cases r1 with
  | cons r rr =>
    cases rr with
    | cons r' rr =>
      cases rr with
      | cons r'' rr =>
        cases rr
        obtain ⟨t,rfl⟩:=r
        obtain ⟨t',rfl⟩:=r'
        obtain ⟨t'',rfl⟩:=r''
        exact call_range_3 (by decide) (range_itd I1 (by lia) (by lia) (by lia) (by lia) q) (.inl (PyProof.noPylong_small (by lia)))
end
theorem for_down {hi:Int} {n:Nat} {g:TG} {tb:TS} {D:Ends} {σ:St} {H:Hp} (Pv:Nat→St→Hp→Prop) (h0:Pv 0 σ H)
    (hs:∀ i σ H,i<n→Pv i σ H→g (.int (hi - i)) σ H fun σ2 H2=>tb { D with nx:=Pv (i+1),ct:=Pv (i+1),bk:=D.nx } σ2 H2) (hd:∀ σ H,Pv n σ H→D.nx σ H) :
    ∃ W:Nat→Nat→St→Hp→Prop,(∃ m,W 0 m σ H)∧∀ i m σ H,W i m σ H →
      ((ItDn hi n).stop i H∧D.nx σ H)∨((ItDn hi n).go i H∧∃ N:St→Hp→Prop,(∀ σ' H',N σ' H'→∃ m',m'<m∧W (i+1) m' σ' H')∧∀ x H',(ItDn hi n).yld i H x H'→g x σ H' fun σ2 H2=>tb { D with nx:=N,ct:=N,bk:=D.nx } σ2 H2):=by
  refine ⟨fun i m σ H=>m=n - i∧i≤n∧Pv i σ H,⟨n,by simp,Nat.zero_le _,h0⟩,?_⟩
  rintro i m σ H ⟨rfl,hi,p⟩
  by_cases hlt:i<n
  · refine .inr ⟨hlt,Pv (i+1),fun σ' H' p'=>⟨n - (i+1),by lia,rfl,hlt,p'⟩,fun x H' y=>?_⟩
    obtain ⟨e,y⟩:=y
    subst e y
    exact hs i σ _ hlt p
  · have e:i=n:=by lia
    subst e
    exact .inl ⟨Nat.le_refl _,hd σ H p⟩
theorem for_zip {K:PySem.W.Frag} {a b:Addr} {xs ys:List V} {g:TG} {tb:TS} {D:Ends} {σ:St} {H:Hp} (Pv:Nat→St→Hp→Prop) (hlen:xs.length=ys.length) (h0:Pv 0 σ H) (hl:∀ i σ H,i≤xs.length→Pv i σ H→SqL K H a xs∧SqL K H b ys)
    (hs:∀ i x y t σ H,xs[i]?=some x→ys[i]?=some y→Pv i σ H→H t=none→g (.ref t) σ (upd H t (.tup [x,y])) fun σ2 H2=>tb { D with nx:=Pv (i+1),ct:=Pv (i+1),bk:=D.nx } σ2 H2) (hd:∀ σ H,Pv xs.length σ H→D.nx σ H) :
    ∃ W:Nat→Nat→St→Hp→Prop,(∃ m,W 0 m σ H)∧∀ i m σ H,W i m σ H →
      ((Itz K a b).stop i H∧D.nx σ H)∨((Itz K a b).go i H∧∃ N:St→Hp→Prop,(∀ σ' H',N σ' H'→∃ m',m'<m∧W (i+1) m' σ' H')∧∀ x H',(Itz K a b).yld i H x H'→g x σ H' fun σ2 H2=>tb { D with nx:=N,ct:=N,bk:=D.nx } σ2 H2):=by
  refine ⟨fun i m σ H=>m=xs.length - i∧i≤xs.length∧Pv i σ H,⟨xs.length,by simp,Nat.zero_le _,h0⟩,?_⟩
  rintro i m σ H ⟨rfl,hi,p⟩
  obtain ⟨q1,q2⟩:=hl i σ H hi p
  by_cases hlt:i<xs.length
  · have hlt2:i<ys.length:=hlen ▸ hlt
    refine .inr ⟨⟨xs,ys,xs[i],ys[i],q1,q2,by simp [hlt],by simp [hlt2]⟩,Pv (i+1),fun σ' H' p'=>⟨xs.length - (i+1),by lia,rfl,hlt,p'⟩,fun x H' y=>?_⟩
    obtain ⟨t,x1,y1,ht,rfl,rfl,hx,hy⟩:=y
    exact hs i x1 y1 t σ _ (hx xs q1) (hy ys q2) p ht
  · have e:i=xs.length:=by lia
    subst e
    exact .inl ⟨⟨xs,ys,q1,q2,.inl (Nat.le_refl _)⟩,hd σ H p⟩
end L2
set_option Elab.async false
set_option linter.all false
set_option maxRecDepth 100000
set_option maxHeartbeats 4000000
namespace L2.Stb
open PySem PySem.Spec PyProof.Rows
def Rk (ρ:Keyed→Nat) (xs:Array Keyed) (i:Nat):Nat:=(xs[i]?).elim 0 ρ
theorem Rk_congr {ρ:Keyed→Nat} {xs ys:Array Keyed} {i j:Nat} (h:xs[i]?=ys[j]?):Rk ρ xs i=Rk ρ ys j:=by unfold Rk; rw [h]
def VLt (ρ:Keyed→Nat) (xs:Array Keyed) (i j:Nat):Prop:=K xs i<K xs j∨(K xs i=K xs j∧Rk ρ xs i<Rk ρ xs j)
theorem VLt.trans {ρ:Keyed→Nat} {xs:Array Keyed} {i j k:Nat} (h1:VLt ρ xs i j) (h2:VLt ρ xs j k):VLt ρ xs i k:=by
  unfold VLt at *
  lia
def Inc (ρ:Keyed→Nat) (xs:Array Keyed) (n:Nat):Prop:=∀ i j,i<j→j<n→VLt ρ xs i j
def Dec (ρ:Keyed→Nat) (xs:Array Keyed) (n:Nat):Prop:=∀ i j,i<j→j<n→VLt ρ xs j i
def Idn (ρ:Keyed→Nat) (xs:Array Keyed) (n:Nat):Prop:=∀ i,n≤i→i<xs.size→Rk ρ xs i=i
theorem Idn.mono {ρ:Keyed→Nat} {xs:Array Keyed} {m n:Nat} (h:Idn ρ xs m) (l:m≤n):Idn ρ xs n:=fun i hi hs=>h i (Nat.le_trans l hi) hs
theorem Rk_get {ρ:Keyed→Nat} {xs:Array Keyed} {i:Nat} (h:i<xs.size):(xs.toList.map ρ)[i]?=some (Rk ρ xs i):=by
  unfold Rk
  rw [List.getElem?_map,Array.getElem?_toList,Array.getElem?_eq_getElem h]
  rfl
structure Inj (ρ:Keyed→Nat) (xs:Array Keyed):Prop where
  inj:∀ i j,i<xs.size→j<xs.size→Rk ρ xs i=Rk ρ xs j→i=j
  lt:∀ i,i<xs.size→Rk ρ xs i<xs.size
theorem inj_of {ρ:Keyed→Nat} {xs a₀:Array Keyed} (p:xs.Perm a₀) (h0:Idn ρ a₀ 0):Inj ρ xs:=by
  have e0:a₀.toList.map ρ=List.range a₀.size:=by
    apply List.ext_getElem?
    intro i
    by_cases h:i<a₀.size
    · rw [Rk_get h,List.getElem?_range h,h0 i (Nat.zero_le _) h]
    · rw [List.getElem?_eq_none (by simpa using h),List.getElem?_eq_none (by simpa using h)]
  have pm:(xs.toList.map ρ).Perm (List.range a₀.size):=by rw [← e0]; exact (Array.perm_iff_toList_perm.mp p).map ρ
  have nd:(xs.toList.map ρ).Nodup:=pm.nodup_iff.mpr List.nodup_range
  refine ⟨fun i j hi hj e=>?_,fun i hi=>?_⟩
  · refine (List.getElem?_inj (by rw [List.length_map,Array.length_toList]; exact hi) nd).mp ?_
    rw [Rk_get hi,Rk_get hj,e]
  · have m:Rk ρ xs i∈xs.toList.map ρ:=List.mem_of_getElem? (Rk_get hi)
    have:=List.mem_range.mp (pm.mem_iff.mp m)
    rw [p.size_eq]
    exact this
theorem Inj.below {ρ:Keyed→Nat} {xs:Array Keyed} (I:Inj ρ xs) {n:Nat} (h:Idn ρ xs n) {i:Nat} (hi:i<n) (hs:i<xs.size):Rk ρ xs i<n:=by
  by_cases c:Rk ρ xs i<n
  · exact c
  · have l:=I.lt i hs
    have e:=h (Rk ρ xs i) (by lia) l
    have:=I.inj _ _ l hs e
    lia
theorem Rk_bubble {ρ:Keyed→Nat} {xs:Array Keyed} {src d:Nat} (hs:src<xs.size) (hd:d≤src) (k:Nat) :
    Rk ρ (bubble xs src d) k=if k=src - d then Rk ρ xs src else if src - d<k∧k≤src then Rk ρ xs (k - 1) else Rk ρ xs k:=by
  have e:=getElem?_bubble hs d hd k
  by_cases h1:k=src - d
  · rw [if_pos h1] at e ⊢
    exact Rk_congr e
  · rw [if_neg h1] at e ⊢
    by_cases h2:src - d<k∧k≤src
    · rw [if_pos h2] at e ⊢
      exact Rk_congr e
    · rw [if_neg h2] at e ⊢
      exact Rk_congr e
theorem Rk_mirror {ρ:Keyed→Nat} {xs:Array Keyed} {i j:Nat} (hj:j≤xs.size) (k:Nat) :
    Rk ρ (mirror xs i j ((j - i) / 2)) k=if i≤k∧k<j then Rk ρ xs (i+j - 1 - k) else Rk ρ xs k:=by
  have e:=getElem?_mirror_all (i:=i) hj k
  by_cases h1:i≤k∧k<j
  · rw [if_pos h1] at e ⊢
    exact Rk_congr e
  · rw [if_neg h1] at e ⊢
    exact Rk_congr e
section
variable {prog:Program} {w:World} {A:Around} {E:Value→Shared→Prop} {s:Shared} {a₀:Array Keyed} {ρ:Keyed→Nat}
theorem SB.inj {st:SortSt} (h:SBase a₀ st) (hr:Idn ρ a₀ 0):Inj ρ (arrOf st):=inj_of h.perm hr
theorem bin_ok {st:SortSt} {n ok:Nat} {Q:Bool→SortSt→Prop} (h0:IntKeys a₀) (hr:Idn ρ a₀ 0) (hn:n≤a₀.size) (hok:ok≤n) (h1k:1≤ok) (hB:SBase a₀ st) (hs:Inc ρ (arrOf st) ok) (hI:Idn ρ (arrOf st) ok)
    (h:∀ st',SBase a₀ st'→Inc ρ (arrOf st') n→Q true st'):wpS (model prog w) A E s (binarySort' 0 n ok) Q st:=by
  rw [binarySort'_eq]
  simp only [Nat.zero_add]
  refine wpS_bind (wpS_mono (wpS_forRange (I:=fun k c st1=>c=(none,())∧SBase a₀ st1∧Inc ρ (arrOf st1) (min k n)∧Idn ρ (arrOf st1) (min k n))
    (Q:=fun c st1=>c=(none,())∧SBase a₀ st1∧Inc ρ (arrOf st1) n) ?turn ?last ?first) ?after)
  case after =>
    rintro c st1 ⟨rfl,b1,i1⟩
    exact wpS_pure (h st1 b1 i1)
  case first =>
    rw [show min (max ok 1) n=ok by lia]
    exact ⟨rfl,hB,hs,hI⟩
  case last =>
    rintro c st1 ⟨hc,b1,i1,_⟩
    rw [show min (max (max ok 1) n) n=n by lia] at i1
    exact ⟨hc,b1,i1⟩
  case turn =>
    rintro k c st1 hak hkn ⟨rfl,b1,i1,d1⟩
    rw [show min k n=k by lia] at i1 d1
    have hk:k<a₀.size:=by lia
    have sz:=b1.size
    have J:=SB.inj b1 hr
    have rk:Rk ρ (arrOf st1) k=k:=d1 k (Nat.le_refl _) (by lia)
    have lo:∀ m,m<k→¬ K (arrOf st1) k<K (arrOf st1) m→VLt ρ (arrOf st1) m k:=fun m hm c=>by
      have:=J.below d1 hm (by lia)
      unfold VLt
      lia
    refine wpS_bind (wpS_mono (wpS_forRange (I:=fun x c st2=>st2=st1∧∃ l r,c=(none,l,r)∧l≤r∧r≤k∧r - l≤k - x∧(∀ i,i<l→VLt ρ (arrOf st1) i k)∧(∀ i,r≤i→i<k→VLt ρ (arrOf st1) k i))
      (Q:=fun c st2=>st2=st1∧∃ l r,c=(none,l,r)∧l≤k∧(∀ i,i<l→VLt ρ (arrOf st1) i k)∧(∀ i,l≤i→i<k→VLt ρ (arrOf st1) k i)) ?iturn ?ilast ?ifirst) ?iafter)
    case ifirst=>exact ⟨rfl,0,k,rfl,by lia,by lia,by lia,fun i hi=>absurd hi (by lia),fun i p q=>absurd q (by lia)⟩
    case ilast =>
      rintro c st2 ⟨rfl,l,r,rfl,hlr,hrk,hm,u1,u2⟩
      have e:l=r:=by lia
      subst e
      exact ⟨rfl,l,l,rfl,hrk,u1,u2⟩
    case iturn =>
      rintro x c st2 _ hxk ⟨rfl,l,r,rfl,hlr,hrk,hm,u1,u2⟩
      dsimp only
      by_cases hge:l ≥ r
      · rw [if_pos hge]
        have e:l=r:=by lia
        subst e
        exact wpS_pure ⟨rfl,l,l,rfl,hrk,u1,u2⟩
      · rw [if_neg hge]
        refine wpS_bind (wpS_ltK b1 h0 hk (by lia) ?_)
        by_cases c:K (arrOf st2) k<K (arrOf st2) ((l+r) / 2)
        · simp only [c,decide_true,if_true]
          refine wpS_pure ⟨rfl,l,(l+r) / 2,rfl,by lia,by lia,by lia,u1,fun i p q=>?_⟩
          by_cases e:i=(l+r) / 2
          · subst e; exact .inl c
          · exact VLt.trans (.inl c) (i1 _ _ (by lia) q)
        · simp only [c,decide_false,Bool.false_eq_true,if_false]
          refine wpS_pure ⟨rfl,(l+r) / 2+1,r,rfl,by lia,by lia,by lia,fun i p=>?_,u2⟩
          have v:=lo _ (by lia) c
          by_cases e:i=(l+r) / 2
          · subst e; exact v
          · exact VLt.trans (i1 _ _ (by lia) (by lia)) v
    case iafter =>
      rintro c st2 ⟨rfl,l,r,rfl,hlk,u1,u2⟩
      show wpS _ _ _ _ (do moveDown' k l; pure (ForInStep.yield (none,()))) _ _
      rw [moveDown'_eq]
      refine wpS_bind (wpS_modify (wpS_pure ⟨rfl,b1.setArr (bubble_perm _ _ _),?_,?_⟩))
      · rw [show min (k+1) n=k+1 by lia]
        have hks:k<(arrOf st2).size:=by lia
        intro i j hij hj
        show VLt ρ (bubble (arrOf st2) k (k - l)) i j
        unfold VLt
        rw [K_bubble hks (by lia),K_bubble hks (by lia),Rk_bubble hks (by lia),Rk_bubble hks (by lia),show k - (k - l)=l by lia]
        by_cases a1:i=l
        · have b1':¬ j=l:=by lia
          have b2':l<j∧j≤k:=by lia
          rw [if_pos a1,if_pos a1,if_neg b1',if_neg b1',if_pos b2',if_pos b2']
          exact u2 _ (by lia) (by lia)
        · rw [if_neg a1,if_neg a1]
          by_cases a2:j=l
          · have b1':¬ (l<i∧i≤k):=by lia
            rw [if_pos a2,if_pos a2,if_neg b1',if_neg b1']
            exact u1 _ (by lia)
          · rw [if_neg a2,if_neg a2]
            by_cases a3:l<i∧i≤k
            · have b1':l<j∧j≤k:=by lia
              rw [if_pos a3,if_pos a3,if_pos b1',if_pos b1']
              exact i1 _ _ (by lia) (by lia)
            · rw [if_neg a3,if_neg a3]
              by_cases a4:l<j∧j≤k
              · rw [if_pos a4,if_pos a4]
                by_cases a5:i<j - 1
                · exact i1 _ _ a5 (by lia)
                · exfalso; lia
              · rw [if_neg a4,if_neg a4]
                exact i1 _ _ (by lia) (by lia)
      · rw [show min (k+1) n=k+1 by lia]
        intro i hi hs'
        have hs2:i<(arrOf st2).size:=by
          have:(arrOf (setArr st2 (bubble (arrOf st2) k (k - l)))).size=(arrOf st2).size:=bubble_size _ _ _
          lia
        show Rk ρ (bubble (arrOf st2) k (k - l)) i=i
        rw [Rk_bubble (by lia) (by lia),if_neg (by lia),if_neg (by lia)]
        exact d1 i (by lia) hs2
theorem asc_ok {st:SortSt} {a nrem:Nat} {Q:AscSt→SortSt→Prop} (h0:IntKeys a₀) (hr:Idn ρ a₀ 0) (hn:nrem≤a₀.size) (ha:1≤a) (han:a≤nrem) (hB:SBase a₀ st) (hs:Inc ρ (arrOf st) a) (hI:Idn ρ (arrOf st) a)
    (h:∀ n,a≤n→n≤nrem→Inc ρ (arrOf st) n→(n=nrem∨K (arrOf st) n<K (arrOf st) (n - 1))→Q (none,n) st):wpS (model prog w) A E s (ascLoop a nrem) Q st:=by
  unfold ascLoop
  have sz:=hB.size
  have J:=SB.inj hB hr
  refine wpS_forRange (I:=fun x c st1=>st1=st∧c=(none,x)∧Inc ρ (arrOf st) x) ?turn ?last ⟨rfl,rfl,hs⟩
  case last =>
    rintro c st1 ⟨rfl,rfl,i1⟩
    rw [show max a nrem=nrem by lia] at i1 ⊢
    exact h nrem han (Nat.le_refl _) i1 (.inl rfl)
  case turn =>
    rintro x c st1 hax hxn ⟨rfl,rfl,i1⟩
    dsimp only
    refine wpS_bind (wpS_ltK hB h0 (by lia) (by lia) ?_)
    by_cases c:K (arrOf st1) x<K (arrOf st1) (x - 1)
    · simp only [c,decide_true,if_true]
      exact wpS_pure (h x hax (by lia) i1 (.inr c))
    · simp only [c,decide_false,Bool.false_eq_true,if_false]
      refine wpS_pure ⟨rfl,rfl,fun i j hij hj=>?_⟩
      by_cases hjx:j<x
      · exact i1 i j hij hjx
      · have ej:j=x:=by lia
        subst ej
        have dx:=hI.mono hax
        have r1:=J.below dx (i:=j - 1) (by lia) (by lia)
        have r2:=dx j (Nat.le_refl _) (by lia)
        have v:VLt ρ (arrOf st1) (j - 1) j:=by unfold VLt; lia
        by_cases e:i=j - 1
        · subst e; exact v
        · exact VLt.trans (i1 i (j - 1) (by lia) (by lia)) v
theorem tail_ok {st:SortSt} {n nrem:Nat} {Q:Option Nat→SortSt→Prop} (h0:IntKeys a₀) (hr:Idn ρ a₀ 0) (hn:nrem≤a₀.size) (h1:1≤n) (hnn:n≤nrem) (hB:SBase a₀ st) (hs:Dec ρ (arrOf st) n) (hI:Idn ρ (arrOf st) n)
    (h:∀ m st',SBase a₀ st'→1≤m→m≤nrem→Inc ρ (arrOf st') m→Idn ρ (arrOf st') m→Q (some m) st'):wpS (model prog w) A E s (tail3 n nrem) Q st:=by
  unfold tail3
  have sz:=hB.size
  refine wpS_bind (wpS_reverse ?_)
  have b1:SBase a₀ (setArr st (mirror (arrOf st) 0 n ((n - 0) / 2))):=hB.setArr (mirror_perm _ _ _ _)
  have d1:Idn ρ (mirror (arrOf st) 0 n ((n - 0) / 2)) n:=fun i hi hs'=>by
    rw [mirror_size] at hs'
    rw [Rk_mirror (by lia),if_neg (by lia)]
    exact hI i hi hs'
  refine wpS_bind (asc_ok h0 hr hn h1 hnn b1 ?_ d1 fun m m1 m2 i2 _=>wpS_pure (h m _ b1 (by lia) m2 i2 (d1.mono m1)))
  intro i j hij hj
  show VLt ρ (mirror (arrOf st) 0 n ((n - 0) / 2)) i j
  unfold VLt
  rw [K_mirror (by lia),K_mirror (by lia),Rk_mirror (by lia),Rk_mirror (by lia),if_pos (by lia),if_pos (by lia),if_pos (by lia),if_pos (by lia)]
  exact hs _ _ (by lia) (by lia)
structure DI (ρ:Keyed→Nat) (xs:Array Keyed) (x q:Nat):Prop where
  l:q+1≤x
  sz:x≤xs.size
  d:Dec ρ xs (x - (q+1))
  u:∀ i j,i<x - (q+1)→x - (q+1)≤j→j<x→K xs j<K xs i
  e:∀ i,x - (q+1)≤i→i<x→K xs i=K xs (x - 1)
  f:Idn ρ xs (x - (q+1))
theorem DI.dec0 {xs:Array Keyed} {x:Nat} (h:DI ρ xs x 0):Dec ρ xs x:=fun i j hij hj=>by
  by_cases c:j<x - (0+1)
  · exact h.d i j hij c
  · exact .inl (h.u i j (by lia) (by lia) hj)
theorem DI.rev {xs:Array Keyed} {x q:Nat} (h:DI ρ xs x q):Dec ρ (mirror xs (x - (q+1)) x ((x - (x - (q+1))) / 2)) x∧Idn ρ (mirror xs (x - (q+1)) x ((x - (x - (q+1))) / 2)) x:=by
  have hl:=h.l
  have hz:=h.sz
  refine ⟨fun i j hij hj=>?_,fun i hi hs=>?_⟩
  · have ke:=K_mirror_equal (i:=x - (q+1)) hz h.e
    unfold VLt
    rw [ke,ke,Rk_mirror hz,Rk_mirror hz]
    by_cases c1:j<x - (q+1)
    · rw [if_neg (by lia),if_neg (by lia)]
      exact h.d i j hij c1
    · by_cases c2:i<x - (q+1)
      · exact .inl (h.u i j c2 (by lia) hj)
      · rw [if_pos (by lia),if_pos (by lia)]
        refine .inr ⟨(h.e j (by lia) hj).trans (h.e i (by lia) (by lia)).symm,?_⟩
        rw [h.f _ (by lia) (by lia),h.f _ (by lia) (by lia)]
        lia
  · rw [mirror_size] at hs
    rw [Rk_mirror hz,if_neg (by lia)]
    exact h.f i (by lia) hs
theorem DI.of {xs:Array Keyed} {x:Nat} (hx:1≤x) (hz:x<xs.size) (hd:Dec ρ xs x) (hf:Idn ρ xs x) (hk:K xs x<K xs (x - 1)):DI ρ xs (x+1) 0:=by
  refine ⟨by lia,by lia,hd,fun i j hi hj hj'=>?_,fun i hi hi'=>?_,hf⟩
  · have ej:j=x:=by lia
    subst ej
    by_cases e:i=j - 1
    · subst e; exact hk
    · have v:=hd i (j - 1) (by lia) (by lia)
      unfold VLt at v
      lia
  · have ei:i=x:=by lia
    subst ei
    rfl
theorem DI.more {xs:Array Keyed} {x q:Nat} (h:DI ρ xs x q) (hz:x<xs.size) (hk:K xs x=K xs (x - 1)):DI ρ xs (x+1) (q+1):=by
  have hl:=h.l
  have e0:x+1 - (q+1+1)=x - (q+1):=by lia
  refine ⟨by lia,by lia,by rw [e0]; exact h.d,fun i j hi hj hj'=>?_,fun i hi hi'=>?_,by rw [e0]; exact h.f⟩
  · rw [e0] at hi hj
    by_cases c:j<x
    · exact h.u i j hi hj c
    · have ej:j=x:=by lia
      subst ej
      rw [hk]
      exact h.u i (j - 1) hi (by lia) (by lia)
  · rw [show x+1 - 1=x by lia]
    by_cases c:i<x
    · rw [hk]; exact h.e i (by lia) c
    · have ei:i=x:=by lia
      subst ei
      rfl
theorem desc_ok {st:SortSt} {n nrem:Nat} {Q:DescSt→SortSt→Prop} (h0:IntKeys a₀) (hn:nrem≤a₀.size) (hnn:n≤nrem) (hB:SBase a₀ st) (hs:DI ρ (arrOf st) n 0)
    (h:∀ m q st',SBase a₀ st'→m≤nrem→DI ρ (arrOf st') m q→Q (none,m,q) st'):wpS (model prog w) A E s (descLoop n nrem) Q st:=by
  unfold descLoop
  refine wpS_forRange (I:=fun x c st1=>∃ q,c=(none,x,q)∧SBase a₀ st1∧DI ρ (arrOf st1) x q) ?turn ?last ⟨0,rfl,hB,hs⟩
  case last =>
    rintro c st1 ⟨q,rfl,b1,d1⟩
    rw [show max n nrem=nrem by lia] at d1 ⊢
    exact h nrem q st1 b1 (Nat.le_refl _) d1
  case turn =>
    rintro x c st1 hax hxn ⟨q,rfl,b1,d1⟩
    dsimp only
    have sz:=b1.size
    have hl:=d1.l
    refine wpS_bind (wpS_ltK b1 h0 (by lia) (by lia) ?_)
    by_cases c:K (arrOf st1) x<K (arrOf st1) (x - 1)
    · simp only [c,decide_true,if_true]
      by_cases hq:q > 0
      · rw [if_pos hq]
        obtain ⟨r1,r2⟩:=d1.rev
        refine wpS_bind (wpS_reverse (wpS_pure ⟨0,rfl,b1.setArr (mirror_perm _ _ _ _),DI.of (by lia) (by show x<(mirror _ _ _ _).size; rw [mirror_size]; lia) r1 r2 ?_⟩))
        show K (mirror _ _ _ _) x<K (mirror _ _ _ _) (x - 1)
        rw [K_mirror_equal d1.sz d1.e,K_mirror_equal d1.sz d1.e]
        exact c
      · rw [if_neg hq]
        have e:q=0:=by lia
        subst e
        exact wpS_pure ⟨0,rfl,b1,DI.of (by lia) (by lia) d1.dec0 (d1.f.mono (by lia)) c⟩
    · simp only [c,decide_false,Bool.false_eq_true,if_false]
      refine wpS_bind (wpS_ltK b1 h0 (by lia) (by lia) ?_)
      by_cases c2:K (arrOf st1) (x - 1)<K (arrOf st1) x
      · simp only [c2,decide_true,if_true]
        exact wpS_pure (h x q st1 b1 (by lia) d1)
      · simp only [c2,decide_false,Bool.false_eq_true,if_false]
        exact wpS_pure ⟨q+1,rfl,b1,d1.more (by lia) (by lia)⟩
theorem part_ok {st:SortSt} {n nrem:Nat} {Q:Option Nat→SortSt→Prop} (h0:IntKeys a₀) (hr:Idn ρ a₀ 0) (hn:nrem≤a₀.size) (hnn:n+1≤nrem) (hB:SBase a₀ st) (hs:DI ρ (arrOf st) (n+1) 0)
    (h:∀ m st',SBase a₀ st'→1≤m→m≤nrem→Inc ρ (arrOf st') m→Idn ρ (arrOf st') m→Q (some m) st'):wpS (model prog w) A E s (descPart n nrem) Q st:=by
  unfold descPart
  refine wpS_bind (wpS_lift (wpAny_rule ⟨rfl,?_⟩))
  refine wpS_bind (desc_ok h0 hn hnn hB hs fun m q st1 b1 m2 d1=>?_)
  dsimp only
  have hl:=d1.l
  by_cases hq:q > 0
  · rw [if_pos hq]
    obtain ⟨r1,r2⟩:=d1.rev
    exact wpS_bind (wpS_reverse (tail_ok h0 hr hn (by lia) m2 (b1.setArr (mirror_perm _ _ _ _)) r1 r2 h))
  · rw [if_neg hq]
    have e:q=0:=by lia
    subst e
    exact tail_ok h0 hr hn (by lia) m2 b1 d1.dec0 (d1.f.mono (by lia)) h
theorem count_ok {st:SortSt} {nrem:Nat} {Q:Option Nat→SortSt→Prop} (h0:IntKeys a₀) (hr:Idn ρ a₀ 0) (hn:nrem≤a₀.size) (h1:1≤nrem) (hB:SBase a₀ st) (hI:Idn ρ (arrOf st) 0)
    (h:∀ m st',SBase a₀ st'→1≤m→m≤nrem→Inc ρ (arrOf st') m→Idn ρ (arrOf st') m→Q (some m) st'):wpS (model prog w) A E s (countRun' 0 nrem) Q st:=by
  rw [countRun0_eq]
  have sz:=hB.size
  refine wpS_bind (asc_ok h0 hr hn (Nat.le_refl 1) h1 hB (fun i j hij hj=>absurd hj (by lia)) (hI.mono (Nat.zero_le _)) fun n n1 n2 i1 hor=>?_)
  dsimp only
  by_cases e:n=nrem
  · rw [if_pos (by simpa using e)]
    exact wpS_pure (h n st hB n1 n2 i1 (hI.mono (Nat.zero_le _)))
  · rw [if_neg (by simpa using e)]
    have lt:K (arrOf st) n<K (arrOf st) (n - 1):=hor.resolve_left e
    by_cases g:n > 1
    · rw [if_pos g]
      refine wpS_bind (wpS_ltK hB h0 (by lia) (by lia) ?_)
      by_cases c:K (arrOf st) 0<K (arrOf st) (n - 1)
      · simp only [c,decide_true,if_true]
        exact wpS_pure (h n st hB n1 n2 i1 (hI.mono (Nat.zero_le _)))
      · simp only [c,decide_false,Bool.false_eq_true,if_false]
        have all:∀ k,0≤k→k<n→K (arrOf st) k=K (arrOf st) (n - 1):=by
          intro k _ hk
          have a1:k=0∨VLt ρ (arrOf st) 0 k:=by
            by_cases z:k=0
            · exact .inl z
            · exact .inr (i1 0 k (by lia) hk)
          have a2:k=n - 1∨VLt ρ (arrOf st) k (n - 1):=by
            by_cases z:k=n - 1
            · exact .inl z
            · exact .inr (i1 k (n - 1) (by lia) (by lia))
          have a3:=i1 0 (n - 1) (by lia) (by lia)
          unfold VLt at a1 a2 a3
          rcases a1 with a1 | a1
          · subst a1; lia
          · rcases a2 with a2 | a2
            · subst a2; rfl
            · lia
        have ke:=K_mirror_equal (xs:=arrOf st) (i:=0) (j:=n) (by lia) all
        refine wpS_bind (wpS_reverse (part_ok h0 hr hn (by lia) (hB.setArr (mirror_perm _ _ _ _)) (DI.of (by lia) (by show n<(mirror _ _ _ _).size; rw [mirror_size]; lia) (fun i j hij hj=>?_) (fun i hi hs=>?_) ?_) h))
        · show VLt ρ (mirror (arrOf st) 0 n ((n - 0) / 2)) j i
          unfold VLt
          rw [ke,ke,all i (by lia) (by lia),all j (by lia) hj,Rk_mirror (by lia),Rk_mirror (by lia),if_pos (by lia),if_pos (by lia),hI _ (by lia) (by lia),hI _ (by lia) (by lia)]
          lia
        · have hs':i<(mirror (arrOf st) 0 n ((n - 0) / 2)).size:=hs
          rw [mirror_size] at hs'
          show Rk ρ (mirror (arrOf st) 0 n ((n - 0) / 2)) i=i
          rw [Rk_mirror (by lia),if_neg (by lia)]
          exact hI i (by lia) hs'
        · show K (mirror (arrOf st) 0 n ((n - 0) / 2)) n<K (mirror (arrOf st) 0 n ((n - 0) / 2)) (n - 1)
          rw [ke,ke]
          exact lt
    · rw [if_neg g]
      have en:n=1:=by lia
      subst en
      exact part_ok h0 hr hn (by lia) hB (DI.of (by lia) (by lia) (fun i j hij hj=>absurd hj (by lia)) (hI.mono (Nat.zero_le _)) lt) h
def SEnd (ρ:Keyed→Nat) (a₀:Array Keyed) (st:SortSt):Prop:=(arrOf st).Perm a₀∧failedOf st=none∧pendingOf st=#[(0,a₀.size,0)]∧Inc ρ (arrOf st) a₀.size
theorem SEnd.of {st:SortSt} (hB:SBase a₀ st) (hs:Inc ρ (arrOf st) a₀.size):SEnd ρ a₀ (setPending st ((pendingOf st).push (0,a₀.size,0))) :=
  ⟨hB.perm,hB.failed,by show (pendingOf st).push _=_; rw [hB.pend]; rfl,hs⟩
theorem runs_ok {st:SortSt} {Q:Unit→SortSt→Prop} (h0:IntKeys a₀) (hr:Idn ρ a₀ 0) (hB:SBase a₀ st) (hI:Idn ρ (arrOf st) 0) (h2:2≤a₀.size) (h64:a₀.size<64)
    (h:∀ st',(arrOf st').Perm a₀→failedOf st'=none→Inc ρ (arrOf st') a₀.size→Q () st'):wpS (model prog w) A E s sortRuns' Q st:=by
  rw [sortRuns'_eq]
  refine wpS_bind (wpS_get ?_)
  dsimp only
  have mr:minRun' a₀.size a₀.size 0=a₀.size:=by
    obtain ⟨f,hf⟩:∃ f,a₀.size=f+1:=⟨a₀.size - 1,by lia⟩
    have e:minRun' (f+1) a₀.size 0=a₀.size:=by
      rw [minRun'_succ,if_pos h64]
      rfl
    rwa [← hf] at e
  simp only [hB.size,mr]
  refine wpS_bind (wpS_mono (wpS_forRange
    (I:=fun x c st1=>(x=0∧c=(none,0)∧SBase a₀ st1∧Idn ρ (arrOf st1) 0)∨(1≤x∧c=(none,a₀.size)∧SEnd ρ a₀ st1))
    (Q:=fun c st1=>c=(none,a₀.size)∧SEnd ρ a₀ st1) ?turn ?last (.inl ⟨rfl,rfl,hB,hI⟩)) ?after)
  case last =>
    rintro c st1 (⟨hx,_⟩ | ⟨_,hc,hD⟩)
    · lia
    · exact ⟨hc,hD⟩
  case turn =>
    rintro x c st1 _ hx (⟨rfl,rfl,b1,i1⟩ | ⟨hx1,rfl,hD⟩)
    · dsimp only
      rw [if_neg (by lia)]
      simp only [Nat.sub_zero,Nat.min_self,Nat.zero_add]
      refine wpS_bind (count_ok h0 hr (Nat.le_refl _) (by lia) b1 i1 fun m st2 b2 m1 m2 s2 d2=>?_)
      dsimp only
      by_cases lt:m<a₀.size
      · rw [if_pos lt]
        refine wpS_bind (wpS_lift (wpAny_rule ⟨rfl,?_⟩))
        refine wpS_bind (bin_ok h0 hr (Nat.le_refl _) m2 m1 b2 s2 d2 fun st3 b3 s3=>?_)
        simp only [Bool.not_true,Bool.false_eq_true,if_false]
        refine wpS_bind (wpS_get ?_)
        have hb:(pendingOf st3).back?=none:=by
          rw [b3.pend]
          rfl
        rw [hb]
        dsimp only
        exact wpS_bind (wpS_modify (wpS_pure (.inr ⟨by lia,rfl,SEnd.of b3 s3⟩)))
      · rw [if_neg lt]
        have em:m=a₀.size:=by lia
        subst em
        refine wpS_bind (wpS_get ?_)
        have hb:(pendingOf st2).back?=none:=by
          rw [b2.pend]
          rfl
        rw [hb]
        dsimp only
        exact wpS_bind (wpS_modify (wpS_pure (.inr ⟨by lia,rfl,SEnd.of b2 s2⟩)))
    · dsimp only
      rw [if_pos (Nat.le_refl _)]
      exact wpS_pure ⟨rfl,hD⟩
  case after =>
    rintro c st1 ⟨rfl,hD⟩
    dsimp only
    refine wpS_bind (wpS_mono (wpS_forRange (I:=fun _ c st2=>st2=st1∧c=(none,())) (Q:=fun c st2=>st2=st1∧c=(none,())) ?_ (fun _ _ hh=>hh) ⟨rfl,rfl⟩) ?_)
    · rintro x c st2 _ _ ⟨rfl,rfl⟩
      refine wpS_bind (wpS_get ?_)
      rw [if_pos (by rw [hD.2.2.1]; exact Nat.le_refl 1)]
      exact wpS_pure ⟨rfl,rfl⟩
    · rintro c st2 ⟨rfl,rfl⟩
      exact wpS_pure (h _ hD.1 hD.2.1 hD.2.2.2)
end
end L2.Stb
set_option Elab.async false
set_option linter.all false
set_option maxRecDepth 100000
set_option maxHeartbeats 4000000
namespace L2
open PySem PySem.Spec PyProof.Rows
def BMod (base:Heap) (mg:Str→Option Value):Prop:=∃ bm o,mg "__builtins__" = some (.ref bm)∧bm≠builtinsNs∧bm≠mainGlobals∧base.get? bm=some o∧o.cls=.type "module" ∧ o.dict=some builtinsNs∧o.data=.plain
section
variable {X:Cx} {pins:List (Addr×Obj)} {σ:St} {H:Hp} {s:Shared}
theorem Inv.grown {P c':Addr} {pos:Pos} {qual:Str} {ps:Array Value} {h':Heap} {tk:Nat} (I:Inv X pins σ H s) (hP:H P=some (.tbl pos qual)) (hx:Heap.ExtBut P s.heap h') (hge:s.heap.objs.size≤c') (hrec:h'.CodeRec (.ref c') qual)
    (htr:TriplesOk ps.toList) (hnf:codeAmong pos ps.toList=none) (htb:h'.get? P=some { cls:=.none,data:=.fields (ps++#[rawInt pos.line,rawInt pos.col,.ref c']) }) :
    ∃ oc vs t,h'.get? c'=some oc∧oc.data=.fields vs∧vs[1]?=some (.str qual t)∧Inv X pins σ (upd H c' (.frz oc (.own P))) { s with heap:=h',toks:=tk }:=by
  obtain ⟨c,oc,vs,t,z,hoc,hd,hv⟩:=hrec
  cases z
  have fr:H c'=none:=I.hok.fresh hge
  have nP:∀ b,H b=none→b≠P:=fun b n z=>by rw [z,hP] at n; cases n
  have nc:∀ b u,H b=some u→b≠c':=fun b u e=>ne_of_none e fr
  have nh:∀ b o,s.heap.get? b=some o→b≠c':=fun b o e=>Nat.ne_of_lt (Nat.lt_of_lt_of_le (Heap.lt_size e) hge)
  have cP:c'≠P:=fun z=>by rw [z,hP] at fr; cases fr
  refine ⟨oc,vs,t,hoc,hd,hv,I.step (g':=s.gens) (d':=s.drawn) (t':=tk) (ch:=[]) (h':=h') (H':=upd H c' (.frz oc (.own P))) (fun _ z=>nomatch z) (fun b o _ _ _ e n=>hx b o (nP b n) e) (fun b o _ _ _ e n=>⟨o.slots,hx b o (nP b n) e⟩)
    (fun b o _ e n=>by rw [upd_ne (nh b o e)]; exact n) (fun b o _ e=>?_) (fun b xs e=>by rw [upd_ne (nc b _ e)]; exact e) (fun b o u e=>by rw [upd_ne (nc b _ e)]; exact e) (fun b p q e=>by rw [upd_ne (nc b _ e)]; exact e) (fun m hm=>?_) (fun b u e=>?_) I.bare⟩
  · by_cases hb:b=P
    · subst hb; exact ⟨_,htb⟩
    · exact ⟨o,hx b o hb e⟩
  · obtain ⟨o,es,ep,ho,r⟩:=hm
    exact ⟨o,es,ep,hx _ o (nP _ I.free) ho,r⟩
  · by_cases hb:b=c'
    · subst hb
      rw [upd_same] at e
      cases e
      exact ⟨hoc,_,hoc⟩
    · rw [upd_ne hb] at e
      by_cases hbP:b=P
      · subst hbP
        rw [hP] at e
        cases e
        have e1:(ps++#[rawInt pos.line,rawInt pos.col,Value.ref c']).toList=ps.toList++[rawInt pos.line,rawInt pos.col,.ref c']:=by simp
        refine ⟨_,htb,?_,fun cv hc=>?_⟩
        · rw [e1]; exact TriplesOk_snoc _ _ _ _ htr
        · rw [e1,codeAmong_snoc _ htr hnf] at hc
          cases hc
          exact ⟨c',oc,vs,t,rfl,upd_same,hd,hv⟩
      · refine (I.hok b u e).stay (fun d v hd' q=>hx d v ?_ q) (fun d q=>by rw [upd_ne (nc d _ q)]; exact q) (fun d xs q=>by rw [upd_ne (nc d _ q)]; exact q) fun d oz q=>by rw [upd_ne (nc d _ q)]; exact q
        rcases hd' with rfl | hd'
        · exact hbP
        · intro z; rw [z,hP] at hd'; cases hd'
structure LamOk (X:Cx) (scope:Scope) (x:Str) (fr:List Str) (js:List Nat):Prop where
  kind:scope.kind=.function
  co:scope.isCoroutine=false
  gen:scope.isGenerator=false
  nocell:∀ y∈scope.names,y.2≠.cell
  par:scope.names.lookup x=some .local
  free:∀ y∈scope.names,y.2=.free→X.env.kindOf y.1=some .cell∨X.env.kindOf y.1=some .free
  len:fr.length=js.length
  js:∀ (k j:Nat),js[k]?=some j→fr[k]?=X.N[j]?
  jf:∀ (k:Nat) (y:Str),fr[k]?=some y→scope.names.lookup y=some .free
def cxLam (X:Cx) (A:Around) (N:List Str) (qual:Str) (scope:Scope) (f:Addr) (cd:Value) (cl:List (Str×Addr)) (s:Shared) (H:Hp):Cx where
  prog:=X.prog
  w:=X.w
  K:=X.K
  mg:=X.mg
  base:=X.base
  A:=A.deeper (PySem.W.envX qual scope s.heap.objs.size f cd cl)
  N:=N
  s₀:=s
  H₀:=H
  env:=PySem.W.envX qual scope s.heap.objs.size f cd cl
  outer:=X.stack
  stack:=PySem.W.envX qual scope s.heap.objs.size f cd cl :: X.stack
  ex:=[]
  calm:=true
  fn:=fun _=>false
  pn:=[]
  xe:=fun _ _=>False
theorem inv_lam {A:Around} {x:Str} {fr:List Str} {js:List Nat} {qual:Str} {scope:Scope} {f:Addr} {cd:Value} {cl:List (Str×Addr)} {s1:Shared} {u:Value} {v:V} (c:LamOk X scope x fr js) (I:Inv X pins σ H s) (hA:A.frames=some X.stack) (hh:A.handled=none)
    (cl1:∀ x c,cl.lookup x=some c→X.env.cells.lookup x=some c) (cl2:∀ p∈scope.names,p.2=.free→∃ c,cl.lookup p.1=some c) (r:RelV v u)
    (hn:s1.heap.Ns s.heap.objs.size fun y=>[(x,u)].reverse.lookup y) (hk:∀ b o,s.heap.get? b=some o→s1.heap.get? b=some o) (hos:s1.os=s.os) (hg:s1.gens=s.gens) :
    Inv (cxLam X A (x :: fr) qual scope f cd cl s H) [] (some v :: js.map fun j=>(σ[j]?).join) H s1:=by
  have noA:∀ b:Addr,b∉(cxLam X A (x :: fr) qual scope f cd cl s H).ex:=fun b z=>absurd (show b∈([]:List Addr) from z) (by simp)
  have ok:(cxLam X A (x :: fr) qual scope f cd cl s H).Ok:=by
    refine ⟨I.ok.mod,c.kind,rfl,rfl,Nat.le_refl _,fun y z d e1 e2=>I.ok.inj y z d (cl1 _ _ e1) (cl1 _ _ e2),fun y hy=>?_,fun y d z _=>absurd z (by simp [cxLam]),fun _=>hh,Around.frames_deeper hA,.inr ⟨rfl,rfl⟩,fun b z=>absurd z (noA b),I.bs,Nat.le_trans I.ok.bsz I.sz,fun b _ _=>noA b,fun b z=>absurd z (noA b),I.stack,I.stkFree⟩
    have hy:scope.names.lookup y=some .cell∨scope.names.lookup y=some .free:=hy
    rcases hy with hy | hy
    · exact absurd rfl (c.nocell _ (lookup_mem hy))
    · exact cl2 _ (lookup_mem hy) rfl
  refine ⟨ok,hos,by rw [hg]; exact I.bare,Un.kept hk,⟨_,hn,fun i y v' e1 e2 e3=>?_⟩,fun y d e=>?_,I.hok.fresh (Nat.le_refl _),fun y d e=>I.freeC y d (cl1 y d e),fun p hp=>absurd (show p∈([]:List (Addr×Obj)) from hp) (by simp),I.hok.kept hk,?_⟩
  · cases i with
    | zero =>
      have e1':x=y:=by simpa [cxLam] using e1
      have e2':v=v':=by simpa using e2
      subst e1'
      subst e2'
      refine ⟨u,r,.inl ⟨c.par,?_⟩⟩
      show ([(x,u)]:List (Str×Value)).reverse.lookup x=some u
      simp
    | succ k =>
      have e1':fr[k]?=some y:=by simpa [cxLam] using e1
      rw [List.getElem?_cons_succ,List.getElem?_map] at e2
      cases q:js[k]? with
      | none=>rw [q] at e2; cases e2
      | some j =>
        rw [q] at e2
        have e2':(σ[j]?).join=some v':=by simpa using e2
        have e4:σ[j]?=some (some v'):=by
          cases z:σ[j]? with
          | none=>rw [z] at e2'; cases e2'
          | some o=>rw [z] at e2'; rw [show o=some v' from e2']
        have hXN:X.N[j]?=some y:=(c.js k j q).symm.trans e1'
        have hfr:=c.jf k y e1'
        have hk2:=c.free _ (lookup_mem hfr) rfl
        have vis:Vis X.env.scope y:=by
          rcases hk2 with z | z
          · exact .inr (.inl z)
          · exact .inr (.inr z)
        obtain ⟨m,_,hl⟩:=I.loc
        obtain ⟨u',r',l⟩:=hl j y v' hXN e4 vis
        refine ⟨u',r',?_⟩
        rcases l with ⟨z,_⟩ | ⟨_,d,e,⟨od,ho,hd⟩⟩
        · rcases hk2 with y' | y'
          · rw [show X.env.kindOf y=_ from z] at y'; cases y'
          · rw [show X.env.kindOf y=_ from z] at y'; cases y'
        · obtain ⟨d',e'⟩:=cl2 _ (lookup_mem hfr) rfl
          have z':=cl1 _ _ e'
          have:d'=d:=by rw [e] at z'; exact (Option.some.inj z').symm
          subst this
          exact .inr ⟨.inr hfr,d',e',⟨od,hk _ _ ho,hd⟩⟩
  · obtain ⟨v',⟨o,ho,hd⟩⟩:=I.cell y d (cl1 y d e)
    exact ⟨v',o,hk _ _ ho,hd⟩
  · show (some v :: _:List (Option V)).length=(x :: fr).length
    rw [List.length_cons,List.length_cons,List.length_map,c.len]
theorem lam_call {A:Around} {x:Str} {fr:List Str} {js:List Nat} {name qual:Str} {params:Arguments} {body:PySem.Expr} {scope:Scope} {f:Addr} {pm cd ct:Value} {cl:List (Str×Addr)} {u:Value} {v:V} {te:TE} {Q:VK} {E:Value→Shared→Prop} {of:Obj} (c:LamOk X scope x fr js) (I:Inv X pins σ H s)
    (hA:A.frames=some X.stack) (hh:A.handled=none) (hdep:A.depth<recursionLimit)
    (cl1:∀ x c,cl.lookup x=some c→X.env.cells.lookup x=some c) (cl2:∀ p∈scope.names,p.2=.free→∃ c,cl.lookup p.1=some c)
    (ho:s.heap.get? f=some of) (hof:of.data=.func (PySem.W.kla_fn name qual params body scope cl pm cd ct)) (hcd:s.heap.CodeRec cd qual)
    (hb:∀ u,bindArgs (PySem.W.kla_fn name qual params body scope cl pm cd ct) ⟨[u],[]⟩=pure [(x,u)]) (r:RelV v u)
    (he:∀ s,PE (cxLam X A (x :: fr) qual scope f cd cl s H) body te) (h:te (some v :: js.map fun j=>(σ[j]?).join) H Q) :
    wpAny (model X.prog X.w) A (call (.ref f) [u]) (EP X pins σ Q) E s:=by
  refine wpAny_call (codeAny_mono (R:=fun r s'=>∃ u',r=.ok (.ret u')∧CE X.stack X.prog X.w H s Q u' s') (PySem.W.kla_callFunE hdep ho hof c.co c.gen rfl hcd (by
    rw [hb u]
    refine wpAny_pure ?_
    refine wpAny_newFunctionEnv c.nocell (fun y hy=>by rw [List.mem_singleton.mp hy]; exact c.par) (fun h₁ hns hsb=>?_) c.kind
    have hk₁:∀ b o,s.heap.get? b=some o→h₁.get? b=some o:=fun b o e=>hsb.extBut b o (Nat.ne_of_lt (Heap.lt_size e)) (Heap.get?_push_of_some _ e)
    refine ⟨I.nolimit.keeps hk₁,?_⟩
    have J:=inv_lam (qual:=qual) (f:=f) (cd:=cd) (s1:={ s with heap:=h₁,toks:=s.toks+[(x,u)].length }) c I hA hh cl1 cl2 r hns hk₁ rfl rfl
    refine PySem.W.kla_codeExpr (wpAny_mono (he s [] _ _ H Q J h) (fun u' s' hq=>?_) fun _ _ z=>z.elim)
    obtain ⟨v',H',J',rv,q⟩:=hq
    exact ⟨u',rfl,v',H',J'.os,J'.bare,J'.base,J'.hok,rv,q⟩)) fun r s' hq=>?_)
  obtain ⟨u',rfl,hq⟩:=hq
  exact I.after hq
theorem lam_make {P c0:Addr} {x:Str} {fr:List Str} {js:List Nat} {params:Arguments} {body:PySem.Expr} {scope:Scope} {pos:Pos} {R:Value→Shared→Prop} (c:LamOk X scope x fr js) (I:Inv X pins σ H s) (hc0:X.env.code=.ref c0) (hcd:PySem.W.codeHdIn X.K c0 P=true)
    (bm:BMod X.base X.mg) (hP:H P=some (.tbl pos (X.env.qual ++ "<lambda>"))) (hd0:params.defaults=[]) (hk0:params.kw_defaults=[])
    (h:∀ f cl cd pm ct of H' s',Inv X pins σ H' s'→Same H H'→(∀ x c,cl.lookup x=some c→X.env.cells.lookup x=some c)→(∀ p∈scope.names,p.2=.free→∃ c,cl.lookup p.1=some c) → 
      H' f=some (.frz of (.own 0))→of.data=.func (PySem.W.kla_fn "<lambda>" (X.env.qual ++ "<lambda>") params body scope cl pm cd ct)→(∃ c' oc vs t,cd=.ref c'∧H' c'=some (.frz oc (.own P))∧oc.data=.fields vs∧vs[1]?=some (.str (X.env.qual ++ "<lambda>") t))→R (.ref f) s') :
    wpAny (model X.prog X.w) X.A (eval (.Lambda params body scope pos) X.env) R X.xe s:=by
  obtain ⟨cl,e1,cl1,_,cl2⟩:=closure_for (env:=X.env) scope.names [] (fun p hp hf=>I.ok.has _ (c.free p hp hf)) (fun x d e=>by simp at e)
  have hclos:closureFor scope X.env=pure cl:=by
    unfold closureFor
    refine (congrArg (fun z=>z >>= fun cs=>pure cs) e1).trans ?_
    rfl
  have CH:=PySem.W.codeHd_of_K I.kIn hcd
  obtain ⟨ps,hps,htr,hcode⟩:=(show ObjOk X.prog X.w H s.heap P (.tbl pos (X.env.qual ++ "<lambda>")) from I.hok P _ hP)
  have hg:=I.ok.mod.glob.keeps I.bk
  have hgP:mainGlobals≠P:=fun q=>by
    obtain ⟨o,es,ep,e,hd,_⟩:=hg
    rw [q,hps] at e; cases e; cases hd
  have hb:s.heap.BuiltinsAt X.mg P:=by
    obtain ⟨b,o,a1,a2,a3,a4,a5,a6,a7⟩:=bm
    have e:=I.bk _ _ a4
    exact ⟨b,o,a1,a2,a3,(fun z=>by rw [z,hps] at e; cases e; cases a5),e,a5,a6,a7⟩
  rw [arm_eval_Lambda,defaultsOf_eq,hd0,hk0]
  show wpAny _ _ (do let dv ← evalAll (evalEach [] X.env); let kdv ← holding dv (evalAllOpt []); makeFunction "<lambda>" (X.env.qual ++ "<lambda>") params (.expr body) scope X.env dv kdv [] pos pos.line) _ _ s
  refine wpAny_bind (evalAll_nil ?_)
  refine wpAny_bind (wpAny_holding (wpAny_pure ?_))
  cases hf:codeAmong pos ps.toList with
  | some cv =>
    obtain ⟨c',oc,vs,t,rfl,hH,hd,hv⟩:=hcode cv hf
    refine PySem.W.kla_makeFunctionHit hclos I.ok.glob hg hc0 CH hps htr hf hb fun ctv h' tk hk hsz=>?_
    have I1:=I.laid (a:=h'.objs.size) (t':=tk) (o:=.frz { cls:=.type "function",data:=.func (PySem.W.kla_fn "<lambda>" (X.env.qual ++ "<lambda>") params body scope cl ((X.mg "__name__").getD .none) (.ref c') ctv) } (.own 0)) (h':=h'.push { cls:=.type "function",data:=.func (PySem.W.kla_fn "<lambda>" (X.env.qual ++ "<lambda>") params body scope cl ((X.mg "__name__").getD .none) (.ref c') ctv) }) (fun b o e=>Heap.get?_push_of_some _ (hk b o e)) hsz ⟨Heap.get?_push_size _ rfl,_,Heap.get?_push_size _ rfl⟩
    have fr:=I.hok.fresh hsz
    exact h _ cl _ _ _ _ _ _ I1 (same_upd fr _) cl1 cl2 upd_same rfl ⟨c',oc,vs,t,rfl,by rw [upd_ne (ne_of_none hH fr)]; exact hH,hd,hv⟩
  | none =>
    refine PySem.W.kla_makeFunction hclos I.ok.glob hg hc0 CH hps htr hf hgP hb fun c' ctv h' tk hx hge hlt hrec htb=>?_
    obtain ⟨oc,vs,t,hoc,hd,hv,I1⟩:=I.grown (tk:=tk) hP hx hge hrec htr hf htb
    have fr:H c'=none:=I.hok.fresh hge
    have fr2:upd H c' (.frz oc (.own P)) h'.objs.size=none:=I1.hok.fresh (Nat.le_refl _)
    have I2:=I1.laid (a:=h'.objs.size) (t':=tk) (o:=.frz (PySem.W.kla_obj "<lambda>" (X.env.qual ++ "<lambda>") params body scope cl ((X.mg "__name__").getD .none) c' ctv) (.own 0)) (h':=h'.push (PySem.W.kla_obj "<lambda>" (X.env.qual ++ "<lambda>") params body scope cl ((X.mg "__name__").getD .none) c' ctv)) (fun b o e=>Heap.get?_push_of_some _ e) (Nat.le_refl _) ⟨Heap.get?_push_size _ rfl,_,Heap.get?_push_size _ rfl⟩
    exact h _ cl _ _ _ _ _ _ I2 ((same_upd fr _).trans (same_upd fr2 _)) cl1 cl2 upd_same rfl ⟨c',oc,vs,t,rfl,by rw [upd_ne (ne_of_none upd_same fr2)]; exact upd_same,hd,hv⟩
end
end L2
set_option Elab.async false
set_option linter.all false
set_option maxRecDepth 100000
set_option maxHeartbeats 4000000
namespace L2
open PySem PySem.Spec PyProof.Rows L2.Stb
def KLt (key:Int→Int) (ns:List Int) (a b:Int):Prop:=key a<key b∨(key a=key b∧ns.idxOf a<ns.idxOf b)
theorem vals_map {l:List Keyed} (h:∀ p∈l,∃ t,p.2=.int (numOf p.2) t):Vals ((l.map fun p=>numOf p.2).map V.int) (l.map (·.2)):=by
  induction l with
  | nil=>exact .nil
  | cons p r ih =>
    obtain ⟨t,e⟩:=h p List.mem_cons_self
    exact .cons ⟨t,e⟩ (ih fun q hq=>h q (List.mem_cons_of_mem _ hq))
theorem ints_get {vs:List Value} {ns:List Int} (h:IntsAre vs ns):∀ {i:Nat} {v:Value},vs[i]?=some v→∃ n t,ns[i]?=some n∧v=.int n t:=by
  induction h with
  | nil=>intro i v e; simp at e
  | cons n t _ ih =>
    intro i v e
    cases i with
    | zero=>exact ⟨n,t,rfl,by simpa using e.symm⟩
    | succ i=>exact ih (by simpa using e)
theorem idx_nd:∀ {ns:List Int},ns.Nodup→∀ {i:Nat} {n:Int},ns[i]?=some n→ns.idxOf n=i
  | [],_,_,_,e=>by simp at e
  | x :: r,nd,0,n,e=>by
    have e':x=n:=by simpa using e
    subst e'
    simp
  | x :: r,nd,i+1,n,e=>by
    obtain ⟨h1,h2⟩:=List.nodup_cons.mp nd
    have e':r[i]?=some n:=by simpa using e
    have ne:x≠n:=fun z=>h1 (z ▸ List.mem_of_getElem? e')
    rw [List.idxOf_cons,show (x == n)=false by simpa using ne]
    show r.idxOf n+1=i+1
    rw [idx_nd h2 e']
theorem sort_out {keys:Array Value} {vs:List Value} {ns:List Int} {key:Int→Int} (hk:IntsAre keys.toList (ns.map key)) (hv:IntsAre vs ns) (nd:ns.Nodup) :
    Idn (fun p=>ns.idxOf (numOf p.2)) (keys.zip vs.toArray) 0∧∀ xs:Array Keyed,xs.Perm (keys.zip vs.toArray)→Inc (fun p=>ns.idxOf (numOf p.2)) xs xs.size →
      ∃ os:List Int,Vals (os.map V.int) (xs.map (·.2)).toList∧os.Perm ns∧os.Pairwise (KLt key ns):=by
  have lk:keys.size=ns.length:=by have:=hk.length; rw [Array.length_toList,List.length_map] at this; lia
  have lv:vs.length=ns.length:=by have:=hv.length; lia
  have at0:∀ (i:Nat) (p:Keyed),(keys.zip vs.toArray)[i]?=some p→∃ n t t',ns[i]?=some n∧p=(Value.int (key n) t,Value.int n t'):=fun i p e=>by
    have e':(keys.toList.zip vs)[i]?=some p:=by rw [← ksk_zip,Array.getElem?_toList]; exact e
    rw [List.getElem?_zip_eq_some] at e'
    obtain ⟨n1,t1,q1,r1⟩:=ints_get hk e'.1
    obtain ⟨n2,t2,q2,r2⟩:=ints_get hv e'.2
    rw [List.getElem?_map,q2] at q1
    have q1':key n2=n1:=by simpa using q1
    exact ⟨n2,t1,t2,q2,Prod.ext (by rw [r1,q1']) r2⟩
  have mem0:∀ p∈(keys.zip vs.toArray).toList,∃ n t t',n∈ns∧p=(Value.int (key n) t,Value.int n t'):=fun p hp=>by
    obtain ⟨i,e⟩:=List.getElem?_of_mem hp
    rw [Array.getElem?_toList] at e
    obtain ⟨n,t,t',q,r⟩:=at0 i p e
    exact ⟨n,t,t',List.mem_of_getElem? q,r⟩
  refine ⟨fun i _ hi=>?_,fun xs hp hi=>?_⟩
  · obtain ⟨n,t,t',q,r⟩:=at0 i _ (Array.getElem?_eq_getElem hi)
    unfold Rk
    rw [Array.getElem?_eq_getElem hi,r]
    show ns.idxOf n=i
    exact idx_nd nd q
  · have pm:=Array.perm_iff_toList_perm.mp hp
    have memx:∀ p∈xs.toList,∃ n t t',n∈ns∧p=(Value.int (key n) t,Value.int n t'):=fun p hp'=>mem0 p (pm.mem_iff.mp hp')
    refine ⟨xs.toList.map fun p=>numOf p.2,?_,?_,?_⟩
    · rw [Array.toList_map]
      refine vals_map fun p hp'=>?_
      obtain ⟨n,t,t',_,rfl⟩:=memx p hp'
      exact ⟨t',rfl⟩
    · have e:(keys.zip vs.toArray).toList.map (fun p=>numOf p.2)=ns:=by
        apply List.ext_getElem?
        intro i
        rw [List.getElem?_map,Array.getElem?_toList]
        by_cases hlt:i<(keys.zip vs.toArray).size
        · obtain ⟨n,t,t',q,r⟩:=at0 i _ (Array.getElem?_eq_getElem hlt)
          rw [Array.getElem?_eq_getElem hlt,r,q]
          rfl
        · have lz:(keys.zip vs.toArray).size=ns.length:=by rw [Array.size_zip,lk,List.size_toArray,lv,Nat.min_self]
          rw [Array.getElem?_eq_none (by lia),List.getElem?_eq_none (by lia)]
          rfl
      rw [← e]
      exact pm.map _
    · rw [List.pairwise_iff_getElem]
      intro i j hi' hj' hij
      have hi2:i<xs.size:=by simpa using hi'
      have hj2:j<xs.size:=by simpa using hj'
      have v:=hi i j hij hj2
      obtain ⟨n1,t1,t1',_,r1⟩:=memx xs[i] (by simp)
      obtain ⟨n2,t2,t2',_,r2⟩:=memx xs[j] (by simp)
      have k1:K xs i=key n1:=by rw [K_eq hi2,r1]; rfl
      have k2:K xs j=key n2:=by rw [K_eq hj2,r2]; rfl
      have q1:Rk (fun p=>ns.idxOf (numOf p.2)) xs i=ns.idxOf n1:=by unfold Rk; rw [Array.getElem?_eq_getElem hi2,r1]; rfl
      have q2:Rk (fun p=>ns.idxOf (numOf p.2)) xs j=ns.idxOf n2:=by unfold Rk; rw [Array.getElem?_eq_getElem hj2,r2]; rfl
      have g1:(xs.toList.map fun p=>numOf p.2)[i]=n1:=by simp [r1,numOf]
      have g2:(xs.toList.map fun p=>numOf p.2)[j]=n2:=by simp [r2,numOf]
      rw [g1,g2]
      unfold VLt at v
      rw [k1,k2,q1,q2] at v
      exact v
section
variable {X:Cx} {pins:List (Addr×Obj)} {σ:St} {H:Hp} {s:Shared} {d:Addr} {xs:List V} {o:Obj}
theorem Inv.thawedL (I:Inv X pins σ H s) (h:H d=some (.frz o (.lst xs))) (h0:∀ o' u,X.H₀ d≠some (.frz o' u)):Inv X pins σ (upd H d (.lst xs)) s:=by
  have ne:∀ b u,H b=some u→u≠.frz o (.lst xs)→b≠d:=fun b u e n z=>by rw [z,h] at e; exact n (Option.some.inj e).symm
  have nn:∀ b,H b=none→b≠d:=fun b e z=>by rw [z,h] at e; cases e
  refine ⟨I.ok,I.os,I.bare,⟨I.base.keep,I.base.slot,fun b o' e n hx=>?_,I.base.there,fun b ys e=>?_,fun b o' u e=>?_,fun b p r e=>?_⟩,I.loc,I.cell,?_,fun x c e=>?_,fun p hp=>?_,fun b u e=>?_,I.len⟩
  · have q:=I.base.free b o' e n hx
    rw [upd_ne (nn b q)]
    exact q
  · have q:=I.base.tups b ys e
    rw [upd_ne (ne b _ q (by intro z; cases z))]
    exact q
  · have q:=I.base.frzs b o' u e
    rw [upd_ne (fun z=>h0 o' u (by rw [← z]; exact e))]
    exact q
  · have q:=I.base.tbls b p r e
    rw [upd_ne (ne b _ q (by intro z; cases z))]
    exact q
  · rw [upd_ne (nn _ I.free)]
    exact I.free
  · rw [upd_ne (nn _ (I.freeC x c e))]
    exact I.freeC x c e
  · obtain ⟨a1,a2,a3⟩:=I.pin p hp
    exact ⟨a1,by rw [upd_ne (nn _ a2)]; exact a2,a3⟩
  · by_cases hb:b=d
    · subst hb
      rw [upd_same] at e
      cases e
      exact (I.hok b _ h).2
    · rw [upd_ne hb] at e
      exact (I.hok b u e).stay (fun _ _ _ z=>z) (fun c z=>by rw [upd_ne (ne c _ z (by intro y; cases y))]; exact z) (fun c ys z=>by rw [upd_ne (ne c _ z (by intro y; cases y))]; exact z) fun c oz z=>by rw [upd_ne (ne c _ z (by intro y; cases y))]; exact z
theorem tail_key {a kS:Addr} {st:SortSt} {e1:Nat} {H1:Hp} {ns:List Int} {key:Int→Int} {keys:Array Value} {its:List Value} {ks:List V} {A:Around} {E:Value→Shared→Prop} {R:PySem.Fin→Shared→Prop} (I:Inv X pins σ H1 s) (hk:IntsAre keys.toList (ns.map key)) (hv:IntsAre its ns) (nd:ns.Nodup) (h64:ns.length<64)
    (ha:H1 a=some (.frz (seqObj "list" #[] e1) (.lst []))) (h0:∀ o' u,X.H₀ a≠some (.frz o' u)) (hkS:H1 kS=some (.lst ks)) (hlk:ks.length≤64) (hp:(arrOf st).Perm (keys.zip its.toArray)) (hi:Inc (fun p=>ns.idxOf (numOf p.2)) (arrOf st) (arrOf st).size) (hf:failedOf st=none)
    (h:∀ (H':Hp) (s':Shared) (os:List Int),Inv X pins σ H' s'→(∀ b,b≠a→b≠kS→H' b=H1 b)→H' a=some (.lst (os.map V.int))→os.Perm ns→os.Pairwise (KLt key ns)→R (.done (.ret .none)) s') :
    wpAny (model X.prog X.w) A (ksk_tail a false e1 (.ref kS) st) R E s:=by
  have nak:a≠kS:=fun z=>by rw [z,hkS] at ha; cases ha
  obtain ⟨os,vo,po,so⟩:=(sort_out hk hv nd).2 _ hp hi
  have lo:=po.length_eq
  unfold ksk_tail
  try dsimp only
  obtain ⟨_,itsK,n,rK,hlK,eK⟩:=I.lstM hkS
  have lK:itsK.length≤64:=by have:=rK.length; lia
  refine wpAny_bind (listUpdate_at eK rfl ?_ (by rw [List.size_toArray,sizeLine_eq]; lia) (Nat.zero_le _))
  have I6:=I.lset (t':=s.toks) (f:=fun _=>#[]) (its':=[]) (ys:=[]) hkS eK rfl .nil (Nat.zero_le _)
  have ha6:upd H1 kS (.lst []) a=some (.frz (seqObj "list" #[] e1) (.lst [])):=by rw [upd_ne nak]; exact ha
  have oa:=(I6.hok a _ ha6).1
  refine wpAny_bind (wpAny_letGo ?_)
  refine wpAny_bind (seqEpoch_at oa rfl ?_)
  have lo2:((arrOf st).map (·.2)).size=ns.length:=by
    have e:=vo.length
    rw [List.length_map] at e
    have e2:((arrOf st).map (·.2)).toList.length=((arrOf st).map (·.2)).size:=Array.length_toList
    lia
  refine wpAny_bind (listUpdate_at oa rfl ?_ (Nat.zero_le _) (by simp only [Bool.false_eq_true,if_false]; rw [lo2,sizeLine_eq]; lia))
  rw [hf]
  simp only [bne_self_eq_false,Bool.false_eq_true,if_false]
  have I7:=I6.thawedL ha6 h0
  have I8:=I7.lset (t':=s.toks) (f:=fun _=>(arrOf st).map (·.2)) (its:=[]) (its':=((arrOf st).map (·.2)).toList) (ys:=os.map V.int) upd_same oa (by exact (Array.toArray_toList).symm) vo (by rw [List.length_map,sizeLine_eq]; lia)
  refine wpAny_pure (h _ _ os I8 (fun b n1 n2=>?_) upd_same po so)
  rw [upd_ne n1,upd_ne n1,upd_ne n2]
theorem end_key {a kS:Addr} {e1:Nat} {H1:Hp} {ns:List Int} {key:Int→Int} {keys:Array Value} {its:List Value} {ks:List V} {A:Around} {E:Value→Shared→Prop} {R:PySem.Fin→Shared→Prop} (I:Inv X pins σ H1 s) (hk:IntsAre keys.toList (ns.map key)) (hv:IntsAre its ns) (nd:ns.Nodup) (h64:ns.length<64)
    (ha:H1 a=some (.frz (seqObj "list" #[] e1) (.lst []))) (h0:∀ o' u,X.H₀ a≠some (.frz o' u)) (hkS:H1 kS=some (.lst ks)) (hlk:ks.length≤64)
    (h:∀ (H':Hp) (s':Shared) (os:List Int),Inv X pins σ H' s'→(∀ b,b≠a→b≠kS→H' b=H1 b)→H' a=some (.lst (os.map V.int))→os.Perm ns→os.Pairwise (KLt key ns)→R (.done (.ret .none)) s') :
    wpAny (model X.prog X.w) A (ksk_end a false its.toArray e1 (.ref kS) keys) R E s:=by
  have lk:keys.size=ns.length:=by have:=hk.length; rw [Array.length_toList,List.length_map] at this; lia
  have lv:its.length=ns.length:=by have:=hv.length; lia
  have hzs:(keys.zip its.toArray).size=ns.length:=by rw [Array.size_zip,lk,List.size_toArray,lv,Nat.min_self]
  obtain ⟨idn,_⟩:=sort_out hk hv nd
  unfold ksk_end
  simp only [Bool.false_eq_true,if_false]
  by_cases h2:its.toArray.size<2
  · rw [if_pos h2,if_pos h2]
    refine wpAny_bind (wpAny_pure ?_)
    rw [StateT.run_pure]
    refine wpAny_bind (wpAny_pure ?_)
    try dsimp only
    refine tail_key (st:=SortSt.mk' general' (keys.zip its.toArray) #[] 7 none) I hk hv nd h64 ha h0 hkS hlk (Array.Perm.refl _) (fun i j hij hj=>?_) rfl h
    have hj2:j<(keys.zip its.toArray).size:=hj
    rw [List.size_toArray] at h2
    lia
  · rw [if_neg h2,if_neg h2]
    rw [List.size_toArray] at h2
    rw [ksk_kind hk (by rw [lk]; lia)]
    refine wpAny_bind (wpAny_pure ?_)
    refine wpAny_bind (wpAny_mono (runs_ok (ρ:=fun p=>ns.idxOf (numOf p.2)) (a₀:=keys.zip its.toArray) (st:=SortSt.mk' oneType' (keys.zip its.toArray) #[] 7 none)
      (Q:=fun _ st1=>(arrOf st1).Perm (keys.zip its.toArray)∧failedOf st1=none∧Inc (fun p=>ns.idxOf (numOf p.2)) (arrOf st1) (keys.zip its.toArray).size)
      (ksk_intKeys hk) idn ⟨Array.Perm.refl _,rfl,rfl,rfl⟩ idn (by rw [hzs]; lia) (by rw [hzs]; exact h64) fun st1 a1 a2 a3=>⟨a1,a2,a3⟩) ?_ fun _ _ e=>e)
    rintro ⟨⟨⟩,st1⟩ s1 ⟨rfl,hp,hf,hs⟩
    try dsimp only
    exact tail_key I hk hv nd h64 ha h0 hkS hlk hp (by rw [hp.size_eq]; exact hs) hf h
theorem sort_key {l f:Addr} {ns:List Int} {key:Int→Int} {Q:VK} {E:Value→Shared→Prop} (I:Inv X pins σ H s) (hq:SqL X.K H l (ns.map V.int)) (h64:ns.length<64) (nd:ns.Nodup)
    (turn:∀ z∈ns,∀ H1 s1 u,Same H H1→Inv X pins σ H1 s1→RelV (.int z) u→wpAny (model X.prog X.w) X.A.in1.in1 (call (.ref f) [u]) (EP X pins σ fun v H'=>v=.int (key z)∧H'=H1) (fun _ _=>False) s1)
    (q:∀ (D:Addr) (H':Hp) (os:List Int),H D=none→Same H H'→H' D=some (.lst (os.map V.int))→os.Perm ns→os.Pairwise (KLt key ns)→Q (.ref D) H') :
    wpAny (model X.prog X.w) X.A (call (.builtin "sorted") [.ref l] [(Str.ofString "key",.ref f)]) (EP X pins σ Q) E s:=by
  obtain ⟨its,rv,pl,hz⟩:=I.list hq
  have hv:=intsAre_of rv
  have lv:its.length=ns.length:=by have:=rv.length; rw [List.length_map] at this; exact this.symm
  refine call_function_entry_kw kind_sorted plain_sorted entry_sorted (ksk_s1 _ _) ?_
  unfold Builtin.«sorted»
  refine wpAny_bind (m:=checkCount "sorted" 1 1 _) (wpAny_pure ?_)
  refine wpAny_bind (collect_list pl.isList ?_ (by rw [sizeLine_eq]; lia))
  refine wpAny_bind (wpAny_newList ?_ (by rw [sizeLine_eq]; lia))
  have hsz:((s.heap.push (seqObj "list" #[] 0)).update s.heap.objs.size (Obj.mapSeq (·++its.toArray))).objs.size=s.heap.objs.size+1:=by
    rw [Heap.size_update,size_push']
  have hoL:(((s.heap.push (seqObj "list" #[] 0)).update s.heap.objs.size (Obj.mapSeq (·++its.toArray))).push (seqObj "list" its.toArray 0)).get? (s.heap.objs.size+1)=some (seqObj "list" its.toArray 0):=by
    rw [← hsz]
    exact Heap.get?_push_size _ rfl
  have keep:∀ b o,s.heap.get? b=some o→(((s.heap.push (seqObj "list" #[] 0)).update s.heap.objs.size (Obj.mapSeq (·++its.toArray))).push (seqObj "list" its.toArray 0)).get? b=some o:=fun b o e=>by
    have lt:b<s.heap.objs.size:=Heap.lt_size e
    rw [Heap.get?_push_ne _ _ _ (by rw [hsz]; exact Nat.ne_of_lt (Nat.lt_succ_of_lt lt)),Heap.get?_update_ne _ _ _ _ (Nat.ne_of_lt lt),Heap.get?_push_ne _ _ _ (Nat.ne_of_lt lt)]
    exact e
  show wpAny _ _ _ _ _ { s with heap:=((s.heap.push (seqObj "list" #[] 0)).update s.heap.objs.size (Obj.mapSeq (·++its.toArray))).push (seqObj "list" its.toArray 0) }
  rw [hsz]
  have hsz1:(((s.heap.push (seqObj "list" #[] 0)).update s.heap.objs.size (Obj.mapSeq (·++its.toArray))).push (seqObj "list" its.toArray 0)).objs.size=s.heap.objs.size+2:=by rw [size_push',hsz]
  generalize ((s.heap.push (seqObj "list" #[] 0)).update s.heap.objs.size (Obj.mapSeq (·++its.toArray))).push (seqObj "list" its.toArray 0)=h1 at *
  refine wpAny_bind (wpAny_holding (wpAny_call_entry_kw slot_list_sort ⟨_,hoL,rfl⟩ entry_list_sort ?body (ksk_l1 _ _)))
  case body =>
    show wpAny (model X.prog X.w) X.A.in1.in1 (Builtin.«list.sort» ⟨[.ref (s.heap.objs.size+1)],[(Str.ofString "key",.ref f)]⟩) _ _ _
    rw [ksk_t1]
    unfold ksk_tree
    refine wpAny_bind (listItems_at hoL rfl ?_)
    refine wpAny_bind (listUpdate_at hoL rfl ?_ (by rw [List.size_toArray,sizeLine_eq]; lia) (Nat.zero_le _))
    obtain ⟨e1,ho1⟩:∃ e1,(h1.update (s.heap.objs.size+1) (Obj.mapSeq fun _=>(#[]:Array Value))).get? (s.heap.objs.size+1)=some (seqObj "list" #[] e1):=⟨_,get?_update_seq hoL fun _=>#[]⟩
    have keep2:∀ b o,s.heap.get? b=some o→(h1.update (s.heap.objs.size+1) (Obj.mapSeq fun _=>(#[]:Array Value))).get? b=some o:=fun b o e=>by
      have lt:b<s.heap.objs.size:=Heap.lt_size e
      rw [Heap.get?_update_ne _ _ _ _ (Nat.ne_of_lt (Nat.lt_succ_of_lt lt))]
      exact keep b o e
    generalize h1.update (s.heap.objs.size+1) (Obj.mapSeq fun _=>(#[]:Array Value))=h2 at *
    refine wpAny_bind (seqEpoch_at ho1 rfl ?_)
    refine wpAny_bind (wpAny_newTuple ?_ (by show its.length≤_; rw [sizeLine_eq]; lia))
    refine wpAny_bind (wpAny_newList ?_ (Nat.zero_le _))
    refine wpAny_holding ?_
    have fr:H (s.heap.objs.size+1)=none:=I.hok.fresh (Nat.le_succ _)
    have h0:∀ o' u,X.H₀ (s.heap.objs.size+1)≠some (.frz o' u):=fun o' u e=>by rw [I.base.frzs _ _ _ e] at fr; cases fr
    have ho2:(h2.push (seqObj "tuple" its.toArray 0)).get? (s.heap.objs.size+1)=some (seqObj "list" #[] e1):=Heap.get?_push_of_some _ ho1
    have I3:=I.laid (a:=s.heap.objs.size+1) (t':=s.toks) (o:=.frz (seqObj "list" #[] e1) (.lst [])) (h':=h2.push (seqObj "tuple" its.toArray 0)) (fun b o e=>Heap.get?_push_of_some _ (keep2 b o e)) (Nat.le_succ _) ⟨ho2,Nat.zero_le _,[],e1,.nil,ho2⟩
    have fr3:=I3.hok.fresh (Nat.le_refl _)
    have I4:=I3.laid (t':=s.toks) (o:=.lst []) (h':=(h2.push (seqObj "tuple" its.toArray 0)).push (seqObj "list" #[] 0)) (fun b o e=>Heap.get?_push_of_some _ e) (Nat.le_refl _) ⟨Nat.zero_le _,[],0,.nil,Heap.get?_push_size _ rfl⟩
    have nak:s.heap.objs.size+1≠(h2.push (seqObj "tuple" its.toArray 0)).objs.size:=ne_of_none upd_same fr3
    have sm:Same H (upd (upd H (s.heap.objs.size+1) (.frz (seqObj "list" #[] e1) (.lst []))) (h2.push (seqObj "tuple" its.toArray 0)).objs.size (.lst [])):=(same_upd fr _).trans (same_upd fr3 _)
    have frK:H (h2.push (seqObj "tuple" its.toArray 0)).objs.size=none:=(same_upd fr _).free fr3
    have hkS0:upd (upd H (s.heap.objs.size+1) (.frz (seqObj "list" #[] e1) (.lst []))) (h2.push (seqObj "tuple" its.toArray 0)).objs.size (.lst []) (h2.push (seqObj "tuple" its.toArray 0)).objs.size=some (.lst []):=upd_same
    have ha0:upd (upd H (s.heap.objs.size+1) (.frz (seqObj "list" #[] e1) (.lst []))) (h2.push (seqObj "tuple" its.toArray 0)).objs.size (.lst []) (s.heap.objs.size+1)=some (.frz (seqObj "list" #[] e1) (.lst [])):=by rw [upd_ne nak]; exact upd_same
    generalize upd (upd H (s.heap.objs.size+1) (.frz (seqObj "list" #[] e1) (.lst []))) (h2.push (seqObj "tuple" its.toArray 0)).objs.size (.lst [])=H4 at *
    show wpAny (model X.prog X.w) X.A.in1.in1 (ksk_rest (s.heap.objs.size+1) (.ref f) false its.toArray e1 (.ref (h2.push (seqObj "tuple" its.toArray 0)).objs.size)) _ _ { s with heap:=(h2.push (seqObj "tuple" its.toArray 0)).push (seqObj "list" #[] 0) }
    generalize (h2.push (seqObj "tuple" its.toArray 0)).objs.size=kS at *
    generalize (h2.push (seqObj "tuple" its.toArray 0)).push (seqObj "list" #[] 0)=h4 at *
    unfold ksk_rest
    refine wpAny_bind (wpAny_rule ?_)
    rw [List.forIn_toArray]
    refine wpAny_bind (ksk_fold (fun i s1=>∃ H1:Hp,Inv X pins σ H1 s1∧Same H H1∧H1 (s.heap.objs.size+1)=some (.frz (seqObj "list" #[] e1) (.lst []))∧H1 kS=some (.lst (((ns.take i).map key).map V.int))) its 0 _
      ⟨H4,I4,sm,ha0,hkS0⟩ ?step ?done)
    case step =>
      rintro j x s1 hx ⟨H1,I1,s1',a1,k1⟩
      simp only [Nat.zero_add] at k1 ⊢
      obtain ⟨z,t,hz',rfl⟩:=ints_get hv hx
      have hj:j<ns.length:=(List.getElem?_eq_some_iff.mp hz').1
      refine wpAny_bind (wpAny_attempt (wpAny_mono (turn z (List.mem_of_getElem? hz') H1 s1 _ s1' I1 ⟨t,rfl⟩) (fun v s2 he=>?_) fun _ _ hF=>hF.elim))
      obtain ⟨v',H',I2,r2,rfl,rfl⟩:=he
      try dsimp only
      obtain ⟨_,itsK,n,rK,hlK,eK⟩:=I2.lstM k1
      have lK:itsK.length≤ns.length:=by
        have:=rK.length
        rw [List.length_map,List.length_map,List.length_take] at this
        lia
      refine wpAny_bind (listUpdate_at eK rfl ?_ (by rw [List.size_toArray,sizeLine_eq]; lia) (by rw [Array.size_push,List.size_toArray,sizeLine_eq]; lia))
      have ek:ns.take (j+1)=ns.take j++[z]:=by rw [List.take_succ,hz']; rfl
      have I5:=I2.lset (t':=s2.toks) (f:=(·.push v)) (its':=itsK++[v]) (ys:=((ns.take (j+1)).map key).map V.int) k1 eK (by simp) (by rw [ek,List.map_append,List.map_append]; exact rK.append (.cons r2 .nil)) (by rw [List.length_map,List.length_map,List.length_take,sizeLine_eq]; lia)
      refine wpAny_pure ⟨rfl,_,I5,fun b o y=>?_,?_,upd_same⟩
      · rw [upd_ne (ne_of_none y frK)]
        exact s1' _ _ y
      · rw [upd_ne nak]
        exact a1
    case done =>
      rintro s1 ⟨H1,I1,s1',a1,k1⟩
      rw [Nat.zero_add,lv,List.take_length] at k1
      obtain ⟨_,itsK,n,rK,hlK,eK⟩:=I1.lstM k1
      try dsimp only
      refine wpAny_bind (listItems_at eK rfl ?_)
      refine end_key (ns:=ns) (key:=key) I1 (by simpa using intsAre_of rK) hv nd h64 a1 h0 k1 (by rw [List.length_map,List.length_map]; lia) fun H' s2 os I2 oth hD po so=>⟨_,rfl,?_⟩
      refine wpAny_pure ⟨_,rfl,.ref (s.heap.objs.size+1),H',I2,rfl,q _ H' os fr (fun b o y=>?_) hD po so⟩
      rw [oth b (ne_of_none y fr) (ne_of_none y frK)]
      exact s1' _ _ y
end
end L2
set_option Elab.async false
set_option linter.all false
set_option maxRecDepth 100000
set_option maxHeartbeats 4000000
namespace L2
open PySem PySem.Spec PyProof.Rows
structure MDef (P:Program) (w:World) (K:PySem.W.Frag) (mg:Str→Option Value) (base:Heap) (C:Addr) (m:Str) (k:Nat) (ps:List Str) (sp:Sp):Prop where
  ex:∃ (f:Addr) (fd:FuncData),FnOk P w K mg base CX0 k f fd ps sp∧Meth K C m f∧Binds K fd ps []
structure KDef (P:Program) (w:World) (K:PySem.W.Frag) (mg:Str→Option Value) (base:Heap) (C:Addr) (x:Str) (k:Nat) (ps:List Str) (sp:Sp):Prop where
  ex:∃ (f:Addr) (fd:FuncData),FnOk P w K mg base CX0 k f fd ps sp∧Mk K C f∧mg x=some (.ref C)∧Binds K fd ps []
section
variable {X:Cx} {x m:Str} {p pos apos:Pos} {e o:PySem.Expr} {es:List PySem.Expr} {ta:TE} {t:TA} {k:Nat} {ps:List Str} {sp:Sp} {C:Addr}
theorem pe_methN {pl:Sem Bool} (M:MDef X.prog X.w X.K X.mg X.base C m k ps sp) (hr:Room k X.A) (c:Cls X.K C) (he:PE X o ta) (ha:PA X (e :: es) t) (hn:NSs (e :: es):=by repeat' (first | exact True.intro | refine ⟨?_,?_⟩))
    (ht:eval (.Call (.Attribute o m apos) (e :: es) [] pos) X.env=(do
      let ov ← eval o X.env
      standAt apos.atName
      let (f,first) ← holding [ov] (getMethod ov m pl)
      callWith pos f first (backTo pos (starEach (e :: es) X.env)) (backToKw pos (keywordEach [] X.env))):=by rfl) :
    PE X (.Call (.Attribute o m apos) (e :: es) [] pos) (tMeth C m sp [] E0 ta t):=by
  obtain ⟨f,fd,F,hm,hb⟩:=M.ex
  exact pe_meth he c hm F hr hb .nil pass0 ha (star_ns hn.1) (back_ns hn.2) ht
theorem pe_makeN (M:KDef X.prog X.w X.K X.mg X.base C x k ps sp) (hr:Room (k+1) X.A) (hg:Gl X x) (ha:PA X (e :: es) t) (hn:NSs (e :: es):=by repeat' (first | exact True.intro | refine ⟨?_,?_⟩)) (hd:(x == ("__debug__" : Str))=false:=by decide) :
    PE X (.Call (.Name x p) (e :: es) [] pos) (tMake C sp [] E0 t):=by
  obtain ⟨f,fd,F,M',hm,hb⟩:=M.ex
  exact pe_make M' F hr hg hm hb .nil pass0 ha (hdb:=hd) (he:=star_ns hn.1) (hpl:=back_ns hn.2)
def tNo:TS:=fun _ _ _=>False
theorem ps_no {st:Stmt}:PS X st tNo:=fun _ _ _ _ _ _ h=>False.elim h
end
theorem Fun.okC {P:Program} {w:World} {K:PySem.W.Frag} {mg:Str→Option Value} {base:Heap} {x qual:Str} {st:Stmt} {f:Addr} {fd:FuncData} {N ps:List Str} {k:Nat} {sp:Sp} (F:Fun K x qual st f fd) (S:FnScope N ps (defScope st)) (len:∀ vs H Q E,sp vs H Q E→vs.length=ps.length)
    (hbody:∀ (cdv:Value) (A:Around) (outer:List Env) (s:Shared) (H:Hp) (vs:List V) (Q:VK) (E:XK),fd.code=cdv→Room k (A.deeper (envOfC qual (defScope st) s.heap.objs.size f cdv))→sp vs H Q E →
      ∃ t,PSs (cxOf CX0 P w K mg base N qual (defScope st) f cdv A outer s H E).nox (defBody st) t∧t { nx:=fun _ H'=>Q .non H',rt:=Q } (start N vs) H):FnOk P w K mg base CX0 (k+1) f fd ps sp:=by
  obtain ⟨oc,od,kV,doc,pm,an,cdv,ct,osl,rfl,lk,hcd⟩:=F.ex
  refine fn_of lk hcd S len fun A outer s H vs Q E hr hsp=>?_
  obtain ⟨t,h,q⟩:=hbody cdv A outer s H vs Q E rfl hr hsp
  exact ⟨t,h.nox,q⟩
theorem pe_fldK {X:Cx} {K:PySem.W.Frag} {e:PySem.Expr} {f:Str} {pos:Pos} {ta:TE} (hK:X.K=K) (he:PE X e ta) (hb:attributeBase e f X.env (eval e X.env)=eval e X.env):PE X (.Attribute e f pos) (tFld K ta f):=by
  subst hK
  exact pe_fld he hb
def lamB (osc:Scope) (oN:List Str) (scope:Scope) (x:Str) (fr:List Str) (js:List Nat):Bool :=
  scope.kind == .function && !scope.isCoroutine && !scope.isGenerator && scope.names.all (fun y=>y.2 != .cell) && scope.names.lookup x == some .local &&
  scope.names.all (fun y=>y.2 != .free || (osc.names.lookup y.1 == some .cell || osc.names.lookup y.1 == some .free)) && fr.length == js.length &&
  (js.map fun j=>oN[j]?) == fr.map some && fr.all fun y=>scope.names.lookup y == some .free
theorem lamOk_of {X:Cx} {osc:Scope} {oN:List Str} {scope:Scope} {x:Str} {fr:List Str} {js:List Nat} (h:lamB osc oN scope x fr js=true) (hs:X.env.scope=osc) (hN:X.N=oN):LamOk X scope x fr js:=by
  unfold lamB at h
  simp only [Bool.and_eq_true,List.all_eq_true,Bool.or_eq_true,beq_iff_eq,bne_iff_ne,ne_eq,Bool.not_eq_true'] at h
  obtain ⟨⟨⟨⟨⟨⟨⟨⟨h1,h2⟩,h3⟩,h4⟩,h5⟩,h6⟩,h7⟩,h8⟩,h9⟩:=h
  refine ⟨h1,h2,h3,h4,h5,fun y hy hf=>?_,h7,fun k j e=>?_,fun k y e=>h9 y (List.mem_of_getElem? e)⟩
  · rcases h6 y hy with q | q
    · exact absurd hf q
    · show X.env.scope.names.lookup y.1=_∨X.env.scope.names.lookup y.1=_
      rw [hs]; exact q
  · rw [hN]
    have z:=congrArg (fun l=>l[k]?) h8
    simp only [List.getElem?_map,e,Option.map_some] at z
    cases q:fr[k]? with
    | none=>rw [q] at z; cases z
    | some y=>rw [q] at z; exact (Option.some.inj z).symm
theorem hu_lam {A:Around} {k:Nat} {env:Env} (hr:Room k A):(A.in1.in1.deeper env).units+1<cLine:=by
  have:=hr.un
  show A.units+1+1+3+1<cLine
  lia
def rSortK (K:PySem.W.Frag) (P:Addr) (lpos:Pos) (qual:Str) (js:List Nat) (te:TE) (σ:St) (Q:VK) (x:V) (H1:Hp):Prop:=∃ (l:Addr) (ns:List Int) (key:Int→Int),x=.ref l∧SqL K H1 l (ns.map V.int)∧ns.length<64∧ns.Nodup∧H1 P=some (.tbl lpos qual) ∧
  (∀ z∈ns,∀ H2,Same H1 H2→te (some (.int z) :: js.map fun j=>(σ[j]?).join) H2 fun v H'=>v=.int (key z)∧H'=H2) ∧
  ∀ (D:Addr) (H':Hp) (os:List Int),H1 D=none→Same H1 H'→H' D=some (.lst (os.map V.int))→os.Perm ns→os.Pairwise (KLt key ns)→Q (.ref D) H'
def tSortK (K:PySem.W.Frag) (P:Addr) (lpos:Pos) (qual:Str) (js:List Nat) (txs te:TE):TE:=fun σ H Q=>txs σ H fun x H1=>rSortK K P lpos qual js te σ Q x H1
section
variable {X:Cx}
theorem pe_sortK {K:PySem.W.Frag} {P c0:Addr} {k:Nat} {y:Str} {fr:List Str} {js:List Nat} {qual:Str} {params:Arguments} {body xs:PySem.Expr} {scope:Scope} {p pos lpos kpos:Pos} {txs te:TE} (hK:X.K=K) (hr:Room k X.A) (hcl:X.calm=true) (hg:Gl X "sorted") (hm:X.mg "sorted" = none)
    (c:LamOk X scope y fr js) (hc0:X.env.code=.ref c0) (hcd:PySem.W.codeHdIn X.K c0 P=true) (bm:BMod X.base X.mg) (hq:X.env.qual ++ "<lambda>" = qual) (hd0:params.defaults=[]) (hk0:params.kw_defaults=[])
    (hb:∀ cl pm cd ct u,bindArgs (PySem.W.kla_fn "<lambda>" qual params body scope cl pm cd ct) ⟨[u],[]⟩=pure [(y,u)]) (ha:PE X xs txs)
    (he:∀ f cd cl s H,PE (cxLam X X.A.in1.in1 (y :: fr) qual scope f cd cl s H) body te) (hn:NSs [xs]:=by repeat' (first | exact True.intro | refine ⟨?_,?_⟩)) :
    PE X (.Call (.Name "sorted" p) [xs] [⟨some "key",.Lambda params body scope lpos,kpos⟩] pos) (tSortK K P lpos qual js txs te):=by
  subst hK
  subst hq
  intro pins s σ H Q I h
  refine wpAny_Call_Name_kw (ld_blt I hg hm boot_sorted ?_ (by decide) (by decide))
  refine callWith_kw (thA ((pc ha pa_nil hn.1) pos pins s σ H (fun vs H1=>match vs with | [x]=>rSortK X.K P lpos (X.env.qual ++ "<lambda>") js te σ Q x H1 | _=>False) I h) fun us s1 vs H1 I1 r1 q1=>?_) (by rw [star_ns hn.1]; rfl) (by rw [star_ns hn.1]; rfl) rfl rfl
  match vs,r1,q1 with
  | [],_,z=>exact z.elim
  | _ :: _ :: _,_,z=>exact z.elim
  | [x],r1,q1 =>
    obtain ⟨l,ns,key,rfl,hS,h64,nd,hP,ht,q⟩:=q1
    obtain ⟨u,rfl,ru⟩:=vals1 r1
    cases ru
    show wpAny _ _ (evalAll [(do let v ← eval (.Lambda params body scope lpos) X.env; standAt pos; pure v)]) _ _ s1
    refine wpAny_evalAll_cons (wpAny_bind (lam_make c I1 hc0 hcd bm hP hd0 hk0 fun f cl cd pm ct of H2 s2 I2 sm cl1 cl2 hf hof hcode=>wpAny_bind (wpAny_standAt (wpAny_pure (wpAny_evalAll_nil ?_)))))
    show wpAny _ _ (call (.builtin "sorted") [.ref l] [(Str.ofString "key",.ref f)]) _ _ s2
    refine sort_key I2 (sm.seq hS) h64 nd (fun z hz H3 s3 u sm3 I3 ru=>?_) fun D H' os hD sm' hl po so=>q D H' os (sm.free hD) (sm.trans sm') hl po so
    have of3:=(I3.hok f _ (sm3 _ _ hf)).1
    obtain ⟨c',oc,vs',t',rfl,hc',hd',hv'⟩:=hcode
    have oc3:=(I3.hok c' _ (sm3 _ _ hc')).1
    exact lam_call (A:=X.A.in1.in1) c I3 I3.ok.frames (I3.ok.hd hcl) hr.depth cl1 cl2 of3 hof ⟨c',oc,vs',t',rfl,oc3,hd',hv'⟩ (hb cl pm _ ct) ru (fun s=>he f _ cl s H3) (ht z hz H3 (sm.trans sm3))
end
end L2
set_option Elab.async false
set_option linter.all false
set_option maxRecDepth 100000
set_option maxHeartbeats 4000000
namespace L2
open PySem PySem.Spec PyProof.Rows
theorem law_callT {P:Program} {w:World} {K:PySem.W.Frag} {mg mb:Str→Option Value} {CX:CXT} {k:Nat} {fa a tp c0:Addr} {pos:Pos} {qual:Str} {fd:FuncData} {x:Str} {sp:Sp} {s₁:Shared} {vs:List Value} {ns:List Int}
    (KX:K.In s₁.heap) (hns:s₁.heap.Ns mainGlobals mg) (hb:s₁.heap.Ns builtinsNs mb) (hbb:∀ x:Str,x ≠ "__name__" → mb x=bootBuiltins x) (hlim:s₁.heap.NoLimit) (hg:s₁.gens=#[])
    (ha:s₁.heap.get? a=some { cls:=.type "list",data:=.seq vs.toArray }) (hi:IntsAre vs ns) (hl:ns.length≤sizeLine) (hr:Room k callerA)
    (htp:s₁.heap.get? tp=some { cls:=.none,data:=.fields #[] }) (hch:PySem.W.codeHdIn K c0 tp=true) (hKt:K.lookup tp=none)
    (hbm:BMod s₁.heap mg) (F:∀ base:Heap,K.In base→base.Ns mainGlobals mg→BMod base mg→FnOk P w K mg base CX k fa fd [x] sp) (hbind:∀ (s:Shared) (u:Value),BindsTo s fd ⟨[u],[]⟩ [(x,u)])
    (hsp:∀ H:Hp,H tp=some (.tbl pos qual)→SqL K H a (ns.map V.int)→sp [.ref a] H (fun v _=>v=.bl true) fun _ _ _=>False)
    (hCX:∀ H e s',CX [] H s₁ (fun _ _ _=>False) e s'→False) :
    codeAny (model P w) callerA (.call (.ref fa) ⟨[.ref a],[]⟩) (fun r s'=>r=.ok (.ret (.bool true))∧OldK s₁.heap s'.heap∧s'.os=s₁.os∧AllBare s'.gens) s₁:=by
  have rv:=vals_ints hi
  have lenV:=hi.length
  have nat:a≠tp:=fun z=>by rw [z,htp] at ha; cases ha
  have core:∀ H:Hp,H tp=some (.tbl pos qual)→SqL K H a (ns.map V.int)→HOk P w H s₁.heap→(∀ b,H b≠none→b=tp∨(b=a∧∃ o xs,H b=some (.frz o (.lst xs))))→(H a≠none→K.lookup a=none) →
      codeAny (model P w) callerA (.call (.ref fa) ⟨[.ref a],[]⟩) (fun r s'=>r=.ok (.ret (.bool true))∧OldK s₁.heap s'.heap∧s'.os=s₁.os∧AllBare s'.gens) s₁:=by
    intro H hT hS hok hA hK
    have noD:∀ {b:Addr} {o:Obj} {es:Array DictEntry} {ep:Nat},s₁.heap.get? b=some o→o.data=.dict es ep→H b=none:=fun {b o es ep} e d=>by
      cases q:H b with
      | none=>rfl
      | some u =>
        rcases hA b (by rw [q]; simp) with z | ⟨z,_⟩
        · rw [z,htp] at e
          cases e
          cases d
        · rw [z,ha] at e
          cases e
          cases d
    have nsK:∀ {b:Addr} {m:Str→Option Value},s₁.heap.Ns b m→(hidT s₁.heap H).Ns b m:=fun {b m} ⟨o,es,ep,e,d,r⟩=>⟨o,es,ep,hidT_get e (noD e d),d,r⟩
    have hKb:K.In (hidT s₁.heap H):=fun b o e=>hidT_get (KX b o e) (by
      cases q:H b with
      | none=>rfl
      | some u =>
        rcases hA b (by rw [q]; simp) with z | ⟨z,_⟩
        · rw [z,hKt] at e
          cases e
        · have n:H a≠none:=by rw [← z,q]; simp
          rw [z,hK n] at e
          cases e)
    have hM:Mod K mg (hidT s₁.heap H):=⟨hKb,nsK hns,⟨mb,nsK hb,hbb⟩,let ⟨mc,h1,h2⟩:=hlim; ⟨mc,nsK h1,h2⟩⟩
    have e0:Env0 P w K mg (hidT s₁.heap H) callerA [] s₁ H:=⟨rfl,hM,fun b o e=>of_hidT e,Nat.le_of_eq (hidT_size _ _),trivial,fun b hb=>absurd (show b∈([]:List Addr) from hb) (by simp),hok,.of_eq hg⟩
    have hB:BMod (hidT s₁.heap H) mg:=by
      obtain ⟨b,o,a1,a2,a3,a4,a5,a6,a7⟩:=hbm
      refine ⟨b,o,a1,a2,a3,hidT_get a4 ?_,a5,a6,a7⟩
      cases q:H b with
      | none=>rfl
      | some u =>
        rcases hA b (by rw [q]; simp) with z | ⟨z,_⟩
        · rw [z,htp] at a4
          cases a4
          cases a5
        · rw [z,ha] at a4
          cases a4
          have a8:Value.type "list" = Value.type "module" := a5
          injection a8 with a8
          exact absurd a8 (by decide)
    refine codeAny_mono ((F _ hKb (nsK hns) hB).run callerA [] s₁ H ⟨[.ref a],[]⟩ [.ref a] [.ref a] _ _ hr e0 (hbind s₁ (.ref a)) (.cons rfl .nil) (hsp H hT hS)) fun r s' h=>?_
    cases r with
    | error e=>exact (hCX H e s' h).elim
    | ok fl =>
      cases fl with
      | next=>exact False.elim h
      | brk=>exact False.elim h
      | cont=>exact False.elim h
      | ret u =>
        obtain ⟨v,H',os,bare,un,hok',r',q⟩:=h
        have q':v=.bl true:=q
        subst q'
        obtain rfl:u=Value.bool true:=r'
        have tab:=(PySem.W.codeHd_of_K KX hch).tab htp
        have t2:=hok' tp _ (un.tbls _ _ _ hT)
        obtain ⟨ps,hps,_⟩:=t2
        have old:∀ b o,s₁.heap.get? b=some o→b≠tp→s'.heap.get? b=some o:=fun b o e nb=>by
          cases q:H b with
          | none=>exact un.keep b o e q (by intro z; exact absurd (show b∈([]:List Addr) from z) (by simp)) (by simp)
          | some u =>
            rcases hA b (by rw [q]; simp) with z | ⟨_,ob,xs,z⟩
            · exact absurd z nb
            · have z2:=un.frzs b ob _ z
              obtain ⟨e1,_⟩:=hok b _ z
              obtain ⟨e2,_⟩:=hok' b _ z2
              rw [e] at e1
              cases e1
              exact e2
        refine ⟨rfl,⟨fun b o e=>?_,fun b o e=>?_⟩,os,bare⟩
        · by_cases nb:b=tp
          · subst nb
            rw [htp] at e
            cases e
            exact .inr (.inl ⟨tab.isCodeTable,rfl,#[],ps,rfl,by rw [hps]; simp⟩)
          · exact .inl (old b o e nb)
        · by_cases nb:b=tp
          · subst nb
            exact ⟨_,hps⟩
          · exact ⟨o,old b o e nb⟩
  have tb:∀ H:Hp,ObjOk P w H s₁.heap tp (.tbl pos qual):=fun H=>⟨#[],htp,True.intro,fun cv e=>by cases e⟩
  cases hk:K.lookup a with
  | some o =>
    have e:=KX a o hk
    rw [ha] at e
    cases e
    refine core (fun b=>if b=tp then some (.tbl pos qual) else none) (if_pos rfl) (.inr ⟨_,vs.toArray,_,hk,rfl,rfl,rfl,by rw [List.size_toArray,lenV]; exact hl,by simpa using rv⟩) (fun b u z=>?_) (fun b z=>?_) fun z=>absurd (if_neg nat) z
    · by_cases hb:b=tp
      · have z':=(if_pos hb).symm.trans z
        cases z'
        subst hb
        exact tb _
      · have z':=(if_neg hb).symm.trans z
        cases z'
    · by_cases hb:b=tp
      · exact .inl hb
      · exact absurd (if_neg hb) z
  | none =>
    refine core (fun b=>if b=tp then some (.tbl pos qual) else if b=a then some (.frz { cls:=.type "list",data:=.seq vs.toArray } (.lst (ns.map V.int))) else none) (if_pos rfl) (.inl (.inr ⟨{ cls:=.type "list",data:=.seq vs.toArray },(if_neg nat).trans (if_pos rfl)⟩)) (fun b u z=>?_) (fun b z=>?_) fun _=>hk
    · by_cases hb:b=tp
      · have z':=(if_pos hb).symm.trans z
        cases z'
        subst hb
        exact tb _
      · have z':=(if_neg hb).symm.trans z
        by_cases hb2:b=a
        · have z2:=(if_pos hb2).symm.trans z'
          cases z2
          subst hb2
          exact ⟨ha,by rw [List.length_map]; exact hl,vs,_,rv,ha⟩
        · have z2:=(if_neg hb2).symm.trans z'
          cases z2
    · by_cases hb:b=tp
      · exact .inl hb
      · by_cases hb2:b=a
        · exact .inr ⟨hb2,_,_,(if_neg hb).trans (if_pos hb2)⟩
        · exact absurd (by show (if b=tp then _ else if b=a then _ else none)=none; rw [if_neg hb,if_neg hb2]) z
theorem walk_ofT {l:PySem.W.OpenLaw} {n k:Nat} {q:Program} {loose:List Str} {XP:(Str→Option Value)→Heap→Prop} {YP:World→Heap→Prop} {d:DefRec} {K:Params→PySem.W.Frag} {CX:World→CXT} {sp:World→Sp} {x:Str} {tp:Addr} {pos:Pos} {qual:Str} {G:World→Prop}
    (hn:l.most=some n) (hn2:n≤sizeLine) (hdf:d.params.defaults=[]) (hr:Room k callerA)
    (hY:∀ (w:World) (h:Heap),YP w h→(K w.params).In h∧h.get? tp=some { cls:=.none,data:=.fields #[] })
    (F:∀ (w:World) (mg:Str→Option Value) (fa:Addr) (h:Heap),(K w.params).In h→h.Ns mainGlobals mg→mg d.name=some (.ref fa) →
      G w∧(∃ c0,PySem.W.codeHdIn (K w.params) c0 tp=true)∧(K w.params).lookup tp=none∧∃ fd:FuncData,(∀ (s:Shared) (u:Value),BindsTo s fd ⟨[u],[]⟩ [(x,u)]) ∧
        ∀ base:Heap,(K w.params).In base→base.Ns mainGlobals mg→BMod base mg→FnOk l.prog w (K w.params) mg base (CX w) k fa fd [x] (sp w))
    (hsp:∀ (w:World) (H:Hp) (a:Addr) (ns:List Int),G w→ns.length≤n→H tp=some (.tbl pos qual)→SqL (K w.params) H a (ns.map V.int)→sp w [.ref a] H (fun v _=>v=.bl true) fun _ _ _=>False)
    (hCX:∀ (w:World) (H:Hp) (s:Shared) (e:Value) (s':Shared),CX w [] H s (fun _ _ _=>False) e s'→False) :
    PySem.W.WalkO q loose XP YP l.row.toRowW d [] (fun f vs=>PySem.call f vs):=by
  refine Att.attach_call hn hdf fun w s₀ s₁ mg mb fa o pm cd doc a vs ns G' Y ho hd hcd hmg hobj hints hlen hg=>?_
  obtain ⟨KX,htp⟩:=hY w _ Y
  obtain ⟨g,⟨c0,hc⟩,hk,fd,hb,hF⟩:=F w mg fa _ KX G'.T.g hmg
  have hbm:BMod s₁.heap mg:=by
    obtain ⟨bm,ob,b1,b2,b3,b4,b5,b6⟩:=G'.T.bmain
    refine ⟨bm,ob,b1,b2,fun z=>?_,b3,b4,b5,b6⟩
    obtain ⟨o,es,ep,e,hd',_⟩:=G'.T.g
    rw [z,e] at b3
    cases b3
    rw [hd'] at b6
    cases b6
  exact law_callT KX G'.T.g G'.T.b G'.T.builtins G'.T.nolimit hg hobj hints (Nat.le_trans hlen hn2) hr htp hc hk hbm hF hb (fun H hT hS=>hsp w H a ns g hlen hT hS) fun H e s'=>hCX w H s₁ e s'
def clsOf (K:PySem.W.Frag) (x:Str):Addr:=match PySem.W.nsIn K mainGlobals x with
  | some (some (.ref C))=>C
  | _=>0
def tabOf (K:PySem.W.Frag) (x m:Str):Addr:=match PySem.W.findIn K (.ref (clsOf K x)) m with
  | some (some (.ref f))=>(match K.lookup f with
    | some ⟨_,_,.func fd,_⟩=>(match fd.code with
      | .ref c=>(match K.lookup c with
        | some ⟨_,_,.fields vs,_⟩=>(match (vs[11]?:Option Value) with
          | some (.ref P)=>P
          | _=>0)
        | _=>0)
      | _=>0)
    | _=>0)
  | _=>0
theorem clsOf_eq {K:PySem.W.Frag} {x:Str} {C:Addr} (h:PySem.W.nsIn K mainGlobals x=some (some (.ref C))):clsOf K x=C:=by
  unfold clsOf
  rw [h]
theorem tabOf_eq {K:PySem.W.Frag} {x m:Str} {f c P:Addr} {oc:Value} {od:Option Addr} {fd:FuncData} {sl:Array (Option Value)} (h1:PySem.W.findIn K (.ref (clsOf K x)) m=some (some (.ref f))) (h2:K.lookup f=some ⟨oc,od,.func fd,sl⟩) (h3:fd.code=.ref c)
    (h4:PySem.W.codeHdIn K c P=true):tabOf K x m=P:=by
  unfold PySem.W.codeHdIn at h4
  split at h4
  · rename_i vs _ hk
    simp only [Bool.and_eq_true] at h4
    obtain ⟨⟨⟨⟨⟨e1,_⟩,_⟩,_⟩,_⟩,_⟩:=h4
    split at e1
    · rename_i P' h11
      have hP:P'=P:=beq_iff_eq.mp e1
      subst hP
      unfold tabOf
      simp only [h1,h2,h3,hk,h11]
    · cases e1
  · cases h4
end L2
set_option Elab.async false
set_option linter.all false
set_option maxRecDepth 100000
set_option maxHeartbeats 4000000
namespace L2
open PySem PySem.Spec PyProof.Rows
end L2
set_option Elab.async false
set_option linter.all false
set_option maxRecDepth 100000
set_option maxHeartbeats 4000000
namespace L2
open PySem PySem.F PyProof.Rows PySem.MeetsSeq
variable {K:PySem.W.Frag} {X:Cx} {pins:List Pin} {σ:St} {H:Hp} {s:Shared}
def rSorted (K:PySem.W.Frag):List V→Hp→VK→Prop:=fun xs H Q=>∃ (p:Addr) (ns:List Int),xs=[.ref p]∧SqL K H p (ns.map V.int)∧ns.length<64 ∧
  ∀ (D:Addr) (os:List Int),H D=none→os.Perm ns→os.Pairwise (·≤·)→Q (.ref D) (upd H D (.lst (os.map V.int)))
theorem call_sorted (hK:X.K=K):CallR X (.builtin "sorted") (rSorted K):=by
  subst hK
  intro pins s σ H xs us Q I r h
  obtain ⟨p,ns,rfl,hq,h64,q⟩:=h
  obtain ⟨u,rfl,rx⟩:=vals1 r
  cases rx
  obtain ⟨its,rv,pl,hz⟩:=I.list hq
  have hv:=intsAre_of rv
  have lv:its.length=ns.length:=by have:=rv.length; rw [List.length_map] at this; exact this.symm
  refine sorted_ints pl.isList hv (by lia) fun out ns' hi hp hs=>?_
  obtain ⟨e,he⟩:=sortedAll_at s.heap its out
  have fr:H (s.heap.objs.size+1)=none:=I.hok.fresh (Nat.le_succ _)
  have lo:=hp.length_eq
  refine ⟨.ref (s.heap.objs.size+1),_,I.laid (a:=s.heap.objs.size+1) (t':=s.toks) (o:=.lst (ns'.map V.int)) (fun b o z=>sortedAll_old z) (Nat.le_succ _) ⟨by rw [List.length_map,lo,sizeLine_eq]; lia,out.toList,e,vals_ints hi,he⟩,rfl,q _ ns' fr hp hs⟩
theorem pe_bmC {e:PySem.Expr} {T:String} {r:V→List V→Hp→VK→Prop} {to:TE} {t:TA} (hK:X.K=K) (h:PE X e (tBM X.K T r to t)):PE X e (tBM K T r to t):=by
  subst hK; exact h
end L2
set_option Elab.async false
set_option linter.all false
set_option maxRecDepth 100000
set_option maxHeartbeats 4000000
namespace L2
open PySem PySem.Calls PyProof.Rows PySem.MeetsSeq PySem.W
variable {K:PySem.W.Frag} {X:Cx} {pins:List Pin} {σ:St} {H:Hp} {s:Shared}
def rSortedD:List V→Hp→VK→Prop:=fun xs H Q=>∃ (d:Addr) (kvs:List (Key×V)) (ns:List Int),xs=[.ref d]∧H d=some (.dK kvs)∧kvs.map Prod.fst=ns.map Sum.inl∧ns.length<64 ∧
  ∀ (D:Addr) (os:List Int),H D=none→os.Perm ns→os.Pairwise (·≤·)→Q (.ref D) (upd H D (.lst (os.map V.int)))
theorem vals_at:∀ {xs:List V} {us:List Value},xs.length=us.length→(∀ (i:Nat) x u,xs[i]?=some x→us[i]?=some u→RelV x u)→Vals xs us
  | [],[],_,_=>.nil
  | [],_ :: _,h,_=>nomatch h
  | _ :: _,[],h,_=>nomatch h
  | x :: xs,u :: us,h,k=>.cons (k 0 x u rfl rfl) (vals_at (by simpa using h) fun i x' u' h1 h2=>k (i+1) x' u' (by simpa using h1) (by simpa using h2))
theorem kv_get:∀ {kvs:List (Key×V)} {vs:List (Key×Value)},KV kvs vs→∀ {i:Nat} {p:Key×V} {q:Key×Value},kvs[i]?=some p→vs[i]?=some q→p.1=q.1
  | _,_,.nil,_,_,_,h,_=>nomatch h
  | _,_,.cons r t,0,_,_,h1,h2=>by cases h1; cases h2; exact r.1
  | _,_,.cons r t,i+1,_,_,h1,h2=>kv_get (i:=i) t (by simpa using h1) (by simpa using h2)
theorem keys_ints {P:Program} {w:World} {kvs:List (Key×V)} {vs:List (Key×Value)} {ns:List Int} {acc:Array Value} (r:KV kvs vs) (e:kvs.map Prod.fst=ns.map Sum.inl) (h:ItemsOf (fun i v=>∃ k x,vs[i]?=some (k,x)∧(mixKind P w).is k v=true) acc vs.length):IntsAre acc.toList ns:=by
  have lv:kvs.length=vs.length:=Paired.length r
  have ln:kvs.length=ns.length:=by have:=congrArg List.length e; simpa using this
  refine intsAre_of (vals_at (by have l3:acc.toList.length=acc.size:=Array.length_toList; have l4:=h.1; rw [List.length_map]; lia) fun i x u hx hu=>?_)
  rw [Array.getElem?_toList] at hu
  obtain ⟨k,y,h1,h2⟩:=h.2 i u hu
  have hi:i<kvs.length:=by rw [lv]; exact (List.getElem?_eq_some_iff.mp h1).1
  have e1:=kv_get r (List.getElem?_eq_getElem hi) h1
  have e2:(kvs.map Prod.fst)[i]?=some k:=by rw [List.getElem?_map,List.getElem?_eq_getElem hi]; exact congrArg some e1
  rw [e,List.getElem?_map] at e2
  rw [List.getElem?_map] at hx
  cases g:ns[i]? with
  | none=>rw [g] at hx; cases hx
  | some z =>
    rw [g] at hx e2
    cases hx; cases e2
    exact relV_key h2
theorem call_sortedD (hc:X.calm=true):CallR X (.builtin "sorted") rSortedD:=by
  intro pins s σ H xs us Q I r h
  obtain ⟨d,kvs,ns,rfl,hd,hk,h64,q⟩:=h
  obtain ⟨u,rfl,rx⟩:=vals1 r
  cases rx
  obtain ⟨hz,hs,vs,rv,hD⟩:=I.hok d _ hd
  obtain ⟨ep,hat⟩:=hD.dictAt
  have hl:vs.length=ns.length:=by have l1:kvs.length=vs.length:=Paired.length rv; have l2:=congrArg List.length hk; simp at l2; lia
  refine call_function_entry kind_sorted plain_sorted entry_sorted (args_sorted1 _) ?_
  unfold Builtin.«sorted»
  refine wpAny_bind (m:=checkCount "sorted" 1 1 _) (wpAny_pure ?_)
  refine wpAny_bind (kdu_collect (A:=X.A.in1) (kdl_dict (knd:=mixKind X.prog X.w) (kvs:=vs) (ep:=ep) hs) (show X.A.in1.handled=none from I.ok.hd hc) hat (by rw [sizeLine_eq]; lia) fun h' tk acc hk' hacc=>?_)
  have hI:=keys_ints rv hk hacc
  have la:acc.toList.length=ns.length:=by rw [Array.length_toList,hacc.1,hl]
  refine wpAny_bind (wpAny_newList ?_ (by rw [la,sizeLine_eq]; lia))
  have hoL:(h'.push (seqObj "list" acc.toList.toArray 0)).get? h'.objs.size=some (seqObj "list" acc.toList.toArray 0):=Heap.get?_push_size _ rfl
  have I1:=I.kept (t':=tk) hk'
  show wpAny _ _ _ _ _ { s with heap:=h'.push (seqObj "list" acc.toList.toArray 0),toks:=tk }
  refine wpAny_bind (wpAny_holding (wpAny_call_entry slot_list_sort ⟨_,hoL,rfl⟩ entry_list_sort (list_sort_tree hoL hI (by lia) fun out ns' a1 a2 a3=>⟨_,rfl,?_⟩) (args_list_sort _)))
  refine wpAny_pure ⟨_,rfl,?_⟩
  obtain ⟨e,he⟩:=sortedHeap_at (out:=out) hoL
  have fr:H h'.objs.size=none:=I1.hok.fresh (Nat.le_refl _)
  have lo:=a2.length_eq
  refine ⟨.ref h'.objs.size,_,I1.laid (a:=h'.objs.size) (t':=tk) (o:=.lst (ns'.map V.int)) (fun b o z=>?_) (Nat.le_refl _) ⟨by rw [List.length_map,lo,sizeLine_eq]; lia,out.toList,e,vals_ints a1,he⟩,rfl,q _ ns' fr a2 a3⟩
  have z':h'.get? b=some o:=z
  have lt:=Heap.lt_size z'
  rw [sortedHeap_old (Nat.ne_of_lt lt) (by rw [size_push']; exact Nat.lt_succ_of_lt lt),Heap.get?_push_ne _ _ _ (Nat.ne_of_lt lt)]
  exact z'
def rEqT (K:PySem.W.Frag) (n:Nat) (neg:Bool):R2:=fun x y H Q=>∃ (a c:Addr) (xs ys:List V) (e:Nat→Bool),x=.ref a∧y=.ref c∧(∀ (i:Nat) (u v:V),xs[i]?=some u→ys[i]?=some v→EqD K H n u v (e i))∧SqT K H a xs∧SqT K H c ys∧xs.length=ys.length ∧
  Q (.bl (if neg then !(List.range xs.length).all e else (List.range xs.length).all e)) H
theorem op_neT (n:Nat) (hu:X.A.units+1+n<cLine) (hK:X.K=K):OpR X (compareOp .NotEq) (rEqT K n true):=by
  subst hK
  intro pins s σ H x y v u Q I rx ry h
  obtain ⟨a,c,xs,ys,e,rfl,rfl,hi,ha,hc,hl,q⟩:=h
  cases rx
  cases ry
  obtain ⟨its,r1,p1,_⟩:=I.tuple ha
  obtain ⟨its2,r2,p2,_⟩:=I.tuple hc
  have l1:=r1.length
  have l2:=r2.length
  have hu1:X.A.in1.units+n<cLine:=hu
  refine SeqAt.RcNeAt.tuples (e:=e) (show s.heap.IsTuple a its.toArray from p1) (show s.heap.IsTuple c its2.toArray from p2) (by lia) (fun j h1 h2=>?_) X.prog X.w X.xe _ ⟨.bl _,H,I,rfl,?_⟩
  · obtain ⟨x,hx,rx⟩:=at_rel r1 h1
    obtain ⟨y,hy,ry⟩:=at_rel r2 h2
    exact eqD_at I n X.A.in1 x y _ _ (e j) hu1 rx ry (hi j x y hx hy)
  · have e1:min its.toArray.size its2.toArray.size=xs.length:=by simp; lia
    have e2:(its.toArray.size == its2.toArray.size)=true:=by simp; lia
    rw [e1,e2,Bool.and_true]
    exact q
theorem pe_methN0 {C:Addr} {m:Str} {k:Nat} {ps:List Str} {sp:Sp} {o:PySem.Expr} {ta:TE} {apos pos:Pos} {pl:Sem Bool} (M:MDef X.prog X.w X.K X.mg X.base C m k ps sp) (hr:Room k X.A) (c:Cls X.K C) (he:PE X o ta)
    (ht:eval (.Call (.Attribute o m apos) [] [] pos) X.env=(do
      let ov ← eval o X.env
      standAt apos.atName
      let (f,first) ← holding [ov] (getMethod ov m pl)
      callWith pos f first (backTo pos (starEach [] X.env)) (backToKw pos (keywordEach [] X.env))):=by rfl) :
    PE X (.Call (.Attribute o m apos) [] [] pos) (tMeth C m sp [] E0 ta tNil):=by
  obtain ⟨f,fd,F,hm,hb⟩:=M
  exact pe_meth0 he c hm F hr hb .nil (fun _ _ _ _ _ _ _ z=>z.elim) ht
end L2
set_option Elab.async false
set_option linter.all false
set_option maxRecDepth 100000
set_option maxHeartbeats 4000000
namespace L2
open PySem PySem.Calls PySem.Spec PyProof.Rows PySem.W
end L2
set_option Elab.async false
set_option linter.all false
set_option maxRecDepth 100000
set_option maxHeartbeats 4000000
namespace L2
open PySem PySem.Calls PySem.Spec PyProof.Rows PySem.W
end L2
set_option Elab.async false
set_option linter.all false
set_option maxRecDepth 100000
set_option maxHeartbeats 4000000
namespace L2
open PySem PySem.Calls PySem.Spec PyProof.Rows PySem.W
end L2
set_option Elab.async false
set_option linter.all false
set_option maxRecDepth 100000
set_option maxHeartbeats 4000000
namespace L2
open PySem PySem.Calls PySem.Spec PyProof.Rows PySem.W Builtin Builtin.ObjectAttr Builtin.Getset_descriptor
end L2
set_option Elab.async false
set_option linter.all false
set_option maxRecDepth 100000
set_option maxHeartbeats 4000000
namespace L2
open PySem PySem.Calls PySem.Spec PyProof.Rows PySem.W
end L2
namespace L2
open PySem PySem.Calls PySem.Spec PyProof.Rows PySem.W
end L2
set_option Elab.async false
set_option linter.all false
set_option maxRecDepth 100000
set_option maxHeartbeats 4000000
namespace L2
open PySem PySem.Calls PySem.Spec PyProof.Rows PySem.W
structure ClsFn (K:PySem.W.Frag) (C:Addr) (m:Str) (f:Addr):Prop where
  ga:PySem.W.specialIn K (.ref C) "__getattribute__" = some (some (.builtin "type.__getattribute__"))
  rd:∃ mc,PySem.W.readsIn K C mc=true∧PySem.W.findCls K (.ref C) mc m=some (.val (.ref f))
  kp:PySem.W.keepIn K (.ref f)=true
structure CDef (P:Program) (w:World) (K:PySem.W.Frag) (mg:Str→Option Value) (base:Heap) (x m:Str) (k:Nat) (ps:List Str) (sp:Sp):Prop where
  ex:∃ (C f:Addr) (fd:FuncData),FnOk P w K mg base CX0 k f fd ps sp∧ClsFn K C m f∧mg x=some (.ref C)∧Binds K fd ps []
section
variable {X:Cx} {x m:Str} {p pos apos:Pos} {e o:PySem.Expr} {es:List PySem.Expr} {ta:TE} {t:TA} {k:Nat} {ps:List Str} {sp:Sp} {C:Addr}
theorem pe_clsN {pl:Sem Bool} (M:CDef X.prog X.w X.K X.mg X.base x m k ps sp) (hr:Room k X.A) (hg:Gl X x) (ha:PA X (e :: es) t) (hn:NSs (e :: es):=by repeat' (first | exact True.intro | refine ⟨?_,?_⟩)) (hd:(x == ("__debug__" : Str))=false:=by decide)
    (ht:eval (.Call (.Attribute (.Name x p) m apos) (e :: es) [] pos) X.env=(do
      let ov ← eval (.Name x p) X.env
      standAt apos.atName
      let (f,first) ← holding [ov] (getMethod ov m pl)
      callWith pos f first (backTo pos (starEach (e :: es) X.env)) (backToKw pos (keywordEach [] X.env))):=by rfl) :
    PE X (.Call (.Attribute (.Name x p) m apos) (e :: es) [] pos) (tCall sp [] E0 t):=by
  obtain ⟨C,f,fd,F,c,hm,hb⟩:=M.ex
  obtain ⟨mc,hr1,hr2⟩:=c.rd
  intro pins s σ H Q I h
  have he:PE X (.Name x p) (tC (.ref C)):=pe_glob (v:=.ref C) hg hm rfl hd
  refine PySem.W.methodCall_KW (pl:=pl) (thn (he pins s σ H (fun v H1=>v=.ref C∧H1=H) I ⟨rfl,rfl⟩) fun u s1 ⟨x,H1,I1,rx,e1,e2⟩=>?_) ht
  subst e1 e2
  obtain rfl:u=Value.ref C:=rx
  have I2:Inv X pins σ H1 { s1 with toks:=s1.toks+1 }:=I1.kept (t':=s1.toks+1) fun b o e=>e
  refine PySem.W.method_cls I1.kIn c.ga (PySem.W.cls_value I1.kIn hr1 hr2 rfl ?_)
  refine PySem.W.callWith_K (first:=[]) (h₀:=X.base) I.ok.mod.kin c.kp (thA (ha pos pins _ σ H1 _ I2 h) fun us s2 vs H2 I3 r q2=>⟨I3.kIn,?_⟩) (star_ns hn.1) (back_ns hn.2)
  exact run_fn (us:=us) (vs:=vs) F hr hb .nil pass0 I3 r q2
end
theorem Room.m {j k:Nat} {A:Around} (r:Room k A) (h:j≤k:=by first | decide | lia):Room j A:=r.mono h
section
variable {X:Cx} {pos:Pos}
theorem pgn (i:Nat) {x:Str} (hN:X.N.Nodup) (hi:X.N[i]?=some x:=by rfl) (hx:Loc X.env.scope x:=by first | exact Or.inl rfl | exact Or.inr rfl) (hf:X.fn x=true∨X.env.scope.names.lookup x=some .local:=by first | exact .inl rfl | exact .inr rfl | assumption):PG X (.Name x pos) (gName i):=pg_name hN hi hx hf
theorem pst (i:Nat) {x:Str} {e:PySem.Expr} {te:TE} {pos':Pos} (hN:X.N.Nodup) (he:PE X e te) (hi:X.N[i]?=some x:=by rfl) (hx:Loc X.env.scope x:=by first | exact Or.inl rfl | exact Or.inr rfl) (hs:swapsWith e (some (.Name x pos')) pos.line X.env=pure false:=by rfl) (hf:X.fn x=true∨X.env.scope.names.lookup x=some .local:=by first | exact .inl rfl | exact .inr rfl | assumption):PS X (.Assign [.Name x pos'] e pos) (tAsg te (gName i)):=ps_set hN hi hx he hs hf
end
end L2
set_option Elab.async false
set_option linter.all false
set_option maxRecDepth 100000
namespace L2
open PySem PySem.Spec PyProof.Rows
section
variable {X:Cx} {K:PySem.W.Frag}
def tListRange1 (ta:TA):TE:=fun σ H Q=>ta σ H fun vs H1=>∃ j:Int,vs=[.int j] ∧ -(2 ^ 62)≤j∧j<2 ^ 62∧j.toNat≤sizeLine ∧
  ∀ p,H1 p=none→Q (.ref p) (upd H1 p (.lst ((List.range j.toNat).map fun k:Nat=>V.int (k:Int))))
theorem pe_listrange1 {a:PySem.Expr} {ta:TA} {p q pos pos2:Pos} (hc:X.calm=true) (hg1:Gl X "list") (hm1:X.mg "list" = none) (hg:Gl X "range") (hm:X.mg "range" = none) (ha:PA X [a] ta)
    (hs:starEach [a] X.env=[(false,eval a X.env)]:=by rfl)
    (hs3:starEach [PySem.Expr.Call (.Name "range" p) [a] [] pos] X.env=[(false,eval (PySem.Expr.Call (.Name "range" p) [a] [] pos) X.env)]:=by rfl) :
    PE X (.Call (.Name "list" q) [.Call (.Name "range" p) [a] [] pos] [] pos2) (tListRange1 ta):=by
  intro pins s σ H Q I h
  refine Call_ (ld_blt I hg1 hm1 boot_listT (PyProof.Rows.callWith_type1 (Q:=EP X pins σ Q) ?_ hs3 rfl))
  rw [hs3]
  refine Calls.spliced_cons (Call_ (ld_blt I hg hm boot_range (PyProof.Rows.callWith_type1 (thA (ha pos pins s σ H _ I h) fun us s1 vs H1 I1 r1 q1=>?_) hs rfl)))
  obtain ⟨j,e,q3,q4,hz,q⟩:=q1
  subst e
  cases r1 with
  | cons r rr =>
    cases rr
    obtain ⟨t',rfl⟩:=r
    refine call_range_1 (Calls.spliced_nil ?_)
    have I2:Inv X pins σ H1 { s1 with heap:=s1.heap.push { cls:=.type "range",data:=.fields #[.int 0 s1.toks,.int j t',.int 1 (s1.toks+1)] },toks:=s1.toks+1+1 }:=I1.kept fun b o e=>Heap.get?_push_of_some _ e
    have hsz:sizeLine=16777216:=sizeLine_eq
    refine call_list_range (n:=j.toNat) (I.ok.hd hc) (IsRange.new ..) (small_one (by decide) (by decide) q3 q4) (by rw [rangeSize_one]; split <;> lia) (by lia) fun h' tk acc' c' hk hS hit=>?_
    have hit':=rangeN 0 _ hit
    refine ⟨.ref _,_,I2.laid (o:=.lst ((List.range j.toNat).map fun k:Nat=>V.int (k:Int))) hk (Nat.le_refl _) ⟨by simpa using hz,acc'.toList,c',(by simpa using hit'),by simpa using hS⟩,rfl,q _ (I2.hok.fresh (Nat.le_refl _))⟩
end
end L2
set_option Elab.async false
set_option linter.all false
set_option maxRecDepth 100000
set_option maxHeartbeats 4000000
namespace L2
open PySem PySem.Calls PyProof.Rows PySem.MeetsSeq PySem.W PySem.Spec
end L2
set_option Elab.async false
set_option linter.all false
set_option maxRecDepth 100000
set_option maxHeartbeats 4000000
namespace L2
open PySem PySem.Calls PyProof.Rows PySem.W PySem.Spec
end L2
set_option Elab.async false
set_option linter.all false
set_option maxRecDepth 100000
set_option maxHeartbeats 4000000
namespace L2
open PySem PySem.Calls PyProof.Rows PySem.W PySem.Spec
end L2
set_option Elab.async false
set_option linter.all false
set_option maxRecDepth 100000
set_option maxHeartbeats 4000000
namespace L2
open PySem PySem.F PyProof.Rows
variable {K:PySem.W.Frag} {X:Cx} {pins:List (Addr×Obj)} {σ:St} {H H':Hp} {s:Shared}
end L2
set_option Elab.async false
set_option linter.all false
set_option maxRecDepth 100000
set_option maxHeartbeats 4000000
namespace L2
open PySem PySem.F PyProof.Rows PySem.MeetsSeq
variable {K:PySem.W.Frag} {X:Cx}
end L2
set_option Elab.async false
set_option linter.all false
set_option maxRecDepth 100000
set_option maxHeartbeats 4000000
namespace L2
open PySem PySem.F PyProof.Rows
end L2
set_option Elab.async false
set_option linter.all false
set_option maxRecDepth 100000
set_option maxHeartbeats 4000000
namespace L2.Stg
open PySem PySem.Spec PyProof.Rows
end L2.Stg
set_option Elab.async false
set_option linter.all false
set_option maxRecDepth 100000
set_option maxHeartbeats 4000000
namespace L2
open PySem PySem.Spec PyProof.Rows
section
open PySem.SeqAt
open PySem.AutoSeq1 (wpAny_loadPart')
open PySem.MeetsSeq PySem.MeetsSeq2 PySem.MeetsSeq3
end
end L2
set_option Elab.async false
set_option linter.all false
set_option maxRecDepth 100000
set_option maxHeartbeats 4000000
namespace L2
open PySem PySem.Spec PyProof.Rows
variable {K:PySem.W.Frag} {X:Cx}
end L2
set_option Elab.async false
set_option linter.all false
set_option maxRecDepth 100000
set_option maxHeartbeats 4000000
namespace L2
open PySem PySem.Spec PyProof.Rows
end L2
set_option Elab.async false
set_option linter.all false
set_option maxRecDepth 100000
set_option maxHeartbeats 4000000
namespace L2
open PySem PySem.Spec PyProof.Rows
end L2
set_option Elab.async false
set_option linter.all false
set_option maxRecDepth 100000
set_option maxHeartbeats 4000000
namespace L2
open PySem PySem.Spec PyProof.Rows
theorem no_keys:typeLookup (.type "list") "keys" = pure none:=am_miss_of_fast (by decide +kernel)
theorem keys_list {prog:Program} {w:World} {A:Around} {E:Value→Shared→Prop} {s:Shared} {a:Addr} {xs:Array Value} {k:Nat} {Q:Option Value→Shared→Prop}
    (hx:s.heap.get? a=some { cls:=.type "list",data:=.seq xs k }) (hA:A.handled=none)
    (h:∀ h' tk,(∀ b o,s.heap.get? b=some o→h'.get? b=some o)→Q none { s with heap:=h',toks:=tk }) :
    wpAny (model prog w) A (getAttr? (.ref a) "keys") Q E s:=by
  obtain ⟨hp,g,d,tk,os⟩:=s
  have hT:∀ tk',(⟨hp,g,d,tk',os⟩:Shared).TypeIs (.ref a) "list" := fun _=>⟨_,hx,rfl⟩
  have f1:=PySem.sub_AttributeError
  have f3:=PySem.F.slot_list_getattribute.lookup
  have f4:=PySem.F.slot_list_getattribute.bind (.ref a)
  have f5:=PySem.am_list_getattr_none
  unfold getAttr? getAttrBy? getAttrBy
  repeat (any_goals (first | assumption | exact hT _ | ((with_reducible show wpAny _ _ (call (Value.builtin "list.__getattribute__") _ _) _ _ _); refine call_meets PySem.F.slot_list_getattribute (hT _) PySem.am_entry_list_getattribute (PySem.F.args_list_getattribute_2 _ _) (PySem.meets_getattribute_miss_list a xs k _ _ _ no_keys (by decide +kernel)) ⟨hx,hA,fun h' tk' e hx'=>?_⟩) | wp_step))
  obtain ⟨t',u',he⟩:=hx'.there
  show wpAny _ _ (getattributeRaised _ _ _ _ _ _ _) _ _ _
  unfold getattributeRaised
  repeat (any_goals (first | assumption | wp_step))
  exact h _ _ hx'.keeps
theorem entry_upd:entryFor table "dict.update.loop" = some Builtin.«dict.update.loop»:=entryFor_of_tree (by kernel_rfl)
theorem plain_upd:plainId "dict.update.loop" = true:=by decide +kernel
structure Row (P:Program) (w:World) (h:Heap) (x:Addr×Key×Value):Prop where
  at_:∃ u o n,(mixKind P w).is x.2.1 u=true∧h.get? x.1=some o∧o.cls=.type "tuple" ∧ o.data=.seq #[u,x.2.2] n
theorem stored_len {vs:List (Key×Value)} {k:Key} {v:Value}:(stored vs k v).length≤vs.length+1:=stored_length_le vs k v
theorem upd_pairs {prog:Program} {w:World} {A:Around} {R:Result→Shared→Prop} {I p D:Addr} {its:Array Value} (hA:A.handled=none) (hDI:D≠I) (hpI:p≠I) (hpD:p≠D) :
    ∀ (k i:Nat) (s:Shared) (acc:List (Key×Value)) (rest:List (Addr×Key×Value)),its.size - i=k→i≤its.size→s.heap.IsListIter I p i→s.heap.IsList p its→s.heap.DictOf (mixKind prog w) D acc→rest.length=k →
    (∀ j x,rest[j]?=some x→its[i+j]?=some (.ref x.1)∧x.1≠I∧x.1≠D∧Row prog w s.heap x)→acc.length+k≤sizeLine →
    (∀ h' tk,h'.DictOf (mixKind prog w) D (rest.foldl (fun a x=>stored a x.2.1 x.2.2) acc)→(∀ b o,b≠I→b≠D→s.heap.get? b=some o→h'.get? b=some o)→R (.ok (.ret .none)) { s with heap:=h',toks:=tk }) →
    codeAny (model prog w) A (.builtin "dict.update.loop" ⟨[.ref D,.ref I,rawInt i,.none],[]⟩) R s:=by
  intro k
  induction k with
  | zero =>
    intro i s acc rest hk hi hst hl hd hr hx hsz hR
    have hin:i=its.size:=by lia
    subst hin
    have er:rest=[]:=List.eq_nil_of_length_eq_zero hr
    subst er
    refine codeAny_builtin entry_upd ?_
    rw [Around.under_plainId plain_upd _]
    show wpAny _ A.in1 (pyNext (.ref I) >>= _) _ _ s
    refine wpAny_bind (wpAny_pyNext_list_end hA hst hl (by simp) fun h' hk'=>?_)
    exact wpAny_bind (wpAny_pure (wpAny_pure (hR h' s.toks (hd.extBut hk' hDI) fun b o hb _ e=>hk' b o hb e)))
  | succ k ih =>
    intro i s acc rest hk hi hst hl hd hr hx hsz hR
    have hlt:i<its.size:=by lia
    cases rest with
    | nil=>cases hr
    | cons x rest =>
    obtain ⟨e0,xI,xD,u,o,n,ku,ex,ec,ed⟩:=hx 0 x rfl
    rw [Nat.add_zero] at e0
    refine codeAny_builtin entry_upd ?_
    rw [Around.under_plainId plain_upd _]
    show wpAny _ A.in1 (pyNext (.ref I) >>= _) _ _ s
    refine wpAny_bind (wpAny_pyNext_list_item hst hl e0 fun h' hst' hk'=>?_)
    have kp:∀ b o,b≠I→s.heap.get? b=some o→h'.get? b=some o:=fun b o hb e=>(hk'.2 b hb).trans e
    have ex':=kp _ _ xI ex
    refine wpAny_bind (wpAny_holding (wpAny_bind (wpAny_tryCatch ?_)))
    unfold Builtin.Dict.pairItems
    refine wpAny_bind (wpAny_typeOf ⟨_,ex',ec⟩ ?_)
    rw [if_pos (by rfl)]
    refine wpAny_bind (wpAny_seqItems ex' ed (wpAny_pure ?_))
    dsimp only
    refine wpAny_holding (wpAny_dictSet_pairs (hsz:=by lia) ku (hd.sameBut hk' hDI) fun h2 hd2 hs2=>?_)
    have kq:∀ b o,b≠I→b≠D→s.heap.get? b=some o→h2.get? b=some o:=fun b o h1 h2 e=>(hs2.2 b h2).trans (kp b o h1 e)
    refine wpAny_pure ⟨plainId_quiet plain_upd _,ih (i+1) _ (stored acc x.2.1 x.2.2) rest (by lia) hlt (hst'.at fun o e=>(hs2.2 I (Ne.symm hDI)).trans e) ?_ hd2 (by simpa using hr) (fun j y hy=>?_) ?_ fun h3 tk hd3 hk3=>?_⟩
    · obtain ⟨o,e,r⟩:=hl
      exact ⟨o,kq _ _ hpI hpD e,r⟩
    · obtain ⟨q1,q2,q3,v,o2,m,q4,q5,q6⟩:=hx (j+1) y hy
      exact ⟨by rw [Nat.add_assoc,Nat.add_comm 1 j]; exact q1,q2,q3,v,o2,m,q4,kq _ _ q2 q3 q5,q6⟩
    · have:=stored_len (vs:=acc) (k:=x.2.1) (v:=x.2.2)
      lia
    · exact hR h3 tk hd3 fun b o h1 h2 e=>hk3 b o h1 h2 (kq b o h1 h2 e)
def rDict:List V→Hp→VK→Prop:=fun xs H Q=>∃ (p:Addr) (ls:List (Addr×Key×V)),xs=[.ref p]∧H p=some (.lst (ls.map fun x=>.ref x.1))∧(∀ x∈ls,H x.1=some (.tup [kV x.2.1,x.2.2]))∧∀ d,H d=none→Q (.ref d) (upd H d (.dK (ls.foldl (fun a x=>putK a x.2.1 x.2.2) [])))
theorem ref_valsD:∀ {ls:List (Addr×Key×V)} {its:List Value},Vals (ls.map fun x=>V.ref x.1) its→its=ls.map fun x=>Value.ref x.1
  | [],_,.nil=>rfl
  | _ :: _,_,.cons r rs=>by rw [List.map_cons,← ref_valsD rs]; congr 1
theorem raw_pairs {X:Cx} {pins:List (Addr×Obj)} {σ:St} {H:Hp} {s:Shared} (I:Inv X pins σ H s):∀ {ls:List (Addr×Key×V)},(∀ x∈ls,H x.1=some (.tup [kV x.2.1,x.2.2])) →
    ∃ rs:List (Addr×Key×Value),rs.map (·.1)=ls.map (·.1)∧(∀ y∈rs,Row X.prog X.w s.heap y)∧∀ a b,KV a b→KV (ls.foldl (fun a x=>putK a x.2.1 x.2.2) a) (rs.foldl (fun a x=>stored a x.2.1 x.2.2) b)
  | [],_=>⟨[],rfl,fun y h=>(nomatch h),fun a b r=>r⟩
  | x :: ls,h=>by
    obtain ⟨rs,h1,h2,h3⟩:=raw_pairs I (ls:=ls) fun y hy=>h y (List.mem_cons_of_mem _ hy)
    obtain ⟨_,its,r,o,e,e1,n,e2⟩:=(show ObjOk X.prog X.w H s.heap x.1 (.tup [kV x.2.1,x.2.2]) from I.hok x.1 _ (h x List.mem_cons_self))
    obtain ⟨u,v,rfl,ru,rv⟩:=vals2 r
    refine ⟨(x.1,x.2.1,v) :: rs,by rw [List.map_cons,List.map_cons,h1],fun y hy=>?_,fun a b q=>?_⟩
    · rcases List.mem_cons.mp hy with rfl | hy
      · exact ⟨u,o,n,kV_is ru,e,e1,e2⟩
      · exact h2 y hy
    · rw [List.foldl_cons,List.foldl_cons]
      exact h3 _ _ (q.put _ rv)
theorem call_dictP {X:Cx} (hc:X.calm=true):CallR X (.type "dict") rDict:=by
  intro pins s σ H xs us Q I r h
  obtain ⟨p,ls,rfl,hp,hl,k⟩:=h
  obtain ⟨u,rfl,ru⟩:=vals1 r
  cases ru
  obtain ⟨zp,itp,np,rp,lp,ep⟩:=I.lstM hp
  obtain ⟨rs,g1,g2,g3⟩:=raw_pairs I hl
  have ei:=ref_valsD rp
  refine callType_codes (Q₁:=fun obj s₁=>obj=.ref s.heap.objs.size∧s₁={ s with heap:=s.heap.push { cls:=.type "dict",data:=.dict #[] } }) PySem.F.kt_called_dict (PySem.F.kt_typeCall_dict_1 _) PySem.F.entry_dict_init (kt_code_dict_new _ ⟨rfl,rfl⟩) ?_
  rintro obj s₁ ⟨rfl,rfl⟩
  have hnew:(s.heap.push { cls:=.type "dict",data:=.dict #[] }).DictOf (mixKind X.prog X.w) s.heap.objs.size []:=Heap.DictOf.new s.heap
  have ep1:(s.heap.push { cls:=.type "dict",data:=.dict #[] }).get? p=_:=Heap.get?_push_of_some _ ep
  refine ⟨hnew.typeIs,PySem.F.args_dict_init_2 _ _,?_⟩
  unfold Builtin.«dict.__init__»
  refine wpAny_bind ?_
  unfold Builtin.Dict.selfAndRest
  refine wpAny_bind (wpAny_notOrdered_dict hnew.typeIs ?_)
  show wpAny _ _ (pure (s.heap.objs.size,[Value.ref p])) _ _ _
  refine wpAny_pure ?_
  show wpAny _ _ (Builtin.Dict.updateFrom "dict.__init__" s.heap.objs.size (.ref p) [] .none) _ _ _
  unfold Builtin.Dict.updateFrom
  refine wpAny_bind (wpAny_typeOf ⟨_,ep1,rfl⟩ ?_)
  rw [if_pos (by decide)]
  refine wpAny_bind (keys_list ep1 (I.ok.hd hc) fun h1 tk hk1=>?_)
  simp only [Option.isNone_none,if_true]
  have d1:h1.DictOf (mixKind X.prog X.w) s.heap.objs.size []:=let ⟨o,es,ep,ho,r⟩:=hnew; ⟨o,es,ep,hk1 _ _ ho,r⟩
  have kp1:∀ b o,s.heap.get? b=some o→h1.get? b=some o:=fun b o e=>hk1 _ _ (Heap.get?_push_of_some _ e)
  refine wpAny_bind (wpAny_rule (wpAny_bind (wpAny_pyIter_list ⟨_,hk1 _ _ ep1,rfl,_,rfl⟩ (wpAny_pure ?_))))
  have nI:∀ {b o},h1.get? b=some o→b≠h1.objs.size:=fun e=>Nat.ne_of_lt (Heap.lt_size e)
  have nD:∀ {b o},s.heap.get? b=some o→b≠s.heap.objs.size:=fun e=>Nat.ne_of_lt (Heap.lt_size e)
  have li:rs.length=itp.length:=by rw [ei,List.length_map,← List.length_map (as:=rs) (f:=(·.1)),g1,List.length_map]
  have eD:s.heap.objs.size≠h1.objs.size:=by
    obtain ⟨o,es,ep,ho,_⟩:=d1
    exact nI ho
  have kp2:∀ b o,s.heap.get? b=some o→(h1.push { cls:=.type "list_iterator",data:=.fields #[.ref p,.int 0 0] }).get? b=some o:=fun b o e=>Heap.get?_push_of_some _ (kp1 b o e)
  refine ⟨plainId_quiet plain_upd _,upd_pairs (A:=X.A.in1) (p:=p) (its:=itp.toArray) (show X.A.in1.handled=none from I.ok.hd hc) eD (nI (kp1 _ _ ep)) (nD ep) itp.toArray.size 0 _ [] rs rfl (Nat.zero_le _) ⟨_,Heap.get?_push_size _ rfl,rfl,rfl⟩ ⟨_,kp2 _ _ ep,rfl,_,rfl⟩ (d1.push _) (by rw [List.size_toArray]; exact li) (fun j x hx=>?_) ?_ fun h' tk' hd' hk'=>?_⟩
  · obtain ⟨u,o,n,q1,q2,q3⟩:=g2 x (List.mem_of_getElem? hx)
    refine ⟨?_,nI (kp1 _ _ q2),nD q2,u,o,n,q1,kp2 _ _ q2,q3⟩
    rw [Nat.zero_add]
    have q:=congrArg (fun l=>l[j]?) g1
    simp only [List.getElem?_map,hx,Option.map_some] at q
    simp only [List.getElem?_toArray,ei,List.getElem?_map]
    cases e:ls[j]? with
    | none=>rw [e] at q; cases q
    | some y =>
      rw [e] at q
      have q':x.1=y.1:=Option.some.inj q
      simp [q']
  · rw [List.length_nil,List.size_toArray,← lp]
    lia
  · have rel:=g3 [] [] .nil
    have zz:∀ (l:List (Addr×Key×V)) (a:List (Key×V)),(l.foldl (fun a x=>putK a x.2.1 x.2.2) a).length≤a.length+l.length:=fun l=>by
      induction l with
      | nil=>exact fun a=>Nat.le_refl _
      | cons x l ih =>
        intro a
        rw [List.foldl_cons]
        have:=ih (putK a x.2.1 x.2.2)
        have:=length_putK a x.2.1 x.2.2
        rw [List.length_cons]
        lia
    have hz:(ls.foldl (fun a x=>putK a x.2.1 x.2.2) []).length≤sizeLine:=by
      have:=zz ls []
      rw [List.length_map] at zp
      simp at this
      lia
    refine ⟨rfl,V.ref s.heap.objs.size,_,I.laid (a:=s.heap.objs.size) (o:=.dK (ls.foldl (fun a x=>putK a x.2.1 x.2.2) [])) (t':=tk') (fun b q hq=>hk' b q (nI (kp1 _ _ hq)) (nD hq) (kp2 _ _ hq)) (Nat.le_refl _) (dk_new hz (beq_eq_false_iff_ne.mpr (Ne.symm (Nat.ne_of_lt I.big))) rel hd'),rfl,k _ (I.hok.fresh (Nat.le_refl _))⟩
end L2
set_option Elab.async false
set_option linter.all false
set_option maxRecDepth 100000
set_option maxHeartbeats 4000000
namespace Mine
open PySem L2
variable {P:Program} {w:World} {K:PySem.W.Frag} {mg:Str→Option Value} {base:Heap}
def top (i:Nat):Stmt:=PySem.Challenge.pw_nearstairs_k29_nothing_untold.main.body.getD i (.Pass ⟨0,0,0,0⟩)
theorem scM {N P:List Str} {sc:Scope} (a:sc.kind=.function:=by rfl) (b:sc.isCoroutine=false:=by rfl) (c:sc.isGenerator=false:=by rfl) (d:N.Nodup:=by decide +kernel) (e:N.take P.length=P:=by rfl) (f:∀ x∈P,sc.names.lookup x=some .local∨sc.names.lookup x=some .cell:=by decide +kernel) (g:∀ y∈sc.names,y.2≠.free:=by decide +kernel):FnScope N P sc:=⟨a,b,c,d,e,f,g⟩
abbrev s_board_of:Stmt:=top 2
abbrev N_board_of:List Str:=["size", "spot"]
abbrev P_board_of:List Str:=N_board_of.take 2
theorem sc_board_of:FnScope N_board_of P_board_of (defScope s_board_of):=scM
abbrev s_spots_of:Stmt:=top 3
abbrev N_spots_of:List Str:=["size", "board", "first"]
abbrev P_spots_of:List Str:=N_spots_of.take 2
theorem sc_spots_of:FnScope N_spots_of P_spots_of (defScope s_spots_of):=scM
abbrev s_shelf_of:Stmt:=top 4
abbrev N_shelf_of:List Str:=["shelves", "board"]
abbrev P_shelf_of:List Str:=N_shelf_of.take 2
theorem sc_shelf_of:FnScope N_shelf_of P_shelf_of (defScope s_shelf_of):=scM
abbrev s_Room_init:Stmt:=inClass (top 12) 0
abbrev N_Room_init:List Str:=["self", "shelves", "places", "rule"]
abbrev P_Room_init:List Str:=N_Room_init.take 4
theorem sc_Room_init:FnScope N_Room_init P_Room_init (defScope s_Room_init):=scM
abbrev s_Room_has:Stmt:=inClass (top 12) 1
abbrev N_Room_has:List Str:=["self", "board"]
abbrev P_Room_has:List Str:=N_Room_has.take 2
theorem sc_Room_has:FnScope N_Room_has P_Room_has (defScope s_Room_has):=scM
abbrev s_Room_bring:Stmt:=inClass (top 12) 2
abbrev N_Room_bring:List Str:=["self", "board", "out"]
abbrev P_Room_bring:List Str:=N_Room_bring.take 2
theorem sc_Room_bring:FnScope N_Room_bring P_Room_bring (defScope s_Room_bring):=scM
abbrev s_Room_use:Stmt:=inClass (top 12) 3
abbrev N_Room_use:List Str:=["self", "board", "mates"]
abbrev P_Room_use:List Str:=N_Room_use.take 2
theorem sc_Room_use:FnScope N_Room_use P_Room_use (defScope s_Room_use):=scM
abbrev s_Room_drop:Stmt:=inClass (top 12) 4
abbrev N_Room_drop:List Str:=["self", "board"]
abbrev P_Room_drop:List Str:=N_Room_drop.take 2
theorem sc_Room_drop:FnScope N_Room_drop P_Room_drop (defScope s_Room_drop):=scM
abbrev s_Room_boards:Stmt:=inClass (top 12) 5
abbrev N_Room_boards:List Str:=["self"]
abbrev P_Room_boards:List Str:=N_Room_boards.take 1
theorem sc_Room_boards:FnScope N_Room_boards P_Room_boards (defScope s_Room_boards):=scM
abbrev s_Room_need:Stmt:=inClass (top 12) 7
abbrev N_Room_need:List Str:=["self", "board"]
abbrev P_Room_need:List Str:=N_Room_need.take 2
theorem sc_Room_need:FnScope N_Room_need P_Room_need (defScope s_Room_need):=scM
abbrev s_Room_mates:Stmt:=inClass (top 12) 8
abbrev N_Room_mates:List Str:=["self", "board"]
abbrev P_Room_mates:List Str:=N_Room_mates.take 2
theorem sc_Room_mates:FnScope N_Room_mates P_Room_mates (defScope s_Room_mates):=scM
abbrev s_Room_leaver_for:Stmt:=inClass (top 12) 9
abbrev N_Room_leaver_for:List Str:=["self", "board", "mates"]
abbrev P_Room_leaver_for:List Str:=N_Room_leaver_for.take 2
theorem sc_Room_leaver_for:FnScope N_Room_leaver_for P_Room_leaver_for (defScope s_Room_leaver_for):=scM
abbrev s_Room_going:Stmt:=inClass (top 12) 10
abbrev N_Room_going:List Str:=["self", "mates"]
abbrev P_Room_going:List Str:=N_Room_going.take 2
theorem sc_Room_going:FnScope N_Room_going P_Room_going (defScope s_Room_going):=scM
abbrev s_Store_init:Stmt:=inClass (top 14) 0
abbrev N_Store_init:List Str:=["self", "room_plan", "shelves", "places", "rule", "writing"]
abbrev P_Store_init:List Str:=N_Store_init.take 2
theorem sc_Store_init:FnScope N_Store_init P_Store_init (defScope s_Store_init):=scM
abbrev s_Store_has:Stmt:=inClass (top 14) 1
abbrev N_Store_has:List Str:=["self", "board"]
abbrev P_Store_has:List Str:=N_Store_has.take 2
theorem sc_Store_has:FnScope N_Store_has P_Store_has (defScope s_Store_has):=scM
abbrev s_Store_take_in:Stmt:=inClass (top 14) 2
abbrev N_Store_take_in:List Str:=["self", "board", "words"]
abbrev P_Store_take_in:List Str:=N_Store_take_in.take 3
theorem sc_Store_take_in:FnScope N_Store_take_in P_Store_take_in (defScope s_Store_take_in):=scM
abbrev s_Store_give_out:Stmt:=inClass (top 14) 3
abbrev N_Store_give_out:List Str:=["self", "board"]
abbrev P_Store_give_out:List Str:=N_Store_give_out.take 2
theorem sc_Store_give_out:FnScope N_Store_give_out P_Store_give_out (defScope s_Store_give_out):=scM
abbrev s_Store_words_of:Stmt:=inClass (top 14) 4
abbrev N_Store_words_of:List Str:=["self", "board"]
abbrev P_Store_words_of:List Str:=N_Store_words_of.take 2
theorem sc_Store_words_of:FnScope N_Store_words_of P_Store_words_of (defScope s_Store_words_of):=scM
abbrev s_Store_lay:Stmt:=inClass (top 14) 5
abbrev N_Store_lay:List Str:=["self", "board", "words"]
abbrev P_Store_lay:List Str:=N_Store_lay.take 3
theorem sc_Store_lay:FnScope N_Store_lay P_Store_lay (defScope s_Store_lay):=scM
abbrev s_Store_lay_word:Stmt:=inClass (top 14) 6
abbrev N_Store_lay_word:List Str:=["self", "board", "at", "word"]
abbrev P_Store_lay_word:List Str:=N_Store_lay_word.take 4
theorem sc_Store_lay_word:FnScope N_Store_lay_word P_Store_lay_word (defScope s_Store_lay_word):=scM
abbrev s_Store_freshen:Stmt:=inClass (top 14) 8
abbrev N_Store_freshen:List Str:=["self", "board"]
abbrev P_Store_freshen:List Str:=N_Store_freshen.take 2
theorem sc_Store_freshen:FnScope N_Store_freshen P_Store_freshen (defScope s_Store_freshen):=scM
abbrev s_Memory_init:Stmt:=inClass (top 15) 0
abbrev N_Memory_init:List Str:=["self", "size"]
abbrev P_Memory_init:List Str:=N_Memory_init.take 2
theorem sc_Memory_init:FnScope N_Memory_init P_Memory_init (defScope s_Memory_init):=scM
abbrev s_Memory_words_of:Stmt:=inClass (top 15) 2
abbrev N_Memory_words_of:List Str:=["self", "board"]
abbrev P_Memory_words_of:List Str:=N_Memory_words_of.take 2
theorem sc_Memory_words_of:FnScope N_Memory_words_of P_Memory_words_of (defScope s_Memory_words_of):=scM
abbrev s_Memory_lay:Stmt:=inClass (top 15) 3
abbrev N_Memory_lay:List Str:=["self", "board", "words", "spot", "word"]
abbrev P_Memory_lay:List Str:=N_Memory_lay.take 3
theorem sc_Memory_lay:FnScope N_Memory_lay P_Memory_lay (defScope s_Memory_lay):=scM
abbrev s_Steps_init:Stmt:=inClass (top 17) 0
abbrev N_Steps_init:List Str:=["self", "size", "room_plans"]
abbrev P_Steps_init:List Str:=N_Steps_init.take 3
theorem sc_Steps_init:FnScope N_Steps_init P_Steps_init (defScope s_Steps_init):=scM
abbrev s_Steps_lies:Stmt:=inClass (top 17) 1
abbrev N_Steps_lies:List Str:=["self", "k"]
abbrev P_Steps_lies:List Str:=N_Steps_lies.take 2
theorem sc_Steps_lies:FnScope N_Steps_lies P_Steps_lies (defScope s_Steps_lies):=scM
abbrev s_Steps_changed:Stmt:=inClass (top 17) 2
abbrev N_Steps_changed:List Str:=["self", "k"]
abbrev P_Steps_changed:List Str:=N_Steps_changed.take 2
theorem sc_Steps_changed:FnScope N_Steps_changed P_Steps_changed (defScope s_Steps_changed):=scM
abbrev s_Steps_words:Stmt:=inClass (top 17) 3
abbrev N_Steps_words:List Str:=["self", "k", "board"]
abbrev P_Steps_words:List Str:=N_Steps_words.take 3
theorem sc_Steps_words:FnScope N_Steps_words P_Steps_words (defScope s_Steps_words):=scM
abbrev s_Steps_store:Stmt:=inClass (top 17) 5
abbrev N_Steps_store:List Str:=["self", "k"]
abbrev P_Steps_store:List Str:=N_Steps_store.take 2
theorem sc_Steps_store:FnScope N_Steps_store P_Steps_store (defScope s_Steps_store):=scM
abbrev s_Steps_happened:Stmt:=inClass (top 17) 6
abbrev N_Steps_happened:List Str:=["self", "events"]
abbrev P_Steps_happened:List Str:=N_Steps_happened.take 1
theorem sc_Steps_happened:FnScope N_Steps_happened P_Steps_happened (defScope s_Steps_happened):=scM
abbrev s_Steps_leaver:Stmt:=inClass (top 17) 7
abbrev N_Steps_leaver:List Str:=["self", "k", "board"]
abbrev P_Steps_leaver:List Str:=N_Steps_leaver.take 3
theorem sc_Steps_leaver:FnScope N_Steps_leaver P_Steps_leaver (defScope s_Steps_leaver):=scM
abbrev s_Steps_tell_found:Stmt:=inClass (top 17) 8
abbrev N_Steps_tell_found:List Str:=["self", "k"]
abbrev P_Steps_tell_found:List Str:=N_Steps_tell_found.take 2
theorem sc_Steps_tell_found:FnScope N_Steps_tell_found P_Steps_tell_found (defScope s_Steps_tell_found):=scM
abbrev s_Steps_use_in:Stmt:=inClass (top 17) 9
abbrev N_Steps_use_in:List Str:=["self", "k", "board"]
abbrev P_Steps_use_in:List Str:=N_Steps_use_in.take 3
theorem sc_Steps_use_in:FnScope N_Steps_use_in P_Steps_use_in (defScope s_Steps_use_in):=scM
abbrev s_Steps_come_in:Stmt:=inClass (top 17) 10
abbrev N_Steps_come_in:List Str:=["self", "k", "board", "words"]
abbrev P_Steps_come_in:List Str:=N_Steps_come_in.take 4
theorem sc_Steps_come_in:FnScope N_Steps_come_in P_Steps_come_in (defScope s_Steps_come_in):=scM
abbrev s_Steps_go_out:Stmt:=inClass (top 17) 11
abbrev N_Steps_go_out:List Str:=["self", "k", "board"]
abbrev P_Steps_go_out:List Str:=N_Steps_go_out.take 3
theorem sc_Steps_go_out:FnScope N_Steps_go_out P_Steps_go_out (defScope s_Steps_go_out):=scM
abbrev s_Steps_put:Stmt:=inClass (top 17) 12
abbrev N_Steps_put:List Str:=["self", "k", "board", "words"]
abbrev P_Steps_put:List Str:=N_Steps_put.take 4
theorem sc_Steps_put:FnScope N_Steps_put P_Steps_put (defScope s_Steps_put):=scM
abbrev s_Steps_word_in:Stmt:=inClass (top 17) 13
abbrev N_Steps_word_in:List Str:=["self", "k", "spot"]
abbrev P_Steps_word_in:List Str:=N_Steps_word_in.take 3
theorem sc_Steps_word_in:FnScope N_Steps_word_in P_Steps_word_in (defScope s_Steps_word_in):=scM
abbrev s_Steps_put_word:Stmt:=inClass (top 17) 14
abbrev N_Steps_put_word:List Str:=["self", "k", "spot", "word"]
abbrev P_Steps_put_word:List Str:=N_Steps_put_word.take 4
theorem sc_Steps_put_word:FnScope N_Steps_put_word P_Steps_put_word (defScope s_Steps_put_word):=scM
abbrev s_Stairs_init:Stmt:=inClass (top 19) 0
abbrev N_Stairs_init:List Str:=["self", "plan", "size", "kind", "room_plans"]
abbrev P_Stairs_init:List Str:=N_Stairs_init.take 2
theorem sc_Stairs_init:FnScope N_Stairs_init P_Stairs_init (defScope s_Stairs_init):=scM
abbrev s_Stairs_read:Stmt:=inClass (top 19) 1
abbrev N_Stairs_read:List Str:=["self", "spot", "board"]
abbrev P_Stairs_read:List Str:=N_Stairs_read.take 2
theorem sc_Stairs_read:FnScope N_Stairs_read P_Stairs_read (defScope s_Stairs_read):=scM
abbrev s_Stairs_write:Stmt:=inClass (top 19) 2
abbrev N_Stairs_write:List Str:=["self", "spot", "word", "board"]
abbrev P_Stairs_write:List Str:=N_Stairs_write.take 3
theorem sc_Stairs_write:FnScope N_Stairs_write P_Stairs_write (defScope s_Stairs_write):=scM
abbrev s_Stairs_fetch:Stmt:=inClass (top 19) 5
abbrev N_Stairs_fetch:List Str:=["self", "board", "k"]
abbrev P_Stairs_fetch:List Str:=N_Stairs_fetch.take 2
theorem sc_Stairs_fetch:FnScope N_Stairs_fetch P_Stairs_fetch (defScope s_Stairs_fetch):=scM
abbrev s_Stairs_nearest:Stmt:=inClass (top 19) 6
abbrev N_Stairs_nearest:List Str:=["self", "board", "k", "store"]
abbrev P_Stairs_nearest:List Str:=N_Stairs_nearest.take 2
theorem sc_Stairs_nearest:FnScope N_Stairs_nearest P_Stairs_nearest (defScope s_Stairs_nearest):=scM
abbrev s_Stairs_change:Stmt:=inClass (top 19) 7
abbrev N_Stairs_change:List Str:=["self", "k", "board", "store"]
abbrev P_Stairs_change:List Str:=N_Stairs_change.take 3
theorem sc_Stairs_change:FnScope N_Stairs_change P_Stairs_change (defScope s_Stairs_change):=scM
abbrev s_Stairs_go_on:Stmt:=inClass (top 19) 8
abbrev N_Stairs_go_on:List Str:=["self", "k", "board", "words", "far", "store"]
abbrev P_Stairs_go_on:List Str:=N_Stairs_go_on.take 4
theorem sc_Stairs_go_on:FnScope N_Stairs_go_on P_Stairs_go_on (defScope s_Stairs_go_on):=scM
abbrev s_Stairs_fetch_down:Stmt:=inClass (top 19) 9
abbrev N_Stairs_fetch_down:List Str:=["self", "k", "board", "words", "near", "out"]
abbrev P_Stairs_fetch_down:List Str:=N_Stairs_fetch_down.take 3
theorem sc_Stairs_fetch_down:FnScope N_Stairs_fetch_down P_Stairs_fetch_down (defScope s_Stairs_fetch_down):=scM
abbrev s_Stairs_drive_out:Stmt:=inClass (top 19) 10
abbrev N_Stairs_drive_out:List Str:=["self", "k", "board", "words", "fresh", "near", "fresh_near"]
abbrev P_Stairs_drive_out:List Str:=N_Stairs_drive_out.take 3
theorem sc_Stairs_drive_out:FnScope N_Stairs_drive_out P_Stairs_drive_out (defScope s_Stairs_drive_out):=scM
abbrev s_Stairs_fetch_apart:Stmt:=inClass (top 19) 11
abbrev N_Stairs_fetch_apart:List Str:=["self", "k", "board", "words", "fresh"]
abbrev P_Stairs_fetch_apart:List Str:=N_Stairs_fetch_apart.take 3
theorem sc_Stairs_fetch_apart:FnScope N_Stairs_fetch_apart P_Stairs_fetch_apart (defScope s_Stairs_fetch_apart):=scM
abbrev s_Stairs_push:Stmt:=inClass (top 19) 12
abbrev N_Stairs_push:List Str:=["self", "k", "board", "words", "fresh", "out", "out_words", "out_fresh"]
abbrev P_Stairs_push:List Str:=N_Stairs_push.take 5
theorem sc_Stairs_push:FnScope N_Stairs_push P_Stairs_push (defScope s_Stairs_push):=scM
abbrev s_Stairs_come_apart:Stmt:=inClass (top 19) 13
abbrev N_Stairs_come_apart:List Str:=["self", "k", "board", "words", "fresh"]
abbrev P_Stairs_come_apart:List Str:=N_Stairs_come_apart.take 5
theorem sc_Stairs_come_apart:FnScope N_Stairs_come_apart P_Stairs_come_apart (defScope s_Stairs_come_apart):=scM
abbrev s_box:Stmt:=top 21
abbrev N_box:List Str:=["_law_script", "_law_k", "_law_cell"]
abbrev P_box:List Str:=N_box.take 2
theorem sc_box:FnScope N_box P_box (defScope s_box):=scM
abbrev s_take:Stmt:=top 22
abbrev N_take:List Str:=["_law_box_here", "_law_size", "_law_found", "_law_step", "_law_once", "_law_twice"]
abbrev P_take:List Str:=N_take.take 2
theorem sc_take:FnScope N_take P_take (defScope s_take):=scM
abbrev s_folded:Stmt:=top 23
abbrev N_folded:List Str:=["_law_script", "_law_size", "_law_cells", "_law_k", "_law_cell"]
abbrev P_folded:List Str:=N_folded.take 2
theorem sc_folded:FnScope N_folded P_folded (defScope s_folded):=scM
abbrev s_room_plan:Stmt:=top 24
abbrev N_room_plan:List Str:=["_law_box_here", "_law_far", "_law_shelves", "_law_places", "_law_rule"]
abbrev P_room_plan:List Str:=N_room_plan.take 1
theorem sc_room_plan:FnScope N_room_plan P_room_plan (defScope s_room_plan):=scM
abbrev s_plan:Stmt:=top 25
abbrev N_plan:List Str:=["_law_box_here", "_law_kind", "_law_size"]
abbrev P_plan:List Str:=N_plan.take 1
theorem sc_plan:FnScope N_plan P_plan (defScope s_plan):=scM
abbrev s_some_boards:Stmt:=top 26
abbrev N_some_boards:List Str:=["_law_box_here", "_law_size", "_law_many_here", "_law_way", "_law_begin", "_law_first", "_law_found", "_law_far", "_law_k", "_law_at"]
abbrev P_some_boards:List Str:=N_some_boards.take 2
theorem sc_some_boards:FnScope N_some_boards P_some_boards (defScope s_some_boards):=scM
abbrev s_word:Stmt:=top 27
abbrev N_word:List Str:=["_law_box_here", "_law_way", "_law_number", "_law_turn"]
abbrev P_word:List Str:=N_word.take 1
theorem sc_word:FnScope N_word P_word (defScope s_word):=scM
abbrev s_deed:Stmt:=top 28
abbrev N_deed:List Str:=["_law_box_here", "_law_size", "_law_some", "_law_write", "_law_spot"]
abbrev P_deed:List Str:=N_deed.take 3
theorem sc_deed:FnScope N_deed P_deed (defScope s_deed):=scM
abbrev s_many:Stmt:=top 29
abbrev N_many:List Str:=["_law_box_here", "_law_few", "_law_most", "_law_great"]
abbrev P_many:List Str:=N_many.take 3
theorem sc_many:FnScope N_many P_many (defScope s_many):=scM
abbrev s_view:Stmt:=top 30
abbrev N_view:List Str:=["_law_stairs", "_law_plan_here", "_law_some", "_law_rooms", "_law_found", "_law_k", "_law_rows"]
abbrev P_view:List Str:=N_view.take 3
theorem sc_view:FnScope N_view P_view (defScope s_view):=scM
abbrev s_stair_right:Stmt:=top 31
abbrev N_stair_right:List Str:=["_law_plan_here", "_law_k", "_law_ahead", "_law_behind", "_law_events", "_law_deed_here", "_law_mine", "_law_ins", "_law_outs", "_law_puts", "_law_own", "_law_rows", "_law_board", "_law_kept", "_law_is_late", "_law_due"]
abbrev P_stair_right:List Str:=N_stair_right.take 6
theorem sc_stair_right:FnScope N_stair_right P_stair_right (defScope s_stair_right):=scM
abbrev s_right:Stmt:=top 32
abbrev N_right:List Str:=["_law_box_here", "_law_plan_here", "_law_some", "_law_stairs", "_law_rooms", "_law_turn", "_law_deed_here", "_law_ahead", "_law_events", "_law_behind", "_law_near", "_law_k", "_law_puts"]
abbrev P_right:List Str:=N_right.take 1
theorem sc_right:FnScope N_right P_right (defScope s_right):=scM
abbrev s_law:Stmt:=top 33
abbrev N_law:List Str:=["_law_script", "_law_cells"]
abbrev P_law:List Str:=N_law.take 1
theorem sc_law:FnScope N_law P_law (defScope s_law):=scM
structure Txt (K:PySem.W.Frag) (mg:Str→Option Value):Prop where
  z_abs:mg "abs" = none
  z_all:mg "all" = none
  z_any:mg "any" = none
  z_dict:mg "dict" = none
  z_divmod:mg "divmod" = none
  z_enumerate:mg "enumerate" = none
  z_int:mg "int" = none
  z_len:mg "len" = none
  z_list:mg "list" = none
  z_max:mg "max" = none
  z_min:mg "min" = none
  z_range:mg "range" = none
  z_set:mg "set" = none
  z_sorted:mg "sorted" = none
  z_tuple:mg "tuple" = none
  z_zip:mg "zip" = none
  cl_Room:Cls K (clsOf K "Room")
  n_Room_places:NoAttr K (clsOf K "Room") "places"
  n_Room_rule:NoAttr K (clsOf K "Room") "rule"
  n_Room_shelves:NoAttr K (clsOf K "Room") "shelves"
  n_Room_standing:NoAttr K (clsOf K "Room") "standing"
  n_Room_uses:NoAttr K (clsOf K "Room") "uses"
  cl_Store:Cls K (clsOf K "Store")
  n_Store_fresh:NoAttr K (clsOf K "Store") "fresh"
  n_Store_held:NoAttr K (clsOf K "Store") "held"
  n_Store_late:NoAttr K (clsOf K "Store") "late"
  n_Store_room:NoAttr K (clsOf K "Store") "room"
  cl_Memory:Cls K (clsOf K "Memory")
  n_Memory_kept:NoAttr K (clsOf K "Memory") "kept"
  n_Memory_size:NoAttr K (clsOf K "Memory") "size"
  cl_Stairs:Cls K (clsOf K "Stairs")
  n_Stairs_bottom:NoAttr K (clsOf K "Stairs") "bottom"
  n_Stairs_events:NoAttr K (clsOf K "Stairs") "events"
  n_Stairs_kind:NoAttr K (clsOf K "Stairs") "kind"
  n_Stairs_last:NoAttr K (clsOf K "Stairs") "last"
  n_Stairs_size:NoAttr K (clsOf K "Stairs") "size"
  n_Stairs_stores:NoAttr K (clsOf K "Stairs") "stores"
structure BoxAt (H:Hp) (b:Addr) (a q c:Int):Prop where
  at':H b=some (.lst [.int a,.int q,.int c])
  a0:0≤a
  q0:0≤q
  q1:q<2147483647
  c0:0≤c
theorem BoxAt.sb {H H':Hp} {b x:Addr} {a q c:Int} (B:BoxAt H b a q c) (s:SB x H H') (n:b≠x):BoxAt H' b a q c:=⟨s _ _ n B.at',B.a0,B.q0,B.q1,B.c0⟩
theorem BoxAt.same {H H':Hp} {b:Addr} {a q c:Int} (B:BoxAt H b a q c) (s:Same H H'):BoxAt H' b a q c:=⟨s _ _ B.at',B.a0,B.q0,B.q1,B.c0⟩
def spTake:Sp:=fun vs H Q _=>∃ (b:Addr) (a q c n:Int),vs=[.ref b,.int n]∧BoxAt H b a q c∧c<1099511627776∧0<n∧n<1073741824 ∧
  ∀ (r a' c':Int) (H':Hp),0≤r→r<n→BoxAt H' b a' q c'→c'≤c+1→SB b H H'→Q (.int r) H'
section
theorem em0 (a:Int) {b:Int} (h:0<b):0≤a % b:=Int.emod_nonneg a (by lia)
theorem em1 (a:Int) {b:Int} (h:0<b):a % b<b:=Int.emod_lt_of_pos a h
theorem ok_take {f:Addr} {fd:FuncData} (F:Fun K "_law_take" "_law_take" s_take f fd) (T:Txt K mg):FnOk P w K mg base CX0 1 f fd P_take spTake:=by
  refine F.ok sc_take (fun vs H Q E h=>?_) (fun cdv A outer s H vs Q E hr h=>?_)
  · obtain ⟨b,a,q,c,n,rfl,_⟩:=h
    rfl
  obtain ⟨b,a,q,c,n,rfl,B,hc,hn0,hn1,k⟩:=h
  have nd:=sc_take.nd
  refine ⟨_,(pss_cons (ps_if (pt_cmpR op_gt (pe_ix (ix_listK (K:=K) rfl) (pv 0) pe_int (fun _ _=>rfl)) pe_int (nomark _)) (pss_cons (ps_asg (pe_callBN call_divmod rfl T.z_divmod boot_divmod (pc (pe_ix (ix_listK (K:=K) rfl) (pv 0) pe_int (fun _ _=>rfl)) (pc (pv 1) pa_nil))) (pg_tupK (K:=K) (n:=2) rfl rfl (pgs_cons (pg_sub (pv 0) pe_int set_list) (pgs_cons (pgn 2 nd) pgs_nil))))
      (pss_one (ps_ret (pv 2)))) pss_nil)
      (pss_cons (ps_asg (pe_op op_add (pe_ix (ix_listK (K:=K) rfl) (pv 0) pe_int (fun _ _=>rfl)) pe_int) (pg_sub (pv 0) pe_int set_list))
      (pss_cons (pst 3 nd (pe_op op_add pe_int (pe_op op_mul (pe_ix (ix_listK (K:=K) rfl) (pv 0) pe_int (fun _ _=>rfl)) (pe_ix (ix_listK (K:=K) rfl) (pv 0) pe_int (fun _ _=>rfl)))))
      (pss_cons (pst 4 nd (pe_op op_mod (pe_op op_mul (pe_op op_add (pe_ix (ix_listK (K:=K) rfl) (pv 0) pe_int (fun _ _=>rfl)) (pe_op op_mul pe_int (pe_ix (ix_listK (K:=K) rfl) (pv 0) pe_int (fun _ _=>rfl)))) (pv 3)) pe_int))
      (pss_cons (pst 5 nd (pe_op op_mod (pe_op op_add (pe_op op_mul (pv 4) (pe_op op_add (pe_op op_mod (pv 4) pe_int) pe_int)) (pe_ix (ix_listK (K:=K) rfl) (pv 0) pe_int (fun _ _=>rfl))) pe_int))
      (pss_one (ps_ret (pe_op op_mod (pe_op op_fdiv (pe_op op_mod (pe_op op_mul (pv 5) (pe_op op_add (pe_op op_mod (pv 5) pe_int) pe_int)) pe_int) pe_int) (pv 1))))))))),?_⟩
  have hb:=B.at'
  have hc0:=B.c0
  have hq0:=B.q0
  have hq1:=B.q1
  refine ⟨_,rfl,b,_,_,_,rfl,rfl,SqL.of hb,atI0,_,_,rfl,rfl,_,rfl,?_⟩
  refine ite_dec (fun ha=>?_) (fun ha=>?_)
  · refine ⟨_,rfl,b,_,_,_,rfl,rfl,SqL.of hb,atI0,_,rfl,_,_,rfl,⟨hn0,hn1⟩,fun p hp=>?_⟩
    have hbp:upd H p (.tup [.int (a / n),.int (a % n)]) b=some (.lst [.int a,.int q,.int c]):=by rw [upd_ne (ne_of_none hb hp)]; exact hb
    refine ⟨p,_,rfl,SqT.of upd_same,rfl,_,_,rfl,⟨_,rfl,b,_,_,0,rfl,rfl,hbp,rfl,?_⟩⟩
    refine ⟨_,_,rfl,rfl,_,rfl,?_⟩
    exact k _ (a / n) c _ (em0 _ hn0) (em1 _ hn0) ⟨upd_same,Int.ediv_nonneg B.a0 (by lia),hq0,hq1,hc0⟩ (by lia) ((same_upd hp _).sb b |>.trans (sb_upd b _ _))
  · refine ⟨_,rfl,b,_,_,_,rfl,rfl,SqL.of hb,atI2,_,_,rfl,rfl,_,rfl,b,_,_,2,rfl,rfl,hb,rfl,?_⟩
    have hb1:upd H b (.lst [.int a,.int q,.int (c+1)]) b=some (.lst [.int a,.int q,.int (c+1)]):=upd_same
    have i0:SqL K (upd H b (.lst [.int a,.int q,.int (c+1)])) b [.int a,.int q,.int (c+1)]:=SqL.of hb1
    refine ⟨_,rfl,b,_,_,_,rfl,rfl,i0,atI2,_,rfl,b,_,_,_,rfl,rfl,i0,atI2,_,_,rfl,rfl,.inl ⟨by lia,by lia⟩,_,_,rfl,rfl,?_⟩
    refine ⟨_,rfl,b,_,_,_,rfl,rfl,i0,atI1,_,rfl,b,_,_,_,rfl,rfl,i0,atI2,_,_,rfl,rfl,.inl ⟨by decide,by decide⟩,_,_,rfl,rfl,_,rfl,_,_,rfl,rfl,.inl ⟨by lia,by lia⟩,_,_,rfl,rfl,(by show (0:Int)<_; decide),?_⟩
    generalize hon:(q+39373 * (c+1)) * (69621+(c+1) * (c+1)) % 2147483587=on
    have on0:0≤on:=by rw [← hon]; exact em0 _ (by decide)
    have on1:on<2147483587:=by rw [← hon]; exact em1 _ (by decide)
    refine ⟨_,rfl,_,rfl,_,_,rfl,rfl,(by show (0:Int)<_; decide),_,_,rfl,rfl,_,_,rfl,rfl,.inl ⟨by lia,by lia⟩,_,rfl,b,_,_,_,rfl,rfl,i0,atI2,_,_,rfl,rfl,_,_,rfl,rfl,(by show (0:Int)<_; decide),?_⟩
    generalize htw:(on * (on % 30011+5)+(c+1)) % 2147483563=tw
    have tw0:0≤tw:=by rw [← htw]; exact em0 _ (by decide)
    have tw1:tw<2147483563:=by rw [← htw]; exact em1 _ (by decide)
    refine ⟨_,rfl,_,rfl,_,_,rfl,rfl,(by show (0:Int)<_; decide),_,_,rfl,rfl,_,_,rfl,rfl,.inl ⟨by lia,by lia⟩,_,_,rfl,rfl,(by show (0:Int)<_; decide),_,_,rfl,rfl,⟨by decide,by decide⟩,_,rfl,_,_,rfl,rfl,hn0,?_⟩
    exact k _ a (c+1) _ (em0 _ hn0) (em1 _ hn0) ⟨hb1,B.a0,hq0,hq1,by lia⟩ (by lia) (sb_upd b _ _)
end
section
def spBox (K:PySem.W.Frag):Sp:=fun vs H Q _=>∃ (l:Addr) (ns:List Int) (k:Int),vs=[.ref l,.int k]∧SqL K H l (ns.map V.int)∧0≤k∧k<1000000 ∧
  ∀ (r:Addr) (a q:Int) (H':Hp),H r=none→Same H H'→BoxAt H' r a q 0→Q (.ref r) H'
theorem ite01 (b:Bool) : -(2 ^ 64)<(if b then 1 else 0:Int)∧(if b then 1 else 0:Int)<2 ^ 64:=by cases b <;> decide
theorem atI_ints {ns:List Int} {k:Int} (h0:0≤k) (h:k<(ns.length:Int)):∃ v:Int,atI (ns.map V.int) k=some (.int v):=by
  have hk:k.toNat<ns.length:=by lia
  have q:atI (ns.map V.int) ((k.toNat:Nat):Int)=some (.int ns[k.toNat]):=atI_nat (by rw [List.getElem?_map,List.getElem?_eq_getElem hk] <;> rfl)
  rw [show ((k.toNat:Nat):Int)=k by lia] at q
  exact ⟨_,q⟩
theorem abs_nn (i:Int):0≤(if i<0 then -i else i):=by split <;> lia
theorem abs_mul (i:Int) (b:Bool):0≤(if i<0 then -i else i) * (if b then 1 else 0:Int):=Int.mul_nonneg (abs_nn i) (by cases b <;> decide)
theorem ok_box {f:Addr} {fd:FuncData} (F:Fun K "_law_box" "_law_box" s_box f fd) (T:Txt K mg):FnOk P w K mg base CX0 1 f fd P_box (spBox K):=by
  refine F.ok sc_box (fun vs H Q E h=>?_) (fun cdv A outer s H vs Q E hr h=>?_)
  · obtain ⟨l,ns,k,rfl,_⟩:=h
    rfl
  obtain ⟨l,ns,k,rfl,hS,hk0,hk1,kk⟩:=h
  have nd:=sc_box.nd
  refine ⟨_,(pss_cons (pst 2 nd (pe_ifExp (pt_cmpR op_lt (pv 1) (pe_callBN (call_len_seqK (K:=K) rfl) rfl T.z_len PySem.boot_len (pc (pv 0) pa_nil)) (nomark _)) (pe_ix (ix_listK (K:=K) rfl) (pv 0) (pv 1) (fun _ _=>rfl)) pe_int))
      (pss_one (ps_ret (pe_lst (pc (pe_op op_mul (pe_callBN call_abs rfl T.z_abs boot_abs (pc (pv 2) pa_nil)) (pe_callTyN call_int1 rfl T.z_int boot_intT (pc (pe_cmpR op_ge (pe_callBN call_abs rfl T.z_abs boot_abs (pc (pv 2) pa_nil)) (pe_op op_pow pe_int pe_int) (nomark _)) pa_nil))) (pc (pe_op op_mod (pe_op op_mul (pe_op op_add (pe_op op_add (pe_op op_mod (pv 2) pe_int) (pe_op op_mul pe_int (pv 1))) pe_int) pe_int) pe_int) (pc pe_int pa_nil))))))),?_⟩
  refine ⟨_,rfl,_,rfl,l,_,rfl,.inl hS,_,_,rfl,rfl,_,rfl,?_⟩
  refine ite_dec (fun c=>?_) (fun c=>?_)
  · rw [List.length_map] at c
    obtain ⟨v,hv⟩:=atI_ints hk0 c
    refine ⟨_,rfl,_,rfl,l,_,_,_,rfl,rfl,hS,hv,?_⟩
    refine ⟨_,rfl,_,rfl,_,rfl,_,rfl,_,_,rfl,rfl,⟨by decide,by decide,by decide⟩,_,_,rfl,rfl,.inr ⟨_,rfl,_,_,rfl,rfl,.inr (ite01 _),?_⟩⟩
    refine ⟨_,rfl,_,_,rfl,rfl,(by show (0:Int)<_; decide),_,rfl,_,_,rfl,rfl,.inl ⟨by decide,by decide⟩,_,_,rfl,rfl,_,_,rfl,rfl,_,_,rfl,rfl,.inr ⟨by decide,by decide⟩,_,_,rfl,rfl,(by show (0:Int)<_; decide),(by show 3≤sizeLine; decide),fun r hr=>?_⟩
    exact kk r _ _ _ hr (same_upd hr _) ⟨upd_same,abs_mul _ _,em0 _ (by decide),em1 _ (by decide),Int.le_refl _⟩
  · refine ⟨_,rfl,_,rfl,_,rfl,_,rfl,_,_,rfl,rfl,⟨by decide,by decide,by decide⟩,_,_,rfl,rfl,.inr ⟨_,rfl,_,_,rfl,rfl,.inr (ite01 _),?_⟩⟩
    refine ⟨_,rfl,_,_,rfl,rfl,(by show (0:Int)<_; decide),_,rfl,_,_,rfl,rfl,.inl ⟨by decide,by decide⟩,_,_,rfl,rfl,_,_,rfl,rfl,_,_,rfl,rfl,.inr ⟨by decide,by decide⟩,_,_,rfl,rfl,(by show (0:Int)<_; decide),(by show 3≤sizeLine; decide),fun r hr=>?_⟩
    exact kk r _ _ _ hr (same_upd hr _) ⟨upd_same,abs_mul _ _,em0 _ (by decide),em1 _ (by decide),Int.le_refl _⟩
def spFolded (K:PySem.W.Frag):Sp:=fun vs H Q _=>∃ (a:Addr) (ns:List Int) (n:Nat),vs=[.ref a,.int (n:Int)]∧SqL K H a (ns.map V.int)∧ns.length≤63∧0<n∧n≤63 ∧
  ∀ (r:Addr) (ms:List Int) (H':Hp),H r=none→Same H H'→H' r=some (.lst (ms.map V.int))→ms.length=min n ns.length→Q (.ref r) H'
theorem cut_map (ns:List Int) (lo hi:Option Int):cutV (ns.map V.int) lo hi=((ns.drop (HT.sIx ns.length 0 lo)).take (HT.sIx ns.length ns.length hi - HT.sIx ns.length 0 lo)).map V.int:=by
  unfold cutV
  rw [List.length_map,← List.map_drop,← List.map_take]
theorem set_ints (ms:List Int) (j:Nat) (v:Int):(ms.map V.int).set j (.int v)=(ms.set j v).map V.int:=by rw [List.map_set]
theorem ixN_ok {n:Nat} {i:Int} (h0:0≤i) (h:i<n):ixN n i=some i.toNat:=by unfold ixN; rw [if_pos h0,if_pos h]
theorem ms_get {ms:List Int} {i:Nat} {x:V} (h:(ms.map V.int)[i]?=some x):∃ z,x=V.int z∧i<ms.length:=by
  rw [List.getElem?_map] at h
  cases e:ms[i]? with
  | none=>rw [e] at h; cases h
  | some z=>rw [e] at h; exact ⟨z,(Option.some.inj h).symm,(List.getElem?_eq_some_iff.mp e).1⟩
theorem ok_folded {f:Addr} {fd:FuncData} (F:Fun K "_law_folded" "_law_folded" s_folded f fd) (T:Txt K mg):FnOk P w K mg base CX0 1 f fd P_folded (spFolded K):=by
  refine F.ok sc_folded (fun vs H Q E h=>?_) (fun cdv A outer s H vs Q E hr h=>?_)
  · obtain ⟨a,ns,n,rfl,_⟩:=h
    rfl
  obtain ⟨a,ns,n,rfl,hS,h63,hn0,hn1,k⟩:=h
  have nd:=sc_folded.nd
  refine ⟨_,(pss_cons (pst 2 nd (pe_callTyN (call_list_ofK (K:=K) rfl) rfl T.z_list boot_listT (pc (pe_slice (sl_listK (K:=K) rfl) (pv 0) po_none (po_some (pv 1))) pa_nil)))
      (pss_cons (ps_for PassesOwn.never rfl (pi_enum rfl T.z_enumerate (pc (pe_slice (sl_listK (K:=K) rfl) (pv 0) (po_some (pv 1)) (po_some pe_int)) pa_nil)) (pg_tupK (K:=K) (n:=2) rfl rfl (pgs_cons (pgn 3 nd) (pgs_cons (pgn 4 nd) pgs_nil))) (pss_one (ps_asg (pe_op op_add (pe_ix (ix_listK (K:=K) rfl) (pv 2) (pe_op op_mod (pv 3) (pv 1)) (fun _ _=>rfl)) (pe_op op_mul (pv 4) (pe_op op_add (pv 3) pe_int))) (pg_sub (pv 2) (pe_op op_mod (pv 3) (pv 1)) set_list))))
      (pss_one (ps_ret (pv 2))))),?_⟩
  refine ⟨_,rfl,_,rfl,_,rfl,a,_,rfl,hS,fun p hp=>?_⟩
  have s1:=same_upd hp (.lst (cutV (ns.map V.int) none (some (n:Int))))
  refine ⟨p,_,rfl,.inl (SqL.of upd_same),fun r hr1=>?_⟩
  have s2:=s1.trans (same_upd hr1 (.lst (cutV (ns.map V.int) none (some (n:Int)))))
  have hrH:H r=none:=s1.free hr1
  rw [cut_map] at *
  generalize hms:(ns.drop (HT.sIx ns.length 0 none)).take (HT.sIx ns.length ns.length (some (n:Int)) - HT.sIx ns.length 0 none)=ms at *
  have lms:ms.length=min n ns.length:=by
    rw [← hms,HT.sIx_none,HT.sIx_nat,List.length_take,List.length_drop]; lia
  generalize hH2:upd (upd H p (.lst (ms.map V.int))) r (.lst (ms.map V.int))=H2 at *
  have h2r:H2 r=some (.lst (ms.map V.int)):=by rw [← hH2]; exact upd_same
  refine ⟨_,rfl,_,rfl,_,rfl,_,rfl,a,_,rfl,s2.seq hS,fun t ht=>?_⟩
  rw [cut_map]
  generalize hws:(ns.drop (HT.sIx ns.length 0 (some (n:Int)))).take (HT.sIx ns.length ns.length (some 63) - HT.sIx ns.length 0 (some (n:Int)))=ws
  have lws:0<ws.length→n<ns.length:=fun h=>by
    rw [← hws,List.length_take,List.length_drop,HT.sIx_nat] at h; lia
  have lw63:ws.length≤63:=by rw [← hws,List.length_take,List.length_drop]; lia
  have s3:=s2.trans (same_upd ht (.lst (ws.map V.int)))
  have nrt:r≠t:=ne_of_none h2r ht
  refine ⟨t,rfl,⟨_,SqL.of upd_same⟩,for_enum (K:=K) (a:=t) (xs:=ws.map V.int) (fun i σ H'=>∃ (ms':List Int) (v3 v4:Option V),σ=[some (.ref a),some (.int n),some (.ref r),v3,v4]∧ms'.length=min n ns.length∧H' r=some (.lst (ms'.map V.int))∧H' t=some (.lst (ws.map V.int))∧Same H H')
    ⟨ms,none,none,rfl,lms,by rw [upd_ne nrt]; exact h2r,upd_same,s3⟩ (fun i σ H' _ ⟨_,_,_,_,_,_,q,_⟩=>SqL.of q) ?_ ?_⟩
  · rintro i x u σ H' hi ⟨ms',v3,v4,rfl,lm,h1,h2,s4⟩ hu
    obtain ⟨z,rfl,hlt⟩:=ms_get hi
    have hnl:=lws (by lia)
    have s5:=same_upd hu (.tup [.int (i:Int),.int z])
    refine ⟨u,_,rfl,SqT.of upd_same,rfl,_,_,rfl,_,_,rfl,rfl,?_⟩
    have m0:0≤(i:Int) % (n:Int):=em0 _ (by lia)
    have m1:(i:Int) % (n:Int)<(n:Int):=em1 _ (by lia)
    obtain ⟨v,hv⟩:=atI_ints (ns:=ms') m0 (by lia)
    refine ⟨_,rfl,_,rfl,_,rfl,_,_,rfl,rfl,(by show (0:Int)<_; lia),r,_,_,_,rfl,rfl,SqL.of (s5 _ _ h1),hv,?_⟩
    refine ⟨_,rfl,_,rfl,_,_,rfl,rfl,_,_,rfl,rfl,.inr ⟨by lia,by lia⟩,_,_,rfl,rfl,?_⟩
    refine ⟨_,rfl,_,rfl,_,rfl,_,_,rfl,rfl,(by show (0:Int)<_; lia),r,_,_,((i:Int) % (n:Int)).toNat,rfl,rfl,s5 _ _ h1,ixN_ok m0 (by rw [List.length_map]; lia),?_⟩
    refine ⟨ms'.set ((i:Int) % (n:Int)).toNat (v+z * ((i:Int)+2)),_,_,rfl,by rw [List.length_set]; exact lm,by rw [upd_same,set_ints],?_,?_⟩
    · rw [upd_ne (Ne.symm nrt)]; exact s5 _ _ h2
    · intro b o e
      rw [upd_ne (ne_of_none e hrH)]
      exact s5 _ _ (s4 _ _ e)
  · rintro σ H' ⟨ms',v3,v4,rfl,lm,h1,h2,s4⟩
    exact ⟨_,rfl,k r ms' H' hrH s4 h1 lm⟩
end
theorem hide {t u:TS} {D:Ends} {σ:St} {H:Hp} (h:∀ u',u'=u→tSeq t u' D σ H):tSeq t u D σ H:=h u rfl
theorem cpA {te:TE} {g:TG} {u:TS} {D:Ends} {σ:St} {H:Hp} (Post:V→Hp→Prop) (h1:∀ Q':VK,(∀ v H1,Post v H1→Q' v H1)→te σ H Q') (h2:∀ v H1,Post v H1→g v σ H1 (u D)):tSeq (tAsg te g) u D σ H:=h1 _ h2
theorem cpI {ts u:TS} {D:Ends} {σ:St} {H:Hp} (Post:St→Hp→Prop) (h1:∀ D':Ends,D'.rt=D.rt→(∀ σ1 H1,Post σ1 H1→D'.nx σ1 H1)→ts D' σ H) (h2:∀ σ1 H1,Post σ1 H1→u D σ1 H1):tSeq ts u D σ H:=h1 _ rfl h2
theorem cpIfS {tt:TT} {ta tb:TS} {D:Ends} {σ:St} {H:Hp} (Post:Bool→Hp→Prop) (h1:∀ Q':Bool→Hp→Prop,(∀ v H1,Post v H1→Q' v H1)→tt σ H Q') (h2:∀ c H1,Post c H1→if c=true then ta D σ H1 else tb D σ H1):tIfS tt ta tb D σ H:=h1 _ h2
theorem cpOr {t u:TT} {σ:St} {H:Hp} {Q:Bool→Hp→Prop} (Post:Bool→Hp→Prop) (h1:∀ Q':Bool→Hp→Prop,(∀ v H1,Post v H1→Q' v H1)→t σ H Q') (h2:∀ c H1,Post c H1→if c=true then Q true H1 else u σ H1 Q):tOr t u σ H Q:=h1 _ h2
theorem sb_fresh {b l:Addr} {H G:Hp} {xs:List V} (s:SB b H G) (hb:G b=some (.lst xs)) (hl:G l=none):H l=none:=by
  cases e:H l with
  | none=>rfl
  | some o =>
    by_cases h:l=b
    · rw [h,hb] at hl; cases hl
    · rw [s _ _ h e] at hl; cases hl
theorem at_mem {ns:List Int} {k:Int} (h0:0≤k) (h:k<(ns.length:Int)):∃ v:Int,atI (ns.map V.int) k=some (.int v)∧v∈ns:=by
  have hk:k.toNat<ns.length:=by lia
  have q:atI (ns.map V.int) ((k.toNat:Nat):Int)=some (.int ns[k.toNat]):=atI_nat (by rw [List.getElem?_map,List.getElem?_eq_getElem hk] <;> rfl)
  rw [show ((k.toNat:Nat):Int)=k by lia] at q
  exact ⟨_,q,List.getElem_mem hk⟩
theorem ints_flat (ns:List Int):(ns.map V.int).all flatV=true:=by
  rw [List.all_eq_true]
  intro x hx
  obtain ⟨n,_,rfl⟩:=List.mem_map.mp hx
  rfl
theorem ixN_last {n:Nat} (h:0<n):ixN n (-1)=some (n - 1):=by
  unfold ixN
  rw [if_neg (by decide),if_pos (by lia)]
  congr 1
  lia
theorem mem_set {ns:List Int} {j:Nat} {v x:Int} (h:x∈ns.set j v):x∈ns∨x=v:=by
  rcases List.mem_or_eq_of_mem_set h with h | h
  · exact .inl h
  · exact .inr h
theorem eq_case {i j:Int} {A B:Prop} (h1:i=j→A) (h2:¬ i=j→B):if decide (V.int i=V.int j)=true then A else B :=
  ite_dec (fun e=>h1 (by injection e)) (fun e=>h2 fun z=>e (by rw [z]))
theorem ifF {b:Bool} {A B:Prop} (h:b=false) (hB:B):if b=true then A else B:=by subst h; rw [if_neg Bool.false_ne_true]; exact hB
theorem ifT {b:Bool} {A B:Prop} (h:b=true) (hA:A):if b=true then A else B:=by subst h; rw [if_pos rfl]; exact hA
theorem atI_some {α:Type} {xs:List α} {i:Int} (h0:0≤i) (h1:i<(xs.length:Int)):∃ v,atI xs i=some v∧v∈xs:=by
  have hk:i.toNat<xs.length:=by lia
  have q:atI xs ((i.toNat:Nat):Int)=some xs[i.toNat]:=atI_nat (List.getElem?_eq_getElem hk)
  rw [show ((i.toNat:Nat):Int)=i by lia] at q
  exact ⟨_,q,List.getElem_mem hk⟩
theorem pick01 (x y:Int) (k:Bool):∃ n:Int,atI [V.int x,V.int y] (if k=true then 1 else 0)=some (.int n)∧(n=x∨n=y):=by
  cases k with
  | true=>exact ⟨y,atI1,.inr rfl⟩
  | false=>exact ⟨x,atI0,.inl rfl⟩
theorem pick2 (x y r:Int) (h0:0≤r) (h1:r<2):∃ n:Int,atI [V.int x,V.int y] r=some (.int n)∧(n=x∨n=y):=by
  have h:r=0∨r=1:=by lia
  rcases h with rfl | rfl
  · exact ⟨x,atI0,.inl rfl⟩
  · exact ⟨y,atI1,.inr rfl⟩
theorem pick4s (r:Int) (h0:0≤r) (h1:r<4):∃ n:Int,atI [V.int 1,V.int 1,V.int 12,V.int 24] r=some (.int n)∧(n=1∨n=12∨n=24):=by
  obtain ⟨x,hx,m⟩:=atI_some (xs:=[V.int 1,V.int 1,V.int 12,V.int 24]) h0 (by show r<((4:Nat):Int); lia)
  simp only [List.mem_cons,List.not_mem_nil,or_false] at m
  rcases m with rfl | rfl | rfl | rfl
  · exact ⟨_,hx,.inl rfl⟩
  · exact ⟨_,hx,.inl rfl⟩
  · exact ⟨_,hx,.inr (.inl rfl)⟩
  · exact ⟨_,hx,.inr (.inr rfl)⟩
theorem pick5 (r:Int) (h0:0≤r) (h1:r<5):∃ v,atI [V.int 1,V.int 1,V.int 2,V.int 3,V.int 4] r=some (.int v)∧1≤v∧v≤64:=by
  obtain ⟨x,hx,m⟩:=atI_some (xs:=[V.int 1,V.int 1,V.int 2,V.int 3,V.int 4]) h0 (by show r<((5:Nat):Int); lia)
  simp only [List.mem_cons,List.not_mem_nil,or_false] at m
  rcases m with rfl | rfl | rfl | rfl | rfl <;> exact ⟨_,hx,by decide,by decide⟩
def Rule (z:Str):Prop:=z = "old" ∨ z = "come" ∨ z = "few"
theorem pickR (r:Int) (h0:0≤r) (h1:r<3):∃ z:Str,atI [V.str "old",V.str "come",V.str "few"] r=some (.str z)∧Rule z:=by
  obtain ⟨x,hx,m⟩:=atI_some (xs:=[V.str "old",V.str "come",V.str "few"]) h0 (by show r<((3:Nat):Int); lia)
  simp only [List.mem_cons,List.not_mem_nil,or_false] at m
  rcases m with rfl | rfl | rfl
  · exact ⟨_,hx,.inl rfl⟩
  · exact ⟨_,hx,.inr (.inl rfl)⟩
  · exact ⟨_,hx,.inr (.inr rfl)⟩
theorem top_facts {s:Int} (h0:1≤s) (h1:s≤16):555≤9999 / s∧9999 / s≤9999∧1≤(if 10000 / s - 480 > 1 then 10000 / s - 480 else 1)∧(if 10000 / s - 480 > 1 then 10000 / s - 480 else 1)+455≤9999 / s:=by
  have key:∀ n:Fin 17,1≤(n.val:Int)→(555≤9999 / (n.val:Int)∧9999 / (n.val:Int)≤9999∧1≤(if 10000 / (n.val:Int) - 480 > 1 then 10000 / (n.val:Int) - 480 else 1)∧(if 10000 / (n.val:Int) - 480 > 1 then 10000 / (n.val:Int) - 480 else 1)+455≤9999 / (n.val:Int)):=by decide +kernel
  have e:((⟨s.toNat,by lia⟩:Fin 17).val:Int)=s:=by show ((s.toNat:Nat):Int)=s; lia
  have q:=key ⟨s.toNat,by lia⟩ (by rw [e]; exact h0)
  rw [e] at q
  exact q
def Bds (t:Int) (ns:List Int):Prop:=∀ n∈ns,0≤n∧n≤t
def Low (t:Int) (ns:List Int):Prop:=∃ x∈ns,x+1≤t
theorem at_get {ns:List Int} {k:Int} (h0:0≤k) (h:k<(ns.length:Int)):∃ v:Int,atI (ns.map V.int) k=some (.int v)∧ns[k.toNat]?=some v:=by
  have hk:k.toNat<ns.length:=by lia
  have q:atI (ns.map V.int) ((k.toNat:Nat):Int)=some (.int ns[k.toNat]):=atI_nat (by rw [List.getElem?_map,List.getElem?_eq_getElem hk] <;> rfl)
  rw [show ((k.toNat:Nat):Int)=k by lia] at q
  exact ⟨_,q,List.getElem?_eq_getElem hk⟩
theorem swap_mem {ns:List Int} {i j:Nat} {x1 x2 x:Int} (h1:ns[j]?=some x1) (h2:ns[i]?=some x2) (h:x∈ns):x∈(ns.set i x1).set j x2:=by
  obtain ⟨p,hp⟩:=List.getElem?_of_mem h
  have li:=(List.getElem?_eq_some_iff.mp h2).1
  have lj:=(List.getElem?_eq_some_iff.mp h1).1
  by_cases e:p=i
  · subst e
    rw [h2] at hp; cases hp
    exact List.mem_of_getElem? (List.getElem?_set_self (i:=j) (by rw [List.length_set]; exact lj))
  · by_cases e':p=j
    · subst e'
      rw [h1] at hp; cases hp
      refine List.mem_of_getElem? (i:=i) ?_
      rw [List.getElem?_set_ne e,List.getElem?_set_self li]
    · refine List.mem_of_getElem? (i:=p) ?_
      rw [List.getElem?_set_ne (fun z=>e' z.symm),List.getElem?_set_ne (fun z=>e z.symm)]
      exact hp
section
def spBoards:Sp:=fun vs H Q _=>∃ (b:Addr) (a q c s:Int),vs=[.ref b,.int s]∧BoxAt H b a q c∧c<500000000∧1≤s∧s≤16 ∧
  ∀ (l:Addr) (ns:List Int) (a' c':Int) (H':Hp),H l=none→H' l=some (.lst (ns.map V.int))→3≤ns.length→ns.length≤20→Bds (9999 / s) ns→Low (9999 / s) ns→BoxAt H' b a' q c'→c'≤c+40→SB b H H'→Q (.ref l) H'
theorem ok_some_boards {f:Addr} {fd:FuncData} (F:Fun K "_law_some_boards" "_law_some_boards" s_some_boards f fd) (T:Txt K mg) (D_take:Def P w K mg base "_law_take" 1 P_take spTake):FnOk P w K mg base CX0 2 f fd P_some_boards spBoards:=by
  refine F.ok sc_some_boards (fun vs H Q E h=>?_) (fun cdv A outer st H vs Q E hr h=>?_)
  · obtain ⟨b,a,q,c,s,rfl,_⟩:=h
    rfl
  obtain ⟨b,a,q,c,s,rfl,B,hc,hs0,hs1,k⟩:=h
  have nd:=sc_some_boards.nd
  obtain ⟨top0,top1,m0,m1⟩:=top_facts hs0 hs1
  refine ⟨_,(pss_cons (pst 2 nd (pe_op op_add pe_int (pe_defN D_take hr.m rfl (pc (pv 0) (pc (pe_ix (ix_listK (K:=K) rfl) (pe_lst (pc pe_int (pc pe_int pa_nil))) (pe_callTyN call_int1 rfl T.z_int boot_intT (pc (pe_cmpR op_eq (pe_defN D_take hr.m rfl (pc (pv 0) (pc pe_int pa_nil))) pe_int (nomark _)) pa_nil)) (fun _ _=>rfl)) pa_nil)))))
      (pss_cons (ps_asg (pe_tup (pc (pe_defN D_take hr.m rfl (pc (pv 0) (pc pe_int pa_nil))) (pc (pe_defN D_take hr.m rfl (pc (pv 0) (pc pe_int pa_nil))) pa_nil))) (pg_tupK (K:=K) (n:=2) rfl rfl (pgs_cons (pgn 3 nd) (pgs_cons (pgn 4 nd) pgs_nil))))
      (pss_cons (pst 5 nd (pe_ifExp (pt_cmpR op_lt (pv 4) pe_int (nomark _)) (pv 4) (pe_defN D_take hr.m rfl (pc (pv 0) (pc (pe_ix (ix_listK (K:=K) rfl) (pe_lst (pc pe_int (pc (pe_callBN (call_max2 rfl) rfl T.z_max boot_max (pc pe_int (pc (pe_op op_sub (pe_op op_fdiv pe_int (pv 1)) pe_int) pa_nil))) pa_nil))) (pe_op op_sub (pv 4) pe_int) (fun _ _=>rfl)) pa_nil)))))
      (pss_cons (ps_comp0 6 (compOk_of (osc:=(defScope s_some_boards)) (oN:=N_some_boards) (N:=["_law_k", "_law_first", "_law_way"]) (own:=1) (js:=[5,3]) (by decide +kernel) rfl rfl) rfl nd rfl rfl (pi_range1 rfl T.z_range (pc (pv 2) pa_nil)) (fun _ _ _ _ _ _=>(pgn 0 (show List.Nodup (["_law_k", "_law_first", "_law_way"]:List Str) by decide +kernel))) (fun _ _ _ _ _ _=>(pe_op op_add (pv 1) (pe_op op_mul (pe_ix (ix_listK (K:=K) rfl) (pe_lst (pc pe_int (pc pe_int (pc pe_int (pc pe_int pa_nil))))) (pv 2) (fun _ _=>rfl)) (pv 0)))))
      (pss_cons (pst 7 nd (pe_ifExp (pt_cmpR op_eq (pe_defN D_take hr.m rfl (pc (pv 0) (pc pe_int pa_nil))) pe_int (nomark _)) (pe_op op_fdiv pe_int (pv 1)) (pe_defN D_take hr.m rfl (pc (pv 0) (pc (pe_op op_add pe_int (pe_op op_fdiv pe_int (pv 1))) pa_nil)))))
      (pss_cons (ps_if (PW.pt (pw_or (PW.pt (pw_and (pt_cmpR op_eq (pv 3) pe_int (nomark _)) (pw_and1 (pt_cmpR (op_notIn_seqK (K:=K) rfl) (pv 7) (pv 6) rfl)))) (pw_or1 (PW.pt (pw_and (pt_cmpR op_eq (pv 7) (pe_op op_fdiv pe_int (pv 1)) (nomark _)) (pw_and1 (pt_cmpR (op_notIn_seqK (K:=K) rfl) (pv 7) (pv 6) rfl))))))) (pss_one (ps_asg (pv 7) (pg_sub (pv 6) (pe_un un_neg pe_int) set_list))) pss_nil)
      (pss_cons (ps_for PassesOwn.never rfl (pi_range1 rfl T.z_range (pc (pe_op op_sub (pv 2) pe_int) pa_nil)) (pgn 8 nd) (pss_cons (pst 9 nd (pe_op op_add (pv 8) (pe_defN D_take hr.m rfl (pc (pv 0) (pc (pe_op op_sub (pv 2) (pv 8)) pa_nil)))))
      (pss_one (ps_asg (pe_tup (pc (pe_ix (ix_listK (K:=K) rfl) (pv 6) (pv 9) (fun _ _=>rfl)) (pc (pe_ix (ix_listK (K:=K) rfl) (pv 6) (pv 8) (fun _ _=>rfl)) pa_nil))) (pg_tupK (K:=K) (n:=2) rfl rfl (pgs_cons (pg_sub (pv 6) (pv 8) set_list) (pgs_cons (pg_sub (pv 6) (pv 9) set_list) pgs_nil)))))))
      (pss_one (ps_ret (pv 6)))))))))),?_⟩
  generalize hm:(if 10000 / s - 480 > 1 then 10000 / s - 480 else 1)=m at m0 m1
  generalize ht:(9999:Int) / s=top at *
  refine hide fun uu ee=>?_
  refine ⟨_,rfl,(by show 2≤sizeLine; decide),fun p1 hp1=>⟨_,rfl,b,a,q,c,6,rfl,B.same (same_upd hp1 _),by lia,by decide,by decide,fun r1 a1 c1 H1 r10 r11 B1 hc1 s1=>⟨rfl,.inr ⟨_,rfl,?_⟩⟩⟩⟩
  have q1:b≠p1:=ne_of_none B.at' hp1
  obtain ⟨n,hn,hn'⟩:=pick01 5 18 (decide (V.int r1=V.int 0))
  refine ⟨p1,_,_,_,rfl,rfl,SqL.of (s1 _ _ (Ne.symm q1) upd_same),hn,b,a1,q,c1,n,rfl,B1,by lia,by lia,by lia,fun r2 a2 c2 H2 r20 r21 B2 hc2 s2=>⟨_,_,rfl,rfl,?_⟩⟩
  have mn0:3≤3+r2:=by lia
  have mn1:3+r2≤20:=by lia
  have u2:SB b H H2:=(((same_upd hp1 _).sb b).trans s1).trans s2
  dsimp only [gName]
  subst ee
  try dsimp only
  refine hide fun uu ee=>?_
  refine ⟨_,rfl,b,a2,q,c2,4,rfl,B2,by lia,by decide,by decide,fun r3 a3 c3 H3 r30 r31 B3 hc3 s3=>?_⟩
  refine ⟨_,rfl,b,a3,q,c3,4,rfl,B3,by lia,by decide,by decide,fun r4 a4 c4 H4' r40 r41 B4' hc4 s4=>⟨(by show 2≤sizeLine; decide),fun p4 hp4=>⟨p4,_,rfl,SqT.of upd_same,rfl,_,_,rfl,_,_,rfl,rfl,?_⟩⟩⟩
  have B4:=B4'.same (same_upd hp4 (.tup [.int r3,.int r4]))
  have u4:SB b H (upd H4' p4 (.tup [.int r3,.int r4])):=((u2.trans s3).trans s4).trans ((same_upd hp4 _).sb b)
  generalize upd H4' p4 (.tup [.int r3,.int r4])=H4 at *
  subst ee
  try dsimp only
  refine cpA (fun v G=>∃ z a' c',v=.int z∧0≤z∧z+456≤top∧BoxAt G b a' q c'∧c'≤c4+1∧SB b H G) (fun Q' k'=>?_) ?_
  · refine ⟨_,rfl,_,_,rfl,rfl,_,rfl,ite_dec (fun c2'=>⟨_,rfl,k' _ _ ⟨_,a4,c4,rfl,r40,by lia,B4,by lia,u4⟩⟩) (fun c2'=>?_)⟩
    refine ⟨_,rfl,_,rfl,_,_,rfl,rfl,⟨by lia,by lia⟩,_,_,rfl,rfl,_,_,rfl,(by show 2≤sizeLine; decide),fun p2 hp2=>?_⟩
    have q2:b≠p2:=ne_of_none B4.at' hp2
    rw [hm]
    obtain ⟨n2,hn2,hn2'⟩:=pick2 100 m (r4 - 2) (by lia) (by lia)
    refine ⟨_,rfl,_,_,rfl,rfl,p2,_,_,_,rfl,rfl,SqL.of upd_same,hn2,b,a4,q,c4,n2,rfl,B4.same (same_upd hp2 _),by lia,by lia,by lia,fun r5 a5 c5 H5 r50 r51 B5 hc5 s5=>?_⟩
    exact k' _ _ ⟨r5,a5,c5,rfl,r50,by lia,B5,by lia,u4.trans (((same_upd hp2 _).sb b).trans s5)⟩
  rintro _ H5 ⟨z,a5,c5,rfl,z0,z1,B5,hc5,u5⟩
  dsimp only [gName]
  refine hide fun uu ee=>?_
  refine ⟨_,rfl,_,rfl,by lia,by lia,fun l hl=>?_⟩
  have hlH:H l=none:=sb_fresh u5 B5.at' hl
  have nlb:l≠b:=Ne.symm (ne_of_none B5.at' hl)
  have hmn:(3+r2).toNat≤20:=by lia
  refine comp_range (lo:=0) (n:=(3+r2).toNat) (l:=l) (fun j ys σ G=>∃ (v0:Option V) (ns:List Int),σ=[v0,some (.int z),some (.int r3)]∧ys=ns.map V.int∧ns.length=j∧(Bds top ns∧(0<j→ns[0]?=some z))∧G l=some (.lst ys)∧Same H5 G)
    ⟨none,[],rfl,rfl,rfl,⟨fun n hn=>(nomatch hn),fun z=>absurd z (Nat.lt_irrefl 0)⟩,upd_same,same_upd hl _⟩ ?_ ?_
  · rintro j ys σ G hj hy ⟨v0,ns,rfl,rfl,hj',⟨hb',hz'⟩,h1,h2⟩
    refine ⟨_,rfl,(by show 4≤sizeLine; decide),fun p hp=>?_⟩
    obtain ⟨n4,hn4,hn4'⟩:=pick4s r3 r30 r31
    have np:l≠p:=ne_of_none h1 hp
    have j20:(j:Int)≤19:=by lia
    refine ⟨_,rfl,p,_,_,_,rfl,rfl,SqL.of upd_same,hn4,_,rfl,_,_,rfl,rfl,.inl ⟨by lia,by lia⟩,_,_,rfl,rfl,CNx.of (Nat.le_trans hmn (by decide)) hj hy (by rw [upd_ne np]; exact h1) ⟨_,ns++[z+n4 * (0+(j:Int))],rfl,by rw [List.map_append]; rfl,by rw [List.length_append,hj']; rfl,⟨fun x hx=>?_,fun _=>?_⟩,upd_same,fun e o y=>?_⟩⟩
    · rcases List.mem_append.mp hx with h | h
      · exact hb' x h
      · have ex:x=z+n4 * (0+(j:Int)):=by simpa using h
        subst ex
        rcases hn4' with rfl | rfl | rfl
        · exact ⟨by lia,by lia⟩
        · exact ⟨by lia,by lia⟩
        · exact ⟨by lia,by lia⟩
    · by_cases j0:j=0
      · have:ns=[]:=List.eq_nil_of_length_eq_zero (by lia)
        rw [this,j0]
        show some (z+n4 * (0+((0:Nat):Int)))=some z
        rw [show (0:Int)+((0:Nat):Int)=0 by lia,Int.mul_zero,Int.add_zero]
      · rw [List.getElem?_append_left (by lia)]
        exact hz' (by lia)
    · rw [upd_ne (ne_of_none y hl)]
      exact same_upd hp _ _ _ (h2 _ _ y)
  rintro ys σ G hy ⟨v0,ns,rfl,rfl,hj',⟨hb',hz'⟩,h1,h2⟩
  have B6:=B5.same h2
  have u6:SB b H G:=u5.trans (h2.sb b)
  have ln3:3≤ns.length:=by lia
  have ln20:ns.length≤20:=by lia
  have hz0:ns[0]?=some z:=hz' (by lia)
  dsimp only [gName]
  subst ee
  try dsimp only
  refine cpA (fun v G'=>∃ z a' c',v=.int z∧0≤z∧z≤top∧BoxAt G' b a' q c'∧c'≤c5+2∧SB b G G') (fun Q' k'=>?_) ?_
  · refine ⟨_,rfl,b,a5,q,c5,5,rfl,B6,by lia,by decide,by decide,fun r7 a7 c7 H7 r70 r71 B7 hc7 s7=>⟨rfl,_,rfl,ite_dec (fun _=>?_) (fun _=>?_)⟩⟩
    · refine ⟨_,rfl,_,_,rfl,rfl,⟨by lia,by lia⟩,?_⟩
      exact k' _ _ ⟨_,a7,c7,rfl,by rw [ht]; lia,by rw [ht]; lia,B7,by lia,s7⟩
    · refine ⟨_,rfl,_,rfl,_,_,rfl,rfl,⟨by lia,by lia⟩,_,_,rfl,rfl,b,a7,q,c7,_,rfl,B7,by lia,by rw [ht]; lia,by rw [ht]; lia,fun r8 a8 c8 H8 r80 r81 B8 hc8 s8=>?_⟩
      exact k' _ _ ⟨_,a8,c8,rfl,r80,by rw [ht] at r81; lia,B8,by lia,s7.trans s8⟩
  rintro _ H7 ⟨fr,a7,c7,rfl,fr0,fr1,B7,hc7,s7⟩
  have h7:=s7 _ _ nlb h1
  have u7:SB b H H7:=u6.trans s7
  refine cpI (fun σ G'=>∃ ns':List Int,σ=[some (.ref b),some (.int s),some (.int (3+r2)),some (.int r3),some (.int r4),some (.int z),some (.ref l),some (.int fr),none,none]∧G' l=some (.lst (ns'.map V.int))∧ns'.length=ns.length∧(Bds top ns'∧Low top ns')∧BoxAt G' b a7 q c7∧SB b H G') (fun D' _ k'=>?_) ?_
  · refine cpIfS (fun _ G'=>G'=H7) (fun Q' k''=>?_) ?_
    · refine cpOr (fun _ G'=>G'=H7) (fun Q'' k3=>?_) ?_
      · exact ⟨_,rfl,rfl,_,rfl,ite_dec (fun _=>⟨_,rfl,_,rfl,l,_,rfl,.inl (SqL.of h7),rfl,ints_flat _,_,rfl,k3 _ _ rfl⟩) (fun _=>k3 _ _ rfl)⟩
      · rintro cb _ rfl
        cases cb with
        | true=>exact ifT rfl (k'' _ _ rfl)
        | false=>exact ifF rfl ⟨_,rfl,_,rfl,_,_,rfl,rfl,⟨by lia,by lia⟩,rfl,_,rfl,ite_dec (fun _=>⟨_,rfl,_,rfl,l,_,rfl,.inl (SqL.of h7),rfl,ints_flat _,_,rfl,k'' _ _ rfl⟩) (fun _=>k'' _ _ rfl)⟩
    · rintro cb _ rfl
      cases cb with
      | false=>exact ifF rfl (k' _ _ ⟨ns,rfl,h7,rfl,⟨hb',z,List.mem_of_getElem? hz0,by lia⟩,B7,u7⟩)
      | true =>
        refine ifT rfl ⟨_,rfl,_,rfl,_,rfl,l,_,_,_,rfl,rfl,h7,ixN_last (by rw [List.length_map]; lia),k' _ _ ⟨ns.set (ns.length - 1) fr,rfl,?_,List.length_set,⟨fun x hx=>?_,z,?_,by lia⟩,B7.sb (sb_upd l _ _) (Ne.symm nlb),fun e o n' y=>?_⟩⟩
        · rw [upd_same,List.length_map,set_ints]
        · rcases mem_set hx with h | h
          · exact hb' x h
          · subst h; exact ⟨fr0,fr1⟩
        · refine List.mem_of_getElem? (i:=0) ?_
          rw [List.getElem?_set_ne (by lia)]
          exact hz0
        · rw [upd_ne (ne_of_none y hlH)]; exact u7 _ _ n' y
  rintro _ H8 ⟨ns8,rfl,h8,l8,b8,B8,u8⟩
  refine ⟨_,rfl,_,_,rfl,rfl,_,rfl,by lia,by lia,for_range (lo:=0) (n:=(3+r2 - 1).toNat) (fun j σ G'=>∃ (ns':List Int) (v8 v9:Option V) (a' c':Int),σ=[some (.ref b),some (.int s),some (.int (3+r2)),some (.int r3),some (.int r4),some (.int z),some (.ref l),some (.int fr),v8,v9]∧G' l=some (.lst (ns'.map V.int))∧ns'.length=ns.length∧(Bds top ns'∧Low top ns')∧BoxAt G' b a' q c'∧c'≤c7+(j:Int)∧SB b H G')
    ⟨ns8,_,_,a7,c7,rfl,h8,l8,b8,B8,by lia,u8⟩ ?_ ?_⟩
  · rintro j σ G' hj ⟨ns',v8,v9,a',c',rfl,h1',l',⟨b',lo'⟩,B',hc',u'⟩
    have j20:(j:Int)≤18:=by lia
    have jl:(j:Int)+1<3+r2:=by lia
    refine ⟨_,rfl,_,rfl,_,rfl,_,rfl,_,_,rfl,rfl,b,a',q,c',_,rfl,B',by lia,by lia,by lia,fun r9 a9 c9 H9 r90 r91 B9 hc9 s9=>⟨_,_,rfl,rfl,?_⟩⟩
    have h9:=s9 _ _ nlb h1'
    obtain ⟨x1,hx1,gx1⟩:=at_get (ns:=ns') (k:=0+(j:Int)+r9) (by lia) (by lia)
    have mx1:=List.mem_of_getElem? gx1
    obtain ⟨x2,hx2,gx2⟩:=at_get (ns:=ns') (k:=0+(j:Int)) (by lia) (by lia)
    have mx2:=List.mem_of_getElem? gx2
    refine ⟨_,rfl,_,rfl,l,_,_,_,rfl,rfl,SqL.of h9,hx1,_,rfl,_,rfl,l,_,_,_,rfl,rfl,SqL.of h9,hx2,(by show 2≤sizeLine; decide),fun t ht'=>?_⟩
    have nlt:l≠t:=ne_of_none h9 ht'
    refine ⟨t,_,rfl,SqT.of upd_same,rfl,_,_,rfl,_,rfl,_,rfl,l,_,_,_,rfl,rfl,(by rw [upd_ne nlt]; exact h9),ixN_ok (by lia) (by rw [List.length_map]; lia),?_⟩
    refine ⟨_,_,rfl,_,rfl,_,rfl,l,_,_,_,rfl,rfl,upd_same,ixN_ok (by lia) (by rw [List.length_set,List.length_map]; lia),rfl,?_⟩
    refine ⟨(ns'.set (0+(j:Int)).toNat x1).set (0+(j:Int)+r9).toNat x2,_,_,a9,c9,rfl,by rw [upd_same,set_ints,set_ints],by rw [List.length_set,List.length_set]; exact l',⟨fun x hx=>?_,(by obtain ⟨x,m,q⟩:=lo'; exact ⟨x,swap_mem gx1 gx2 m,q⟩)⟩,?_,by lia,fun e o n' y=>?_⟩
    · rcases mem_set hx with h | h
      · rcases mem_set h with h | h
        · exact b' x h
        · subst h; exact b' _ mx1
      · subst h; exact b' _ mx2
    · exact ((B9.same (same_upd ht' _)).sb (sb_upd l _ _) (Ne.symm nlb)).sb (sb_upd l _ _) (Ne.symm nlb)
    · have ne:e≠l:=ne_of_none y hlH
      rw [upd_ne ne,upd_ne ne]
      exact same_upd ht' _ _ _ (s9 _ _ n' (u' _ _ n' y))
  · rintro σ G' ⟨ns',v8,v9,a',c',rfl,h1',l',⟨b',lo'⟩,B',hc',u'⟩
    exact ⟨_,rfl,k l ns' a' c' G' hlH h1' (by lia) (by lia) b' lo' B' (by lia) u'⟩
end
def optV:Option Int→V
  | none=>.non
  | some g=>.int g
theorem gN {i:Nat} {v:V} {σ:St} {H:Hp} {Q:St→Hp→Prop} (h:Q (σ.set i (some v)) H):gName i v σ H Q:=h
theorem ite_dec' {b:Bool} {A B:Prop} (h1:b=true→A) (h2:¬ b=true→B):if b=true then A else B:=by
  by_cases h:b=true
  · rw [if_pos h]; exact h1 h
  · rw [if_neg h]; exact h2 h
theorem ints_at {ns:List Int} {i:Nat} {x:V} (h:(ns.map V.int)[i]?=some x):∃ z,ns[i]?=some z∧x=V.int z:=by
  rw [List.getElem?_map] at h
  cases e:ns[i]? with
  | none=>rw [e] at h; cases h
  | some z=>rw [e] at h; exact ⟨z,rfl,(Option.some.inj h).symm⟩
theorem inV_int (z:Int) (ns:List Int):inV (.int z) (ns.map V.int)=decide (z∈ns):=by
  unfold inV
  rw [List.any_map,Bool.eq_iff_iff,List.any_eq_true,decide_eq_true_eq]
  constructor
  · rintro ⟨x,hx,e⟩
    have:x=z:=by simpa [eqV] using e
    rw [← this]; exact hx
  · intro h
    exact ⟨z,h,by simp [eqV]⟩
def tpos:Pos:=(match (defBody s_Room_going).head? with
  | some (.If _ (.Return (some (.Call _ _ (⟨_,.Lambda _ _ _ pos,_⟩ :: _) _)) _ :: _) _ _)=>pos
  | _=>⟨0,0,0,0⟩)
abbrev tqual:Str := "Room.going" ++ ".<locals>." ++ "<lambda>"
def Tb (K:PySem.W.Frag) (H:Hp):Prop:=H (tabOf K "Room" "going")=some (.tbl tpos tqual)
theorem Tb.same {K:PySem.W.Frag} {H H':Hp} (t:Tb K H) (s:Same H H'):Tb K H':=s _ _ t
def shelfS (sh s:Int) (there:List Int):List Int:=there.filter fun o=>decide (o % sh=s)
theorem shelfS_app (sh s b:Int) (there:List Int):shelfS sh s (there++[b])=if b % sh=s then shelfS sh s there++[b] else shelfS sh s there:=by
  unfold shelfS
  rw [List.filter_append]
  by_cases h:b % sh=s
  · rw [if_pos h,List.filter_cons,if_pos (by simpa using h),List.filter_nil]
  · rw [if_neg h,List.filter_cons,if_neg (by simpa using h),List.filter_nil,List.append_nil]
theorem shelfS_erase (sh s g:Int) (there:List Int):shelfS sh s (there.erase g)=(shelfS sh s there).erase g:=by
  unfold shelfS
  rw [List.erase_filter]
theorem mem_shelfS {sh s b:Int} {there:List Int}:b∈shelfS sh s there↔b∈there∧b % sh=s:=by
  unfold shelfS
  rw [List.mem_filter,decide_eq_true_eq]
structure Shl (H:Hp) (ls:Addr) (ads:List Addr) (sh:Int) (there:List Int):Prop where
  top:H ls=some (.lst (ads.map V.ref))
  len:ads.length=sh.toNat
  nd:ads.Nodup
  off:ls∉ads
  at_:∀ (s:Nat) (ad:Addr),ads[s]?=some ad→H ad=some (.lst ((shelfS sh s there).map V.int))
theorem Shl.other {H:Hp} {ls:Addr} {ads:List Addr} {sh:Int} {there:List Int} (h:Shl H ls ads sh there) {a:Addr} (o:HO) (h1:a≠ls) (h2:a∉ads):Shl (upd H a o) ls ads sh there :=
  ⟨by rw [upd_ne (Ne.symm h1)]; exact h.top,h.len,h.nd,h.off,fun i ad e=>by rw [upd_ne (fun z:ad=a=>h2 (z ▸ List.mem_of_getElem? e))]; exact h.at_ i ad e⟩
theorem Shl.put {H:Hp} {ls:Addr} {ads:List Addr} {sh:Int} {there there':List Int} (h:Shl H ls ads sh there) {s0:Nat} {ad:Addr} {ns:List Int} (e0:ads[s0]?=some ad) (hn:shelfS sh s0 there'=ns) (ho:∀ s:Nat,s≠s0→shelfS sh s there'=shelfS sh s there):Shl (upd H ad (.lst (ns.map V.int))) ls ads sh there':=by
  refine ⟨by rw [upd_ne (fun z:ls=ad=>h.off (z ▸ List.mem_of_getElem? e0))]; exact h.top,h.len,h.nd,h.off,fun s a e=>?_⟩
  by_cases hs:s=s0
  · subst hs
    rw [e0] at e
    cases e
    rw [upd_same,hn]
  · have ne:a≠ad:=fun z=>by
      subst z
      exact hs ((List.getElem?_inj (List.getElem?_eq_some_iff.mp e).1 h.nd).mp (e.trans e0.symm))
    rw [upd_ne ne,ho s hs]
    exact h.at_ s a e
theorem Shl.get {H:Hp} {ls:Addr} {ads:List Addr} {sh:Int} {there:List Int} (h:Shl H ls ads sh there) {k:Int} (h0:0≤k) (h1:k<sh):∃ (s:Nat) (ad:Addr),(s:Int)=k∧ads[s]?=some ad∧atI (ads.map V.ref) k=some (.ref ad)∧H ad=some (.lst ((shelfS sh k there).map V.int)):=by
  have hk:k.toNat<ads.length:=by rw [h.len]; lia
  have e:ads[k.toNat]?=some ads[k.toNat]:=List.getElem?_eq_getElem hk
  have ek:((k.toNat:Nat):Int)=k:=by lia
  have q:atI (ads.map V.ref) ((k.toNat:Nat):Int)=some (.ref ads[k.toNat]):=atI_nat (by rw [List.getElem?_map,e]; rfl)
  have q2:=h.at_ _ _ e
  rw [ek] at q q2
  exact ⟨k.toNat,_,ek,e,q,q2⟩
theorem Shl.one {H:Hp} {ls:Addr} {ads:List Addr} {sh:Int} {there:List Int} (h:Shl H ls ads sh there) {ad:Addr} (m:ad∈ads):∃ xs,H ad=some (.lst xs):=by
  obtain ⟨s,e⟩:=List.getElem?_of_mem m
  exact ⟨_,h.at_ s ad e⟩
def flds (sh pl:Int) (ru:Str) (ls du:Addr):List (Str×V):=putF "uses" (.ref du) (putF "standing" (.ref ls) (putF "rule" (.str ru) (putF "places" (.int pl) (putF "shelves" (.int sh) []))))
theorem fl_uses (sh pl:Int) (ru:Str) (ls du:Addr):(flds sh pl ru ls du).lookup ("uses" : Str)=some (.ref du):=by
  unfold flds
  rw [lookup_putF,if_pos rfl]
theorem fl_standing (sh pl:Int) (ru:Str) (ls du:Addr):(flds sh pl ru ls du).lookup ("standing" : Str)=some (.ref ls):=by
  unfold flds
  rw [lookup_putF,if_neg (by decide +kernel),lookup_putF,if_pos rfl]
theorem fl_rule (sh pl:Int) (ru:Str) (ls du:Addr):(flds sh pl ru ls du).lookup ("rule" : Str)=some (.str ru):=by
  unfold flds
  rw [lookup_putF,if_neg (by decide +kernel),lookup_putF,if_neg (by decide +kernel),lookup_putF,if_pos rfl]
theorem fl_places (sh pl:Int) (ru:Str) (ls du:Addr):(flds sh pl ru ls du).lookup ("places" : Str)=some (.int pl):=by
  unfold flds
  rw [lookup_putF,if_neg (by decide +kernel),lookup_putF,if_neg (by decide +kernel),lookup_putF,if_neg (by decide +kernel),lookup_putF,if_pos rfl]
theorem fl_shelves (sh pl:Int) (ru:Str) (ls du:Addr):(flds sh pl ru ls du).lookup ("shelves" : Str)=some (.int sh):=by
  unfold flds
  rw [lookup_putF,if_neg (by decide +kernel),lookup_putF,if_neg (by decide +kernel),lookup_putF,if_neg (by decide +kernel),lookup_putF,if_neg (by decide +kernel),lookup_putF,if_pos rfl]
theorem fl_no (sh pl:Int) (ru:Str) (ls du:Addr) {m:Str} (h1:¬ m = "uses" := by decide +kernel) (h2:¬ m = "standing" := by decide +kernel) (h3:¬ m = "rule" := by decide +kernel) (h4:¬ m = "places" := by decide +kernel) (h5:¬ m = "shelves" := by decide +kernel):(flds sh pl ru ls du).lookup m=none:=by
  unfold flds
  rw [lookup_putF,if_neg h1,lookup_putF,if_neg h2,lookup_putF,if_neg h3,lookup_putF,if_neg h4,lookup_putF,if_neg h5]
  rfl
def KI (kvs:List (Key×V)):Prop:=∃ ks:List Int,kvs.map Prod.fst=ks.map Sum.inl∧ks.Nodup
theorem KI.nil:KI []:=⟨[],rfl,List.nodup_nil⟩
theorem KI.put {kvs:List (Key×V)} (h:KI kvs) (b:Int) (v:V):KI (putK kvs (Sum.inl b) v):=by
  obtain ⟨ks,e,nd⟩:=h
  unfold putK
  split
  · refine ⟨ks,?_,nd⟩
    rw [← e,List.map_map]
    exact List.map_congr_left fun q _=>by
      show (if q.1=Sum.inl b then (q.1,v) else q).1=q.1
      split <;> rfl
  · rename_i c
    refine ⟨ks++[b],by rw [List.map_append,List.map_append,e]; rfl,?_⟩
    rw [List.nodup_append]
    refine ⟨nd,by simp,fun x hx y hy z=>c ?_⟩
    rw [List.mem_singleton.mp hy] at z
    subst z
    have m:(Sum.inl x:Key)∈kvs.map Prod.fst:=by rw [e]; exact List.mem_map_of_mem hx
    obtain ⟨q,hq,eq⟩:=List.mem_map.mp m
    exact List.any_eq_true.mpr ⟨q,hq,by simpa using eq⟩
theorem KI.drop {kvs:List (Key×V)} (h:KI kvs) (b:Int):KI (dropK kvs (Sum.inl b)):=by
  obtain ⟨ks,e,nd⟩:=h
  unfold dropK
  refine ⟨ks.filter fun x=>decide (x≠b),?_,nd.sublist List.filter_sublist⟩
  have l:(kvs.filter fun kv=>decide (kv.1≠Sum.inl b)).map Prod.fst=(kvs.map Prod.fst).filter fun k=>decide (k≠Sum.inl b):=by
    rw [List.filter_map]; rfl
  rw [l,e,List.filter_map]
  congr 1
  refine List.filter_congr fun x _=>?_
  show decide ((Sum.inl x:Key)≠Sum.inl b)=decide (x≠b)
  rw [decide_eq_decide]
  exact ⟨fun z y=>z (by rw [y]),fun z y=>z (Sum.inl.inj y)⟩
theorem val_key {kvs:List (Key×V)} (k:Key):(valV kvs k).isSome=true↔k∈kvs.map Prod.fst:=by
  rw [← valV_any,List.any_eq_true,List.mem_map]
  exact ⟨fun ⟨q,h1,h2⟩=>⟨q,h1,by simpa using h2⟩,fun ⟨q,h1,h2⟩=>⟨q,h1,by simpa using h2⟩⟩
structure RoomAt (K:PySem.W.Frag) (H:Hp) (p:Addr) (sh pl:Int) (ru:Str) (ls:Addr) (ads:List Addr) (du:Addr) (seq:List Int) (us:Int→Int) (n:Nat):Prop where
  ob:∃ dx,H p=some (.ins (clsOf K "Room") dx (flds sh pl ru ls du))
  st:Shl H ls ads sh seq
  dc:∃ kvs,H du=some (.dK kvs)∧(kvs.length≤n∧KI kvs)∧∀ b,valV kvs (Sum.inl b:Key)=if b∈seq then some (.int (us b)) else none
  nd:seq.Nodup
  s0:1≤sh
  s1:sh≤64
def SR (ads:List Addr) (du:Addr) (H H':Hp):Prop:=∀ b o,H b=some o→b≠du→b∉ads→H' b=some o
theorem SR.of {ads:List Addr} {du:Addr} {H H':Hp} (s:Same H H'):SR ads du H H':=fun b o h _ _=>s b o h
theorem SR.trans {ads:List Addr} {du:Addr} {H H1 H2:Hp} (a:SR ads du H H1) (b:SR ads du H1 H2):SR ads du H H2:=fun c o h n1 n2=>b c o (a c o h n1 n2) n1 n2
section
variable {K:PySem.W.Frag} {H H':Hp} {p:Addr} {sh pl:Int} {ru:Str} {ls:Addr} {ads:List Addr} {du:Addr} {seq:List Int} {us:Int→Int} {n:Nat}
theorem RoomAt.off (R:RoomAt K H p sh pl ru ls ads du seq us n):p≠du∧p∉ads∧ls≠du∧ls∉ads∧du∉ads∧p≠ls:=by
  obtain ⟨dx,h1⟩:=R.ob
  obtain ⟨kvs,h2,_⟩:=R.dc
  refine ⟨fun z=>?_,fun z=>?_,fun z=>?_,R.st.off,fun z=>?_,fun z=>?_⟩
  · rw [z,h2] at h1; cases h1
  · obtain ⟨xs,e⟩:=R.st.one z
    rw [e] at h1; cases h1
  · have e:=R.st.top
    rw [z,h2] at e; cases e
  · obtain ⟨xs,e⟩:=R.st.one z
    rw [e] at h2; cases h2
  · have e:=R.st.top
    rw [← z,h1] at e; cases e
theorem RoomAt.same (R:RoomAt K H p sh pl ru ls ads du seq us n) (s:Same H H'):RoomAt K H' p sh pl ru ls ads du seq us n:=by
  obtain ⟨dx,h1⟩:=R.ob
  obtain ⟨kvs,h2,h3⟩:=R.dc
  exact ⟨⟨dx,s _ _ h1⟩,⟨s _ _ R.st.top,R.st.len,R.st.nd,R.st.off,fun i ad e=>s _ _ (R.st.at_ i ad e)⟩,⟨kvs,s _ _ h2,h3⟩,R.nd,R.s0,R.s1⟩
theorem SR.keep {o:HO} {b:Addr} (s:SR ads du H H') (R:RoomAt K H p sh pl ru ls ads du seq us n) (h:H b=some o) (n1:∀ kvs,o≠.dK kvs) (n2:∀ xs,o≠.lst xs):H' b=some o:=by
  refine s _ _ h (fun z=>?_) fun z=>?_
  · obtain ⟨kvs,e,_⟩:=R.dc
    rw [z,e] at h
    exact n1 kvs (Option.some.inj h).symm
  · obtain ⟨xs,e⟩:=R.st.one z
    rw [e] at h
    exact n2 xs (Option.some.inj h).symm
theorem RoomAt.shelf (R:RoomAt K H p sh pl ru ls ads du seq us n) (b:Int):∃ (s:Nat) (ad:Addr),(s:Int)=b % sh∧ads[s]?=some ad∧atI (ads.map V.ref) (b % sh)=some (.ref ad)∧H ad=some (.lst ((shelfS sh (b % sh) seq).map V.int)):=by
  have h0:=R.s0
  exact R.st.get (Int.emod_nonneg _ (by lia)) (Int.emod_lt_of_pos _ (by lia))
end
section
def spShelf:Sp:=fun vs H Q _=>∃ sh b:Int,vs=[.int sh,.int b]∧1≤sh∧Q (.int (b % sh)) H
theorem ok_shelf_of {f:Addr} {fd:FuncData} (F:Fun K "shelf_of" "shelf_of" s_shelf_of f fd) (T:Txt K mg):FnOk P w K mg base CX0 1 f fd P_shelf_of spShelf:=by
  refine F.ok sc_shelf_of (fun vs H Q E h=>?_) (fun cdv A outer st H vs Q E hr h=>?_)
  · obtain ⟨sh,b,rfl,_⟩:=h
    rfl
  obtain ⟨sh,b,rfl,h0,k⟩:=h
  have nd:=sc_shelf_of.nd
  refine ⟨_,(pss_one (ps_ret (pe_op op_mod (pv 1) (pv 0)))),?_⟩
  exact ⟨_,rfl,_,rfl,_,_,rfl,rfl,(by show 0<sh; lia),k⟩
def spHas (K:PySem.W.Frag):Sp:=fun vs H Q _=>∃ (p:Addr) (b sh pl:Int) (ru:Str) (ls:Addr) (ads:List Addr) (du:Addr) (seq:List Int) (us:Int→Int) (n:Nat),vs=[.ref p,.int b]∧RoomAt K H p sh pl ru ls ads du seq us n∧Q (.bl (decide (b∈seq))) H
theorem ok_Room_has {f:Addr} {fd:FuncData} (F:Fun K "has" "Room.has" s_Room_has f fd) (T:Txt K mg):FnOk P w K mg base CX0 1 f fd P_Room_has (spHas K):=by
  refine F.ok sc_Room_has (fun vs H Q E h=>?_) (fun cdv A outer st H vs Q E hr h=>?_)
  · obtain ⟨p,b,sh,pl,ru,ls,ads,du,seq,us,n,rfl,_⟩:=h
    rfl
  obtain ⟨p,b,sh,pl,ru,ls,ads,du,seq,us,n,rfl,R,k⟩:=h
  have nd:=sc_Room_has.nd
  have hu:=hu_of hr
  refine ⟨_,(pss_one (ps_ret (pe_cmp (pc_din hu (pv 1) (pe_fldK (K:=K) rfl (pv 0) rfl))))),?_⟩
  obtain ⟨dx,h1⟩:=R.ob
  obtain ⟨kvs,h2,h3,h4⟩:=R.dc
  refine ⟨_,rfl,_,rfl,p,_,dx,_,_,rfl,h1,T.cl_Room,T.n_Room_uses,fl_uses ..,du,_,rfl,DGet.k (k:=Sum.inl b) h2,?_⟩
  rw [h4 b]
  by_cases c:b∈seq
  · rw [if_pos c]
    rw [decide_eq_true c] at k
    exact k
  · rw [if_neg c]
    rw [decide_eq_false c] at k
    exact k
def spMates (K:PySem.W.Frag):Sp:=fun vs H Q _=>∃ (p:Addr) (b sh pl:Int) (ru:Str) (ls:Addr) (ads:List Addr) (du:Addr) (seq:List Int) (us:Int→Int) (n:Nat),vs=[.ref p,.int b]∧RoomAt K H p sh pl ru ls ads du seq us n ∧
  ∀ (s:Nat) (ad:Addr),(s:Int)=b % sh→ads[s]?=some ad→H ad=some (.lst ((shelfS sh (b % sh) seq).map V.int))→Q (.ref ad) H
theorem ok_Room_mates {f:Addr} {fd:FuncData} (F:Fun K "mates" "Room.mates" s_Room_mates f fd) (T:Txt K mg) (D_shelf_of:Def P w K mg base "shelf_of" 1 P_shelf_of spShelf):FnOk P w K mg base CX0 2 f fd P_Room_mates (spMates K):=by
  refine F.ok sc_Room_mates (fun vs H Q E h=>?_) (fun cdv A outer st H vs Q E hr h=>?_)
  · obtain ⟨p,b,sh,pl,ru,ls,ads,du,seq,us,n,rfl,_⟩:=h
    rfl
  obtain ⟨p,b,sh,pl,ru,ls,ads,du,seq,us,n,rfl,R,k⟩:=h
  have nd:=sc_Room_mates.nd
  refine ⟨_,(pss_one (ps_ret (pe_ix (ix_listK (K:=K) rfl) (pe_fldK (K:=K) rfl (pv 0) rfl) (pe_defN D_shelf_of hr.m rfl (pc (pe_fldK (K:=K) rfl (pv 0) rfl) (pc (pv 1) pa_nil))) (fun _ _=>rfl)))),?_⟩
  obtain ⟨dx,h1⟩:=R.ob
  obtain ⟨s,ad,e1,e2,e3,e4⟩:=R.shelf b
  exact ⟨_,rfl,p,_,dx,_,_,rfl,h1,T.cl_Room,T.n_Room_standing,fl_standing ..,_,rfl,p,_,dx,_,_,rfl,h1,T.cl_Room,T.n_Room_shelves,fl_shelves ..,_,rfl,sh,b,rfl,R.s0,ls,_,_,_,rfl,rfl,SqL.of R.st.top,e3,k s ad e1 e2 e4⟩
def spNeed (K:PySem.W.Frag):Sp:=fun vs H Q _=>∃ (p:Addr) (b sh pl:Int) (ru:Str) (ls:Addr) (ads:List Addr) (du:Addr) (seq:List Int) (us:Int→Int) (n:Nat),vs=[.ref p,.int b]∧RoomAt K H p sh pl ru ls ads du seq us n∧b∈seq∧Q .non H
theorem ok_Room_need {f:Addr} {fd:FuncData} (F:Fun K "need" "Room.need" s_Room_need f fd) (T:Txt K mg) (M_Room_has:MDef P w K mg base (clsOf K "Room") "has" 1 P_Room_has (spHas K)):FnOk P w K mg base CX0 2 f fd P_Room_need (spNeed K):=by
  refine F.ok sc_Room_need (fun vs H Q E h=>?_) (fun cdv A outer st H vs Q E hr h=>?_)
  · obtain ⟨p,b,sh,pl,ru,ls,ads,du,seq,us,n,rfl,_⟩:=h
    rfl
  obtain ⟨p,b,sh,pl,ru,ls,ads,du,seq,us,n,rfl,R,hb,k⟩:=h
  have nd:=sc_Room_need.nd
  refine ⟨_,(pss_one (ps_if (pt_not (pt_val (pe_methN M_Room_has hr.m T.cl_Room (pv 0) (pc (pv 1) pa_nil)))) (pss_one ps_no) pss_nil)),?_⟩
  obtain ⟨dx,h1⟩:=R.ob
  refine ⟨_,rfl,p,dx,_,rfl,h1,fl_no ..,_,rfl,p,b,sh,pl,ru,ls,ads,du,seq,us,n,rfl,R,?_⟩
  rw [decide_eq_true hb]
  exact ⟨_,rfl,ifF rfl k⟩
end
section
def spGoing (K:PySem.W.Frag):Sp:=fun vs H Q _=>∃ (p m:Addr) (ms:List Int) (sh pl:Int) (ru:Str) (ls:Addr) (ads:List Addr) (du:Addr) (seq:List Int) (us:Int→Int) (n:Nat),vs=[.ref p,.ref m]∧RoomAt K H p sh pl ru ls ads du seq us n∧Tb K H∧H m=some (.lst (ms.map V.int))∧ms.length<64∧ms.Nodup∧(∀ b∈ms,b∈seq) ∧
  ∀ (D:Addr) (H':Hp) (os:List Int),H D=none→Same H H'→H' D=some (.lst (os.map V.int))→os.Perm ms→(ru = "few" → os.Pairwise (KLt us ms))→(ru ≠ "few" → os=ms)→Q (.ref D) H'
theorem ok_Room_going {f tp cg:Addr} {fd:FuncData} (F:Fun K "going" "Room.going" s_Room_going f fd) (hfc:fd.code=.ref cg) (htp:tabOf K "Room" "going" = tp) (hch:PySem.W.codeHdIn K cg tp=true) (bm:BMod base mg) (T:Txt K mg):FnOk P w K mg base CX0 2 f fd P_Room_going (spGoing K):=by
  refine F.okC sc_Room_going (fun vs H Q E h=>?_) (fun cdv A outer st H vs Q E hcv hr h=>?_)
  · obtain ⟨p,m,ms,sh,pl,ru,ls,ads,du,seq,us,n,rfl,_⟩:=h
    rfl
  obtain ⟨p,m,ms,sh,pl,ru,ls,ads,du,seq,us,n,rfl,R,tb,hm,h64,hnd,hin,k⟩:=h
  have nd:=sc_Room_going.nd
  have hu:=hu_of hr
  have hc0:cdv=.ref cg:=hcv.symm.trans hfc
  refine ⟨_,(pss_cons (ps_if (pt_cmpR op_eq (pe_fldK (K:=K) rfl (pv 0) rfl) pe_str (nomark _)) (pss_one (ps_ret (pe_sortK (X:=(cxOf CX0 P w K mg base N_Room_going "Room.going" (defScope s_Room_going) f cdv A outer st H E).nox) (K:=K) (P:=tp) (c0:=cg) rfl hr rfl rfl T.z_sorted (lamOk_of (osc:=(defScope s_Room_going)) (oN:=N_Room_going) (x := "board") (fr:=["self"]) (js:=[0]) (by decide +kernel) rfl rfl) hc0 hch bm rfl rfl rfl (fun _ _ _ _ _=>rfl) (pv 1) (fun _ _ _ _ _=>(pe_dget (hu_lam hr) (pe_fldK (K:=K) rfl (pv 1) rfl) (pv 0) (fun _ _=>rfl)))))) pss_nil)
      (pss_one (ps_ret (pe_callTyN (call_list_ofK (K:=K) rfl) rfl T.z_list boot_listT (pc (pv 1) pa_nil))))),?_⟩
  obtain ⟨dx,h1⟩:=R.ob
  obtain ⟨kvs,h2,h3,h4⟩:=R.dc
  refine ⟨_,rfl,p,_,dx,_,_,rfl,h1,T.cl_Room,T.n_Room_rule,fl_rule ..,rfl,_,rfl,?_⟩
  refine ite_dec (fun c=>?_) (fun c=>?_)
  · have c':ru = "few" := by injection c
    have tb':H tp=some (.tbl tpos tqual):=by
      have t:=tb
      unfold Tb at t
      rw [htp] at t
      exact t
    refine ⟨_,rfl,m,ms,us,rfl,SqL.of hm,h64,hnd,tb',fun z hz H2 sm=>?_,fun D H' os hD sm hl po so=>k D H' os hD sm hl po (fun _=>so) fun z=>absurd c' z⟩
    have v:=h4 z
    rw [if_pos (hin z hz)] at v
    exact ⟨_,rfl,p,_,dx,_,_,rfl,sm _ _ h1,T.cl_Room,T.n_Room_uses,fl_uses ..,_,rfl,du,_,rfl,(by have q:=DGet.k (k:=Sum.inl z) (sm _ _ h2); rw [v] at q; exact q),rfl,rfl⟩
  · have c':¬ ru = "few" := fun z=>c (by rw [z])
    exact ⟨_,rfl,m,_,rfl,.inl (SqL.of hm),fun D hD=>k D _ ms hD (same_upd hD _) upd_same (List.Perm.refl _) (fun z=>absurd z c') fun _=>rfl⟩
theorem val_drop {kvs:List (Key×V)} {k:Key} (j:Key):valV (dropK kvs k) j=if j=k then none else valV kvs j:=by
  induction kvs with
  | nil=>by_cases e:j=k <;> simp [dropK,valV,e]
  | cons q r ih =>
    by_cases e:q.1=k
    · rw [dropK_pos e,ih]
      by_cases c:j=k
      · rw [if_pos c,if_pos c]
      · rw [if_neg c,if_neg c,valV_neg (fun z=>c (z.symm.trans e))]
    · rw [dropK_neg e]
      by_cases c:q.1=j
      · rw [valV_pos c,if_neg (fun z=>e (c.trans z)),valV_pos c]
      · rw [valV_neg c,ih,valV_neg c]
theorem drop_lenK (kvs:List (Key×V)) (k:Key):(dropK kvs k).length≤kvs.length:=List.length_filter_le ..
def spDrop (K:PySem.W.Frag):Sp:=fun vs H Q _=>∃ (p:Addr) (b sh pl:Int) (ru:Str) (ls:Addr) (ads:List Addr) (du:Addr) (seq:List Int) (us:Int→Int) (n:Nat),vs=[.ref p,.int b]∧RoomAt K H p sh pl ru ls ads du seq us n∧b∈seq ∧
  ∀ H',RoomAt K H' p sh pl ru ls ads du (seq.erase b) us n→SR ads du H H'→Q .non H'
theorem ok_Room_drop {f:Addr} {fd:FuncData} (F:Fun K "drop" "Room.drop" s_Room_drop f fd) (T:Txt K mg) (M_Room_need:MDef P w K mg base (clsOf K "Room") "need" 2 P_Room_need (spNeed K)) (M_Room_mates:MDef P w K mg base (clsOf K "Room") "mates" 2 P_Room_mates (spMates K)):FnOk P w K mg base CX0 3 f fd P_Room_drop (spDrop K):=by
  refine F.ok sc_Room_drop (fun vs H Q E h=>?_) (fun cdv A outer st H vs Q E hr h=>?_)
  · obtain ⟨p,b,sh,pl,ru,ls,ads,du,seq,us,n,rfl,_⟩:=h
    rfl
  obtain ⟨p,b,sh,pl,ru,ls,ads,du,seq,us,n,rfl,R,hb,k⟩:=h
  have nd:=sc_Room_drop.nd
  refine ⟨_,(pss_cons (ps_expr (pe_methN M_Room_need hr.m T.cl_Room (pv 0) (pc (pv 1) pa_nil)))
      (pss_cons (ps_expr (pe_bmC (K:=K) rfl (pe_bm PySem.F.plainAttrs_list PySem.F.slot_list_remove PySem.F.type_list_remove mt_remove (pe_methN M_Room_mates hr.m T.cl_Room (pv 0) (pc (pv 1) pa_nil)) (pc (pv 1) pa_nil))))
      (pss_one (ps_expr (pe_dpop1 (pe_fldK (K:=K) rfl (pv 0) rfl) (pv 1) ⟨rfl,rfl,rfl,rfl⟩))))),?_⟩
  obtain ⟨dx,h1⟩:=R.ob
  obtain ⟨kvs,h2,h3,h4⟩:=R.dc
  obtain ⟨o1,o2,o3,o4,o5,o6⟩:=R.off
  refine ⟨_,rfl,p,dx,_,rfl,h1,fl_no ..,_,rfl,p,b,sh,pl,ru,ls,ads,du,seq,us,n,rfl,R,hb,?_⟩
  refine ⟨_,rfl,p,dx,_,rfl,h1,fl_no ..,_,rfl,p,b,sh,pl,ru,ls,ads,du,seq,us,n,rfl,R,fun s ad es hs had=>?_⟩
  have mad:ad∈ads:=List.mem_of_getElem? hs
  have hmem:b∈shelfS sh (b % sh) seq:=mem_shelfS.mpr ⟨hb,rfl⟩
  refine ⟨.inl ⟨rfl,_,SqL.of had⟩,_,rfl,ad,_,b,rfl,rfl,had,hmem,?_⟩
  have S1:Shl (upd H ad (.lst (((shelfS sh (b % sh) seq).erase b).map V.int))) ls ads sh (seq.erase b):=by
    refine R.st.put hs ?_ fun s' hs'=>?_
    · rw [shelfS_erase,es]
    · rw [shelfS_erase]
      exact List.erase_of_not_mem fun m=>hs' (by have:=(mem_shelfS.mp m).2; lia)
  have np:p≠ad:=fun z=>o2 (z ▸ mad)
  have nd':du≠ad:=fun z=>o5 (z ▸ mad)
  have h1':upd H ad (.lst (((shelfS sh (b % sh) seq).erase b).map V.int)) p=some (.ins (clsOf K "Room") dx (flds sh pl ru ls du)):=by rw [upd_ne np]; exact h1
  have h2':upd H ad (.lst (((shelfS sh (b % sh) seq).erase b).map V.int)) du=some (.dK kvs):=by rw [upd_ne nd']; exact h2
  refine ⟨_,rfl,p,_,dx,_,_,rfl,h1',T.cl_Room,T.n_Room_uses,fl_uses ..,du,rfl,.inl ⟨_,.inl h2'⟩,_,rfl,kvs,Sum.inl b,_,h2',rfl,(by rw [h4 b,if_pos hb]),?_⟩
  refine k _ ⟨⟨dx,by rw [upd_ne o1]; exact h1'⟩,S1.other _ (Ne.symm o3) o5,⟨_,upd_same,⟨Nat.le_trans (drop_lenK _ _) h3.1,h3.2.drop b⟩,fun x=>?_⟩,R.nd.erase b,R.s0,R.s1⟩ fun x o e n1 n2=>?_
  · rw [val_drop,h4 x]
    by_cases c:x=b
    · subst c
      rw [if_pos rfl,if_neg (fun m=>((List.Nodup.mem_erase_iff R.nd).mp m).1 rfl)]
    · rw [if_neg (fun z=>c (Sum.inl.inj z))]
      by_cases m:x∈seq
      · rw [if_pos m,if_pos ((List.Nodup.mem_erase_iff R.nd).mpr ⟨c,m⟩)]
      · rw [if_neg m,if_neg (fun z=>m (List.mem_of_mem_erase z))]
  · rw [upd_ne n1,upd_ne (fun z:x=ad=>n2 (z ▸ mad))]
    exact e
def bump (us:Int→Int) (b:Int):Int→Int:=fun x=>if x=b then us b+1 else us x
def spUse (K:PySem.W.Frag):Sp:=fun vs H Q _=>∃ (p:Addr) (b sh pl:Int) (ru:Str) (ls:Addr) (ads:List Addr) (du:Addr) (seq:List Int) (us:Int→Int) (n:Nat),vs=[.ref p,.int b]∧RoomAt K H p sh pl ru ls ads du seq us n∧n≤900∧b∈seq∧seq.length≤900 ∧
  ∀ H',RoomAt K H' p sh pl ru ls ads du (if ru = "old" then seq.erase b++[b] else seq) (bump us b) (n+1)→SR ads du H H'→Q .non H'
theorem ok_Room_use {f:Addr} {fd:FuncData} (F:Fun K "use" "Room.use" s_Room_use f fd) (T:Txt K mg) (M_Room_need:MDef P w K mg base (clsOf K "Room") "need" 2 P_Room_need (spNeed K)) (M_Room_mates:MDef P w K mg base (clsOf K "Room") "mates" 2 P_Room_mates (spMates K)):FnOk P w K mg base CX0 3 f fd P_Room_use (spUse K):=by
  refine F.ok sc_Room_use (fun vs H Q E h=>?_) (fun cdv A outer st H vs Q E hr h=>?_)
  · obtain ⟨p,b,sh,pl,ru,ls,ads,du,seq,us,n,rfl,_⟩:=h
    rfl
  obtain ⟨p,b,sh,pl,ru,ls,ads,du,seq,us,n,rfl,R,hn,hb,hsl,k⟩:=h
  have nd:=sc_Room_use.nd
  have hu:=hu_of hr
  refine ⟨_,(pss_cons (ps_expr (pe_methN M_Room_need hr.m T.cl_Room (pv 0) (pc (pv 1) pa_nil)))
      (pss_cons (ps_daug hu (pe_fldK (K:=K) rfl (pv 0) rfl) (pv 1) pe_int in_add (fun _ _ _=>rfl))
      (pss_one (ps_if (pt_cmpR op_eq (pe_fldK (K:=K) rfl (pv 0) rfl) pe_str (nomark _)) (pss_cons (pst 2 nd (pe_methN M_Room_mates hr.m T.cl_Room (pv 0) (pc (pv 1) pa_nil)))
      (pss_cons (ps_expr (pe_bmC (K:=K) rfl (pe_bm PySem.F.plainAttrs_list PySem.F.slot_list_remove PySem.F.type_list_remove mt_remove (pv 2) (pc (pv 1) pa_nil))))
      (pss_one (ps_expr (pe_bmC (K:=K) rfl (pe_bm PySem.F.plainAttrs_list PySem.F.slot_list_append PySem.F.type_list_append mt_append (pv 2) (pc (pv 1) pa_nil))))))) pss_nil)))),?_⟩
  obtain ⟨dx,h1⟩:=R.ob
  obtain ⟨kvs,h2,h3,h4⟩:=R.dc
  obtain ⟨o1,o2,o3,o4,o5,o6⟩:=R.off
  refine ⟨_,rfl,p,dx,_,rfl,h1,fl_no ..,_,rfl,p,b,sh,pl,ru,ls,ads,du,seq,us,n,rfl,R,hb,?_⟩
  refine ⟨_,rfl,p,_,dx,_,_,rfl,h1,T.cl_Room,T.n_Room_uses,fl_uses ..,_,rfl,du,_,rfl,(by have q:=DGet.k (k:=Sum.inl b) h2; rw [h4 b,if_pos hb] at q; exact q),_,_,rfl,rfl,_,DPut.k (k:=Sum.inl b) h2 (small1000 (by lia)),?_⟩
  have R1:RoomAt K (upd H du (.dK (putK kvs (Sum.inl b) (.int (us b+1))))) p sh pl ru ls ads du seq (bump us b) (n+1):=by
    refine ⟨⟨dx,by rw [upd_ne o1]; exact h1⟩,R.st.other _ (Ne.symm o3) o5,⟨_,upd_same,⟨Nat.le_trans (length_putK ..) (by have:=h3.1; lia),h3.2.put b _⟩,fun x=>?_⟩,R.nd,R.s0,R.s1⟩
    rw [valV_put]
    unfold bump
    by_cases c:x=b
    · subst c
      rw [if_pos rfl,if_pos hb,if_pos rfl]
    · rw [if_neg (fun z=>c (Sum.inl.inj z)),h4 x,if_neg c]
  have s1:SR ads du H (upd H du (.dK (putK kvs (Sum.inl b) (.int (us b+1))))):=fun x o e n1 n2=>by rw [upd_ne n1]; exact e
  generalize upd H du (.dK (putK kvs (Sum.inl b) (.int (us b+1))))=H1 at *
  obtain ⟨dx1,g1⟩:=R1.ob
  refine ⟨_,rfl,p,_,dx1,_,_,rfl,g1,T.cl_Room,T.n_Room_rule,fl_rule ..,rfl,_,rfl,?_⟩
  refine ite_dec (fun c=>?_) (fun c=>?_)
  · have c':ru = "old" := by injection c
    rw [if_pos c'] at k
    refine ⟨_,rfl,p,dx1,_,rfl,g1,fl_no ..,_,rfl,p,b,sh,pl,ru,ls,ads,du,seq,_,_,rfl,R1,fun s ad es hs had=>?_⟩
    have mad:ad∈ads:=List.mem_of_getElem? hs
    have hmem:b∈shelfS sh (b % sh) seq:=mem_shelfS.mpr ⟨hb,rfl⟩
    refine ⟨_,rfl,.inl ⟨rfl,_,SqL.of had⟩,_,rfl,ad,_,b,rfl,rfl,had,hmem,?_⟩
    have ll:((shelfS sh (b % sh) seq).erase b).length≤900:=Nat.le_trans List.length_erase_le (Nat.le_trans (List.length_filter_le ..) hsl)
    refine ⟨_,rfl,.inl ⟨rfl,_,SqL.of upd_same⟩,_,rfl,ad,_,_,rfl,rfl,upd_same,small1000 (by rw [List.length_map]; lia),?_⟩
    rw [upd_upd]
    have e1:(((shelfS sh (b % sh) seq).erase b).map V.int++[V.int b])=((shelfS sh (b % sh) seq).erase b++[b]).map V.int:=by rw [List.map_append]; rfl
    have S2:Shl (upd H1 ad (.lst (((shelfS sh (b % sh) seq).erase b++[b]).map V.int))) ls ads sh (seq.erase b++[b]):=by
      refine R1.st.put hs ?_ fun s' hs'=>?_
      · rw [shelfS_app,if_pos es.symm,shelfS_erase,es]
      · rw [shelfS_app,if_neg (by lia),shelfS_erase]
        exact List.erase_of_not_mem fun m=>hs' (by have:=(mem_shelfS.mp m).2; lia)
    have np:p≠ad:=fun z=>o2 (z ▸ mad)
    have ndu:du≠ad:=fun z=>o5 (z ▸ mad)
    obtain ⟨kvs1,g2,g3,g4⟩:=R1.dc
    have hme:∀ x,x∈seq.erase b++[b]↔x∈seq:=fun x=>by
      rw [List.mem_append,List.mem_singleton,List.Nodup.mem_erase_iff R.nd]
      constructor
      · rintro (⟨_,m⟩ | rfl)
        · exact m
        · exact hb
      · intro m
        by_cases z:x=b
        · exact .inr z
        · exact .inl ⟨z,m⟩
    rw [e1]
    refine k _ ⟨⟨dx1,by rw [upd_ne np]; exact g1⟩,S2,⟨kvs1,by rw [upd_ne ndu]; exact g2,g3,fun x=>?_⟩,?_,R.s0,R.s1⟩ fun x o e n1 n2=>?_
    · rw [g4 x]
      by_cases m:x∈seq
      · rw [if_pos m,if_pos ((hme x).mpr m)]
      · rw [if_neg m,if_neg (fun z=>m ((hme x).mp z))]
    · refine nd_snoc (R.nd.erase b) fun m=>((List.Nodup.mem_erase_iff R.nd).mp m).1 rfl
    · rw [upd_ne (fun z:x=ad=>n2 (z ▸ mad))]
      exact s1 _ _ e n1 n2
  · have c':¬ ru = "old" := fun z=>c (by rw [z])
    rw [if_neg c'] at k
    exact k _ R1 s1
end
def lessO (seq:List Int):Option Int→List Int
  | none=>seq
  | some g=>seq.erase g
def goneP (ru:Str) (us:Int→Int) (pl:Int) (ms:List Int) (gone:Option Int):Prop :=
  ((ms.length:Int)<pl→gone=none)∧(¬ (ms.length:Int)<pl→∃ (g:Int) (rest:List Int),gone=some g∧(g :: rest).Perm ms∧(ru = "few" → (g :: rest).Pairwise (KLt us ms))∧(ru ≠ "few" → g :: rest=ms))
theorem less_sub {seq:List Int} {g:Option Int}:(lessO seq g).Sublist seq:=by
  cases g with
  | none=>exact List.Sublist.refl _
  | some g=>exact List.erase_sublist
section
def spRoom (K:PySem.W.Frag):Sp:=fun vs H Q _=>∃ (p dx:Addr) (sh pl:Int) (ru:Str),vs=[.ref p,.int sh,.int pl,.str ru]∧H p=some (.ins (clsOf K "Room") dx [])∧1≤sh∧sh≤64 ∧
  ∀ (ls:Addr) (ads:List Addr) (du:Addr) (H':Hp),RoomAt K H' p sh pl ru ls ads du [] (fun _=>0) 0→H ls=none→H du=none→(∀ ad∈ads,H ad=none)→(∀ b o,H b=some o→b≠p→H' b=some o)→Q .non H'
theorem ok_Room_init {f:Addr} {fd:FuncData} (F:Fun K "__init__" "Room.__init__" s_Room_init f fd) (T:Txt K mg):FnOk P w K mg base CX0 1 f fd P_Room_init (spRoom K):=by
  refine F.ok sc_Room_init (fun vs H Q E h=>?_) (fun cdv A outer st H vs Q E hr h=>?_)
  · obtain ⟨p,dx,sh,pl,ru,rfl,_⟩:=h
    rfl
  obtain ⟨p,dx,sh,pl,ru,rfl,hp,hs0,hs1,k⟩:=h
  have nd:=sc_Room_init.nd
  refine ⟨_,(pss_cons (ps_fld (pv 0) (pv 1) rfl)
      (pss_cons (ps_fld (pv 0) (pv 2) rfl)
      (pss_cons (ps_fld (pv 0) (pv 3) rfl)
      (pss_cons (ps_fld (pv 0) (pe_comp0 (compOk_of (osc:=(defScope s_Room_init)) (oN:=N_Room_init) (N:=["number"]) (own:=1) (js:=[]) (by decide +kernel) rfl rfl) rfl (pi_range1 rfl T.z_range (pc (pv 1) pa_nil)) (fun _ _ _ _ _ _=>(pgn 0 (show List.Nodup (["number"]:List Str) by decide +kernel))) (fun _ _ _ _ _ _=>(pe_lst pa_nil))) rfl)
      (pss_one (ps_fld (pv 0) pe_dnewK rfl)))))),?_⟩
  refine ⟨_,rfl,_,rfl,p,_,dx,_,rfl,hp,T.cl_Room,T.n_Room_shelves,(by show 0<1000; decide),?_⟩
  refine ⟨_,rfl,_,rfl,p,_,dx,_,rfl,upd_same,T.cl_Room,T.n_Room_places,(by show 1<1000; decide),?_⟩
  refine ⟨_,rfl,_,rfl,p,_,dx,_,rfl,upd_same,T.cl_Room,T.n_Room_rule,(by show 2<1000; decide),?_⟩
  have e3:upd (upd (upd H p (.ins (clsOf K "Room") dx (putF "shelves" (.int sh) []))) p (.ins (clsOf K "Room") dx (putF "places" (.int pl) (putF "shelves" (.int sh) [])))) p (.ins (clsOf K "Room") dx (putF "rule" (.str ru) (putF "places" (.int pl) (putF "shelves" (.int sh) [])))) p=some (.ins (clsOf K "Room") dx (putF "rule" (.str ru) (putF "places" (.int pl) (putF "shelves" (.int sh) [])))):=upd_same
  have o3:∀ b o,H b=some o→b≠p→upd (upd (upd H p (.ins (clsOf K "Room") dx (putF "shelves" (.int sh) []))) p (.ins (clsOf K "Room") dx (putF "places" (.int pl) (putF "shelves" (.int sh) [])))) p (.ins (clsOf K "Room") dx (putF "rule" (.str ru) (putF "places" (.int pl) (putF "shelves" (.int sh) [])))) b=some o:=fun b o e n=>by rw [upd_ne n,upd_ne n,upd_ne n]; exact e
  generalize upd (upd (upd H p (.ins (clsOf K "Room") dx (putF "shelves" (.int sh) []))) p (.ins (clsOf K "Room") dx (putF "places" (.int pl) (putF "shelves" (.int sh) [])))) p (.ins (clsOf K "Room") dx (putF "rule" (.str ru) (putF "places" (.int pl) (putF "shelves" (.int sh) []))))=H3 at *
  have f3:∀ b,H3 b=none→H b=none:=fun b e=>by
    cases q:H b with
    | none=>rfl
    | some o =>
      by_cases z:b=p
      · rw [z,e3] at e; cases e
      · rw [o3 b o q z] at e; cases e
  refine ⟨_,rfl,sh,rfl,by lia,by lia,fun ls hls=>?_⟩
  refine comp_range (lo:=0) (n:=sh.toNat) (l:=ls) (fun j ys σ G=>∃ (v0:Option V) (ads:List Addr),σ=[v0]∧ys=ads.map V.ref∧ads.length=j∧ads.Nodup∧ls∉ads∧G ls=some (.lst ys)∧(∀ ad∈ads,H3 ad=none∧G ad=some (.lst []))∧Same H3 G)
    ⟨none,[],rfl,rfl,rfl,List.nodup_nil,by simp,upd_same,by simp,same_upd hls _⟩ ?_ ?_
  · rintro j ys σ G hj hy ⟨v0,ads,rfl,rfl,hlen,hnd,hoff,g1,g2,s1⟩
    refine ⟨(by show 0≤sizeLine; decide),fun q hq=>?_⟩
    have nq:ls≠q:=ne_of_none g1 hq
    have niq:q∉ads:=fun m=>by rw [(g2 q m).2] at hq; cases hq
    refine CNx.of (Nat.le_trans (by lia:sh.toNat≤64) (by decide)) hj hy (by rw [upd_ne nq]; exact g1) ⟨_,ads++[q],rfl,by rw [List.map_append]; rfl,by rw [List.length_append,hlen]; rfl,nd_snoc hnd niq,?_,upd_same,fun ad m=>?_,?_⟩
    · intro m
      rcases List.mem_append.mp m with m | m
      · exact hoff m
      · exact nq (by simpa using m)
    · rcases List.mem_append.mp m with m | m
      · rw [upd_ne (fun z:ad=ls=>hoff (z ▸ m)),upd_ne (fun z:ad=q=>niq (z ▸ m))]
        exact g2 ad m
      · have e:ad=q:=by simpa using m
        subst e
        rw [upd_ne (Ne.symm nq)]
        exact ⟨s1.free hq,upd_same⟩
    · intro e o y
      rw [upd_ne (ne_of_none y hls),upd_ne (ne_of_none (s1 _ _ y) hq)]
      exact s1 _ _ y
  rintro ys σ G hy ⟨v0,ads,rfl,rfl,hlen,hnd,hoff,g1,g2,s1⟩
  have gp:=s1 _ _ e3
  refine ⟨_,rfl,p,_,dx,_,rfl,gp,T.cl_Room,T.n_Room_standing,(by show 3<1000; decide),?_⟩
  intro du hdu
  have nls:ls≠p:=fun z=>by rw [z,e3] at hls; cases hls
  have nas:∀ ad∈ads,ad≠p:=fun ad m z=>by have q:=(g2 ad m).1; rw [z,e3] at q; cases q
  have npd:p≠du:=ne_of_none (upd_same (H:=G) (a:=p) (o:=.ins (clsOf K "Room") dx (putF "standing" (.ref ls) (putF "rule" (.str ru) (putF "places" (.int pl) (putF "shelves" (.int sh) [])))))) hdu
  have gl:ls≠du:=fun z=>by rw [← z,upd_ne nls,g1] at hdu; cases hdu
  have ga:du∉ads:=fun m=>by rw [upd_ne (Ne.symm npd),(g2 du m).2] at hdu; cases hdu
  refine ⟨_,rfl,p,_,dx,_,rfl,(by rw [upd_ne npd]; exact upd_same),T.cl_Room,T.n_Room_uses,(by show 4<1000; decide),?_⟩
  have hduH3:H3 du=none:=by
    rw [upd_ne (Ne.symm npd)] at hdu
    exact s1.free hdu
  refine k ls ads du _ ⟨⟨dx,upd_same⟩,⟨?_,hlen,hnd,hoff,fun i ad e=>?_⟩,⟨[],?_,⟨Nat.le_refl _,KI.nil⟩,fun b=>by simp [valV]⟩,List.nodup_nil,hs0,hs1⟩ (f3 _ hls) (f3 _ hduH3) (fun ad m=>f3 _ (g2 ad m).1) fun b o e n=>?_
  · rw [upd_ne nls,upd_ne gl,upd_ne nls]
    exact g1
  · have m:=List.mem_of_getElem? e
    rw [upd_ne (nas ad m),upd_ne (fun z:ad=du=>ga (z ▸ m)),upd_ne (nas ad m)]
    exact (g2 ad m).2
  · rw [upd_ne (Ne.symm npd)]
    exact upd_same
  · have q:=s1 _ _ (o3 b o e n)
    have nb:b≠du:=fun z=>by
      rw [← z,upd_ne n,q] at hdu
      cases hdu
    rw [upd_ne n,upd_ne nb,upd_ne n]
    exact q
def zero (us:Int→Int) (b:Int):Int→Int:=fun x=>if x=b then 0 else us x
def spBring (K:PySem.W.Frag):Sp:=fun vs H Q _=>∃ (p:Addr) (b sh pl:Int) (ru:Str) (ls:Addr) (ads:List Addr) (du:Addr) (seq:List Int) (us:Int→Int) (n:Nat),vs=[.ref p,.int b]∧RoomAt K H p sh pl ru ls ads du seq us n∧Tb K H∧n≤900∧b∉seq∧1≤pl∧(shelfS sh (b % sh) seq).length<64 ∧
  ∀ (gone:Option Int) (H':Hp),goneP ru us pl (shelfS sh (b % sh) seq) gone→RoomAt K H' p sh pl ru ls ads du (lessO seq gone++[b]) (zero us b) (n+1)→SR ads du H H'→Q (optV gone) H'
def spLeaver (K:PySem.W.Frag):Sp:=fun vs H Q _=>∃ (p:Addr) (b sh pl:Int) (ru:Str) (ls:Addr) (ads:List Addr) (du:Addr) (seq:List Int) (us:Int→Int) (n:Nat),vs=[.ref p,.int b]∧RoomAt K H p sh pl ru ls ads du seq us n∧Tb K H∧1≤pl∧(shelfS sh (b % sh) seq).length<64 ∧
  ∀ (gone:Option Int) (H':Hp),goneP ru us pl (shelfS sh (b % sh) seq) gone→Same H H'→Q (optV gone) H'
theorem ok_Room_leaver_for {f:Addr} {fd:FuncData} (F:Fun K "leaver_for" "Room.leaver_for" s_Room_leaver_for f fd) (T:Txt K mg) (M_Room_mates:MDef P w K mg base (clsOf K "Room") "mates" 2 P_Room_mates (spMates K)) (M_Room_going:MDef P w K mg base (clsOf K "Room") "going" 2 P_Room_going (spGoing K)):FnOk P w K mg base CX0 3 f fd P_Room_leaver_for (spLeaver K):=by
  refine F.ok sc_Room_leaver_for (fun vs H Q E h=>?_) (fun cdv A outer st H vs Q E hr h=>?_)
  · obtain ⟨p,b,sh,pl,ru,ls,ads,du,seq,us,n,rfl,_⟩:=h
    rfl
  obtain ⟨p,b,sh,pl,ru,ls,ads,du,seq,us,n,rfl,R,tb,hpl,h64,k⟩:=h
  have nd:=sc_Room_leaver_for.nd
  have hu:=hu_of hr
  refine ⟨_,(pss_cons (pst 2 nd (pe_methN M_Room_mates hr.m T.cl_Room (pv 0) (pc (pv 1) pa_nil)))
      (pss_cons (ps_if (pt_cmpR op_lt (pe_callBN (call_len_seqK (K:=K) rfl) rfl T.z_len PySem.boot_len (pc (pv 2) pa_nil)) (pe_fldK (K:=K) rfl (pv 0) rfl) (nomark _)) (pss_one (ps_ret pe_non)) pss_nil)
      (pss_one (ps_ret (pe_ix (ix_listK (K:=K) rfl) (pe_methN M_Room_going hr.m T.cl_Room (pv 0) (pc (pv 2) pa_nil)) pe_int (fun _ _=>rfl)))))),?_⟩
  obtain ⟨dx,h1⟩:=R.ob
  refine ⟨_,rfl,p,dx,_,rfl,h1,fl_no ..,_,rfl,p,b,sh,pl,ru,ls,ads,du,seq,us,n,rfl,R,fun s ad es hs had=>?_⟩
  have hnd:(shelfS sh (b % sh) seq).Nodup:=R.nd.sublist List.filter_sublist
  refine ⟨_,rfl,ad,_,rfl,.inl (SqL.of had),_,rfl,p,_,dx,_,_,rfl,h1,T.cl_Room,T.n_Room_places,fl_places ..,_,_,rfl,rfl,_,rfl,?_⟩
  rw [List.length_map]
  refine ite_dec (fun c=>?_) (fun c=>?_)
  · exact k none H ⟨fun _=>rfl,fun z=>absurd z (by lia)⟩ (Same.refl _)
  · refine ⟨_,rfl,p,dx,_,rfl,h1,fl_no ..,_,rfl,p,ad,shelfS sh (b % sh) seq,sh,pl,ru,ls,ads,du,seq,us,n,rfl,R,tb,had,h64,hnd,(fun x m=>(mem_shelfS.mp m).1),fun D H' os hD sm hl po s1 s2=>?_⟩
    have lo:=po.length_eq
    match os,hl,po,s1,s2,lo with
    | [],_,_,_,_,lo=>exact absurd lo (by simp; lia)
    | g :: rest,hl,po,s1,s2,lo =>
      refine ⟨D,_,_,_,rfl,rfl,SqL.of hl,atI0,?_⟩
      exact k (some g) H' ⟨fun z=>absurd c (by lia),fun _=>⟨g,rest,rfl,po,s1,s2⟩⟩ sm
theorem ok_Room_bring {f:Addr} {fd:FuncData} (F:Fun K "bring" "Room.bring" s_Room_bring f fd) (T:Txt K mg) (M_Room_has:MDef P w K mg base (clsOf K "Room") "has" 1 P_Room_has (spHas K)) (M_Room_leaver_for:MDef P w K mg base (clsOf K "Room") "leaver_for" 3 P_Room_leaver_for (spLeaver K)) (M_Room_mates:MDef P w K mg base (clsOf K "Room") "mates" 2 P_Room_mates (spMates K)) (M_Room_drop:MDef P w K mg base (clsOf K "Room") "drop" 3 P_Room_drop (spDrop K)):FnOk P w K mg base CX0 4 f fd P_Room_bring (spBring K):=by
  refine F.ok sc_Room_bring (fun vs H Q E h=>?_) (fun cdv A outer st H vs Q E hr h=>?_)
  · obtain ⟨p,b,sh,pl,ru,ls,ads,du,seq,us,n,rfl,_⟩:=h
    rfl
  obtain ⟨p,b,sh,pl,ru,ls,ads,du,seq,us,n,rfl,R,tb,hn,hb,hpl,h64,k⟩:=h
  have nd:=sc_Room_bring.nd
  have hu:=hu_of hr
  refine ⟨_,(pss_cons (ps_if (pt_val (pe_methN M_Room_has hr.m T.cl_Room (pv 0) (pc (pv 1) pa_nil))) (pss_one ps_no) pss_nil)
      (pss_cons (pst 2 nd (pe_methN M_Room_leaver_for hr.m T.cl_Room (pv 0) (pc (pv 1) pa_nil)))
      (pss_cons (ps_if (pt_cmp (pc_notN (pv 2))) (pss_one (ps_expr (pe_methN M_Room_drop hr.m T.cl_Room (pv 0) (pc (pv 2) pa_nil)))) pss_nil)
      (pss_cons (ps_expr (pe_bmC (K:=K) rfl (pe_bm PySem.F.plainAttrs_list PySem.F.slot_list_append PySem.F.type_list_append mt_append (pe_methN M_Room_mates hr.m T.cl_Room (pv 0) (pc (pv 1) pa_nil)) (pc (pv 1) pa_nil))))
      (pss_cons (ps_dput hu (pe_fldK (K:=K) rfl (pv 0) rfl) (pv 1) pe_int rfl)
      (pss_one (ps_ret (pv 2)))))))),?_⟩
  obtain ⟨dx,h1⟩:=R.ob
  refine ⟨_,rfl,p,dx,_,rfl,h1,fl_no ..,_,rfl,p,b,sh,pl,ru,ls,ads,du,seq,us,n,rfl,R,?_⟩
  rw [decide_eq_false hb]
  refine ⟨_,rfl,ifF rfl ?_⟩
  refine ⟨_,rfl,p,dx,_,rfl,h1,fl_no ..,_,rfl,p,b,sh,pl,ru,ls,ads,du,seq,us,n,rfl,R,tb,hpl,h64,fun gone H1 gp sm=>?_⟩
  refine gN ?_
  dsimp only
  have R0:=R.same sm
  have hnd:(shelfS sh (b % sh) seq).Nodup:=R.nd.sublist List.filter_sublist
  refine cpI (fun σ G=>σ=[some (.ref p),some (.int b),some (optV gone)]∧RoomAt K G p sh pl ru ls ads du (lessO seq gone) us n∧SR ads du H G) (fun D' _ k'=>?_) ?_
  · match gone,gp with
    | none,gp=>exact ⟨_,rfl,_,rfl,ifF rfl (k' _ _ ⟨rfl,R0,SR.of sm⟩)⟩
    | some g,gp =>
      have hg:g∈shelfS sh (b % sh) seq:=by
        by_cases c:((shelfS sh (b % sh) seq).length:Int)<pl
        · exact absurd (gp.1 c) (by simp)
        · obtain ⟨g',rest,e,po,_⟩:=gp.2 c
          injection e with e
          subst e
          exact po.mem_iff.mp List.mem_cons_self
      obtain ⟨dx',h1'⟩:=R0.ob
      exact ⟨_,rfl,_,rfl,ifT rfl ⟨_,rfl,p,dx',_,rfl,h1',fl_no ..,_,rfl,p,g,sh,pl,ru,ls,ads,du,seq,us,n,rfl,R0,(mem_shelfS.mp hg).1,fun H2 R2 s3=>k' _ _ ⟨rfl,R2,(SR.of sm).trans s3⟩⟩⟩
  rintro _ G ⟨rfl,R1,s1⟩
  obtain ⟨dx1,g1⟩:=R1.ob
  obtain ⟨kvs,g2,g3,g4⟩:=R1.dc
  obtain ⟨o1,o2,o3,o4,o5,o6⟩:=R1.off
  refine ⟨_,rfl,p,dx1,_,rfl,g1,fl_no ..,_,rfl,p,b,sh,pl,ru,ls,ads,du,lessO seq gone,us,n,rfl,R1,fun s ad es hs had0=>?_⟩
  have mad:ad∈ads:=List.mem_of_getElem? hs
  have had1:=R1.st.at_ s ad hs
  have ll:(shelfS sh s (lessO seq gone)).length≤64:=by
    have q:(shelfS sh s (lessO seq gone)).Sublist (shelfS sh s seq):=List.Sublist.filter _ (less_sub (g:=gone))
    have q2:=q.length_le
    rw [es] at q2 ⊢
    lia
  refine ⟨.inl ⟨rfl,_,SqL.of had1⟩,_,rfl,ad,_,_,rfl,rfl,had1,small1000 (by rw [List.length_map]; lia),?_⟩
  have nb:b∉lessO seq gone:=fun m=>hb (less_sub.subset m)
  have e1:((shelfS sh s (lessO seq gone)).map V.int++[V.int b])=(shelfS sh s (lessO seq gone)++[b]).map V.int:=by rw [List.map_append]; rfl
  rw [e1]
  have S2:Shl (upd G ad (.lst ((shelfS sh s (lessO seq gone)++[b]).map V.int))) ls ads sh (lessO seq gone++[b]):=by
    refine R1.st.put hs ?_ fun s' hs'=>?_
    · rw [shelfS_app,if_pos es.symm]
    · rw [shelfS_app,if_neg (by lia)]
  have np:p≠ad:=fun z=>o2 (z ▸ mad)
  have ndu:du≠ad:=fun z=>o5 (z ▸ mad)
  have g1':upd G ad (.lst ((shelfS sh s (lessO seq gone)++[b]).map V.int)) p=some (.ins (clsOf K "Room") dx1 (flds sh pl ru ls du)):=by rw [upd_ne np]; exact g1
  have g2':upd G ad (.lst ((shelfS sh s (lessO seq gone)++[b]).map V.int)) du=some (.dK kvs):=by rw [upd_ne ndu]; exact g2
  refine ⟨_,rfl,p,_,dx1,_,_,rfl,g1',T.cl_Room,T.n_Room_uses,fl_uses ..,_,rfl,du,_,rfl,DPut.k (k:=Sum.inl b) g2' (small1000 (by lia)),?_⟩
  refine ⟨_,rfl,k gone _ gp ⟨⟨dx1,by rw [upd_ne o1]; exact g1'⟩,S2.other _ (Ne.symm o3) o5,⟨_,upd_same,⟨Nat.le_trans (length_putK ..) (by have:=g3.1; lia),g3.2.put b _⟩,fun x=>?_⟩,nd_snoc R1.nd nb,R.s0,R.s1⟩ fun x o e n1 n2=>?_⟩
  · rw [valV_put]
    unfold zero
    by_cases c:x=b
    · subst c
      rw [if_pos rfl,if_pos (List.mem_append_right _ (List.mem_singleton.mpr rfl)),if_pos rfl]
    · rw [if_neg (fun z=>c (Sum.inl.inj z)),g4 x,if_neg c]
      by_cases m:x∈lessO seq gone
      · rw [if_pos m,if_pos (List.mem_append_left _ m)]
      · rw [if_neg m,if_neg (fun z=>(List.mem_append.mp z).elim m fun q=>c (List.mem_singleton.mp q))]
  · rw [upd_ne n1,upd_ne (fun z:x=ad=>n2 (z ▸ mad))]
    exact s1 _ _ e n1 n2
end
theorem nd_len:∀ {a b:List Int},a.Nodup→(∀ x∈a,x∈b)→a.length≤b.length
  | [],_,_,_=>Nat.zero_le _
  | x :: a,b,nd,h=>by
    have nd':=List.nodup_cons.mp nd
    have mx:=h x List.mem_cons_self
    have q:=nd_len (b:=b.erase x) nd'.2 fun y hy=>(List.mem_erase_of_ne (fun z:y=x=>nd'.1 (by rw [← z]; exact hy))).mpr (h y (List.mem_cons_of_mem _ hy))
    rw [List.length_erase_of_mem mx] at q
    have:=List.length_pos_of_mem mx
    show a.length+1≤b.length
    lia
theorem ki_perm {kvs:List (Key×V)} {seq:List Int} (h:KI kvs) (nd:seq.Nodup) (e:∀ b,(valV kvs (Sum.inl b:Key)).isSome=true↔b∈seq):kvs.length=seq.length:=by
  obtain ⟨ks,h4,h5⟩:=h
  have per:ks.Perm seq:=by
    refine (List.perm_ext_iff_of_nodup h5 nd).mpr fun b=>?_
    rw [← e b,val_key,h4,List.mem_map]
    constructor
    · intro m
      exact ⟨b,m,rfl⟩
    · rintro ⟨x,hx,q⟩
      rw [← Sum.inl.inj q]; exact hx
  have l:=congrArg List.length h4
  rw [List.length_map,List.length_map] at l
  rw [l,per.length_eq]
theorem RoomAt.norm {K:PySem.W.Frag} {H:Hp} {p:Addr} {sh pl:Int} {ru:Str} {ls:Addr} {ads:List Addr} {du:Addr} {seq:List Int} {us:Int→Int} {n:Nat} (R:RoomAt K H p sh pl ru ls ads du seq us n):RoomAt K H p sh pl ru ls ads du seq us seq.length:=by
  obtain ⟨kvs,h2,⟨h3,h5⟩,h4⟩:=R.dc
  refine ⟨R.ob,R.st,⟨kvs,h2,⟨Nat.le_of_eq (ki_perm h5 R.nd fun b=>?_),h5⟩,h4⟩,R.nd,R.s0,R.s1⟩
  rw [h4 b]
  by_cases c:b∈seq
  · simp [c]
  · simp [c]
structure SA where
  sp:Addr
  rp:Addr
  ls:Addr
  ads:List Addr
  du:Addr
  dh:Addr
  df:Addr
structure Cf where
  sh:Int
  pl:Int
  ru:Str
  late:Bool
def sflds (rp:Addr) (late:Bool) (dh df:Addr):List (Str×V):=putF "fresh" (.ref df) (putF "held" (.ref dh) (putF "late" (.bl late) (putF "room" (.ref rp) [])))
theorem sf_fresh (rp:Addr) (late:Bool) (dh df:Addr):(sflds rp late dh df).lookup ("fresh" : Str)=some (.ref df):=by
  unfold sflds; rw [lookup_putF,if_pos rfl]
theorem sf_held (rp:Addr) (late:Bool) (dh df:Addr):(sflds rp late dh df).lookup ("held" : Str)=some (.ref dh):=by
  unfold sflds; rw [lookup_putF,if_neg (by decide +kernel),lookup_putF,if_pos rfl]
theorem sf_late (rp:Addr) (late:Bool) (dh df:Addr):(sflds rp late dh df).lookup ("late" : Str)=some (.bl late):=by
  unfold sflds; rw [lookup_putF,if_neg (by decide +kernel),lookup_putF,if_neg (by decide +kernel),lookup_putF,if_pos rfl]
theorem sf_room (rp:Addr) (late:Bool) (dh df:Addr):(sflds rp late dh df).lookup ("room" : Str)=some (.ref rp):=by
  unfold sflds; rw [lookup_putF,if_neg (by decide +kernel),lookup_putF,if_neg (by decide +kernel),lookup_putF,if_neg (by decide +kernel),lookup_putF,if_pos rfl]
theorem sf_no (rp:Addr) (late:Bool) (dh df:Addr) {m:Str} (h1:¬ m = "fresh" := by decide +kernel) (h2:¬ m = "held" := by decide +kernel) (h3:¬ m = "late" := by decide +kernel) (h4:¬ m = "room" := by decide +kernel):(sflds rp late dh df).lookup m=none:=by
  unfold sflds
  rw [lookup_putF,if_neg h1,lookup_putF,if_neg h2,lookup_putF,if_neg h3,lookup_putF,if_neg h4]
  rfl
structure Rm where
  seq:List Int
  us:Int→Int
  wd:Int→List Int
  fr:Int→Bool
def Mt:HO→Prop
  | .lst _=>True
  | .dK _=>True
  | .ins _ _ _=>True
  | _=>False
structure Pst (O:Addr→Prop) (H H':Hp) (O':Addr→Prop):Prop where
  kp:∀ x o,H x=some o→(O x→¬ Mt o)→H' x=some o
  fr:∀ x,O' x→O x∨H x=none
theorem Pst.trans {O O1 O2:Addr→Prop} {H H1 H2:Hp} (a:Pst O H H1 O1) (b:Pst O1 H1 H2 O2):Pst O H H2 O2:=by
  refine ⟨fun x o e n=>b.kp x o (a.kp x o e n) fun h=>(a.fr x h).elim n (fun z=>by rw [e] at z; cases z),fun x h=>(b.fr x h).elim (a.fr x) fun z=>?_⟩
  by_cases c:O x
  · exact .inl c
  · cases q:H x with
    | none=>exact .inr rfl
    | some o=>rw [a.kp x o q fun h=>absurd h c] at z; cases z
theorem Pst.same {O:Addr→Prop} {H H':Hp} (s:Same H H'):Pst O H H' O:=⟨fun x o e _=>s x o e,fun _ h=>.inl h⟩
theorem RoomAt.frame {K:PySem.W.Frag} {H H':Hp} {p:Addr} {sh pl:Int} {ru:Str} {ls:Addr} {ads:List Addr} {du:Addr} {seq:List Int} {us:Int→Int} {n:Nat} (R:RoomAt K H p sh pl ru ls ads du seq us n) (h:∀ x o,x=p∨x=ls∨x∈ads∨x=du→H x=some o→H' x=some o):RoomAt K H' p sh pl ru ls ads du seq us n:=by
  obtain ⟨dx,h1⟩:=R.ob
  obtain ⟨kvs,h2,h3⟩:=R.dc
  exact ⟨⟨dx,h _ _ (.inl rfl) h1⟩,⟨h _ _ (.inr (.inl rfl)) R.st.top,R.st.len,R.st.nd,R.st.off,fun i ad e=>h _ _ (.inr (.inr (.inl (List.mem_of_getElem? e)))) (R.st.at_ i ad e)⟩,⟨kvs,h _ _ (.inr (.inr (.inr rfl))) h2,h3⟩,R.nd,R.s0,R.s1⟩
structure HldAt (H:Hp) (dh ls:Addr) (ads:List Addr) (O:Addr→Prop) (seq:List Int) (wd:Int→List Int) (kvs:List (Key×V)) (wl:Int→Addr):Prop where
  dc:H dh=some (.dK kvs)
  ki:KI kvs
  v:∀ b,valV kvs (Sum.inl b:Key)=if b∈seq then some (.ref (wl b)) else none
  at_:∀ b∈seq,H (wl b)=some (.lst ((wd b).map V.int))∧O (wl b)∧wl b∉ads∧wl b≠ls
  inj:∀ b∈seq,∀ c∈seq,wl b=wl c→b=c
structure Sto (K:PySem.W.Frag) (H:Hp) (a:SA) (c:Cf) (seq:List Int) (us:Int→Int) (O:Addr→Prop):Prop where
  ob:∃ dx,H a.sp=some (.ins (clsOf K "Store") dx (sflds a.rp c.late a.dh a.df))
  room:RoomAt K H a.rp c.sh c.pl c.ru a.ls a.ads a.du seq us seq.length
  d1:∃ kvs,H a.dh=some (.dK kvs)
  d2:∃ kvs,H a.df=some (.dK kvs)
  n1:a.du≠a.dh
  n2:a.df≠a.dh
  n3:a.df≠a.du
  own:∀ x,x=a.sp∨x=a.rp∨x=a.ls∨x∈a.ads∨x=a.du∨x=a.dh∨x=a.df→O x
  ex:∀ x,O x→H x≠none
structure StoreAt (K:PySem.W.Frag) (H:Hp) (a:SA) (c:Cf) (s:Rm) (O:Addr→Prop):Prop where
  sto:Sto K H a c s.seq s.us O
  held:∃ kvs wl,HldAt H a.dh a.ls a.ads O s.seq s.wd kvs wl
  fresh:∃ kvs,H a.df=some (.dK kvs)∧KI kvs∧∀ b,valV kvs (Sum.inl b:Key)=if s.fr b=true then some (.bl true) else none
  ffr:∀ b,s.fr b=true→b∈s.seq
section
variable {K:PySem.W.Frag} {H H':Hp} {a:SA} {c:Cf} {s:Rm} {O O':Addr→Prop} {kvs:List (Key×V)} {wl:Int→Addr} {seq:List Int} {us:Int→Int}
theorem HldAt.frame {dh ls:Addr} {ads:List Addr} {wd:Int→List Int} (h:HldAt H dh ls ads O seq wd kvs wl) (hO:O dh) (f:∀ x o,O x→H x=some o→H' x=some o):HldAt H' dh ls ads O seq wd kvs wl :=
  ⟨f _ _ hO h.dc,h.ki,h.v,fun b m=>⟨f _ _ (h.at_ b m).2.1 (h.at_ b m).1,(h.at_ b m).2⟩,h.inj⟩
theorem ex_of {x:Addr} (h:H x≠none) (f:∀ o,H x=some o→H' x=some o):H' x≠none:=fun z=>by
  cases q:H x with
  | none=>exact h q
  | some o=>rw [f o q] at z; cases z
theorem ex_upd {x y:Addr} {o:HO} (h:H x≠none):upd H y o x≠none:=by
  by_cases z:x=y
  · rw [z,upd_same]; simp
  · rw [upd_ne z]; exact h
theorem Sto.frame (S:Sto K H a c seq us O) (f:∀ x o,O x→H x=some o→H' x=some o):Sto K H' a c seq us O:=by
  obtain ⟨dx,h1⟩:=S.ob
  obtain ⟨k1,h2⟩:=S.d1
  obtain ⟨k2,h3⟩:=S.d2
  exact ⟨⟨dx,f _ _ (S.own _ (by simp)) h1⟩,S.room.frame fun x o m e=>f x o (S.own x (by rcases m with m | m | m | m <;> simp [m])) e,⟨k1,f _ _ (S.own _ (by simp)) h2⟩,⟨k2,f _ _ (S.own _ (by simp)) h3⟩,S.n1,S.n2,S.n3,S.own,fun x h=>ex_of (S.ex x h) fun o=>f x o h⟩
theorem StoreAt.frame (S:StoreAt K H a c s O) (f:∀ x o,O x→H x=some o→H' x=some o):StoreAt K H' a c s O:=by
  obtain ⟨kvs,wl,h2⟩:=S.held
  obtain ⟨kf,h3,h4⟩:=S.fresh
  exact ⟨S.sto.frame f,⟨kvs,wl,h2.frame (S.sto.own _ (by simp)) f⟩,⟨kf,f _ _ (S.sto.own _ (by simp)) h3,h4⟩,S.ffr⟩
theorem StoreAt.same (S:StoreAt K H a c s O) (h:Same H H'):StoreAt K H' a c s O:=S.frame fun x o _ e=>h x o e
theorem Sto.same (S:Sto K H a c seq us O) (h:Same H H'):Sto K H' a c seq us O:=S.frame fun x o _ e=>h x o e
theorem Sto.kinds (S:Sto K H a c seq us O) {x:Addr} {kvs:List (Key×V)} (h:H x=some (.dK kvs)):x≠a.sp∧x≠a.rp∧x≠a.ls∧x∉a.ads:=by
  obtain ⟨dx,h1⟩:=S.ob
  obtain ⟨dr,h2⟩:=S.room.ob
  refine ⟨fun z=>?_,fun z=>?_,fun z=>?_,fun m=>?_⟩
  · rw [← z,h] at h1; cases h1
  · rw [← z,h] at h2; cases h2
  · have q:=S.room.st.top; rw [← z,h] at q; cases q
  · obtain ⟨xs,e⟩:=S.room.st.one m; rw [h] at e; cases e
theorem Sto.put (S:Sto K H a c seq us O) {x:Addr} (hx:x=a.dh∨x=a.df) (kvs:List (Key×V)):Sto K (upd H x (.dK kvs)) a c seq us O:=by
  obtain ⟨kx,ex⟩:∃ kx,H x=some (.dK kx):=hx.elim (fun z=>z ▸ S.d1) fun z=>z ▸ S.d2
  obtain ⟨q1,q2,q3,q4⟩:=S.kinds ex
  have nu:x≠a.du:=hx.elim (fun z=>z ▸ Ne.symm S.n1) fun z=>z ▸ S.n3
  obtain ⟨dx,h1⟩:=S.ob
  have dd:∀ {y},(∃ k,H y=some (.dK k))→∃ k,upd H x (.dK kvs) y=some (.dK k):=fun {y} h=>by
    by_cases z:y=x
    · rw [z,upd_same]; exact ⟨_,rfl⟩
    · rw [upd_ne z]; exact h
  exact ⟨⟨dx,by rw [upd_ne (Ne.symm q1)]; exact h1⟩,S.room.frame fun y o m e=>by
    rw [upd_ne (fun z:y=x=>by subst z; exact m.elim q2 fun m=>m.elim q3 fun m=>m.elim q4 nu)]; exact e,dd S.d1,dd S.d2,S.n1,S.n2,S.n3,S.own,fun y h=>ex_upd (S.ex y h)⟩
theorem Sto.mono (S:Sto K H a c seq us O) (h1:∀ x,x=a.sp∨x=a.rp∨x=a.ls∨x∈a.ads∨x=a.du∨x=a.dh∨x=a.df→O' x) (h2:∀ x,O' x→H x≠none):Sto K H a c seq us O':=⟨S.ob,S.room,S.d1,S.d2,S.n1,S.n2,S.n3,h1,h2⟩
theorem Sto.deed {seq':List Int} {us':Int→Int} {n:Nat} (S:Sto K H a c seq us O) (R:RoomAt K H' a.rp c.sh c.pl c.ru a.ls a.ads a.du seq' us' n) (r:SR a.ads a.du H H'):Sto K H' a c seq' us' O:=by
  obtain ⟨dx,h1⟩:=S.ob
  obtain ⟨k1,h2⟩:=S.d1
  obtain ⟨k2,h3⟩:=S.d2
  refine ⟨⟨dx,r.keep S.room h1 (fun _ z=>by cases z) (fun _ z=>by cases z)⟩,R.norm,⟨k1,r _ _ h2 (Ne.symm S.n1) (S.kinds h2).2.2.2⟩,⟨k2,r _ _ h3 S.n3 (S.kinds h3).2.2.2⟩,S.n1,S.n2,S.n3,S.own,fun x h=>?_⟩
  by_cases z:x=a.du
  · obtain ⟨kv,e,_⟩:=R.dc
    rw [z,e]; simp
  · by_cases m:x∈a.ads
    · obtain ⟨xs,e⟩:=R.st.one m
      rw [e]; simp
    · exact ex_of (S.ex x h) fun o e=>r x o e z m
theorem Sto.pst (S:Sto K H a c seq us O) (r:SR a.ads a.du H H'):Pst O H H' O:=by
  refine ⟨fun x o e n=>r x o e (fun z=>?_) fun m=>?_,fun _ h=>.inl h⟩
  · obtain ⟨kv,q,_⟩:=S.room.dc
    rw [z,q] at e
    cases e
    exact n (S.own x (by simp [z])) trivial
  · obtain ⟨xs,q⟩:=S.room.st.one m
    rw [q] at e
    cases e
    exact n (S.own x (by simp [m])) trivial
theorem Sto.hld {wd:Int→List Int} {seq':List Int} (S:Sto K H a c seq us O) (h:HldAt H a.dh a.ls a.ads O seq' wd kvs wl) (r:SR a.ads a.du H H'):HldAt H' a.dh a.ls a.ads O seq' wd kvs wl:=by
  obtain ⟨kr,g,_⟩:=S.room.dc
  exact ⟨r _ _ h.dc (Ne.symm S.n1) (S.kinds h.dc).2.2.2,h.ki,h.v,fun x m=>⟨r _ _ (h.at_ x m).1 (fun z=>by have e:=(h.at_ x m).1; rw [z,g] at e; cases e) (h.at_ x m).2.2.1,(h.at_ x m).2⟩,h.inj⟩
theorem HldAt.seqs {dh ls:Addr} {ads:List Addr} {seq':List Int} {wd:Int→List Int} (h:HldAt H dh ls ads O seq wd kvs wl) (hs:∀ b,b∈seq'↔b∈seq):HldAt H dh ls ads O seq' wd kvs wl :=
  ⟨h.dc,h.ki,fun b=>by rw [h.v b]; exact ite_congr (propext (hs b).symm) (fun _=>rfl) fun _=>rfl,fun b m=>h.at_ b ((hs b).mp m),fun b m c m'=>h.inj b ((hs b).mp m) c ((hs c).mp m')⟩
theorem StoreAt.deed {seq':List Int} {us':Int→Int} {n:Nat} (S:StoreAt K H a c s O) (R:RoomAt K H' a.rp c.sh c.pl c.ru a.ls a.ads a.du seq' us' n) (r:SR a.ads a.du H H') (hs:∀ b,b∈seq'↔b∈s.seq):StoreAt K H' a c ⟨seq',us',s.wd,s.fr⟩ O:=by
  obtain ⟨kvs,wl,h2⟩:=S.held
  obtain ⟨kf,h3,h4⟩:=S.fresh
  exact ⟨S.sto.deed R r,⟨kvs,wl,(S.sto.hld h2 r).seqs hs⟩,⟨kf,r _ _ h3 S.sto.n3 (S.sto.kinds h3).2.2.2,h4⟩,fun b h=>(hs b).mpr (S.ffr b h)⟩
theorem Sto.pput (S:Sto K H a c seq us O) {x:Addr} (hx:x=a.dh∨x=a.df) (kvs:List (Key×V)):Pst O H (upd H x (.dK kvs)) O:=by
  refine ⟨fun y o e n=>?_,fun _ h=>.inl h⟩
  rw [upd_ne (fun z=>?_)]
  · exact e
  obtain ⟨kx,ex⟩:∃ kx,H x=some (.dK kx):=hx.elim (fun z=>z ▸ S.d1) fun z=>z ▸ S.d2
  rw [z,ex] at e
  cases e
  exact n (S.own y (by rw [z]; rcases hx with h | h <;> simp [h])) trivial
theorem HldAt.put {dh ls:Addr} {ads:List Addr} {seq':List Int} {wd:Int→List Int} (h:HldAt H dh ls ads O seq wd kvs wl) {b:Int} {l:Addr} (ws:List Int) (hl:H l=none) (ex:∀ x,O x→H x≠none) (na:∀ x∈ads,H x≠none) (nl:H ls≠none) (hs:∀ x,x∈seq'↔x=b∨x∈seq) :
    HldAt (upd (upd H l (.lst (ws.map V.int))) dh (.dK (putK kvs (Sum.inl b) (.ref l)))) dh ls ads (fun x=>O x∨x=l) seq' (fun x=>if x=b then ws else wd x) (putK kvs (Sum.inl b) (.ref l)) (fun x=>if x=b then l else wl x):=by
  have nd:l≠dh:=fun z=>by rw [z,h.dc] at hl; cases hl
  have nw:∀ x∈seq,wl x≠l:=fun x m z=>by have q:=(h.at_ x m).1; rw [z,hl] at q; cases q
  have md:∀ x,x∈seq'→x≠b→x∈seq:=fun x m n=>((hs x).mp m).resolve_left n
  refine ⟨upd_same,h.ki.put b _,fun x=>?_,fun x m=>?_,fun x m y m' e=>?_⟩
  · rw [valV_put]
    by_cases z:x=b
    · rw [if_pos (by rw [z]),if_pos ((hs x).mpr (.inl z)),if_pos z]
    · rw [if_neg (fun q=>z (Sum.inl.inj q)),h.v x,if_neg z]
      exact ite_congr (propext ⟨fun m=>(hs x).mpr (.inr m),fun m=>md x m z⟩) (fun _=>rfl) fun _=>rfl
  · by_cases z:x=b
    · rw [if_pos z,if_pos z,upd_ne nd,upd_same]
      exact ⟨rfl,.inr rfl,fun m=>na l m hl,fun q=>nl (q ▸ hl)⟩
    · rw [if_neg z,if_neg z]
      obtain ⟨e1,e2,e3,e4⟩:=h.at_ x (md x m z)
      exact ⟨by rw [upd_ne (fun q=>by rw [q,h.dc] at e1; cases e1),upd_ne (nw x (md x m z))]; exact e1,.inl e2,e3,e4⟩
  · by_cases z:x=b
    · by_cases z':y=b
      · rw [z,z']
      · rw [if_pos z,if_neg z'] at e
        exact absurd e.symm (nw y (md y m' z'))
    · by_cases z':y=b
      · rw [if_neg z,if_pos z'] at e
        exact absurd e (nw x (md x m z))
      · rw [if_neg z,if_neg z'] at e
        exact h.inj x (md x m z) y (md y m' z') e
theorem StoreAt.hln (S:StoreAt K H a c s O) (h:HldAt H a.dh a.ls a.ads O s.seq s.wd kvs wl):kvs.length=s.seq.length:=by
  refine ki_perm h.ki S.sto.room.nd fun b=>?_
  rw [h.v b]
  by_cases m:b∈s.seq
  · simp [m]
  · simp [m]
theorem StoreAt.fln {kf:List (Key×V)} (S:StoreAt K H a c s O) (h:KI kf) (v:∀ b,valV kf (Sum.inl b:Key)=if s.fr b=true then some (.bl true) else none):kf.length≤s.seq.length:=by
  obtain ⟨ks,e,nd⟩:=h
  have l:=congrArg List.length e
  rw [List.length_map,List.length_map] at l
  rw [l]
  refine nd_len nd fun b m=>S.ffr b ?_
  have q:=val_key (kvs:=kf) (Sum.inl b)
  rw [v b,e] at q
  have:=q.mpr (List.mem_map_of_mem m)
  by_cases z:s.fr b=true
  · exact z
  · rw [if_neg z] at this; cases this
end
section
variable {K:PySem.W.Frag} {H H':Hp} {a:SA} {c:Cf} {s:Rm} {O O':Addr→Prop} {kvs:List (Key×V)} {wl:Int→Addr} {seq:List Int} {us:Int→Int}
theorem Sto.laid {wd:Int→List Int} {seq0 seq':List Int} {b:Int} {l:Addr} (S:Sto K H a c seq us O) (h:HldAt H a.dh a.ls a.ads O seq0 wd kvs wl) (ws:List Int) (hl:H l=none) (hs:∀ x,x∈seq'↔x=b∨x∈seq0) :
    (Sto K (upd (upd H l (.lst (ws.map V.int))) a.dh (.dK (putK kvs (Sum.inl b) (.ref l)))) a c seq us (fun x=>O x∨x=l)∧HldAt (upd (upd H l (.lst (ws.map V.int))) a.dh (.dK (putK kvs (Sum.inl b) (.ref l)))) a.dh a.ls a.ads (fun x=>O x∨x=l) seq' (fun x=>if x=b then ws else wd x) (putK kvs (Sum.inl b) (.ref l)) (fun x=>if x=b then l else wl x)) ∧
      Pst O H (upd (upd H l (.lst (ws.map V.int))) a.dh (.dK (putK kvs (Sum.inl b) (.ref l)))) (fun x=>O x∨x=l):=by
  have sm:=same_upd hl (.lst (ws.map V.int))
  have S1:=S.same sm
  refine ⟨⟨((S1.put (x:=a.dh) (.inl rfl) _).mono (fun x m=>.inl (S.own x m)) fun x m=>ex_upd ?_),h.put ws hl S.ex (fun x m=>S.ex x (S.own x (by simp [m]))) (S.ex _ (S.own _ (by simp))) hs⟩,?_⟩
  · rcases m with m | m
    · exact S1.ex x m
    · rw [m,upd_same]; simp
  · have p:=(Pst.same sm).trans (S1.pput (x:=a.dh) (.inl rfl) (putK kvs (Sum.inl b) (.ref l)))
    exact ⟨p.kp,fun x m=>m.elim .inl fun z=>.inr (by rw [z]; exact hl)⟩
theorem HldAt.pop {wd:Int→List Int} {b:Int} (h:HldAt H a.dh a.ls a.ads O seq wd kvs wl) (nn:seq.Nodup) (hb:b∈seq) (S:Sto K H a c (seq.erase b) us O):HldAt (upd H a.dh (.dK (dropK kvs (Sum.inl b)))) a.dh a.ls a.ads (fun x=>O x∧x≠wl b) (seq.erase b) wd (dropK kvs (Sum.inl b)) wl:=by
  have mm:∀ {x},x∈seq.erase b→x≠b∧x∈seq:=fun {x} m=>(List.Nodup.mem_erase_iff nn).mp m
  refine ⟨upd_same,h.ki.drop b,fun x=>?_,fun x m=>?_,fun x m y m'=>h.inj x (mm m).2 y (mm m').2⟩
  · rw [val_drop]
    by_cases z:x=b
    · rw [if_pos (by rw [z]),if_neg (fun m=>(mm m).1 z)]
    · rw [if_neg (fun q=>z (Sum.inl.inj q)),h.v x]
      exact ite_congr (propext ⟨fun m=>(List.Nodup.mem_erase_iff nn).mpr ⟨z,m⟩,fun m=>(mm m).2⟩) (fun _=>rfl) fun _=>rfl
  · obtain ⟨e1,e2,e3,e4⟩:=h.at_ x (mm m).2
    exact ⟨by rw [upd_ne (fun z=>by rw [z,h.dc] at e1; cases e1)]; exact e1,⟨e2,fun z=>(mm m).1 (h.inj x (mm m).2 b hb z)⟩,e3,e4⟩
end
section
def Rm0:Rm:=⟨[],fun _=>0,fun _=>[],fun _=>false⟩
def spStore (K:PySem.W.Frag):Sp:=fun vs H Q _=>∃ (p dx tp:Addr) (sh pl:Int) (ru wr:Str),vs=[.ref p,.ref tp]∧H p=some (.ins (clsOf K "Store") dx [])∧SqT K H tp [.int sh,.int pl,.str ru,.str wr]∧1≤sh∧sh≤64 ∧
  ∀ (a:SA) (H':Hp),a.sp=p→StoreAt K H' a ⟨sh,pl,ru,decide (wr = "late")⟩ Rm0 (fun x=>x=p∨(H x=none∧H' x≠none))→(∀ b o,H b=some o→b≠p→H' b=some o)→Q .non H'
theorem ok_Store_init {f:Addr} {fd:FuncData} (F:Fun K "__init__" "Store.__init__" s_Store_init f fd) (T:Txt K mg) (K_Room:KDef P w K mg base (clsOf K "Room") "Room" 1 P_Room_init (spRoom K)):FnOk P w K mg base CX0 3 f fd P_Store_init (spStore K):=by
  refine F.ok sc_Store_init (fun vs H Q E h=>?_) (fun cdv A outer st H vs Q E hr h=>?_)
  · obtain ⟨p,dx,tp,sh,pl,ru,wr,rfl,_⟩:=h
    rfl
  obtain ⟨p,dx,tp,sh,pl,ru,wr,rfl,hp,htp,s0,s1,k⟩:=h
  have nd:=sc_Store_init.nd
  refine ⟨_,(pss_cons (ps_asg (pv 1) (pg_tupK (K:=K) (n:=4) rfl rfl (pgs_cons (pgn 2 nd) (pgs_cons (pgn 3 nd) (pgs_cons (pgn 4 nd) (pgs_cons (pgn 5 nd) pgs_nil))))))
      (pss_cons (ps_fld (pv 0) (pe_makeN K_Room hr.m rfl (pc (pv 2) (pc (pv 3) (pc (pv 4) pa_nil)))) rfl)
      (pss_cons (ps_fld (pv 0) (pe_cmpR op_eq (pv 5) pe_str (nomark _)) rfl)
      (pss_cons (ps_fld (pv 0) pe_dnewK rfl)
      (pss_one (ps_fld (pv 0) pe_dnewK rfl)))))),?_⟩
  refine ⟨_,rfl,tp,_,rfl,htp,rfl,_,_,rfl,gN ⟨_,_,rfl,gN ⟨_,_,rfl,gN ⟨_,_,rfl,gN ⟨rfl,?_⟩⟩⟩⟩⟩
  try dsimp only
  refine ⟨_,rfl,_,rfl,_,rfl,fun rp rx hrp hrx nrx=>⟨rp,rx,sh,pl,ru,rfl,upd_same,s0,s1,fun ls ads du H1 R1 f1 f2 f3 k1=>⟨rfl,?_⟩⟩⟩
  have npr:p≠rp:=ne_of_none hp hrp
  have k1':∀ x o,H x=some o→H1 x=some o:=fun x o e=>k1 x o (by rw [upd_ne (ne_of_none e hrp),upd_ne (ne_of_none e hrx)]; exact e) (ne_of_none e hrp)
  have fr:∀ x,upd (upd H rx (.own rp)) rp (.ins (clsOf K "Room") rx []) x=none→H x=none:=fun x e=>by
    cases q:H x with
    | none=>rfl
    | some o=>rw [upd_ne (ne_of_none q hrp),upd_ne (ne_of_none q hrx),q] at e; cases e
  have f1:=fr _ f1
  have f2:=fr _ f2
  have f3:∀ ad∈ads,H ad=none:=fun ad m=>fr _ (f3 ad m)
  have h1:=k1' _ _ hp
  refine ⟨_,rfl,p,_,dx,_,rfl,h1,T.cl_Store,T.n_Store_room,(by show 0<1000; decide),?_⟩
  obtain ⟨o1,o2,o3,o4,o5,o6⟩:=R1.off
  have q1:p≠ls:=fun z=>by rw [z,R1.st.top] at h1; cases h1
  have q2:p≠du:=fun z=>by obtain ⟨kv,g,_⟩:=R1.dc; rw [z,g] at h1; cases h1
  have q3:p∉ads:=fun z=>by obtain ⟨xs,g⟩:=R1.st.one z; rw [g] at h1; cases h1
  have put:∀ {G:Hp} {o:HO},RoomAt K G rp sh pl ru ls ads du [] (fun _=>0) 0→RoomAt K (upd G p o) rp sh pl ru ls ads du [] (fun _=>0) 0:=fun {G o} R=>by
    obtain ⟨dx',e1⟩:=R.ob
    obtain ⟨kv,e2,e3⟩:=R.dc
    exact ⟨⟨dx',by rw [upd_ne (Ne.symm npr)]; exact e1⟩,R.st.other o q1 q3,⟨kv,by rw [upd_ne (Ne.symm q2)]; exact e2,e3⟩,R.nd,R.s0,R.s1⟩
  have R2:=put (o:=.ins (clsOf K "Store") dx (putF "room" (.ref rp) [])) R1
  have e2:upd H1 p (.ins (clsOf K "Store") dx (putF "room" (.ref rp) [])) p=some (.ins (clsOf K "Store") dx (putF "room" (.ref rp) [])):=upd_same
  have k2:∀ x o,H x=some o→x≠p→upd H1 p (.ins (clsOf K "Store") dx (putF "room" (.ref rp) [])) x=some o:=fun x o e n=>by rw [upd_ne n]; exact k1' x o e
  generalize upd H1 p (.ins (clsOf K "Store") dx (putF "room" (.ref rp) []))=H2 at *
  refine ⟨_,rfl,rfl,_,rfl,p,_,dx,_,rfl,e2,T.cl_Store,T.n_Store_late,(by show 1<1000; decide),?_⟩
  have el:decide (V.str wr=V.str "late")=decide (wr = "late"):=decide_eq_decide.mpr ⟨fun e=>by injection e,fun e=>by rw [e]⟩
  rw [el]
  have R3:=put (o:=.ins (clsOf K "Store") dx (putF "late" (.bl (decide (wr = "late"))) (putF "room" (.ref rp) []))) R2
  have e3:upd H2 p (.ins (clsOf K "Store") dx (putF "late" (.bl (decide (wr = "late"))) (putF "room" (.ref rp) []))) p=some (.ins (clsOf K "Store") dx (putF "late" (.bl (decide (wr = "late"))) (putF "room" (.ref rp) []))):=upd_same
  have k3:∀ x o,H x=some o→x≠p→upd H2 p (.ins (clsOf K "Store") dx (putF "late" (.bl (decide (wr = "late"))) (putF "room" (.ref rp) []))) x=some o:=fun x o e n=>by rw [upd_ne n]; exact k2 x o e n
  generalize upd H2 p (.ins (clsOf K "Store") dx (putF "late" (.bl (decide (wr = "late"))) (putF "room" (.ref rp) [])))=H3 at *
  refine fun dh hdh=>?_
  have nh:p≠dh:=ne_of_none e3 hdh
  refine ⟨_,rfl,p,_,dx,_,rfl,(by rw [upd_ne nh]; exact e3),T.cl_Store,T.n_Store_held,(by show 2<1000; decide),?_⟩
  have R4:=put (o:=.ins (clsOf K "Store") dx (putF "held" (.ref dh) (putF "late" (.bl (decide (wr = "late"))) (putF "room" (.ref rp) [])))) (R3.same (same_upd hdh (.dK [])))
  have e4:upd (upd H3 dh (.dK [])) p (.ins (clsOf K "Store") dx (putF "held" (.ref dh) (putF "late" (.bl (decide (wr = "late"))) (putF "room" (.ref rp) [])))) p=some (.ins (clsOf K "Store") dx (putF "held" (.ref dh) (putF "late" (.bl (decide (wr = "late"))) (putF "room" (.ref rp) [])))):=upd_same
  have d4:upd (upd H3 dh (.dK [])) p (.ins (clsOf K "Store") dx (putF "held" (.ref dh) (putF "late" (.bl (decide (wr = "late"))) (putF "room" (.ref rp) [])))) dh=some (.dK []):=by rw [upd_ne (Ne.symm nh)]; exact upd_same
  have fdh:H dh=none:=by
    cases q:H dh with
    | none=>rfl
    | some o=>rw [k3 dh o q (Ne.symm nh)] at hdh; cases hdh
  have k4:∀ x o,H x=some o→x≠p→upd (upd H3 dh (.dK [])) p (.ins (clsOf K "Store") dx (putF "held" (.ref dh) (putF "late" (.bl (decide (wr = "late"))) (putF "room" (.ref rp) [])))) x=some o:=fun x o e n=>by rw [upd_ne n,upd_ne (fun z:x=dh=>by rw [z,fdh] at e; cases e)]; exact k3 x o e n
  generalize upd (upd H3 dh (.dK [])) p (.ins (clsOf K "Store") dx (putF "held" (.ref dh) (putF "late" (.bl (decide (wr = "late"))) (putF "room" (.ref rp) []))))=H4 at *
  refine fun df hdf=>?_
  have nf:p≠df:=ne_of_none e4 hdf
  refine ⟨_,rfl,p,_,dx,_,rfl,(by rw [upd_ne nf]; exact e4),T.cl_Store,T.n_Store_fresh,(by show 3<1000; decide),?_⟩
  have fdf:H df=none:=by
    cases q:H df with
    | none=>rfl
    | some o=>rw [k4 df o q (Ne.symm nf)] at hdf; cases hdf
  have nhf:dh≠df:=fun z=>by rw [← z,d4] at hdf; cases hdf
  obtain ⟨kv,g,_⟩:=R3.dc
  obtain ⟨kv4,g4,_⟩:=R4.dc
  have R5:=put (o:=.ins (clsOf K "Store") dx (sflds rp (decide (wr = "late")) dh df)) (R4.same (same_upd hdf (.dK [])))
  have e5:upd (upd H4 df (.dK [])) p (.ins (clsOf K "Store") dx (sflds rp (decide (wr = "late")) dh df)) p=some (.ins (clsOf K "Store") dx (sflds rp (decide (wr = "late")) dh df)):=upd_same
  have d5:upd (upd H4 df (.dK [])) p (.ins (clsOf K "Store") dx (sflds rp (decide (wr = "late")) dh df)) dh=some (.dK []):=by rw [upd_ne (Ne.symm nh),upd_ne nhf]; exact d4
  have f5:upd (upd H4 df (.dK [])) p (.ins (clsOf K "Store") dx (sflds rp (decide (wr = "late")) dh df)) df=some (.dK []):=by rw [upd_ne (Ne.symm nf)]; exact upd_same
  have k5:∀ x o,H x=some o→x≠p→upd (upd H4 df (.dK [])) p (.ins (clsOf K "Store") dx (sflds rp (decide (wr = "late")) dh df)) x=some o:=fun x o e n=>by rw [upd_ne n,upd_ne (fun z:x=df=>by rw [z,fdf] at e; cases e)]; exact k4 x o e n
  change Q .non (upd (upd H4 df (.dK [])) p (.ins (clsOf K "Store") dx (sflds rp (decide (wr = "late")) dh df)))
  generalize upd (upd H4 df (.dK [])) p (.ins (clsOf K "Store") dx (sflds rp (decide (wr = "late")) dh df))=H5 at *
  refine k ⟨p,rp,ls,ads,du,dh,df⟩ _ rfl ⟨⟨⟨dx,e5⟩,R5,⟨_,d5⟩,⟨_,f5⟩,fun z=>?_,Ne.symm nhf,fun z=>?_,fun x hx=>?_,fun x hx=>?_⟩,⟨[],fun _=>p,d5,KI.nil,fun _=>rfl,(fun b m=>absurd m (by simp [Rm0])),fun b m=>absurd m (by simp [Rm0])⟩,⟨[],f5,KI.nil,fun _=>rfl⟩,fun b h=>by cases h⟩ k5
  · have z:du=dh:=z
    rw [← z,g] at hdh; cases hdh
  · have z:df=du:=z
    rw [z,g4] at hdf; cases hdf
  · obtain ⟨dr5,r5⟩:=R5.ob
    obtain ⟨ku5,u5,_⟩:=R5.dc
    rcases hx with rfl | rfl | rfl | hx | rfl | rfl | rfl
    · exact .inl rfl
    · exact .inr ⟨hrp,by rw [r5]; simp⟩
    · exact .inr ⟨f1,by rw [R5.st.top]; simp⟩
    · obtain ⟨xs,q⟩:=R5.st.one hx
      exact .inr ⟨f3 x hx,by rw [q]; simp⟩
    · exact .inr ⟨f2,by rw [u5]; simp⟩
    · exact .inr ⟨fdh,by rw [d5]; simp⟩
    · exact .inr ⟨fdf,by rw [f5]; simp⟩
  · rcases hx with rfl | hx
    · rw [e5]; simp
    · exact hx.2
end
section
def spSHas (K:PySem.W.Frag):Sp:=fun vs H Q _=>∃ (a:SA) (c:Cf) (s:Rm) (O:Addr→Prop) (b:Int),vs=[.ref a.sp,.int b]∧StoreAt K H a c s O∧Q (.bl (decide (b∈s.seq))) H
theorem ok_Store_has {f:Addr} {fd:FuncData} (F:Fun K "has" "Store.has" s_Store_has f fd) (T:Txt K mg) (M_Room_has:MDef P w K mg base (clsOf K "Room") "has" 1 P_Room_has (spHas K)):FnOk P w K mg base CX0 2 f fd P_Store_has (spSHas K):=by
  refine F.ok sc_Store_has (fun vs H Q E h=>?_) (fun cdv A outer st H vs Q E hr h=>?_)
  · obtain ⟨a,c,s,O,b,rfl,_⟩:=h
    rfl
  obtain ⟨a,c,s,O,b,rfl,S,k⟩:=h
  have nd:=sc_Store_has.nd
  refine ⟨_,(pss_one (ps_ret (pe_methN M_Room_has hr.m T.cl_Room (pe_fldK (K:=K) rfl (pv 0) rfl) (pc (pv 1) pa_nil)))),?_⟩
  obtain ⟨dx,h1⟩:=S.sto.ob
  obtain ⟨dr,h2⟩:=S.sto.room.ob
  exact ⟨_,rfl,a.sp,_,dx,_,_,rfl,h1,T.cl_Store,T.n_Store_room,sf_room ..,a.rp,dr,_,rfl,h2,fl_no ..,_,rfl,a.rp,b,c.sh,c.pl,c.ru,a.ls,a.ads,a.du,s.seq,s.us,_,rfl,S.sto.room,k⟩
def spLay (K:PySem.W.Frag):Sp:=fun vs H Q _=>∃ (p dx rp dh df:Addr) (late:Bool) (kvs:List (Key×V)) (b:Int) (lw:Addr) (zs:List V),vs=[.ref p,.int b,.ref lw]∧H p=some (.ins (clsOf K "Store") dx (sflds rp late dh df))∧H dh=some (.dK kvs)∧kvs.length≤900∧H lw=some (.lst zs) ∧
  ∀ l,H l=none→Q .non (upd (upd H l (.lst zs)) dh (.dK (putK kvs (Sum.inl b) (.ref l))))
theorem ok_Store_lay {f:Addr} {fd:FuncData} (F:Fun K "lay" "Store.lay" s_Store_lay f fd) (T:Txt K mg):FnOk P w K mg base CX0 1 f fd P_Store_lay (spLay K):=by
  refine F.ok sc_Store_lay (fun vs H Q E h=>?_) (fun cdv A outer st H vs Q E hr h=>?_)
  · obtain ⟨p,dx,rp,dh,df,late,kvs,b,lw,zs,rfl,_⟩:=h
    rfl
  obtain ⟨p,dx,rp,dh,df,late,kvs,b,lw,zs,rfl,hp,hd,hl,hw,k⟩:=h
  have nd:=sc_Store_lay.nd
  have hu:=hu_of hr
  refine ⟨_,(pss_one (ps_dput hu (pe_fldK (K:=K) rfl (pv 0) rfl) (pv 1) (pe_callTyN (call_list_ofK (K:=K) rfl) rfl T.z_list boot_listT (pc (pv 2) pa_nil)) rfl)),?_⟩
  refine ⟨_,rfl,lw,_,rfl,.inl (SqL.of hw),fun l hl'=>?_⟩
  have s1:=same_upd hl' (.lst zs)
  exact ⟨_,rfl,p,_,dx,_,_,rfl,s1 _ _ hp,T.cl_Store,T.n_Store_held,sf_held ..,_,rfl,dh,_,rfl,DPut.k (k:=Sum.inl b) (s1 _ _ hd) (small1000 (by lia)),k l hl'⟩
def inS (s:Rm) (b:Int) (ws:List Int):Rm:=⟨s.seq++[b],zero s.us b,fun x=>if x=b then ws else s.wd x,s.fr⟩
def outS (s:Rm) (b:Int):Rm:=⟨s.seq.erase b,s.us,s.wd,fun x=>if x=b then false else s.fr x⟩
def layS (s:Rm) (b:Int) (ws:List Int):Rm:=⟨s.seq,s.us,fun x=>if x=b then ws else s.wd x,s.fr⟩
def frS (s:Rm) (b:Int):Rm:=⟨s.seq,s.us,s.wd,fun x=>if x=b then true else s.fr x⟩
def spTakeIn (K:PySem.W.Frag):Sp:=fun vs H Q _=>∃ (a:SA) (c:Cf) (s:Rm) (O:Addr→Prop) (b:Int) (lw:Addr) (ws:List Int),vs=[.ref a.sp,.int b,.ref lw]∧StoreAt K H a c s O∧Tb K H∧H lw=some (.lst (ws.map V.int))∧¬ O lw∧b∉s.seq∧s.seq.length≤800∧1≤c.pl∧c.pl≤16∧((shelfS c.sh (b % c.sh) s.seq).length:Int)<c.pl ∧
  ∀ H' O',StoreAt K H' a c (inS s b ws) O'→Pst O H H' O'→Q .non H'
theorem ok_Store_take_in {f:Addr} {fd:FuncData} (F:Fun K "take_in" "Store.take_in" s_Store_take_in f fd) (T:Txt K mg) (M_Room_bring:MDef P w K mg base (clsOf K "Room") "bring" 4 P_Room_bring (spBring K)) (M_Store_lay:MDef P w K mg base (clsOf K "Store") "lay" 1 P_Store_lay (spLay K)):FnOk P w K mg base CX0 5 f fd P_Store_take_in (spTakeIn K):=by
  refine F.ok sc_Store_take_in (fun vs H Q E h=>?_) (fun cdv A outer st H vs Q E hr h=>?_)
  · obtain ⟨a,c,s,O,b,lw,ws,rfl,_⟩:=h
    rfl
  obtain ⟨a,c,s,O,b,lw,ws,rfl,S,tb,hlw,hO,hb,hsl,hpl,hpl2,hsh,k⟩:=h
  have nd:=sc_Store_take_in.nd
  refine ⟨_,(pss_cons (ps_expr (pe_methN M_Room_bring hr.m T.cl_Room (pe_fldK (K:=K) rfl (pv 0) rfl) (pc (pv 1) pa_nil)))
      (pss_one (ps_expr (pe_methN M_Store_lay hr.m T.cl_Store (pv 0) (pc (pv 1) (pc (pv 2) pa_nil)))))),?_⟩
  obtain ⟨dx,h1⟩:=S.sto.ob
  obtain ⟨dr,h2⟩:=S.sto.room.ob
  refine ⟨_,rfl,a.sp,_,dx,_,_,rfl,h1,T.cl_Store,T.n_Store_room,sf_room ..,a.rp,dr,_,rfl,h2,fl_no ..,_,rfl,a.rp,b,c.sh,c.pl,c.ru,a.ls,a.ads,a.du,s.seq,s.us,_,rfl,S.sto.room,tb,by lia,hb,hpl,by lia,fun gone G gp R1 r1=>?_⟩
  obtain rfl:gone=none:=gp.1 hsh
  obtain ⟨kvs,wl,h3⟩:=S.held
  obtain ⟨kf,h4,h5⟩:=S.fresh
  have kl:=S.hln h3
  have p1:=S.sto.pst r1
  have h3:=S.sto.hld h3 r1
  have h4:=r1 _ _ h4 S.sto.n3 (S.sto.kinds h4).2.2.2
  have S1:=S.sto.deed R1 r1
  obtain ⟨dx,h1⟩:=S1.ob
  refine ⟨_,rfl,a.sp,dx,_,rfl,h1,sf_no ..,_,rfl,_,rfl,a.sp,dx,a.rp,a.dh,a.df,c.late,kvs,b,lw,_,rfl,h1,h3.dc,by lia,p1.kp _ _ hlw (fun h=>absurd h hO),fun l hl=>?_⟩
  obtain ⟨S2,p2⟩:=S1.laid h3 ws hl (seq':=s.seq++[b]) (b:=b) (fun x=>by rw [List.mem_append,List.mem_singleton]; exact Or.comm)
  exact k _ _ ⟨S2.1,⟨_,_,S2.2⟩,⟨kf,by rw [upd_ne S.sto.n2]; exact same_upd hl _ _ _ h4,h5⟩,fun x h=>List.mem_append_left _ (S.ffr x h)⟩ (p1.trans p2)
def spGiveOut (K:PySem.W.Frag):Sp:=fun vs H Q _=>∃ (a:SA) (c:Cf) (s:Rm) (O:Addr→Prop) (b:Int),vs=[.ref a.sp,.int b]∧StoreAt K H a c s O∧b∈s.seq ∧
  ∀ (t l:Addr) (H':Hp) (O':Addr→Prop),H' t=some (.tup [.ref l,.bl (s.fr b)])→H' l=some (.lst ((s.wd b).map V.int))→¬ O' l→StoreAt K H' a c (outS s b) O'→Pst O H H' O'→(O l∨H l=none)→Q (.ref t) H'
theorem ok_Store_give_out {f:Addr} {fd:FuncData} (F:Fun K "give_out" "Store.give_out" s_Store_give_out f fd) (T:Txt K mg) (M_Room_drop:MDef P w K mg base (clsOf K "Room") "drop" 3 P_Room_drop (spDrop K)):FnOk P w K mg base CX0 4 f fd P_Store_give_out (spGiveOut K):=by
  refine F.ok sc_Store_give_out (fun vs H Q E h=>?_) (fun cdv A outer st H vs Q E hr h=>?_)
  · obtain ⟨a,c,s,O,b,rfl,_⟩:=h
    rfl
  obtain ⟨a,c,s,O,b,rfl,S,hb,k⟩:=h
  have nd:=sc_Store_give_out.nd
  refine ⟨_,(pss_cons (ps_expr (pe_methN M_Room_drop hr.m T.cl_Room (pe_fldK (K:=K) rfl (pv 0) rfl) (pc (pv 1) pa_nil)))
      (pss_one (ps_ret (pe_tup (pc (pe_dpop1 (pe_fldK (K:=K) rfl (pv 0) rfl) (pv 1) ⟨rfl,rfl,rfl,rfl⟩) (pc (pe_dpop2 (pe_fldK (K:=K) rfl (pv 0) rfl) (pv 1) pe_bl ⟨rfl,rfl,rfl,rfl⟩) pa_nil)))))),?_⟩
  obtain ⟨dx,h1⟩:=S.sto.ob
  obtain ⟨dr,h2⟩:=S.sto.room.ob
  refine ⟨_,rfl,a.sp,_,dx,_,_,rfl,h1,T.cl_Store,T.n_Store_room,sf_room ..,a.rp,dr,_,rfl,h2,fl_no ..,_,rfl,a.rp,b,c.sh,c.pl,c.ru,a.ls,a.ads,a.du,s.seq,s.us,_,rfl,S.sto.room,hb,fun G R1 r1=>?_⟩
  obtain ⟨kvs,wl,h3⟩:=S.held
  obtain ⟨kf,h4,h5,h6⟩:=S.fresh
  have p1:=S.sto.pst r1
  have h3:=S.sto.hld h3 r1
  have h4:=r1 _ _ h4 S.sto.n3 (S.sto.kinds h4).2.2.2
  have S1:=S.sto.deed R1 r1
  obtain ⟨dx,h1⟩:=S1.ob
  have vb:=h3.v b
  rw [if_pos hb] at vb
  obtain ⟨w1,w2,w3,w4⟩:=h3.at_ b hb
  refine ⟨_,rfl,a.sp,_,dx,_,_,rfl,h1,T.cl_Store,T.n_Store_held,sf_held ..,a.dh,rfl,.inl ⟨_,.inl h3.dc⟩,_,rfl,kvs,Sum.inl b,_,h3.dc,rfl,vb,?_⟩
  have nn:s.seq.Nodup:=S.sto.room.nd
  have H3:=h3.pop nn hb S1
  have S2:=S1.put (x:=a.dh) (.inl rfl) (dropK kvs (Sum.inl b))
  have p2:=p1.trans (S1.pput (x:=a.dh) (.inl rfl) (dropK kvs (Sum.inl b)))
  have h4:upd G a.dh (.dK (dropK kvs (Sum.inl b))) a.df=some (.dK kf):=by rw [upd_ne S.sto.n2]; exact h4
  have w1:upd G a.dh (.dK (dropK kvs (Sum.inl b))) (wl b)=some (.lst ((s.wd b).map V.int)):=by rw [upd_ne (fun z=>by rw [z,h3.dc] at w1; cases w1)]; exact w1
  generalize upd G a.dh (.dK (dropK kvs (Sum.inl b)))=G2 at *
  obtain ⟨dx,h1⟩:=S2.ob
  have fin:∀ (G3:Hp) (kf':List (Key×V)),Sto K G3 a c (s.seq.erase b) s.us O→Pst O H G3 O→HldAt G3 a.dh a.ls a.ads (fun x=>O x∧x≠wl b) (s.seq.erase b) s.wd (dropK kvs (Sum.inl b)) wl→G3 a.df=some (.dK kf')→KI kf'→(∀ x,valV kf' (Sum.inl x:Key)=if (outS s b).fr x=true then some (.bl true) else none)→G3 (wl b)=some (.lst ((s.wd b).map V.int)) →
      2≤sizeLine∧∀ t,G3 t=none→Q (.ref t) (upd G3 t (.tup [.ref (wl b),.bl (s.fr b)])):=fun G3 kf' S3 p3 h3' e1 e2 e3 e4=>by
    refine ⟨by decide,fun t ht=>?_⟩
    have sm:=same_upd ht (.tup [.ref (wl b),.bl (s.fr b)])
    have core:∀ x,x=a.sp∨x=a.rp∨x=a.ls∨x∈a.ads∨x=a.du∨x=a.dh∨x=a.df→O x∧x≠wl b:=fun x m=>⟨S3.own x m,fun z=>by
      subst z
      rcases m with m | m | m | m | m | m | m
      · obtain ⟨d,q⟩:=S3.ob; rw [← m,e4] at q; cases q
      · obtain ⟨d,q⟩:=S3.room.ob; rw [← m,e4] at q; cases q
      · exact w4 m
      · exact w3 m
      · obtain ⟨d,q,_⟩:=S3.room.dc; rw [← m,e4] at q; cases q
      · obtain ⟨d,q⟩:=S3.d1; rw [← m,e4] at q; cases q
      · rw [← m,e4] at e1; cases e1⟩
    have S4:=(S3.mono core fun x h=>S3.ex x h.1).same sm
    refine k t (wl b) _ (fun x=>O x∧x≠wl b) upd_same (sm _ _ e4) (fun h=>h.2 rfl) ⟨S4,⟨_,_,h3'.frame (core _ (by simp)) fun x o _ e=>sm x o e⟩,⟨kf',sm _ _ e1,e2,e3⟩,fun x h=>?_⟩ ⟨fun x o e n=>sm _ _ (p3.kp x o e n),fun x h=>.inl h.1⟩ (.inl w2)
    have h:(if x=b then false else s.fr x)=true:=h
    by_cases z:x=b
    · rw [if_pos z] at h; cases h
    · rw [if_neg z] at h
      exact (List.Nodup.mem_erase_iff nn).mpr ⟨z,S.ffr x h⟩
  refine ⟨_,rfl,a.sp,_,dx,_,_,rfl,h1,T.cl_Store,T.n_Store_fresh,sf_fresh ..,a.df,rfl,.inl ⟨_,.inl h4⟩,_,rfl,kf,Sum.inl b,h4,rfl,fun v hv=>?_,fun hv=>?_⟩
  · have hf:s.fr b=true:=by
      by_cases z:s.fr b=true
      · exact z
      · rw [h6 b,if_neg z] at hv; cases hv
    rw [h6 b,if_pos hf] at hv
    cases hv
    have S3:=S2.put (x:=a.df) (.inr rfl) (dropK kf (Sum.inl b))
    have fin:=fin _ (dropK kf (Sum.inl b)) S3 (p2.trans (S2.pput (x:=a.df) (.inr rfl) _)) ⟨by rw [upd_ne (Ne.symm S.sto.n2)]; exact H3.dc,H3.ki,H3.v,fun x m=>⟨by rw [upd_ne (fun z=>by have q:=(H3.at_ x m).1; rw [z,h4] at q; cases q)]; exact (H3.at_ x m).1,(H3.at_ x m).2⟩,H3.inj⟩ upd_same (h5.drop b) (fun x=>?_) (by rw [upd_ne (fun z=>by rw [z,h4] at w1; cases w1)]; exact w1)
    · rw [hf] at fin
      exact fin
    · rw [val_drop]
      by_cases z:x=b
      · rw [if_pos (by rw [z])]
        unfold outS
        simp [z]
      · rw [if_neg (fun q=>z (Sum.inl.inj q)),h6 x]
        unfold outS
        simp [z]
  · have hf:s.fr b=false:=by
      cases z:s.fr b with
      | false=>rfl
      | true=>rw [h6 b,if_pos z] at hv; cases hv
    have fin:=fin _ kf S2 p2 H3 h4 h5 (fun x=>?_) w1
    · rw [hf] at fin
      exact fin
    · rw [h6 x]
      unfold outS
      by_cases z:x=b
      · simp [z,hf]
      · simp [z]
end
section
def spWordsOf (K:PySem.W.Frag):Sp:=fun vs H Q _=>∃ (a:SA) (c:Cf) (s:Rm) (O:Addr→Prop) (b:Int),vs=[.ref a.sp,.int b]∧StoreAt K H a c s O∧b∈s.seq∧∀ l,H l=none→Q (.ref l) (upd H l (.lst ((s.wd b).map V.int)))
theorem ok_Store_words_of {f:Addr} {fd:FuncData} (F:Fun K "words_of" "Store.words_of" s_Store_words_of f fd) (T:Txt K mg) (M_Room_need:MDef P w K mg base (clsOf K "Room") "need" 2 P_Room_need (spNeed K)):FnOk P w K mg base CX0 3 f fd P_Store_words_of (spWordsOf K):=by
  refine F.ok sc_Store_words_of (fun vs H Q E h=>?_) (fun cdv A outer st H vs Q E hr h=>?_)
  · obtain ⟨a,c,s,O,b,rfl,_⟩:=h
    rfl
  obtain ⟨a,c,s,O,b,rfl,S,hb,k⟩:=h
  have nd:=sc_Store_words_of.nd
  have hu:=hu_of hr
  refine ⟨_,(pss_cons (ps_expr (pe_methN M_Room_need hr.m T.cl_Room (pe_fldK (K:=K) rfl (pv 0) rfl) (pc (pv 1) pa_nil)))
      (pss_one (ps_ret (pe_callTyN (call_list_ofK (K:=K) rfl) rfl T.z_list boot_listT (pc (pe_dget hu (pe_fldK (K:=K) rfl (pv 0) rfl) (pv 1) (fun _ _=>rfl)) pa_nil))))),?_⟩
  obtain ⟨dx,h1⟩:=S.sto.ob
  obtain ⟨dr,h2⟩:=S.sto.room.ob
  obtain ⟨kvs,wl,h3⟩:=S.held
  have vb:=h3.v b
  rw [if_pos hb] at vb
  refine ⟨_,rfl,a.sp,_,dx,_,_,rfl,h1,T.cl_Store,T.n_Store_room,sf_room ..,a.rp,dr,_,rfl,h2,fl_no ..,_,rfl,a.rp,b,c.sh,c.pl,c.ru,a.ls,a.ads,a.du,s.seq,s.us,_,rfl,S.sto.room,hb,?_⟩
  exact ⟨_,rfl,a.sp,_,dx,_,_,rfl,h1,T.cl_Store,T.n_Store_held,sf_held ..,_,rfl,a.dh,_,rfl,(by have q:=DGet.k (k:=Sum.inl b) h3.dc; rw [vb] at q; exact q),wl b,_,rfl,.inl (SqL.of (h3.at_ b hb).1),k⟩
theorem StoreAt.lay {H:Hp} {a:SA} {c:Cf} {s:Rm} {O:Addr→Prop} (S:StoreAt K H a c s O) {b:Int} (hb:b∈s.seq) (ws:List Int) {Q:Hp→Prop} (k:∀ H' O',StoreAt K H' a c (layS s b ws) O'→Pst O H H' O'→Q H') :
    ∃ dx kvs,H a.sp=some (.ins (clsOf K "Store") dx (sflds a.rp c.late a.dh a.df))∧H a.dh=some (.dK kvs)∧kvs.length=s.seq.length∧∀ l,H l=none→Q (upd (upd H l (.lst (ws.map V.int))) a.dh (.dK (putK kvs (Sum.inl b) (.ref l)))):=by
  obtain ⟨dx,h1⟩:=S.sto.ob
  obtain ⟨kvs,wl,h3⟩:=S.held
  obtain ⟨kf,h4,h5⟩:=S.fresh
  refine ⟨dx,kvs,h1,h3.dc,S.hln h3,fun l hl=>?_⟩
  obtain ⟨S2,p2⟩:=S.sto.laid h3 ws hl (seq':=s.seq) (b:=b) (fun x=>⟨.inr,fun m=>m.elim (fun z=>z ▸ hb) id⟩)
  exact k _ _ ⟨S2.1,⟨_,_,S2.2⟩,⟨kf,by rw [upd_ne S.sto.n2]; exact same_upd hl _ _ _ h4,h5⟩,S.ffr⟩ p2
theorem Sto.lst {H:Hp} {a:SA} {c:Cf} {seq:List Int} {us:Int→Int} {O:Addr→Prop} (S:Sto K H a c seq us O) {l:Addr} {xs:List V} (hl:H l=some (.lst xs)) (n1:l≠a.ls) (n2:l∉a.ads) (u:List V):Sto K (upd H l (.lst u)) a c seq us O:=by
  obtain ⟨dx,h1⟩:=S.ob
  obtain ⟨dr,h2⟩:=S.room.ob
  obtain ⟨kr,h3,_⟩:=S.room.dc
  obtain ⟨k1,h4⟩:=S.d1
  obtain ⟨k2,h5⟩:=S.d2
  have ne:∀ {y o},H y=some o→(∀ xs,o≠.lst xs)→upd H l (.lst u) y=some o:=fun {y o} e n=>by rw [upd_ne (fun z=>by rw [z,hl] at e; exact n xs (Option.some.inj e).symm)]; exact e
  have R:RoomAt K (upd H l (.lst u)) a.rp c.sh c.pl c.ru a.ls a.ads a.du seq us seq.length:=S.room.frame fun y o m e=>by
    rw [upd_ne (fun z:y=l=>by
      subst z
      rcases m with m | m | m | m
      · rw [m,h2] at hl; cases hl
      · exact n1 m
      · exact n2 m
      · rw [m,h3] at hl; cases hl)]
    exact e
  exact ⟨⟨dx,ne h1 (fun _ z=>by cases z)⟩,R,⟨k1,ne h4 (fun _ z=>by cases z)⟩,⟨k2,ne h5 (fun _ z=>by cases z)⟩,S.n1,S.n2,S.n3,S.own,fun y h=>ex_upd (S.ex y h)⟩
def spLayWord (K:PySem.W.Frag):Sp:=fun vs H Q _=>∃ (a:SA) (c:Cf) (s:Rm) (O:Addr→Prop) (b i x:Int),vs=[.ref a.sp,.int b,.int i,.int x]∧StoreAt K H a c s O∧b∈s.seq∧0≤i∧i<(s.wd b).length∧∀ H',StoreAt K H' a c (layS s b ((s.wd b).set i.toNat x)) O→Pst O H H' O→Q .non H'
theorem ok_Store_lay_word {f:Addr} {fd:FuncData} (F:Fun K "lay_word" "Store.lay_word" s_Store_lay_word f fd) (T:Txt K mg):FnOk P w K mg base CX0 1 f fd P_Store_lay_word (spLayWord K):=by
  refine F.ok sc_Store_lay_word (fun vs H Q E h=>?_) (fun cdv A outer st H vs Q E hr h=>?_)
  · obtain ⟨a,c,s,O,b,i,x,rfl,_⟩:=h
    rfl
  obtain ⟨a,c,s,O,b,i,x,rfl,S,hb,i0,i1,k⟩:=h
  have nd:=sc_Store_lay_word.nd
  have hu:=hu_of hr
  refine ⟨_,(pss_one (ps_asg (pv 3) (pg_sub (pe_dget hu (pe_fldK (K:=K) rfl (pv 0) rfl) (pv 1) (fun _ _=>rfl)) (pv 2) set_list))),?_⟩
  obtain ⟨dx,h1⟩:=S.sto.ob
  obtain ⟨kvs,wl,h3⟩:=S.held
  obtain ⟨kf,h4,h5⟩:=S.fresh
  have vb:=h3.v b
  rw [if_pos hb] at vb
  obtain ⟨w1,w2,w3,w4⟩:=h3.at_ b hb
  refine ⟨_,rfl,_,rfl,a.sp,_,dx,_,_,rfl,h1,T.cl_Store,T.n_Store_held,sf_held ..,_,rfl,a.dh,_,rfl,(by have q:=DGet.k (k:=Sum.inl b) h3.dc; rw [vb] at q; exact q),_,rfl,wl b,_,i,i.toNat,rfl,rfl,w1,?_,?_⟩
  · unfold ixN
    rw [if_pos i0,if_pos (by rw [List.length_map]; exact i1)]
  · rw [← List.map_set]
    refine k _ ⟨S.sto.lst w1 w4 w3 _,⟨kvs,wl,by rw [upd_ne (fun z=>by rw [← z,h3.dc] at w1; cases w1)]; exact h3.dc,h3.ki,h3.v,fun y m=>?_,h3.inj⟩,⟨kf,by rw [upd_ne (fun z=>by rw [← z,h4] at w1; cases w1)]; exact h4,h5⟩,S.ffr⟩ ⟨fun y o e n=>?_,fun _ h=>.inl h⟩
    · show _=some (HO.lst ((if y=b then (s.wd b).set i.toNat x else s.wd y).map V.int))∧_
      by_cases z:y=b
      · rw [if_pos z,z,upd_same]
        exact ⟨rfl,w2,w3,w4⟩
      · obtain ⟨e1,e2⟩:=h3.at_ y m
        rw [if_neg z,upd_ne (fun q=>z (h3.inj y m b hb q))]
        exact ⟨e1,e2⟩
    · rw [upd_ne (fun z=>?_)]
      · exact e
      · rw [z,w1] at e
        cases e
        exact n (z ▸ w2) trivial
def spFreshen (K:PySem.W.Frag):Sp:=fun vs H Q _=>∃ (a:SA) (c:Cf) (s:Rm) (O:Addr→Prop) (b:Int),vs=[.ref a.sp,.int b]∧StoreAt K H a c s O∧b∈s.seq∧s.seq.length≤800∧∀ H',StoreAt K H' a c (frS s b) O→Pst O H H' O→Q .non H'
theorem ok_Store_freshen {f:Addr} {fd:FuncData} (F:Fun K "freshen" "Store.freshen" s_Store_freshen f fd) (T:Txt K mg):FnOk P w K mg base CX0 1 f fd P_Store_freshen (spFreshen K):=by
  refine F.ok sc_Store_freshen (fun vs H Q E h=>?_) (fun cdv A outer st H vs Q E hr h=>?_)
  · obtain ⟨a,c,s,O,b,rfl,_⟩:=h
    rfl
  obtain ⟨a,c,s,O,b,rfl,S,hb,hl,k⟩:=h
  have nd:=sc_Store_freshen.nd
  have hu:=hu_of hr
  refine ⟨_,(pss_one (ps_dput hu (pe_fldK (K:=K) rfl (pv 0) rfl) (pv 1) pe_bl rfl)),?_⟩
  obtain ⟨dx,h1⟩:=S.sto.ob
  obtain ⟨kvs,wl,h3⟩:=S.held
  obtain ⟨kf,h4,h5,h6⟩:=S.fresh
  have fl:=S.fln h5 h6
  refine ⟨_,rfl,a.sp,_,dx,_,_,rfl,h1,T.cl_Store,T.n_Store_fresh,sf_fresh ..,_,rfl,a.df,_,rfl,DPut.k (k:=Sum.inl b) h4 (small1000 (by lia)),?_⟩
  have S2:=S.sto.put (x:=a.df) (.inr rfl) (putK kf (Sum.inl b) (.bl true))
  refine k _ ⟨S2,⟨kvs,wl,by rw [upd_ne (Ne.symm S.sto.n2)]; exact h3.dc,h3.ki,h3.v,fun x m=>⟨by rw [upd_ne (fun z=>by have q:=(h3.at_ x m).1; rw [z,h4] at q; cases q)]; exact (h3.at_ x m).1,(h3.at_ x m).2⟩,h3.inj⟩,⟨_,upd_same,h5.put b _,fun x=>?_⟩,fun x h=>?_⟩ (S.sto.pput (x:=a.df) (.inr rfl) _)
  · rw [valV_put]
    show _=if (if x=b then true else s.fr x)=true then _ else _
    by_cases z:x=b
    · rw [if_pos (by rw [z]),if_pos z,if_pos rfl]
    · rw [if_neg (fun q=>z (Sum.inl.inj q)),h6 x,if_neg z]
  · by_cases z:x=b
    · exact z ▸ hb
    · exact S.ffr x ((if_neg z:(if x=b then true else s.fr x)=s.fr x).symm.trans h)
end
section
def spBoard:Sp:=fun vs H Q _=>∃ s p:Int,vs=[.int s,.int p]∧0<s∧s<1073741824∧Q (.int (p / s)) H
theorem ok_board_of {f:Addr} {fd:FuncData} (F:Fun K "board_of" "board_of" s_board_of f fd) (T:Txt K mg):FnOk P w K mg base CX0 1 f fd P_board_of spBoard:=by
  refine F.ok sc_board_of (fun vs H Q E h=>?_) (fun cdv A outer s H vs Q E hr h=>?_)
  · obtain ⟨s,p,rfl,_⟩:=h
    rfl
  obtain ⟨s,p,rfl,h0,h1,k⟩:=h
  have nd:=sc_board_of.nd
  refine ⟨_,(pss_one (ps_ret (pe_op op_fdiv (pv 1) (pv 0)))),?_⟩
  exact ⟨_,rfl,_,rfl,_,_,rfl,rfl,⟨h0,h1⟩,k⟩
def spots (s b:Int):List V:=(List.range s.toNat).map fun k=>V.int (b * s+(k:Nat))
def spSpots:Sp:=fun vs H Q _=>∃ s b:Int,vs=[.int s,.int b]∧0<s∧s≤1000∧0≤b∧b≤1000000∧∀ (r:Addr) (H':Hp),H r=none→Same H H'→H' r=some (.lst (spots s b))→Q (.ref r) H'
theorem mul_bd {b s:Int} (h0:0≤b) (h1:b≤1000000) (s0:0<s) (s1:s≤1000):0≤b * s∧b * s≤1000000000:=by
  refine ⟨Int.mul_nonneg h0 (by lia),?_⟩
  exact Int.le_trans (Int.mul_le_mul_of_nonneg_right h1 (by lia)) (Int.mul_le_mul_of_nonneg_left s1 (by decide))
theorem ok_spots_of {f:Addr} {fd:FuncData} (F:Fun K "spots_of" "spots_of" s_spots_of f fd) (T:Txt K mg):FnOk P w K mg base CX0 1 f fd P_spots_of spSpots:=by
  refine F.ok sc_spots_of (fun vs H Q E h=>?_) (fun cdv A outer s H vs Q E hr h=>?_)
  · obtain ⟨s,p,rfl,_⟩:=h
    rfl
  obtain ⟨s,b,rfl,s0,s1,b0,b1,k⟩:=h
  have nd:=sc_spots_of.nd
  refine ⟨_,(pss_cons (pst 2 nd (pe_op op_mul (pv 1) (pv 0)))
      (pss_one (ps_ret (pe_listrange rfl rfl T.z_list rfl T.z_range (pc (pv 2) (pc (pe_op op_add (pv 2) (pv 0)) pa_nil)))))),?_⟩
  obtain ⟨m0,m1⟩:=mul_bd b0 b1 s0 s1
  have e:(b * s+s - b * s).toNat=s.toNat:=by lia
  refine ⟨_,rfl,_,rfl,_,_,rfl,rfl,.inl ⟨by lia,by lia⟩,?_⟩
  refine ⟨_,rfl,_,rfl,_,rfl,_,_,rfl,rfl,_,_,rfl,⟨by lia,by lia,by lia,by lia⟩,?_⟩
  rw [e]
  refine ⟨Nat.le_of_lt (small1000 (by lia)),fun p hp=>?_⟩
  exact k p _ hp (same_upd hp _) upd_same
def mflds (size:Int) (dk:Addr):List (Str×V):=putF "kept" (.ref dk) (putF "size" (.int size) [])
theorem mf_kept (size:Int) (dk:Addr):(mflds size dk).lookup ("kept" : Str)=some (.ref dk):=by
  unfold mflds; rw [lookup_putF,if_pos rfl]
theorem mf_size (size:Int) (dk:Addr):(mflds size dk).lookup ("size" : Str)=some (.int size):=by
  unfold mflds; rw [lookup_putF,if_neg (by decide +kernel),lookup_putF,if_pos rfl]
theorem mf_no (size:Int) (dk:Addr) {m:Str} (h1:¬ m = "kept" := by decide +kernel) (h2:¬ m = "size" := by decide +kernel):(mflds size dk).lookup m=none:=by
  unfold mflds
  rw [lookup_putF,if_neg h1,lookup_putF,if_neg h2]
  rfl
structure MemAt (K:PySem.W.Frag) (H:Hp) (bm dk:Addr) (size:Int) (mem:Int→Int) (U:List Int):Prop where
  ob:∃ dx,H bm=some (.ins (clsOf K "Memory") dx (mflds size dk))
  kept:∃ kvs,H dk=some (.dK kvs)∧KI kvs∧∀ s,valV kvs (Sum.inl s:Key)=if mem s=0 then none else some (.int (mem s))
  sup:∀ s,mem s≠0→s / size∈U
theorem MemAt.frame {H H':Hp} {bm dk:Addr} {size:Int} {mem:Int→Int} {U:List Int} (m:MemAt K H bm dk size mem U) (f:∀ x o,x=bm∨x=dk→H x=some o→H' x=some o):MemAt K H' bm dk size mem U:=by
  obtain ⟨dx,e⟩:=m.ob
  obtain ⟨kvs,e2,r⟩:=m.kept
  exact ⟨⟨dx,f _ _ (.inl rfl) e⟩,⟨kvs,f _ _ (.inr rfl) e2,r⟩,m.sup⟩
theorem mem_len {size:Int} {mem:Int→Int} {U:List Int} {kvs:List (Key×V)} (z0:0<size) (h:KI kvs) (v:∀ s,valV kvs (Sum.inl s:Key)=if mem s=0 then none else some (.int (mem s))) (sup:∀ s,mem s≠0→s / size∈U):kvs.length≤U.length * size.toNat:=by
  obtain ⟨ks,e,nd⟩:=h
  have l:=congrArg List.length e
  rw [List.length_map,List.length_map] at l
  rw [l]
  have q:=nd_len nd (b:=U.flatMap fun b=>(List.range size.toNat).map fun k=>b * size+(k:Nat)) fun s m=>?_
  · refine Nat.le_trans q (Nat.le_of_eq ?_)
    clear q sup
    induction U with
    | nil=>simp
    | cons x U ih=>rw [List.flatMap_cons,List.length_append,ih,List.length_map,List.length_range,List.length_cons,Nat.succ_mul,Nat.add_comm]
  · have q:=val_key (kvs:=kvs) (Sum.inl s)
    rw [v s,e] at q
    have hs:=q.mpr (List.mem_map_of_mem m)
    have nz:mem s≠0:=fun z=>by rw [if_pos z] at hs; cases hs
    rw [List.mem_flatMap]
    have m0:0≤s % size:=Int.emod_nonneg _ (by lia)
    have m1:s % size<size:=Int.emod_lt_of_pos _ (by lia)
    refine ⟨s / size,sup s nz,List.mem_map.mpr ⟨(s % size).toNat,List.mem_range.mpr (by lia),?_⟩⟩
    have:=Int.mul_ediv_add_emod s size
    rw [Int.toNat_of_nonneg m0,Int.mul_comm]
    exact this
def spMem (K:PySem.W.Frag):Sp:=fun vs H Q _=>∃ (p dx:Addr) (size:Int),vs=[.ref p,.int size]∧H p=some (.ins (clsOf K "Memory") dx []) ∧
  ∀ (dk:Addr) (H':Hp),(∀ U,MemAt K H' p dk size (fun _=>0) U)→H dk=none→(∀ b o,H b=some o→b≠p→H' b=some o)→Q .non H'
theorem ok_Memory_init {f:Addr} {fd:FuncData} (F:Fun K "__init__" "Memory.__init__" s_Memory_init f fd) (T:Txt K mg):FnOk P w K mg base CX0 1 f fd P_Memory_init (spMem K):=by
  refine F.ok sc_Memory_init (fun vs H Q E h=>?_) (fun cdv A outer st H vs Q E hr h=>?_)
  · obtain ⟨p,dx,size,rfl,_⟩:=h
    rfl
  obtain ⟨p,dx,size,rfl,hp,k⟩:=h
  have nd:=sc_Memory_init.nd
  refine ⟨_,(pss_cons (ps_fld (pv 0) (pv 1) rfl)
      (pss_one (ps_fld (pv 0) pe_dnewK rfl))),?_⟩
  refine ⟨_,rfl,_,rfl,p,_,dx,_,rfl,hp,T.cl_Memory,T.n_Memory_size,(by show 0<1000; decide),fun dk hdk=>?_⟩
  have np:p≠dk:=ne_of_none (upd_same (H:=H) (a:=p) (o:=.ins (clsOf K "Memory") dx (putF "size" (.int size) []))) hdk
  refine ⟨_,rfl,p,_,dx,_,rfl,(by rw [upd_ne np]; exact upd_same),T.cl_Memory,T.n_Memory_kept,(by show 1<1000; decide),?_⟩
  rw [upd_ne (Ne.symm np)] at hdk
  refine k dk _ (fun U=>⟨⟨dx,upd_same⟩,⟨[],by rw [upd_ne (Ne.symm np)]; exact upd_same,KI.nil,fun _=>rfl⟩,fun s h=>absurd rfl h⟩) hdk fun x o e n=>?_
  rw [upd_ne n,upd_ne (ne_of_none e hdk),upd_ne n]
  exact e
def memW (size:Int) (mem:Int→Int) (b:Int):List Int:=(List.range size.toNat).map fun k=>mem (b * size+(k:Nat))
def layI (size:Int) (mem:Int→Int) (b:Int) (ws:List Int) (i:Nat):Int→Int:=fun s=>if b * size≤s∧s<b * size+i then ws.getD (s - b * size).toNat 0 else mem s
def layM (size:Int) (mem:Int→Int) (b:Int) (ws:List Int):Int→Int:=layI size mem b ws size.toNat
theorem spots_at {s b:Int} {i:Nat} {x:V} (h:(spots s b)[i]?=some x):x=.int (b * s+(i:Nat))∧i<s.toNat:=by
  unfold spots at h
  rw [List.getElem?_map] at h
  by_cases c:i<s.toNat
  · rw [List.getElem?_range c] at h
    exact ⟨(Option.some.inj h).symm,c⟩
  · rw [List.getElem?_eq_none (by rw [List.length_range]; lia)] at h
    cases h
def spMWords (K:PySem.W.Frag):Sp:=fun vs H Q _=>∃ (bm dk:Addr) (size b:Int) (mem:Int→Int) (U:List Int),vs=[.ref bm,.int b]∧MemAt K H bm dk size mem U∧0<size∧size≤1000∧0≤b∧b≤1000000∧∀ l H',H l=none→Same H H'→H' l=some (.lst ((memW size mem b).map V.int))→Q (.ref l) H'
theorem ok_Memory_words_of {f:Addr} {fd:FuncData} (F:Fun K "words_of" "Memory.words_of" s_Memory_words_of f fd) (T:Txt K mg) (D_spots_of:Def P w K mg base "spots_of" 1 P_spots_of spSpots):FnOk P w K mg base CX0 2 f fd P_Memory_words_of (spMWords K):=by
  refine F.ok sc_Memory_words_of (fun vs H Q E h=>?_) (fun cdv A outer st H vs Q E hr h=>?_)
  · obtain ⟨bm,dk,size,b,mem,U,rfl,_⟩:=h
    rfl
  obtain ⟨bm,dk,size,b,mem,U,rfl,M,z0,z1,b0,b1,k⟩:=h
  have nd:=sc_Memory_words_of.nd
  have hu:=hu_of hr
  refine ⟨_,(pss_one (ps_ret (pe_comp0 (compOk_of (osc:=(defScope s_Memory_words_of)) (oN:=N_Memory_words_of) (N:=["spot", "self"]) (own:=1) (js:=[0]) (by decide +kernel) rfl rfl) rfl (pi_listK (K:=K) rfl (pe_defN D_spots_of hr.m rfl (pc (pe_fldK (K:=K) rfl (pv 0) rfl) (pc (pv 1) pa_nil)))) (fun _ _ _ _ _ _=>(pgn 0 (show List.Nodup (["spot", "self"]:List Str) by decide +kernel))) (fun _ _ _ _ _ _=>(pe_dget2 hu (pe_fldK (K:=K) rfl (pv 1) rfl) (pv 0) pe_int ⟨rfl,rfl,rfl,rfl⟩))))),?_⟩
  obtain ⟨dx,h1⟩:=M.ob
  obtain ⟨kvs,h2,h3,h4⟩:=M.kept
  refine ⟨_,rfl,bm,_,dx,_,_,rfl,h1,T.cl_Memory,T.n_Memory_size,mf_size ..,_,rfl,size,b,rfl,z0,z1,b0,b1,fun r H1 hr1 s1 e1=>⟨r,rfl,⟨_,SqL.of e1⟩,fun l hl=>?_⟩⟩
  have h1':=s1 _ _ h1
  have hk:=s1 _ _ h2
  have lsp:(spots size b).length=size.toNat:=by unfold spots; rw [List.length_map,List.length_range]
  refine comp_list (K:=K) (a:=r) (xs:=spots size b) (l:=l) (fun i ys σ' G'=>∃ v0:Option V,σ'=[v0,some (.ref bm)]∧ys=((List.range i).map fun k=>mem (b * size+(k:Nat))).map V.int∧G'=upd H1 l (.lst ys)) ⟨none,rfl,rfl,rfl⟩ (fun i ys σ' G' _ ⟨_,_,_,q⟩=>SqL.of (by rw [q,upd_ne (ne_of_none e1 hl)]; exact e1)) ?_ ?_
  · rintro i x ys σ' G' hi hxi hys ⟨v0,rfl,rfl,rfl⟩
    obtain ⟨rfl,_⟩:=spots_at hxi
    have sl:=same_upd hl (.lst (((List.range i).map fun k=>mem (b * size+(k:Nat))).map V.int))
    have q:=DGet.k (k:=Sum.inl (b * size+(i:Nat))) (sl _ _ hk)
    rw [h4] at q
    refine ⟨_,rfl,bm,_,dx,_,_,rfl,sl _ _ h1',T.cl_Memory,T.n_Memory_kept,mf_kept ..,dk,rfl,.inl ⟨_,.inl (sl _ _ hk)⟩,_,rfl,_,q,?_⟩
    have eg:(if mem (b * size+(i:Nat))=0 then none else some (V.int (mem (b * size+(i:Nat))))).getD (V.int 0)=V.int (mem (b * size+(i:Nat))):=by
      by_cases c:mem (b * size+(i:Nat))=0
      · rw [if_pos c,c]; rfl
      · rw [if_neg c]; rfl
    rw [eg]
    exact CNx.of (Nat.le_of_lt (small1000 (by lia))) hi hys upd_same ⟨_,rfl,by rw [List.range_succ,List.map_append,List.map_append]; rfl,upd_upd⟩
  · rintro ys σ' G' _ ⟨v0,rfl,rfl,rfl⟩
    rw [lsp]
    exact k l _ (s1.free hl) (s1.trans (same_upd hl _)) upd_same
def spMLay (K:PySem.W.Frag):Sp:=fun vs H Q _=>∃ (bm dk:Addr) (size b:Int) (mem:Int→Int) (U:List Int) (lw:Addr) (ws:List Int),vs=[.ref bm,.int b,.ref lw]∧MemAt K H bm dk size mem U∧0<size∧size≤1000∧0≤b∧b≤1000000∧b∈U∧U.length≤800∧H lw=some (.lst (ws.map V.int))∧ws.length=size.toNat∧∀ H',MemAt K H' bm dk size (layM size mem b ws) U→(∀ x o,H x=some o→x≠dk→H' x=some o)→Q .non H'
theorem layI_succ {size:Int} {mem:Int→Int} {b:Int} {ws:List Int} {i:Nat} {x:Int} (h:ws[i]?=some x) (s:Int):layI size mem b ws (i+1) s=if s=b * size+(i:Nat) then x else layI size mem b ws i s:=by
  unfold layI
  have gd:ws.getD i 0=x:=by rw [List.getD_eq_getElem?_getD,h]; rfl
  by_cases c:s=b * size+(i:Nat)
  · rw [if_pos c,if_pos (by lia)]
    have:(s - b * size).toNat=i:=by lia
    rw [this,gd]
  · rw [if_neg c]
    by_cases d:b * size≤s∧s<b * size+(i:Nat)
    · rw [if_pos d,if_pos (by lia)]
    · rw [if_neg d,if_neg (by lia)]
theorem spot_board {size b:Int} {i:Nat} (z0:0<size) (hi:i<size.toNat):(b * size+(i:Nat)) / size=b:=by
  rw [Int.add_comm,Int.add_mul_ediv_right _ _ (by lia),Int.ediv_eq_zero_of_lt (by lia) (by lia)]
  lia
theorem ok_Memory_lay {f:Addr} {fd:FuncData} (F:Fun K "lay" "Memory.lay" s_Memory_lay f fd) (T:Txt K mg) (D_spots_of:Def P w K mg base "spots_of" 1 P_spots_of spSpots):FnOk P w K mg base CX0 2 f fd P_Memory_lay (spMLay K):=by
  refine F.ok sc_Memory_lay (fun vs H Q E h=>?_) (fun cdv A outer st H vs Q E hr h=>?_)
  · obtain ⟨bm,dk,size,b,mem,U,lw,ws,rfl,_⟩:=h
    rfl
  obtain ⟨bm,dk,size,b,mem,U,lw,ws,rfl,M,z0,z1,b0,b1,bU,lU,hlw,lws,k⟩:=h
  have nd:=sc_Memory_lay.nd
  have hu:=hu_of hr
  refine ⟨_,(pss_one (ps_for PassesOwn.never rfl (pi_zip rfl T.z_zip (pc (pe_defN D_spots_of hr.m rfl (pc (pe_fldK (K:=K) rfl (pv 0) rfl) (pc (pv 1) pa_nil))) (pc (pv 2) pa_nil))) (pg_tupK (K:=K) (n:=2) rfl rfl (pgs_cons (pgn 3 nd) (pgs_cons (pgn 4 nd) pgs_nil))) (pss_one (ps_if (pt_cmpR op_eq (pv 4) pe_int (nomark _)) (pss_one (ps_expr (pe_dpop2 (pe_fldK (K:=K) rfl (pv 0) rfl) (pv 3) pe_int ⟨rfl,rfl,rfl,rfl⟩))) (pss_one (ps_dput hu (pe_fldK (K:=K) rfl (pv 0) rfl) (pv 3) (pv 4) rfl)))))),?_⟩
  obtain ⟨dx,h1⟩:=M.ob
  obtain ⟨kv0,h2,_⟩:=M.kept
  refine ⟨_,rfl,bm,_,dx,_,_,rfl,h1,T.cl_Memory,T.n_Memory_size,mf_size ..,_,rfl,size,b,rfl,z0,z1,b0,b1,fun r H1 hr1 s1 e1=>?_⟩
  have lsp:(spots size b).length=size.toNat:=by unfold spots; rw [List.length_map,List.length_range]
  have nrd:r≠dk:=fun z=>by rw [z,h2] at hr1; cases hr1
  have nld:lw≠dk:=fun z=>by rw [z,h2] at hlw; cases hlw
  refine ⟨_,rfl,r,lw,rfl,⟨_,SqL.of e1⟩,⟨_,SqL.of (s1 _ _ hlw)⟩,for_zip (K:=K) (a:=r) (b:=lw) (xs:=spots size b) (ys:=ws.map V.int) (fun i σ G=>∃ v3 v4:Option V,σ=[some (.ref bm),some (.int b),some (.ref lw),v3,v4]∧MemAt K G bm dk size (layI size mem b ws i) U∧∀ x o,H1 x=some o→x≠dk→G x=some o) (by rw [lsp,List.length_map,lws])
    ⟨none,none,rfl,?_,fun _ _ e _=>e⟩ (fun i σ G _ ⟨_,_,_,_,q⟩=>⟨SqL.of (q _ _ e1 nrd),SqL.of (q _ _ (s1 _ _ hlw) nld)⟩) ?_ ?_⟩
  · have e0:layI size mem b ws 0=mem:=by
      funext s
      unfold layI
      rw [if_neg (by lia)]
    rw [e0]
    exact M.frame fun x o _ e=>s1 x o e
  · rintro i x y t σ G hx hy ⟨v3,v4,rfl,M',fr⟩ ht
    obtain ⟨rfl,hi⟩:=spots_at hx
    obtain ⟨z,hz,rfl⟩:∃ z,ws[i]?=some z∧y=V.int z:=by
      rw [List.getElem?_map] at hy
      cases e:ws[i]? with
      | none=>rw [e] at hy; cases hy
      | some z=>rw [e] at hy; exact ⟨z,rfl,(Option.some.inj hy).symm⟩
    have s2:=same_upd ht (.tup [V.int (b * size+(i:Nat)),V.int z])
    refine ⟨t,_,rfl,SqT.of upd_same,rfl,_,_,rfl,gN ⟨_,_,rfl,gN ⟨rfl,?_⟩⟩⟩
    have M2:MemAt K (upd G t (.tup [V.int (b * size+(i:Nat)),V.int z])) bm dk size (layI size mem b ws i) U:=M'.frame fun x o _ e=>s2 x o e
    have fr2:∀ x o,H1 x=some o→x≠dk→upd G t (.tup [V.int (b * size+(i:Nat)),V.int z]) x=some o:=fun x o e n=>s2 _ _ (fr x o e n)
    generalize upd G t (.tup [V.int (b * size+(i:Nat)),V.int z])=G2 at *
    obtain ⟨dx2,g1⟩:=M2.ob
    obtain ⟨kvs,g2,g3,g4⟩:=M2.kept
    have nbd:bm≠dk:=fun q=>by rw [q,g2] at g1; cases g1
    have sp:=spot_board (b:=b) z0 hi
    have es:=layI_succ (size:=size) (mem:=mem) (b:=b) hz
    have fin:∀ kvs',KI kvs'→(∀ s,valV kvs' (Sum.inl s:Key)=if s=b * size+(i:Nat) then (if z=0 then none else some (.int z)) else valV kvs (Sum.inl s:Key))→MemAt K (upd G2 dk (.dK kvs')) bm dk size (layI size mem b ws (i+1)) U∧∀ x o,H1 x=some o→x≠dk→upd G2 dk (.dK kvs') x=some o:=fun kvs' ki hv=>by
      refine ⟨⟨⟨dx2,by rw [upd_ne nbd]; exact g1⟩,⟨kvs',upd_same,ki,fun s=>?_⟩,fun s hs=>?_⟩,fun x o e n=>by rw [upd_ne n]; exact fr2 x o e n⟩
      · by_cases c:s=b * size+(i:Nat)
        · rw [hv s,(es s).trans (if_pos c),if_pos c]
        · rw [hv s,(es s).trans (if_neg c),if_neg c,g4 s]
      · rw [es s] at hs
        by_cases c:s=b * size+(i:Nat)
        · rw [c,sp]; exact bU
        · rw [if_neg c] at hs
          exact M2.sup s hs
    refine ⟨_,rfl,rfl,_,rfl,ite_dec' (fun c=>?_) (fun c=>?_)⟩
    · have c:z=0:=by simpa using c
      refine ⟨_,rfl,bm,_,dx2,_,_,rfl,g1,T.cl_Memory,T.n_Memory_kept,mf_kept ..,dk,rfl,.inl ⟨_,.inl g2⟩,_,rfl,kvs,Sum.inl (b * size+(i:Nat)),g2,rfl,fun v hv=>?_,fun hv=>?_⟩
      · obtain ⟨f1,f2⟩:=fin _ (g3.drop (b * size+(i:Nat))) (fun s=>by
          rw [val_drop,if_pos c]
          by_cases q:s=b * size+(i:Nat)
          · rw [if_pos (by rw [q]),if_pos q]
          · rw [if_neg (fun y=>q (Sum.inl.inj y)),if_neg q])
        exact ⟨_,_,rfl,f1,f2⟩
      · rw [g4] at hv
        have e0:layI size mem b ws i (b * size+(i:Nat))=0:=by
          by_cases q:layI size mem b ws i (b * size+(i:Nat))=0
          · exact q
          · rw [if_neg q] at hv; cases hv
        have e:layI size mem b ws (i+1)=layI size mem b ws i:=by
          funext s
          rw [es s]
          by_cases q:s=b * size+(i:Nat)
          · rw [if_pos q,q,e0,c]
          · rw [if_neg q]
        exact ⟨_,_,rfl,by rw [e]; exact M2,fr2⟩
    · have c:z≠0:=fun q=>c (by rw [q]; simp)
      have kl:=mem_len z0 g3 g4 M2.sup
      have kb:kvs.length<sizeLine:=Nat.lt_of_le_of_lt (Nat.le_trans kl (Nat.mul_le_mul lU (by lia:size.toNat≤1000))) (by decide)
      refine ⟨_,rfl,_,rfl,bm,_,dx2,_,_,rfl,g1,T.cl_Memory,T.n_Memory_kept,mf_kept ..,_,rfl,dk,_,rfl,DPut.k (k:=Sum.inl (b * size+(i:Nat))) g2 kb,?_⟩
      obtain ⟨f1,f2⟩:=fin _ (g3.put (b * size+(i:Nat)) (.int z)) (fun s=>by
          rw [valV_put,if_neg c]
          by_cases q:s=b * size+(i:Nat)
          · rw [if_pos (by rw [q]),if_pos q]
          · rw [if_neg (fun y=>q (Sum.inl.inj y)),if_neg q])
      exact ⟨_,_,rfl,f1,f2⟩
  · rintro σ G ⟨v3,v4,rfl,M',fr⟩
    rw [lsp] at M'
    exact k G M' fun x o e n=>fr x o (s1 _ _ e) n
end
structure Pln where
  size:Int
  kind:Str
  cfs:List Cf
  U:List Int
structure WF (g:Pln):Prop where
  cf:∀ c∈g.cfs,1≤c.pl∧c.pl≤16
  z0:1≤g.size
  z1:g.size≤1000
  lU:g.U.length≤800
  ub:∀ b∈g.U,0≤b∧b≤1000000
  l4:g.cfs.length≤4
  l1:1≤g.cfs.length
structure Stt where
  rm:List Rm
  mem:Int→Int
  ev:List (List V)
def Stt.at_ (st:Stt) (k:Nat):Rm:=st.rm.getD k Rm0
def Stt.set (st:Stt) (k:Nat) (s:Rm):Stt:={ st with rm:=st.rm.set k s }
def Stt.tell (st:Stt) (e:List V):Stt:={ st with ev:=st.ev++[e] }
structure TA where
  p:Addr
  ss:Addr
  bm:Addr
  dk:Addr
  ev:Addr
  as:List SA
abbrev OS:=Nat→Addr→Prop
def OS.set (os:OS) (k:Nat) (O:Addr→Prop):OS:=fun j=>if j=k then O else os j
def Bs (A:TA) (x:Addr):Prop:=x=A.p∨x=A.ss∨x=A.bm∨x=A.dk∨x=A.ev
def OW (A:TA) (os:OS) (x:Addr):Prop:=Bs A x∨∃ k,k<A.as.length∧os k x
def Ev (n:Nat) (e:List V):Prop:=(∃ k:Nat,k≤n∧e=[.str "found",.int (k:Int)])∨(∃ (k:Nat) (b:Int),(k<n∧0≤b∧b≤1000000)∧(e=[.str "in",.int (k:Int),.int b]∨e=[.str "out",.int (k:Int),.int b]))∨∃ (k:Nat) (b:Int),(k≤n∧0≤b∧b≤1000000)∧e=[.str "words",.int (k:Int),.int b]
def EvL (n:Nat) (H:Hp) (l:Addr) (es:List (List V)):Prop:=(∀ e∈es,Ev n e)∧∃ ts:List Addr,H l=some (.lst (ts.map V.ref))∧ts.length=es.length∧∀ (i:Nat) (t:Addr) (e:List V),ts[i]?=some t→es[i]?=some e→H t=some (.tup e)
def tflds (size:Int) (ss bm:Addr) (last:Nat) (ev:Addr) (kind:Str):List (Str×V):=putF "kind" (.str kind) (putF "events" (.ref ev) (putF "last" (.int last) (putF "bottom" (.ref bm) (putF "stores" (.ref ss) (putF "size" (.int size) [])))))
section
variable (size:Int) (ss bm:Addr) (last:Nat) (ev:Addr) (kind:Str)
theorem tf_kind:(tflds size ss bm last ev kind).lookup ("kind" : Str)=some (.str kind):=by
  unfold tflds; rw [lookup_putF,if_pos rfl]
theorem tf_events:(tflds size ss bm last ev kind).lookup ("events" : Str)=some (.ref ev):=by
  unfold tflds; rw [lookup_putF,if_neg (by decide +kernel),lookup_putF,if_pos rfl]
theorem tf_last:(tflds size ss bm last ev kind).lookup ("last" : Str)=some (.int last):=by
  unfold tflds; rw [lookup_putF,if_neg (by decide +kernel),lookup_putF,if_neg (by decide +kernel),lookup_putF,if_pos rfl]
theorem tf_bottom:(tflds size ss bm last ev kind).lookup ("bottom" : Str)=some (.ref bm):=by
  unfold tflds; rw [lookup_putF,if_neg (by decide +kernel),lookup_putF,if_neg (by decide +kernel),lookup_putF,if_neg (by decide +kernel),lookup_putF,if_pos rfl]
theorem tf_stores:(tflds size ss bm last ev kind).lookup ("stores" : Str)=some (.ref ss):=by
  unfold tflds; rw [lookup_putF,if_neg (by decide +kernel),lookup_putF,if_neg (by decide +kernel),lookup_putF,if_neg (by decide +kernel),lookup_putF,if_neg (by decide +kernel),lookup_putF,if_pos rfl]
theorem tf_size:(tflds size ss bm last ev kind).lookup ("size" : Str)=some (.int size):=by
  unfold tflds; rw [lookup_putF,if_neg (by decide +kernel),lookup_putF,if_neg (by decide +kernel),lookup_putF,if_neg (by decide +kernel),lookup_putF,if_neg (by decide +kernel),lookup_putF,if_neg (by decide +kernel),lookup_putF,if_pos rfl]
theorem tf_no {m:Str} (h1:¬ m = "kind" := by decide +kernel) (h2:¬ m = "events" := by decide +kernel) (h3:¬ m = "last" := by decide +kernel) (h4:¬ m = "bottom" := by decide +kernel) (h5:¬ m = "stores" := by decide +kernel) (h6:¬ m = "size" := by decide +kernel):(tflds size ss bm last ev kind).lookup m=none:=by
  unfold tflds
  rw [lookup_putF,if_neg h1,lookup_putF,if_neg h2,lookup_putF,if_neg h3,lookup_putF,if_neg h4,lookup_putF,if_neg h5,lookup_putF,if_neg h6]
  rfl
theorem putF_ne {f g:Str} {v x:V} {r:List (Str×V)} (h:¬ g=f):putF f v ((g,x) :: r)=(g,x) :: putF f v r:=by
  show (if g=f then _ else _)=_; rw [if_neg h]
theorem putF_eq {f:Str} {v x:V} {r:List (Str×V)}:putF f v ((f,x) :: r)=(f,v) :: r:=by
  show (if f=f then _ else _)=_; rw [if_pos rfl]
theorem putF_nil {f:Str} {v:V}:putF f v []=[(f,v)]:=rfl
theorem tflds_list:tflds size ss bm last ev kind=([(("size" : Str),V.int size),(("stores" : Str),V.ref ss),(("bottom" : Str),V.ref bm),(("last" : Str),V.int last),(("events" : Str),V.ref ev),(("kind" : Str),V.str kind)]:List (Str×V)):=by
  unfold tflds
  have a1:¬ ("size" : Str) = "stores" := by decide +kernel
  have a2:¬ ("size" : Str) = "bottom" := by decide +kernel
  have a3:¬ ("size" : Str) = "last" := by decide +kernel
  have a4:¬ ("size" : Str) = "events" := by decide +kernel
  have a5:¬ ("size" : Str) = "kind" := by decide +kernel
  have b2:¬ ("stores" : Str) = "bottom" := by decide +kernel
  have b3:¬ ("stores" : Str) = "last" := by decide +kernel
  have b4:¬ ("stores" : Str) = "events" := by decide +kernel
  have b5:¬ ("stores" : Str) = "kind" := by decide +kernel
  have c3:¬ ("bottom" : Str) = "last" := by decide +kernel
  have c4:¬ ("bottom" : Str) = "events" := by decide +kernel
  have c5:¬ ("bottom" : Str) = "kind" := by decide +kernel
  have d4:¬ ("last" : Str) = "events" := by decide +kernel
  have d5:¬ ("last" : Str) = "kind" := by decide +kernel
  have e5:¬ ("events" : Str) = "kind" := by decide +kernel
  rw [putF_nil,putF_ne a1,putF_nil,putF_ne a2,putF_ne b2,putF_nil,putF_ne a3,putF_ne b3,putF_ne c3,putF_nil,putF_ne a4,putF_ne b4,putF_ne c4,putF_ne d4,putF_nil,putF_ne a5,putF_ne b5,putF_ne c5,putF_ne d5,putF_ne e5,putF_nil]
theorem tf_put (ev':Addr):putF "events" (.ref ev') (tflds size ss bm last ev kind)=tflds size ss bm last ev' kind:=by
  rw [tflds_list,tflds_list]
  have a4:¬ ("size" : Str) = "events" := by decide +kernel
  have b4:¬ ("stores" : Str) = "events" := by decide +kernel
  have c4:¬ ("bottom" : Str) = "events" := by decide +kernel
  have d4:¬ ("last" : Str) = "events" := by decide +kernel
  rw [putF_ne a4,putF_ne b4,putF_ne c4,putF_ne d4,putF_eq]
end
structure StairsAt (K:PySem.W.Frag) (H:Hp) (A:TA) (g:Pln) (st:Stt) (os:OS) (n:Nat):Prop where
  ob:∃ dx,H A.p=some (.ins (clsOf K "Stairs") dx (tflds g.size A.ss A.bm A.as.length A.ev g.kind))
  ss:H A.ss=some (.lst (A.as.map fun a=>V.ref a.sp))
  mem:MemAt K H A.bm A.dk g.size st.mem g.U
  ev:EvL g.cfs.length H A.ev st.ev
  evn:st.ev.length≤n
  lc:g.cfs.length=A.as.length
  lS:st.rm.length=A.as.length
  sto:∀ (k:Nat) (a:SA) (c:Cf) (s:Rm),A.as[k]?=some a→g.cfs[k]?=some c→st.rm[k]?=some s→StoreAt K H a c s (os k)
  off:∀ k,k<A.as.length→∀ x,os k x→¬ Bs A x
  dis:∀ i j,i<A.as.length→j<A.as.length→i≠j→∀ x,os i x→¬ os j x
  nse:A.ss≠A.ev
  npb:A.p≠A.bm
  uni:∀ s∈st.rm,∀ b∈s.seq,b∈g.U
  full:∀ (k:Nat) (c:Cf) (s:Rm),g.cfs[k]?=some c→st.rm[k]?=some s→∀ t,((shelfS c.sh t s.seq).length:Int)≤c.pl
  wl:∀ s∈st.rm,∀ b∈s.seq,(s.wd b).length=g.size.toNat
  wf:WF g
  tb:Tb K H
section
variable {K:PySem.W.Frag} {H H':Hp} {A:TA} {g:Pln} {st:Stt} {os:OS} {n:Nat} {a:SA} {c:Cf} {s:Rm}
theorem EvL.frame {m:Nat} {l:Addr} {es:List (List V)} (h:EvL m H l es) (f1:∀ o,H l=some o→H' l=some o) (f2:∀ x ys,H x=some (.tup ys)→H' x=some (.tup ys)):EvL m H' l es:=by
  obtain ⟨h0,ts,h1,h2,h3⟩:=h
  exact ⟨h0,ts,f1 _ h1,h2,fun i t e a b=>f2 _ _ (h3 i t e a b)⟩
theorem StairsAt.frame (T:StairsAt K H A g st os n) (f:∀ x o,H x=some o→(OW A os x∨¬ Mt o)→H' x=some o):StairsAt K H' A g st os n:=by
  obtain ⟨dx,h1⟩:=T.ob
  have fb:∀ {x o},Bs A x→H x=some o→H' x=some o:=fun {x o} h e=>f x o e (.inl (.inl h))
  have ft:∀ x ys,H x=some (.tup ys)→H' x=some (.tup ys):=fun x ys e=>f x _ e (.inr id)
  refine ⟨⟨dx,fb (.inl rfl) h1⟩,fb (by simp [Bs]) T.ss,T.mem.frame fun x o m e=>fb (by rcases m with m | m <;> simp [Bs,m]) e,T.ev.frame (fun o e=>fb (by simp [Bs]) e) ft,T.evn,T.lc,T.lS,fun k a c s h1 h2 h3=>(T.sto k a c s h1 h2 h3).frame fun x o h e=>f x o e (.inl (.inr ⟨k,(List.getElem?_eq_some_iff.mp h1).1,h⟩)),T.off,T.dis,T.nse,T.npb,T.uni,T.full,T.wl,T.wf,f _ _ T.tb (.inr id)⟩
theorem StairsAt.same (T:StairsAt K H A g st os n) (h:Same H H'):StairsAt K H' A g st os n:=T.frame fun x o e _=>h x o e
theorem StairsAt.le {m:Nat} (T:StairsAt K H A g st os n) (h:n≤m):StairsAt K H A g st os m:=⟨T.ob,T.ss,T.mem,T.ev,Nat.le_trans T.evn h,T.lc,T.lS,T.sto,T.off,T.dis,T.nse,T.npb,T.uni,T.full,T.wl,T.wf,T.tb⟩
theorem StairsAt.ex (T:StairsAt K H A g st os n):∀ x,OW A os x→H x≠none:=fun x h=>by
  rcases h with h | ⟨k,hk,h⟩
  · obtain ⟨dx,h1⟩:=T.ob
    obtain ⟨dm,h2⟩:=T.mem.ob
    obtain ⟨kv,h3,_⟩:=T.mem.kept
    obtain ⟨_,ts,h4,_⟩:=T.ev
    rcases h with rfl | rfl | rfl | rfl | rfl
    · rw [h1]; simp
    · rw [T.ss]; simp
    · rw [h2]; simp
    · rw [h3]; simp
    · rw [h4]; simp
  · have h1:A.as[k]?=some A.as[k]:=List.getElem?_eq_getElem hk
    have h2:g.cfs[k]?=some (g.cfs[k]'(by rw [T.lc]; exact hk)):=List.getElem?_eq_getElem _
    have h3:st.rm[k]?=some (st.rm[k]'(by rw [T.lS]; exact hk)):=List.getElem?_eq_getElem _
    exact (T.sto _ _ _ _ h1 h2 h3).sto.ex x h
theorem Stt.at_of {k:Nat} (h:k<st.rm.length):st.rm[k]?=some (st.at_ k):=by
  unfold Stt.at_
  rw [List.getD_eq_getElem?_getD,List.getElem?_eq_getElem h]
  rfl
theorem Stt.at_set {k j:Nat} {s:Rm} (h:k<st.rm.length):(st.set k s).at_ j=if j=k then s else st.at_ j:=by
  unfold Stt.at_ Stt.set
  rw [List.getD_eq_getElem?_getD,List.getD_eq_getElem?_getD]
  by_cases z:j=k
  · rw [if_pos z,z,List.getElem?_set_self h]; rfl
  · rw [if_neg z,List.getElem?_set_ne (Ne.symm z)]
def Pln.cf (g:Pln) (k:Nat):Cf:=g.cfs.getD k ⟨1,1, "old",true⟩
theorem StairsAt.at_ (T:StairsAt K H A g st os n) {k:Nat} (hk:k<A.as.length):∃ a,A.as[k]?=some a∧g.cfs[k]?=some (g.cf k)∧st.rm[k]?=some (st.at_ k)∧StoreAt K H a (g.cf k) (st.at_ k) (os k):=by
  have h1:A.as[k]?=some A.as[k]:=List.getElem?_eq_getElem hk
  have h2:g.cfs[k]?=some (g.cf k):=by
    unfold Pln.cf
    rw [List.getD_eq_getElem?_getD,List.getElem?_eq_getElem (by rw [T.lc]; exact hk)]
    rfl
  have h3:=Stt.at_of (st:=st) (k:=k) (by rw [T.lS]; exact hk)
  exact ⟨_,h1,h2,h3,T.sto _ _ _ _ h1 h2 h3⟩
theorem StairsAt.bds (T:StairsAt K H A g st os n) {k:Nat} (hk:k<A.as.length):(st.at_ k).seq.length≤800∧(∀ b∈(st.at_ k).seq,b∈g.U∧((st.at_ k).wd b).length=g.size.toNat)∧(∀ t,((shelfS (g.cf k).sh t (st.at_ k).seq).length:Int)≤(g.cf k).pl)∧1≤(g.cf k).pl∧(g.cf k).pl≤16∧(st.at_ k).seq.Nodup:=by
  obtain ⟨a,h1,h2,h3,S⟩:=T.at_ hk
  have m:=List.mem_of_getElem? h3
  obtain ⟨c1,c2⟩:=T.wf.cf _ (List.mem_of_getElem? h2)
  exact ⟨Nat.le_trans (nd_len S.sto.room.nd (T.uni _ m)) T.wf.lU,fun b h=>⟨T.uni _ m b h,T.wl _ m b h⟩,T.full _ _ _ h2 h3,c1,c2,S.sto.room.nd⟩
theorem pst_os {k:Nat} {O':Addr→Prop} (T:StairsAt K H A g st os n) (hk:k<A.as.length) (p:Pst (os k) H H' O'):Pst (OW A os) H H' (OW A (os.set k O')):=by
  refine ⟨fun x o e nn=>p.kp x o e fun h=>nn (.inr ⟨k,hk,h⟩),fun x h=>?_⟩
  rcases h with h | ⟨j,hj,h⟩
  · exact .inl (.inl h)
  · unfold OS.set at h
    by_cases z:j=k
    · rw [if_pos z] at h
      exact (p.fr x h).elim (fun q=>.inl (.inr ⟨k,hk,q⟩)) .inr
    · rw [if_neg z] at h
      exact .inl (.inr ⟨j,hj,h⟩)
theorem StairsAt.deed {k:Nat} {s':Rm} {O':Addr→Prop} (T:StairsAt K H A g st os n) (ha:A.as[k]?=some a) (hc:g.cfs[k]?=some c) (S:StoreAt K H' a c s' O') (p:Pst (os k) H H' O') (hu:∀ b∈s'.seq,b∈g.U∧(s'.wd b).length=g.size.toNat) (hf:∀ t,((shelfS c.sh t s'.seq).length:Int)≤c.pl) :
    StairsAt K H' A g (st.set k s') (os.set k O') n∧Pst (OW A os) H H' (OW A (os.set k O')):=by
  have hk:k<A.as.length:=(List.getElem?_eq_some_iff.mp ha).1
  refine ⟨?_,pst_os T hk p⟩
  have nb:∀ {x o},Bs A x→H x=some o→H' x=some o:=fun {x o} h e=>p.kp x o e fun q=>absurd h (T.off k hk x q)
  have nt:∀ x ys,H x=some (.tup ys)→H' x=some (.tup ys):=fun x ys e=>p.kp x _ e fun _=>id
  obtain ⟨dx,h1⟩:=T.ob
  refine ⟨⟨dx,nb (.inl rfl) h1⟩,nb (by simp [Bs]) T.ss,T.mem.frame fun x o m e=>nb (by rcases m with m | m <;> simp [Bs,m]) e,T.ev.frame (fun o e=>nb (by simp [Bs]) e) nt,T.evn,T.lc,by show (st.rm.set k s').length=_; rw [List.length_set]; exact T.lS,fun j b cb sb hb hcb hsb=>?_,fun j hj x h=>?_,fun i j hi hj hij x h1 h2=>?_,T.nse,T.npb,fun q hq b hb=>?_,fun j cb sb hcb hsb=>?_,fun q hq b hb=>?_,T.wf,p.kp _ _ T.tb fun _=>id⟩
  · have hj:=(List.getElem?_eq_some_iff.mp hb).1
    unfold OS.set
    by_cases e:j=k
    · subst e
      rw [ha] at hb; cases hb
      rw [hc] at hcb; cases hcb
      have hsb:(st.rm.set j s')[j]?=some sb:=hsb
      rw [List.getElem?_set_self (by rw [T.lS]; exact hk)] at hsb
      cases hsb
      rw [if_pos rfl]
      exact S
    · have hsb:(st.rm.set k s')[j]?=some sb:=hsb
      rw [List.getElem?_set_ne (Ne.symm e)] at hsb
      rw [if_neg e]
      exact (T.sto j b cb sb hb hcb hsb).frame fun x o h q=>p.kp x o q fun z=>absurd z (T.dis j k hj hk e x h)
  · unfold OS.set at h
    by_cases e:j=k
    · rw [if_pos e] at h
      rcases p.fr x h with q | q
      · exact T.off k hk x q
      · exact fun z=>T.ex x (.inl z) q
    · rw [if_neg e] at h
      exact T.off j hj x h
  · unfold OS.set at h1 h2
    by_cases e1:i=k
    · rw [if_pos e1] at h1
      rw [if_neg (fun z=>hij (e1.trans z.symm))] at h2
      rcases p.fr x h1 with q | q
      · exact T.dis k j hk hj (fun z=>hij (e1.trans z)) x q h2
      · exact T.ex x (.inr ⟨j,hj,h2⟩) q
    · rw [if_neg e1] at h1
      by_cases e2:j=k
      · rw [if_pos e2] at h2
        rcases p.fr x h2 with q | q
        · exact T.dis i k hi hk e1 x h1 q
        · exact T.ex x (.inr ⟨i,hi,h1⟩) q
      · rw [if_neg e2] at h2
        exact T.dis i j hi hj hij x h1 h2
  · rcases List.mem_or_eq_of_mem_set hq with hq | rfl
    · exact T.uni q hq b hb
    · exact (hu b hb).1
  · by_cases e:j=k
    · subst e
      rw [hc] at hcb; cases hcb
      have hsb:(st.rm.set j s')[j]?=some sb:=hsb
      rw [List.getElem?_set_self (by rw [T.lS]; exact hk)] at hsb
      cases hsb
      exact hf
    · have hsb:(st.rm.set k s')[j]?=some sb:=hsb
      rw [List.getElem?_set_ne (Ne.symm e)] at hsb
      exact T.full j cb sb hcb hsb
  · rcases List.mem_or_eq_of_mem_set hq with hq | rfl
    · exact T.wl q hq b hb
    · exact (hu b hb).2
theorem StairsAt.event (T:StairsAt K H A g st os n) {t:Addr} (e:List V) (he:Ev g.cfs.length e) (ht:H t=none):∃ ts:List Addr,H A.ev=some (.lst (ts.map V.ref))∧ts.length≤n∧StairsAt K (upd (upd H t (.tup e)) A.ev (.lst (ts.map V.ref++[.ref t]))) A g (st.tell e) os (n+1)∧Pst (OW A os) H (upd (upd H t (.tup e)) A.ev (.lst (ts.map V.ref++[.ref t]))) (OW A os):=by
  obtain ⟨h0,ts,h1,h2,h3⟩:=T.ev
  have s1:=same_upd ht (.tup e)
  have T1:=T.same s1
  have nte:t≠A.ev:=fun z=>by rw [z,h1] at ht; cases ht
  have off:∀ {x o},H x=some o→x≠A.ev→upd (upd H t (.tup e)) A.ev (.lst (ts.map V.ref++[.ref t])) x=some o:=fun {x o} q z=>by rw [upd_ne z]; exact s1 _ _ q
  have nk:∀ {x o},H x=some o→(∀ xs,o≠.lst xs)→x≠A.ev:=fun {x o} q m z=>by rw [z,h1] at q; exact m _ (Option.some.inj q).symm
  have evn:=T.evn
  refine ⟨ts,h1,by lia,?_,⟨fun x o q m=>off q fun z=>?_,fun x h=>.inl h⟩⟩
  · obtain ⟨dx,g1⟩:=T.ob
    obtain ⟨dm,g2⟩:=T.mem.ob
    obtain ⟨kv,g3,g4⟩:=T.mem.kept
    refine ⟨⟨dx,off g1 (nk g1 (fun _ z=>by cases z))⟩,off T.ss T.nse,⟨⟨dm,off g2 (nk g2 (fun _ z=>by cases z))⟩,⟨kv,off g3 (nk g3 (fun _ z=>by cases z)),g4⟩,T.mem.sup⟩,⟨fun e' m=>(List.mem_append.mp m).elim (h0 e') fun m=>by rw [List.mem_singleton.mp m]; exact he,ts++[t],by rw [upd_same,List.map_append]; rfl,by rw [List.length_append]; show _=(st.ev++[e]).length; rw [List.length_append,h2]; rfl,fun i t' e' q1 q2=>?_⟩,by show (st.ev++[e]).length≤n+1; rw [List.length_append]; show st.ev.length+1≤n+1; lia,T.lc,T.lS,fun k a c s q1 q2 q3=>(T.sto k a c s q1 q2 q3).frame fun x o h q=>off q fun z=>T.off k (List.getElem?_eq_some_iff.mp q1).1 x h (by simp [Bs,z]),T.off,T.dis,T.nse,T.npb,T.uni,T.full,T.wl,T.wf,off T.tb (nk T.tb (fun _ z=>by cases z))⟩
    have q2:(st.ev++[e])[i]?=some e':=q2
    by_cases hi:i<ts.length
    · rw [List.getElem?_append_left hi] at q1
      rw [List.getElem?_append_left (by lia)] at q2
      have q:=h3 i t' e' q1 q2
      exact off q (nk q (fun _ z=>by cases z))
    · have hl:=(List.getElem?_eq_some_iff.mp q1).1
      rw [List.length_append,List.length_singleton] at hl
      have:i=ts.length:=by lia
      rw [List.getElem?_append_right (by lia),this,Nat.sub_self] at q1
      rw [List.getElem?_append_right (by lia),show i - st.ev.length=0 by lia] at q2
      cases q1
      cases q2
      rw [upd_ne nte]
      exact upd_same
  · rw [z,h1] at q
    cases q
    exact m (.inl (by simp [Bs,z])) trivial
end
theorem pw_uniq {R:Int→Int→Prop} (anti:∀ a b,R a b→R b a→a=b):∀ {l1 l2:List Int},l1.Perm l2→l1.Pairwise R→l2.Pairwise R→l1=l2
  | [],l2,p,_,_=>(List.nil_perm.mp p).symm
  | a :: l1,l2,p,h1,h2=>by
    match l2,p,h2 with
    | [],p,_=>exact absurd p.length_eq (by simp)
    | b :: l2,p,h2 =>
      have e:a=b:=by
        by_cases c:a=b
        · exact c
        · have ma:a∈l2:=(List.mem_cons.mp (p.mem_iff.mp List.mem_cons_self)).resolve_left c
          have mb:b∈l1:=(List.mem_cons.mp (p.mem_iff.mpr List.mem_cons_self)).resolve_left (fun z=>c z.symm)
          exact anti a b ((List.pairwise_cons.mp h1).1 b mb) ((List.pairwise_cons.mp h2).1 a ma)
      subst e
      rw [pw_uniq anti (List.Perm.cons_inv p) (List.pairwise_cons.mp h1).2 (List.pairwise_cons.mp h2).2]
theorem klt_anti {us:Int→Int} {ms:List Int} (a b:Int) (h1:KLt us ms a b) (h2:KLt us ms b a):a=b:=by
  rcases h1 with h1 | ⟨h1,h3⟩ <;> rcases h2 with h2 | ⟨h2,h4⟩ <;> lia
theorem gone_uniq {ru:Str} {us:Int→Int} {pl:Int} {ms:List Int} {g g':Option Int} (h:goneP ru us pl ms g) (h':goneP ru us pl ms g'):g=g':=by
  by_cases c:(ms.length:Int)<pl
  · rw [h.1 c,h'.1 c]
  · obtain ⟨x,r,rfl,p,f,n⟩:=h.2 c
    obtain ⟨x',r',rfl,p',f',n'⟩:=h'.2 c
    have e:x :: r=x' :: r':=by
      by_cases q:ru = "few"
      · exact pw_uniq klt_anti (p.trans p'.symm) (f q) (f' q)
      · rw [n q,n' q]
    injection e with e1 _
    rw [e1]
open Classical in
noncomputable def goneF (c:Cf) (s:Rm) (b:Int):Option Int:=if h:∃ g,goneP c.ru s.us c.pl (shelfS c.sh (b % c.sh) s.seq) g then Classical.choose h else none
theorem goneF_eq {c:Cf} {s:Rm} {b:Int} {g:Option Int} (h:goneP c.ru s.us c.pl (shelfS c.sh (b % c.sh) s.seq) g):goneF c s b=g:=by
  unfold goneF
  have e:∃ g,goneP c.ru s.us c.pl (shelfS c.sh (b % c.sh) s.seq) g:=⟨g,h⟩
  rw [dif_pos e]
  exact gone_uniq (Classical.choose_spec e) h
theorem full_less {sh pl:Int} {seq seq':List Int} (h:∀ s,((shelfS sh s seq).length:Int)≤pl) (hs:seq'.Sublist seq):∀ s,((shelfS sh s seq').length:Int)≤pl:=fun s=>by
  have q:(shelfS sh s seq').Sublist (shelfS sh s seq):=List.Sublist.filter _ hs
  have:=q.length_le
  have:=h s
  lia
theorem full_perm {sh pl:Int} {seq seq':List Int} (h:∀ s,((shelfS sh s seq).length:Int)≤pl) (hs:seq'.Perm seq):∀ s,((shelfS sh s seq').length:Int)≤pl:=fun s=>by
  have q:(shelfS sh s seq').Perm (shelfS sh s seq):=List.Perm.filter _ hs
  rw [q.length_eq]
  exact h s
theorem full_in {sh pl b:Int} {seq:List Int} (h:∀ s,((shelfS sh s seq).length:Int)≤pl) (hb:((shelfS sh (b % sh) seq).length:Int)<pl):∀ s,((shelfS sh s (seq++[b])).length:Int)≤pl:=fun s=>by
  rw [shelfS_app]
  split
  · rename_i e
    rw [← e,List.length_append]
    show ((_+1:Nat):Int)≤pl
    lia
  · exact h s
def useS (c:Cf) (s:Rm) (b:Int):Rm:=⟨if c.ru = "old" then s.seq.erase b++[b] else s.seq,bump s.us b,s.wd,s.fr⟩
theorem use_perm {c:Cf} {s:Rm} {b:Int} (hb:b∈s.seq):(useS c s b).seq.Perm s.seq:=by
  unfold useS
  by_cases e:c.ru = "old"
  · rw [if_pos e]; exact (List.perm_append_comm).trans (List.perm_cons_erase hb).symm
  · rw [if_neg e]
def eW (k:Nat) (b:Int):List V:=[.str "words",.int (k:Int),.int b]
def eI (k:Nat) (b:Int):List V:=[.str "in",.int (k:Int),.int b]
def eO (k:Nat) (b:Int):List V:=[.str "out",.int (k:Int),.int b]
def eF (k:Nat):List V:=[.str "found",.int (k:Int)]
def Pln.n (g:Pln):Nat:=g.cfs.length
def putS (g:Pln) (k:Nat) (b:Int) (ws:List Int) (st:Stt):Stt:=if k=g.n then Stt.tell { st with mem:=layM g.size st.mem b ws } (eW k b) else (st.set k (layS (st.at_ k) b ws)).tell (eW k b)
def comeS (k:Nat) (b:Int) (ws:List Int) (st:Stt):Stt:=(st.set k (inS (st.at_ k) b ws)).tell (eI k b)
def goS (k:Nat) (b:Int) (st:Stt):Stt:=(st.tell (eO k b)).set k (outS (st.at_ k) b)
def clr (st:Stt):Stt:={ st with ev:=[] }
def TA.re (A:TA) (e:Addr):TA:={ A with ev:=e }
def Res (K:PySem.W.Frag) (H:Hp) (A:TA) (g:Pln) (os:OS) (st':Stt) (m:Nat) (Q:Hp→Prop):Prop:=∀ H' os',StairsAt K H' A g st' os' m→Pst (OW A os) H H' (OW A os')→Q H'
theorem tups {O O':Addr→Prop} {H H':Hp} (p:Pst O H H' O') {x:Addr} {ys:List V} (h:H x=some (.tup ys)):H' x=some (.tup ys):=p.kp x _ h fun _=>id
section
variable {K:PySem.W.Frag} {H H':Hp} {A:TA} {g:Pln} {st:Stt} {os:OS} {n:Nat}
theorem StairsAt.ix {k:Nat} {a:SA} (ha:A.as[k]?=some a):atI (A.as.map fun a=>V.ref a.sp) (k:Int)=some (.ref a.sp):=atI_nat (by rw [List.getElem?_map,ha]; rfl)
theorem StairsAt.ln (T:StairsAt K H A g st os n):g.n=A.as.length:=T.lc
theorem Pst.out {O O':Addr→Prop} (p:Pst O H H' O') {x:Addr} {o:HO} (h:H x=some o) (n:¬ O x):H' x=some o∧¬ O' x:=⟨p.kp x o h fun z=>absurd z n,fun z=>(p.fr x z).elim n fun q=>by rw [h] at q; cases q⟩
theorem StairsAt.fresh (T:StairsAt K H A g st os n) {x:Addr} (h:H x=none):¬ OW A os x:=fun z=>T.ex x z h
theorem StairsAt.told (T:StairsAt K H A g st os n) {e' dx:Addr} (he:H e'=none):StairsAt K (upd (upd H e' (.lst [])) A.p (.ins (clsOf K "Stairs") dx (tflds g.size A.ss A.bm A.as.length e' g.kind))) (A.re e') g (clr st) os 0:=by
  obtain ⟨d0,h1⟩:=T.ob
  obtain ⟨dm,h2⟩:=T.mem.ob
  obtain ⟨kv,h3,h4⟩:=T.mem.kept
  have s:=same_upd he (.lst ([]:List V))
  have npe:A.p≠e':=ne_of_none h1 he
  have off:∀ {x o},H x=some o→x≠A.p→upd (upd H e' (.lst [])) A.p (.ins (clsOf K "Stairs") dx (tflds g.size A.ss A.bm A.as.length e' g.kind)) x=some o:=fun {x o} q z=>by rw [upd_ne z]; exact s _ _ q
  have nk:∀ {x o},H x=some o→(∀ C d f,o≠.ins C d f)→x≠A.p:=fun {x o} q m z=>by rw [z,h1] at q; exact m _ _ _ (Option.some.inj q).symm
  have nb:∀ x,(∃ k,k<A.as.length∧os k x)→¬ Bs (A.re e') x:=fun x ⟨k,hk,h⟩ z=>by
    rcases z with z | z | z | z | z
    · exact T.off k hk x h (.inl z)
    · exact T.off k hk x h (.inr (.inl z))
    · exact T.off k hk x h (.inr (.inr (.inl z)))
    · exact T.off k hk x h (.inr (.inr (.inr (.inl z))))
    · have z:x=e':=z
      exact T.ex x (.inr ⟨k,hk,h⟩) (z ▸ he)
  refine ⟨⟨dx,upd_same⟩,off T.ss (nk T.ss (fun _ _ _ z=>by cases z)),⟨⟨dm,off h2 (Ne.symm T.npb)⟩,⟨kv,off h3 (nk h3 (fun _ _ _ z=>by cases z)),h4⟩,T.mem.sup⟩,⟨(fun e m=>by cases m),[],by show _=some (HO.lst []); rw [show (A.re e').ev=e' from rfl,upd_ne (Ne.symm npe)]; exact upd_same,rfl,fun i t e q _=>by simp at q⟩,Nat.le_refl _,T.lc,T.lS,fun k a c s' q1 q2 q3=>(T.sto k a c s' q1 q2 q3).frame fun x o h q=>off q fun z=>T.off k (List.getElem?_eq_some_iff.mp q1).1 x h (.inl z),fun k hk x h=>nb x ⟨k,hk,h⟩,T.dis,fun z=>?_,T.npb,T.uni,T.full,T.wl,T.wf,off T.tb (nk T.tb (fun _ _ _ z=>by cases z))⟩
  have z:A.ss=e':=z
  have q:=T.ss
  rw [z,he] at q; cases q
end
section
def spTStore (K:PySem.W.Frag):Sp:=fun vs H Q _=>∃ (A:TA) (g:Pln) (st:Stt) (os:OS) (n k:Nat) (a:SA),vs=[.ref A.p,.int (k:Int)]∧StairsAt K H A g st os n∧A.as[k]?=some a∧Q (.ref a.sp) H
theorem ok_Steps_store {f:Addr} {fd:FuncData} (F:Fun K "store" "Steps.store" s_Steps_store f fd) (T:Txt K mg):FnOk P w K mg base CX0 1 f fd P_Steps_store (spTStore K):=by
  refine F.ok sc_Steps_store (fun vs H Q E h=>?_) (fun cdv A outer s0 H vs Q E hr h=>?_)
  · obtain ⟨A,g,st,os,n,k,a,rfl,_⟩:=h
    rfl
  obtain ⟨A,g,st,os,n,k,a,rfl,R,ha,q⟩:=h
  have nd:=sc_Steps_store.nd
  refine ⟨_,(pss_cons (ps_if (pt_not (pt_chain op_le op_lt pe_int (pv 1) (pe_fldK (K:=K) rfl (pv 0) rfl))) (pss_one ps_no) pss_nil)
      (pss_one (ps_ret (pe_ix (ix_listK (K:=K) rfl) (pe_fldK (K:=K) rfl (pv 0) rfl) (pv 1) (fun _ _=>rfl))))),?_⟩
  obtain ⟨dx,h1⟩:=R.ob
  have hk:k<A.as.length:=(List.getElem?_eq_some_iff.mp ha).1
  refine ⟨_,rfl,_,_,rfl,rfl,_,rfl,ifT (decide_eq_true (by lia)) ⟨_,rfl,A.p,_,dx,_,_,rfl,h1,T.cl_Stairs,T.n_Stairs_last,tf_last ..,_,_,rfl,rfl,_,rfl,ifF (by rw [decide_eq_true (by lia)]; rfl) ?_⟩⟩
  exact ⟨_,rfl,A.p,_,dx,_,_,rfl,h1,T.cl_Stairs,T.n_Stairs_stores,tf_stores ..,_,rfl,A.ss,_,_,_,rfl,rfl,SqL.of R.ss,StairsAt.ix ha,q⟩
def wordsF (g:Pln) (st:Stt) (k:Nat) (b:Int):List Int:=if k=g.n then memW g.size st.mem b else (st.at_ k).wd b
def spTWords (K:PySem.W.Frag):Sp:=fun vs H Q _=>∃ (A:TA) (g:Pln) (st:Stt) (os:OS) (n k:Nat) (b:Int),vs=[.ref A.p,.int (k:Int),.int b]∧StairsAt K H A g st os n∧k≤g.n∧(k<g.n→b∈(st.at_ k).seq)∧0≤b∧b≤1000000∧∀ l H',H l=none→Same H H'→H' l=some (.lst ((wordsF g st k b).map V.int))→Q (.ref l) H'
theorem ok_Steps_words {f:Addr} {fd:FuncData} (F:Fun K "words" "Steps.words" s_Steps_words f fd) (T:Txt K mg) (M_Memory_words_of:MDef P w K mg base (clsOf K "Memory") "words_of" 2 P_Memory_words_of (spMWords K)) (M_Steps_store:MDef P w K mg base (clsOf K "Stairs") "store" 1 P_Steps_store (spTStore K)) (M_Store_words_of:MDef P w K mg base (clsOf K "Store") "words_of" 3 P_Store_words_of (spWordsOf K)):FnOk P w K mg base CX0 4 f fd P_Steps_words (spTWords K):=by
  refine F.ok sc_Steps_words (fun vs H Q E h=>?_) (fun cdv A outer s0 H vs Q E hr h=>?_)
  · obtain ⟨A,g,st,os,n,k,b,rfl,_⟩:=h
    rfl
  obtain ⟨A,g,st,os,n,k,b,rfl,R,hk,hb,b0,b1,q⟩:=h
  have nd:=sc_Steps_words.nd
  refine ⟨_,(pss_cons (ps_if (pt_cmpR op_eq (pv 1) (pe_fldK (K:=K) rfl (pv 0) rfl) (nomark _)) (pss_one (ps_ret (pe_methN M_Memory_words_of hr.m T.cl_Memory (pe_fldK (K:=K) rfl (pv 0) rfl) (pc (pv 2) pa_nil)))) pss_nil)
      (pss_one (ps_ret (pe_methN M_Store_words_of hr.m T.cl_Store (pe_methN M_Steps_store hr.m T.cl_Stairs (pv 0) (pc (pv 1) pa_nil)) (pc (pv 2) pa_nil))))),?_⟩
  obtain ⟨dx,h1⟩:=R.ob
  obtain ⟨dm,h2⟩:=R.mem.ob
  have ln:=R.ln
  unfold wordsF at q
  refine ⟨_,rfl,_,rfl,A.p,_,dx,_,_,rfl,h1,T.cl_Stairs,T.n_Stairs_last,tf_last ..,rfl,_,rfl,eq_case (fun e=>?_) (fun e=>?_)⟩
  · rw [if_pos (by lia)] at q
    exact ⟨_,rfl,A.p,_,dx,_,_,rfl,h1,T.cl_Stairs,T.n_Stairs_bottom,tf_bottom ..,A.bm,dm,_,rfl,h2,mf_no ..,_,rfl,A.bm,A.dk,g.size,b,st.mem,g.U,rfl,R.mem,by have:=R.wf.z0; lia,R.wf.z1,b0,b1,q⟩
  · rw [if_neg (by lia)] at q
    obtain ⟨a,e1,e2,e3,B⟩:=R.at_ (k:=k) (by lia)
    obtain ⟨ds,h3⟩:=B.sto.ob
    exact ⟨_,rfl,A.p,dx,_,rfl,h1,tf_no ..,_,rfl,A,g,st,os,n,k,a,rfl,R,e1,a.sp,ds,_,rfl,h3,sf_no ..,_,rfl,a,_,_,_,b,rfl,B,hb (by lia),fun l hl=>q l _ hl (same_upd hl _) upd_same⟩
def spHappened (K:PySem.W.Frag):Sp:=fun vs H Q _=>∃ (A:TA) (g:Pln) (st:Stt) (os:OS) (n:Nat),vs=[.ref A.p]∧StairsAt K H A g st os n∧∀ e' H',StairsAt K H' (A.re e') g (clr st) os 0→EvL g.n H' A.ev st.ev→¬ OW (A.re e') os A.ev→Pst (OW A os) H H' (OW (A.re e') os)→Q (.ref A.ev) H'
theorem ok_Steps_happened {f:Addr} {fd:FuncData} (F:Fun K "happened" "Steps.happened" s_Steps_happened f fd) (T:Txt K mg):FnOk P w K mg base CX0 1 f fd P_Steps_happened (spHappened K):=by
  refine F.ok sc_Steps_happened (fun vs H Q E h=>?_) (fun cdv A outer s0 H vs Q E hr h=>?_)
  · obtain ⟨A,g,st,os,n,rfl,_⟩:=h
    rfl
  obtain ⟨A,g,st,os,n,rfl,R,q⟩:=h
  have nd:=sc_Steps_happened.nd
  refine ⟨_,(pss_cons (pst 1 nd (pe_fldK (K:=K) rfl (pv 0) rfl))
      (pss_cons (ps_fld (pv 0) (pe_lst pa_nil) rfl)
      (pss_one (ps_ret (pv 1))))),?_⟩
  obtain ⟨dx,h1⟩:=R.ob
  refine ⟨_,rfl,A.p,_,dx,_,_,rfl,h1,T.cl_Stairs,T.n_Stairs_events,tf_events ..,gN ?_⟩
  try dsimp only
  refine ⟨(by show 0≤sizeLine; decide),fun e' he=>⟨_,rfl,A.p,_,dx,_,rfl,same_upd he _ _ _ h1,T.cl_Stairs,T.n_Stairs_events,(by rw [tflds_list]; show 6<1000; decide),?_⟩⟩
  rw [tf_put]
  have off:∀ {x o},H x=some o→x≠A.p→upd (upd H e' (.lst [])) A.p (.ins (clsOf K "Stairs") dx (tflds g.size A.ss A.bm A.as.length e' g.kind)) x=some o:=fun {x o} q z=>by rw [upd_ne z]; exact same_upd he _ _ _ q
  have np:∀ {x o},H x=some o→(∀ C d f,o≠.ins C d f)→x≠A.p:=fun {x o} q m z=>by rw [z,h1] at q; exact m _ _ _ (Option.some.inj q).symm
  obtain ⟨v0,ts,v1,v2,v3⟩:=R.ev
  have nve:A.ev≠e':=ne_of_none v1 he
  refine ⟨_,rfl,q e' _ (R.told he) ⟨v0,ts,off v1 (np v1 (fun _ _ _ z=>by cases z)),v2,fun i t e a b=>off (v3 i t e a b) (np (v3 i t e a b) (fun _ _ _ z=>by cases z))⟩ (fun z=>?_) ⟨fun x o e m=>off e fun z=>?_,fun x h=>?_⟩⟩
  · rcases z with z | ⟨k,hk,z⟩
    · obtain ⟨dm,h2⟩:=R.mem.ob
      obtain ⟨kv,h3,_⟩:=R.mem.kept
      rcases z with z | z | z | z | z
      · exact np v1 (fun _ _ _ z=>by cases z) z
      · exact R.nse z.symm
      · rw [show (A.re e').bm=A.bm from rfl] at z
        rw [z,h2] at v1; cases v1
      · rw [show (A.re e').dk=A.dk from rfl] at z
        rw [z,h3] at v1; cases v1
      · exact nve z
    · exact R.off k hk _ z (by simp [Bs])
  · rw [z,h1] at e
    cases e
    exact m (.inl (.inl z)) trivial
  · rcases h with h | h
    · rcases h with h | h | h | h | h
      · exact .inl (.inl (.inl h))
      · exact .inl (.inl (.inr (.inl h)))
      · exact .inl (.inl (.inr (.inr (.inl h))))
      · exact .inl (.inl (.inr (.inr (.inr (.inl h)))))
      · exact .inr (by rw [h]; exact he)
    · exact .inl (.inr h)
def spLeav (K:PySem.W.Frag):Sp:=fun vs H Q _=>∃ (A:TA) (g:Pln) (st:Stt) (os:OS) (n k:Nat) (b:Int),vs=[.ref A.p,.int (k:Int),.int b]∧StairsAt K H A g st os n∧k<g.n∧∀ H',Same H H'→goneP (g.cf k).ru (st.at_ k).us (g.cf k).pl (shelfS (g.cf k).sh (b % (g.cf k).sh) (st.at_ k).seq) (goneF (g.cf k) (st.at_ k) b)→Q (optV (goneF (g.cf k) (st.at_ k) b)) H'
theorem ok_Steps_leaver {f:Addr} {fd:FuncData} (F:Fun K "leaver" "Steps.leaver" s_Steps_leaver f fd) (T:Txt K mg) (M_Room_leaver_for:MDef P w K mg base (clsOf K "Room") "leaver_for" 3 P_Room_leaver_for (spLeaver K)):FnOk P w K mg base CX0 4 f fd P_Steps_leaver (spLeav K):=by
  refine F.ok sc_Steps_leaver (fun vs H Q E h=>?_) (fun cdv A outer s0 H vs Q E hr h=>?_)
  · obtain ⟨A,g,st,os,n,k,b,rfl,_⟩:=h
    rfl
  obtain ⟨A,g,st,os,n,k,b,rfl,R,hk,q⟩:=h
  have nd:=sc_Steps_leaver.nd
  refine ⟨_,(pss_one (ps_ret (pe_methN M_Room_leaver_for hr.m T.cl_Room (pe_fldK (K:=K) rfl (pe_ix (ix_listK (K:=K) rfl) (pe_fldK (K:=K) rfl (pv 0) rfl) (pv 1) (fun _ _=>rfl)) rfl) (pc (pv 2) pa_nil)))),?_⟩
  obtain ⟨dx,h1⟩:=R.ob
  have ln:=R.ln
  obtain ⟨a,e1,e2,e3,B⟩:=R.at_ (k:=k) (by lia)
  obtain ⟨u1,u2,u3,u4,u5,u6⟩:=R.bds (k:=k) (by lia)
  obtain ⟨ds,h3⟩:=B.sto.ob
  obtain ⟨dr,h4⟩:=B.sto.room.ob
  have fl:=u3 (b % (g.cf k).sh)
  refine ⟨_,rfl,A.p,_,dx,_,_,rfl,h1,T.cl_Stairs,T.n_Stairs_stores,tf_stores ..,_,rfl,A.ss,_,_,_,rfl,rfl,SqL.of R.ss,StairsAt.ix e1,a.sp,_,ds,_,_,rfl,h3,T.cl_Store,T.n_Store_room,sf_room ..,a.rp,dr,_,rfl,h4,fl_no ..,_,rfl,a.rp,b,(g.cf k).sh,(g.cf k).pl,(g.cf k).ru,a.ls,a.ads,a.du,(st.at_ k).seq,(st.at_ k).us,_,rfl,B.sto.room,R.tb,u4,by lia,fun gone H' gp sm=>?_⟩
  have e:=goneF_eq (s:=st.at_ k) gp
  have q':=q H' sm (by rw [e]; exact gp)
  rw [e] at q'
  exact q'
def spTell (K:PySem.W.Frag):Sp:=fun vs H Q _=>∃ (A:TA) (g:Pln) (st:Stt) (os:OS) (n k:Nat),vs=[.ref A.p,.int (k:Int)]∧StairsAt K H A g st os n∧k≤g.n∧n≤900000∧Res K H A g os (st.tell (eF k)) (n+1) (Q .non)
theorem big {n m:Nat} (h:n≤m) (hm:m≤900000):n<sizeLine:=Nat.lt_of_le_of_lt (Nat.le_trans h hm) (by decide)
theorem ok_Steps_tell_found {f:Addr} {fd:FuncData} (F:Fun K "tell_found" "Steps.tell_found" s_Steps_tell_found f fd) (T:Txt K mg):FnOk P w K mg base CX0 1 f fd P_Steps_tell_found (spTell K):=by
  refine F.ok sc_Steps_tell_found (fun vs H Q E h=>?_) (fun cdv A outer s0 H vs Q E hr h=>?_)
  · obtain ⟨A,g,st,os,n,k,rfl,_⟩:=h
    rfl
  obtain ⟨A,g,st,os,n,k,rfl,R,hk4,hl,q⟩:=h
  have nd:=sc_Steps_tell_found.nd
  refine ⟨_,(pss_one (ps_expr (pe_bmC (K:=K) rfl (pe_bm PySem.F.plainAttrs_list PySem.F.slot_list_append PySem.F.type_list_append mt_append (pe_fldK (K:=K) rfl (pv 0) rfl) (pc (pe_tup (pc pe_str (pc (pv 1) pa_nil))) pa_nil))))),?_⟩
  obtain ⟨dx,h1⟩:=R.ob
  obtain ⟨_,ts0,v1,_⟩:=R.ev
  refine ⟨_,rfl,A.p,_,dx,_,_,rfl,h1,T.cl_Stairs,T.n_Stairs_events,tf_events ..,.inl ⟨rfl,_,SqL.of v1⟩,_,rfl,(by show 2≤sizeLine; decide),fun t ht=>?_⟩
  obtain ⟨ts,w1,w2,R2,p2⟩:=R.event (eF k) (.inl ⟨k,hk4,rfl⟩) ht
  exact ⟨A.ev,_,_,rfl,rfl,same_upd ht _ _ _ w1,big (by rw [List.length_map]; exact w2) hl,q _ _ R2 p2⟩
def spUseIn (K:PySem.W.Frag):Sp:=fun vs H Q _=>∃ (A:TA) (g:Pln) (st:Stt) (os:OS) (n k:Nat) (b:Int),vs=[.ref A.p,.int (k:Int),.int b]∧StairsAt K H A g st os n∧k<g.n∧b∈(st.at_ k).seq∧Res K H A g os (st.set k (useS (g.cf k) (st.at_ k) b)) n (Q .non)
theorem ok_Steps_use_in {f:Addr} {fd:FuncData} (F:Fun K "use_in" "Steps.use_in" s_Steps_use_in f fd) (T:Txt K mg) (M_Room_use:MDef P w K mg base (clsOf K "Room") "use" 3 P_Room_use (spUse K)):FnOk P w K mg base CX0 4 f fd P_Steps_use_in (spUseIn K):=by
  refine F.ok sc_Steps_use_in (fun vs H Q E h=>?_) (fun cdv A outer s0 H vs Q E hr h=>?_)
  · obtain ⟨A,g,st,os,n,k,b,rfl,_⟩:=h
    rfl
  obtain ⟨A,g,st,os,n,k,b,rfl,R,hk,hb,q⟩:=h
  have nd:=sc_Steps_use_in.nd
  refine ⟨_,(pss_one (ps_expr (pe_methN M_Room_use hr.m T.cl_Room (pe_fldK (K:=K) rfl (pe_ix (ix_listK (K:=K) rfl) (pe_fldK (K:=K) rfl (pv 0) rfl) (pv 1) (fun _ _=>rfl)) rfl) (pc (pv 2) pa_nil)))),?_⟩
  obtain ⟨dx,h1⟩:=R.ob
  have ln:=R.ln
  obtain ⟨a,e1,e2,e3,B⟩:=R.at_ (k:=k) (by lia)
  obtain ⟨u1,u2,u3,u4,u5,u6⟩:=R.bds (k:=k) (by lia)
  obtain ⟨ds,h3⟩:=B.sto.ob
  obtain ⟨dr,h4⟩:=B.sto.room.ob
  refine ⟨_,rfl,A.p,_,dx,_,_,rfl,h1,T.cl_Stairs,T.n_Stairs_stores,tf_stores ..,_,rfl,A.ss,_,_,_,rfl,rfl,SqL.of R.ss,StairsAt.ix e1,a.sp,_,ds,_,_,rfl,h3,T.cl_Store,T.n_Store_room,sf_room ..,a.rp,dr,_,rfl,h4,fl_no ..,_,rfl,a.rp,b,(g.cf k).sh,(g.cf k).pl,(g.cf k).ru,a.ls,a.ads,a.du,(st.at_ k).seq,(st.at_ k).us,_,rfl,B.sto.room,by lia,hb,by lia,fun H' R1 r1=>?_⟩
  have um:=fun x=>(use_perm (c:=g.cf k) hb).mem_iff (a:=x)
  obtain ⟨R2,p2⟩:=R.deed e1 e2 (B.deed R1 r1 um) (B.sto.pst r1) (fun x hx=>u2 x ((um x).mp hx)) (full_perm u3 (use_perm (c:=g.cf k) hb))
  exact q H' _ R2 p2
def spComeIn (K:PySem.W.Frag):Sp:=fun vs H Q _=>∃ (A:TA) (g:Pln) (st:Stt) (os:OS) (n k:Nat) (b:Int) (lw:Addr) (ws:List Int),vs=[.ref A.p,.int (k:Int),.int b,.ref lw]∧StairsAt K H A g st os n∧k<g.n∧b∉(st.at_ k).seq∧b∈g.U∧((shelfS (g.cf k).sh (b % (g.cf k).sh) (st.at_ k).seq).length:Int)<(g.cf k).pl∧H lw=some (.lst (ws.map V.int))∧¬ OW A os lw∧ws.length=g.size.toNat∧n≤900000∧Res K H A g os (comeS k b ws st) (n+1) (Q .non)
theorem ok_Steps_come_in {f:Addr} {fd:FuncData} (F:Fun K "come_in" "Steps.come_in" s_Steps_come_in f fd) (T:Txt K mg) (M_Store_take_in:MDef P w K mg base (clsOf K "Store") "take_in" 5 P_Store_take_in (spTakeIn K)):FnOk P w K mg base CX0 6 f fd P_Steps_come_in (spComeIn K):=by
  refine F.ok sc_Steps_come_in (fun vs H Q E h=>?_) (fun cdv A outer s0 H vs Q E hr h=>?_)
  · obtain ⟨A,g,st,os,n,k,b,lw,ws,rfl,_⟩:=h
    rfl
  obtain ⟨A,g,st,os,n,k,b,lw,ws,rfl,R,hk,hb,hbU,hsh,hlw,nO,lws,hl,q⟩:=h
  have nd:=sc_Steps_come_in.nd
  refine ⟨_,(pss_cons (ps_expr (pe_methN M_Store_take_in hr.m T.cl_Store (pe_ix (ix_listK (K:=K) rfl) (pe_fldK (K:=K) rfl (pv 0) rfl) (pv 1) (fun _ _=>rfl)) (pc (pv 2) (pc (pv 3) pa_nil))))
      (pss_one (ps_expr (pe_bmC (K:=K) rfl (pe_bm PySem.F.plainAttrs_list PySem.F.slot_list_append PySem.F.type_list_append mt_append (pe_fldK (K:=K) rfl (pv 0) rfl) (pc (pe_tup (pc pe_str (pc (pv 1) (pc (pv 2) pa_nil)))) pa_nil)))))),?_⟩
  obtain ⟨dx,h1⟩:=R.ob
  have ln:=R.ln
  obtain ⟨a,e1,e2,e3,B⟩:=R.at_ (k:=k) (by lia)
  obtain ⟨u1,u2,u3,u4,u5,u6⟩:=R.bds (k:=k) (by lia)
  obtain ⟨ds,h3⟩:=B.sto.ob
  refine ⟨_,rfl,A.p,_,dx,_,_,rfl,h1,T.cl_Stairs,T.n_Stairs_stores,tf_stores ..,_,rfl,A.ss,_,_,_,rfl,rfl,SqL.of R.ss,StairsAt.ix e1,a.sp,ds,_,rfl,h3,sf_no ..,_,rfl,_,rfl,a,_,_,_,b,lw,ws,rfl,B,R.tb,hlw,(fun z=>nO (.inr ⟨k,by lia,z⟩)),hb,u1,u4,u5,hsh,fun H1 O1 B1 p1=>?_⟩
  obtain ⟨R2,p2⟩:=R.deed e1 e2 B1 p1 (fun x hx=>by
    show x∈g.U∧(if x=b then ws else (st.at_ k).wd x).length=_
    by_cases z:x=b
    · rw [if_pos z,z]; exact ⟨hbU,lws⟩
    · rw [if_neg z]
      exact u2 x ((List.mem_append.mp hx).resolve_right fun m=>z (List.mem_singleton.mp m))) (full_in u3 hsh)
  obtain ⟨dx2,g2⟩:=R2.ob
  obtain ⟨_,ts0,v1,_⟩:=R2.ev
  refine ⟨_,rfl,A.p,_,dx2,_,_,rfl,g2,T.cl_Stairs,T.n_Stairs_events,tf_events ..,.inl ⟨rfl,_,SqL.of v1⟩,_,rfl,_,rfl,(by show 3≤sizeLine; decide),fun t ht=>?_⟩
  obtain ⟨ts,w1,w2,R4,p4⟩:=R2.event (eI k b) (.inr (.inl ⟨k,b,⟨hk,R.wf.ub b hbU⟩,.inl rfl⟩)) ht
  exact ⟨A.ev,_,_,rfl,rfl,same_upd ht _ _ _ w1,big (by rw [List.length_map]; exact w2) hl,q _ _ R4 (p2.trans p4)⟩
def spGoOut (K:PySem.W.Frag):Sp:=fun vs H Q _=>∃ (A:TA) (g:Pln) (st:Stt) (os:OS) (n k:Nat) (b:Int),vs=[.ref A.p,.int (k:Int),.int b]∧StairsAt K H A g st os n∧k<g.n∧b∈(st.at_ k).seq∧n≤900000 ∧
  ∀ H' os' t l,H' t=some (.tup [.ref l,.bl ((st.at_ k).fr b)])→H' l=some (.lst (((st.at_ k).wd b).map V.int))→¬ OW A os' l→StairsAt K H' A g (goS k b st) os' (n+1)→Pst (OW A os) H H' (OW A os')→Q (.ref t) H'
theorem ok_Steps_go_out {f:Addr} {fd:FuncData} (F:Fun K "go_out" "Steps.go_out" s_Steps_go_out f fd) (T:Txt K mg) (M_Store_give_out:MDef P w K mg base (clsOf K "Store") "give_out" 4 P_Store_give_out (spGiveOut K)):FnOk P w K mg base CX0 5 f fd P_Steps_go_out (spGoOut K):=by
  refine F.ok sc_Steps_go_out (fun vs H Q E h=>?_) (fun cdv A outer s0 H vs Q E hr h=>?_)
  · obtain ⟨A,g,st,os,n,k,b,rfl,_⟩:=h
    rfl
  obtain ⟨A,g,st,os,n,k,b,rfl,R,hk,hb,hl,q⟩:=h
  have nd:=sc_Steps_go_out.nd
  refine ⟨_,(pss_cons (ps_expr (pe_bmC (K:=K) rfl (pe_bm PySem.F.plainAttrs_list PySem.F.slot_list_append PySem.F.type_list_append mt_append (pe_fldK (K:=K) rfl (pv 0) rfl) (pc (pe_tup (pc pe_str (pc (pv 1) (pc (pv 2) pa_nil)))) pa_nil))))
      (pss_one (ps_ret (pe_methN M_Store_give_out hr.m T.cl_Store (pe_ix (ix_listK (K:=K) rfl) (pe_fldK (K:=K) rfl (pv 0) rfl) (pv 1) (fun _ _=>rfl)) (pc (pv 2) pa_nil))))),?_⟩
  obtain ⟨dx,h1⟩:=R.ob
  obtain ⟨_,ts0,v1,_⟩:=R.ev
  have ln:=R.ln
  refine ⟨_,rfl,A.p,_,dx,_,_,rfl,h1,T.cl_Stairs,T.n_Stairs_events,tf_events ..,.inl ⟨rfl,_,SqL.of v1⟩,_,rfl,_,rfl,(by show 3≤sizeLine; decide),fun t ht=>?_⟩
  obtain ⟨ts,w1,w2,R4,p4⟩:=R.event [.str "out",.int (k:Int),.int b] (.inr (.inl ⟨k,b,⟨hk,R.wf.ub b ((R.bds (k:=k) (by lia)).2.1 b hb).1⟩,.inr rfl⟩)) ht
  refine ⟨A.ev,_,_,rfl,rfl,same_upd ht _ _ _ w1,big (by rw [List.length_map]; exact w2) hl,?_⟩
  generalize upd (upd H t (.tup [.str "out",.int (k:Int),.int b])) A.ev (.lst (ts.map V.ref++[.ref t]))=H4 at *
  obtain ⟨dx4,g4⟩:=R4.ob
  obtain ⟨a,e1,e2,e3,B⟩:=R4.at_ (k:=k) (by lia)
  obtain ⟨u1,u2,u3,u4,u5,u6⟩:=R4.bds (k:=k) (by lia)
  obtain ⟨ds,h3⟩:=B.sto.ob
  refine ⟨_,rfl,A.p,_,dx4,_,_,rfl,g4,T.cl_Stairs,T.n_Stairs_stores,tf_stores ..,_,rfl,A.ss,_,_,_,rfl,rfl,SqL.of R4.ss,StairsAt.ix e1,a.sp,ds,_,rfl,h3,sf_no ..,_,rfl,a,_,_,_,b,rfl,B,hb,fun t2 l H5 O5 et el nl B' p5 own=>?_⟩
  obtain ⟨R5,p6⟩:=R4.deed e1 e2 B' p5 (fun x hx=>u2 x (List.mem_of_mem_erase hx)) (full_less u3 List.erase_sublist)
  refine q H5 _ t2 l et el (fun z=>?_) R5 (p4.trans p6)
  rcases z with z | ⟨j,hj,z⟩
  · rcases own with o | o
    · exact R4.off k (by lia) l o z
    · exact R4.ex l (.inl z) o
  · unfold OS.set at z
    by_cases e:j=k
    · rw [if_pos e] at z; exact nl z
    · rw [if_neg e] at z
      rcases own with o | o
      · exact R4.dis j k hj (by lia) e l z o
      · exact R4.ex l (.inr ⟨j,hj,z⟩) o
end
section
variable {K:PySem.W.Frag} {H H':Hp} {A:TA} {g:Pln} {st:Stt} {os:OS} {n:Nat}
theorem StairsAt.memp {mem':Int→Int} (T:StairsAt K H A g st os n) (M:MemAt K H' A.bm A.dk g.size mem' g.U) (f:∀ x o,H x=some o→x≠A.dk→H' x=some o):StairsAt K H' A g { st with mem:=mem' } os n∧Pst (OW A os) H H' (OW A os):=by
  obtain ⟨dx,h1⟩:=T.ob
  obtain ⟨kv,h2,_⟩:=T.mem.kept
  have nk:∀ {x o},H x=some o→(∀ k,o≠.dK k)→H' x=some o:=fun {x o} q m=>f x o q fun z=>by rw [z,h2] at q; exact m _ (Option.some.inj q).symm
  refine ⟨⟨⟨dx,nk h1 (fun _ z=>by cases z)⟩,nk T.ss (fun _ z=>by cases z),M,T.ev.frame (fun o e=>?_) (fun x ys e=>nk e (fun _ z=>by cases z)),T.evn,T.lc,T.lS,fun k a c s q1 q2 q3=>(T.sto k a c s q1 q2 q3).frame fun x o h q=>f x o q fun z=>T.off k (List.getElem?_eq_some_iff.mp q1).1 x h (by simp [Bs,z]),T.off,T.dis,T.nse,T.npb,T.uni,T.full,T.wl,T.wf,nk T.tb (fun _ z=>by cases z)⟩,⟨fun x o e m=>f x o e fun z=>?_,fun x h=>.inl h⟩⟩
  · obtain ⟨_,ts,v,_⟩:=T.ev
    rw [v] at e; cases e
    exact nk v (fun _ z=>by cases z)
  · rw [z,h2] at e
    cases e
    exact m (.inl (by simp [Bs,z])) trivial
end
section
def spPut (K:PySem.W.Frag):Sp:=fun vs H Q _=>∃ (A:TA) (g:Pln) (st:Stt) (os:OS) (n k:Nat) (b:Int) (lw:Addr) (ws:List Int),vs=[.ref A.p,.int (k:Int),.int b,.ref lw]∧StairsAt K H A g st os n∧k≤g.n∧(k<g.n→b∈(st.at_ k).seq)∧b∈g.U∧H lw=some (.lst (ws.map V.int))∧¬ OW A os lw∧ws.length=g.size.toNat∧n≤900000∧Res K H A g os (putS g k b ws st) (n+1) (Q .non)
theorem ok_Steps_put {f:Addr} {fd:FuncData} (F:Fun K "put" "Steps.put" s_Steps_put f fd) (T:Txt K mg) (M_Memory_lay:MDef P w K mg base (clsOf K "Memory") "lay" 2 P_Memory_lay (spMLay K)) (M_Store_lay:MDef P w K mg base (clsOf K "Store") "lay" 1 P_Store_lay (spLay K)):FnOk P w K mg base CX0 3 f fd P_Steps_put (spPut K):=by
  refine F.ok sc_Steps_put (fun vs H Q E h=>?_) (fun cdv A outer s0 H vs Q E hr h=>?_)
  · obtain ⟨A,g,st,os,n,k,b,lw,ws,rfl,_⟩:=h
    rfl
  obtain ⟨A,g,st,os,n,k,b,lw,ws,rfl,R,hk,hb,bU,hlw,nO,lws,hl,q⟩:=h
  have nd:=sc_Steps_put.nd
  refine ⟨_,(pss_cons (ps_if (pt_cmpR op_eq (pv 1) (pe_fldK (K:=K) rfl (pv 0) rfl) (nomark _)) (pss_one (ps_expr (pe_methN M_Memory_lay hr.m T.cl_Memory (pe_fldK (K:=K) rfl (pv 0) rfl) (pc (pv 2) (pc (pv 3) pa_nil))))) (pss_one (ps_expr (pe_methN M_Store_lay hr.m T.cl_Store (pe_ix (ix_listK (K:=K) rfl) (pe_fldK (K:=K) rfl (pv 0) rfl) (pv 1) (fun _ _=>rfl)) (pc (pv 2) (pc (pv 3) pa_nil))))))
      (pss_one (ps_expr (pe_bmC (K:=K) rfl (pe_bm PySem.F.plainAttrs_list PySem.F.slot_list_append PySem.F.type_list_append mt_append (pe_fldK (K:=K) rfl (pv 0) rfl) (pc (pe_tup (pc pe_str (pc (pv 1) (pc (pv 2) pa_nil)))) pa_nil)))))),?_⟩
  obtain ⟨dx,h1⟩:=R.ob
  have ln:=R.ln
  refine cpI (fun σ G=>σ=[some (.ref A.p),some (.int (k:Int)),some (.int b),some (.ref lw)]∧∃ os',StairsAt K G A g (if k=g.n then { st with mem:=layM g.size st.mem b ws } else st.set k (layS (st.at_ k) b ws)) os' n∧Pst (OW A os) H G (OW A os')) (fun D' _ k'=>?_) ?_
  · refine ⟨_,rfl,_,rfl,A.p,_,dx,_,_,rfl,h1,T.cl_Stairs,T.n_Stairs_last,tf_last ..,rfl,_,rfl,eq_case (fun e=>?_) (fun e=>?_)⟩
    · obtain ⟨dm,h2⟩:=R.mem.ob
      have z0:=R.wf.z0
      obtain ⟨b0,b1⟩:=R.wf.ub b bU
      refine ⟨_,rfl,A.p,_,dx,_,_,rfl,h1,T.cl_Stairs,T.n_Stairs_bottom,tf_bottom ..,A.bm,dm,_,rfl,h2,mf_no ..,_,rfl,_,rfl,A.bm,A.dk,g.size,b,st.mem,g.U,lw,ws,rfl,R.mem,by lia,R.wf.z1,b0,b1,bU,R.wf.lU,hlw,lws,fun H1 M1 f1=>?_⟩
      obtain ⟨R1,p1⟩:=R.memp M1 f1
      rw [if_pos (by lia)] at k'
      exact k' _ _ ⟨rfl,_,R1,p1⟩
    · obtain ⟨a,e1,e2,e3,B⟩:=R.at_ (k:=k) (by lia)
      obtain ⟨u1,u2,u3,u4,u5,u6⟩:=R.bds (k:=k) (by lia)
      obtain ⟨ds,kvs,h3,h4,h5,h6⟩:=B.lay (hb (by lia)) ws (Q:=D'.nx [some (.ref A.p),some (.int (k:Int)),some (.int b),some (.ref lw)]) (fun H' O' B' p'=>by
        obtain ⟨R1,p1⟩:=R.deed e1 e2 B' p' (fun x hx=>by
          show x∈g.U∧(if x=b then ws else (st.at_ k).wd x).length=_
          by_cases z:x=b
          · rw [if_pos z,z]; exact ⟨bU,lws⟩
          · rw [if_neg z]; exact u2 x hx) u3
        rw [if_neg (by lia)] at k'
        exact k' _ _ ⟨rfl,_,R1,p1⟩)
      exact ⟨_,rfl,A.p,_,dx,_,_,rfl,h1,T.cl_Stairs,T.n_Stairs_stores,tf_stores ..,_,rfl,A.ss,_,_,_,rfl,rfl,SqL.of R.ss,StairsAt.ix e1,a.sp,ds,_,rfl,h3,sf_no ..,_,rfl,_,rfl,a.sp,ds,a.rp,a.dh,a.df,(g.cf k).late,kvs,b,lw,_,rfl,h3,h4,by lia,hlw,h6⟩
  rintro _ G ⟨rfl,os1,R2,p2⟩
  obtain ⟨dx2,g2⟩:=R2.ob
  obtain ⟨_,ts0,v1,_⟩:=R2.ev
  refine ⟨_,rfl,A.p,_,dx2,_,_,rfl,g2,T.cl_Stairs,T.n_Stairs_events,tf_events ..,.inl ⟨rfl,_,SqL.of v1⟩,_,rfl,_,rfl,(by show 3≤sizeLine; decide),fun t ht=>?_⟩
  obtain ⟨ts,w1,w2,R4,p4⟩:=R2.event (eW k b) (.inr (.inr ⟨k,b,⟨hk,R.wf.ub b bU⟩,rfl⟩)) ht
  refine ⟨A.ev,_,_,rfl,rfl,same_upd ht _ _ _ w1,big (by rw [List.length_map]; exact w2) hl,q _ _ ?_ (p2.trans p4)⟩
  unfold putS
  by_cases c:k=g.n
  · rw [if_pos c] at R4 ⊢; exact R4
  · rw [if_neg c] at R4 ⊢; exact R4
def wordF (g:Pln) (s:Rm) (sp:Int):Int:=(s.wd (sp / g.size)).getD (sp % g.size).toNat 0
def spWordIn (K:PySem.W.Frag):Sp:=fun vs H Q _=>∃ (A:TA) (g:Pln) (st:Stt) (os:OS) (n k:Nat) (sp:Int),vs=[.ref A.p,.int (k:Int),.int sp]∧StairsAt K H A g st os n∧k<g.n∧sp / g.size∈(st.at_ k).seq∧∀ H',Same H H'→Q (.int (wordF g (st.at_ k) sp)) H'
theorem at_gd {ws:List Int} {m:Nat} {i:Int} (l:ws.length=m) (h0:0≤i) (h1:i<m):atI (ws.map V.int) i=some (.int (ws.getD i.toNat 0)):=by
  have e:(i.toNat:Int)=i:=by lia
  have hi:i.toNat<ws.length:=by lia
  have q:atI (ws.map V.int) (i.toNat:Int)=some (.int (ws.getD i.toNat 0)):=atI_nat (by
    rw [List.getElem?_map,List.getD_eq_getElem?_getD,List.getElem?_eq_getElem hi]; rfl)
  rw [e] at q
  exact q
theorem ok_Steps_word_in {f:Addr} {fd:FuncData} (F:Fun K "word_in" "Steps.word_in" s_Steps_word_in f fd) (T:Txt K mg) (M_Store_words_of:MDef P w K mg base (clsOf K "Store") "words_of" 3 P_Store_words_of (spWordsOf K)) (D_board_of:Def P w K mg base "board_of" 1 P_board_of spBoard):FnOk P w K mg base CX0 4 f fd P_Steps_word_in (spWordIn K):=by
  refine F.ok sc_Steps_word_in (fun vs H Q E h=>?_) (fun cdv A outer s0 H vs Q E hr h=>?_)
  · obtain ⟨A,g,st,os,n,k,sp,rfl,_⟩:=h
    rfl
  obtain ⟨A,g,st,os,n,k,sp,rfl,R,hk,hb,q⟩:=h
  have nd:=sc_Steps_word_in.nd
  refine ⟨_,(pss_one (ps_ret (pe_ix (ix_listK (K:=K) rfl) (pe_methN M_Store_words_of hr.m T.cl_Store (pe_ix (ix_listK (K:=K) rfl) (pe_fldK (K:=K) rfl (pv 0) rfl) (pv 1) (fun _ _=>rfl)) (pc (pe_defN D_board_of hr.m rfl (pc (pe_fldK (K:=K) rfl (pv 0) rfl) (pc (pv 2) pa_nil))) pa_nil)) (pe_op op_mod (pv 2) (pe_fldK (K:=K) rfl (pv 0) rfl)) (fun _ _=>rfl)))),?_⟩
  obtain ⟨dx,h1⟩:=R.ob
  have ln:=R.ln
  obtain ⟨a,e1,e2,e3,B⟩:=R.at_ (k:=k) (by lia)
  obtain ⟨u1,u2,u3,u4,u5,u6⟩:=R.bds (k:=k) (by lia)
  obtain ⟨ds,h3⟩:=B.sto.ob
  have z0:=R.wf.z0
  have z1:=R.wf.z1
  refine ⟨_,rfl,A.p,_,dx,_,_,rfl,h1,T.cl_Stairs,T.n_Stairs_stores,tf_stores ..,_,rfl,A.ss,_,_,_,rfl,rfl,SqL.of R.ss,StairsAt.ix e1,a.sp,ds,_,rfl,h3,sf_no ..,_,rfl,A.p,_,dx,_,_,rfl,h1,T.cl_Stairs,T.n_Stairs_size,tf_size ..,_,rfl,g.size,sp,rfl,by lia,by lia,a,_,_,_,_,rfl,B,hb,fun l hl=>?_⟩
  have s1:=same_upd hl (.lst (((st.at_ k).wd (sp / g.size)).map V.int))
  have m0:0≤sp % g.size:=Int.emod_nonneg _ (by lia)
  have m1:sp % g.size<g.size:=Int.emod_lt_of_pos _ (by lia)
  exact ⟨_,rfl,_,rfl,A.p,_,dx,_,_,rfl,s1 _ _ h1,T.cl_Stairs,T.n_Stairs_size,tf_size ..,_,_,rfl,rfl,(by show 0<g.size; lia),l,_,_,_,rfl,rfl,SqL.of upd_same,at_gd (u2 _ hb).2 m0 (by lia),q _ s1⟩
def pwS (g:Pln) (s:Rm) (sp x:Int):Rm:=layS s (sp / g.size) ((s.wd (sp / g.size)).set (sp % g.size).toNat x)
def spPutWord (K:PySem.W.Frag):Sp:=fun vs H Q _=>∃ (A:TA) (g:Pln) (st:Stt) (os:OS) (n k:Nat) (sp x:Int),vs=[.ref A.p,.int (k:Int),.int sp,.int x]∧StairsAt K H A g st os n∧k<g.n∧sp / g.size∈(st.at_ k).seq∧Res K H A g os (st.set k (pwS g (st.at_ k) sp x)) n (Q .non)
theorem ok_Steps_put_word {f:Addr} {fd:FuncData} (F:Fun K "put_word" "Steps.put_word" s_Steps_put_word f fd) (T:Txt K mg) (M_Store_lay_word:MDef P w K mg base (clsOf K "Store") "lay_word" 1 P_Store_lay_word (spLayWord K)) (D_board_of:Def P w K mg base "board_of" 1 P_board_of spBoard):FnOk P w K mg base CX0 2 f fd P_Steps_put_word (spPutWord K):=by
  refine F.ok sc_Steps_put_word (fun vs H Q E h=>?_) (fun cdv A outer s0 H vs Q E hr h=>?_)
  · obtain ⟨A,g,st,os,n,k,sp,x,rfl,_⟩:=h
    rfl
  obtain ⟨A,g,st,os,n,k,sp,x,rfl,R,hk,hb,q⟩:=h
  have nd:=sc_Steps_put_word.nd
  refine ⟨_,(pss_one (ps_expr (pe_methN M_Store_lay_word hr.m T.cl_Store (pe_ix (ix_listK (K:=K) rfl) (pe_fldK (K:=K) rfl (pv 0) rfl) (pv 1) (fun _ _=>rfl)) (pc (pe_defN D_board_of hr.m rfl (pc (pe_fldK (K:=K) rfl (pv 0) rfl) (pc (pv 2) pa_nil))) (pc (pe_op op_mod (pv 2) (pe_fldK (K:=K) rfl (pv 0) rfl)) (pc (pv 3) pa_nil)))))),?_⟩
  obtain ⟨dx,h1⟩:=R.ob
  have ln:=R.ln
  obtain ⟨a,e1,e2,e3,B⟩:=R.at_ (k:=k) (by lia)
  obtain ⟨u1,u2,u3,u4,u5,u6⟩:=R.bds (k:=k) (by lia)
  obtain ⟨ds,h3⟩:=B.sto.ob
  have z0:=R.wf.z0
  have z1:=R.wf.z1
  have m0:0≤sp % g.size:=Int.emod_nonneg _ (by lia)
  have m1:sp % g.size<g.size:=Int.emod_lt_of_pos _ (by lia)
  have lw:=(u2 _ hb).2
  refine ⟨_,rfl,A.p,_,dx,_,_,rfl,h1,T.cl_Stairs,T.n_Stairs_stores,tf_stores ..,_,rfl,A.ss,_,_,_,rfl,rfl,SqL.of R.ss,StairsAt.ix e1,a.sp,ds,_,rfl,h3,sf_no ..,_,rfl,A.p,_,dx,_,_,rfl,h1,T.cl_Stairs,T.n_Stairs_size,tf_size ..,_,rfl,g.size,sp,rfl,by lia,by lia,_,rfl,_,rfl,A.p,_,dx,_,_,rfl,h1,T.cl_Stairs,T.n_Stairs_size,tf_size ..,_,_,rfl,rfl,(by show 0<g.size; lia),_,rfl,a,_,_,_,_,_,x,rfl,B,hb,m0,by lia,fun H1 B1 p1=>?_⟩
  obtain ⟨R1,p2⟩:=R.deed e1 e2 B1 p1 (fun y hy=>by
    show y∈g.U∧(if y=sp / g.size then _ else (st.at_ k).wd y).length=_
    by_cases z:y=sp / g.size
    · rw [if_pos z,List.length_set,z]; exact u2 _ hb
    · rw [if_neg z]; exact u2 y hy) u3
  exact q _ _ R1 p2
end
def Wr (s:Str):Prop:=s = "late" ∨ s = "through"
structure PlanAt (K:PySem.W.Frag) (H:Hp) (tp:Addr) (ts:List Addr) (cfs:List Cf):Prop where
  top:H tp=some (.tup (ts.map V.ref))
  len:ts.length=cfs.length
  at_:∀ (i:Nat) (t:Addr) (c:Cf),ts[i]?=some t→cfs[i]?=some c→∃ wr:Str,H t=some (.tup [.int c.sh,.int c.pl,.str c.ru,.str wr])∧c.late=decide (wr = "late")∧Wr wr
  cf:∀ c∈cfs,1≤c.sh∧c.sh≤64∧1≤c.pl∧c.pl≤16∧Rule c.ru
theorem PlanAt.frame {K:PySem.W.Frag} {H H':Hp} {tp:Addr} {ts:List Addr} {cfs:List Cf} (p:PlanAt K H tp ts cfs) (s:∀ x ys,H x=some (.tup ys)→H' x=some (.tup ys)):PlanAt K H' tp ts cfs :=
  ⟨s _ _ p.top,p.len,fun i t c h1 h2=>by obtain ⟨wr,e1,e2⟩:=p.at_ i t c h1 h2; exact ⟨wr,s _ _ e1,e2⟩,p.cf⟩
theorem PlanAt.same {K:PySem.W.Frag} {H H':Hp} {tp:Addr} {ts:List Addr} {cfs:List Cf} (p:PlanAt K H tp ts cfs) (s:Same H H'):PlanAt K H' tp ts cfs :=
  ⟨s _ _ p.top,p.len,fun i t c h1 h2=>by obtain ⟨wr,e1,e2⟩:=p.at_ i t c h1 h2; exact ⟨wr,s _ _ e1,e2⟩,p.cf⟩
def tf0 (size:Int) (ss bm:Addr) (last:Nat) (ev:Addr):List (Str×V):=putF "events" (.ref ev) (putF "last" (.int last) (putF "bottom" (.ref bm) (putF "stores" (.ref ss) (putF "size" (.int size) []))))
structure Mks (K:PySem.W.Frag) (H G:Hp) (as:List SA) (cfs:List Cf) (os:OS):Prop where
  at_:∀ (i:Nat) (a:SA) (c:Cf),as[i]?=some a→cfs[i]?=some c→StoreAt K G a c Rm0 (os i)
  fr:∀ i,i<as.length→∀ x,os i x→H x=none
  dis:∀ i j,i<as.length→j<as.length→i≠j→∀ x,os i x→¬ os j x
theorem Mks.frame {K:PySem.W.Frag} {H G G':Hp} {as:List SA} {cfs:List Cf} {os:OS} {p:Addr} (m:Mks K H G as cfs os) (hp:H p≠none) (f:∀ x o,G x=some o→x≠p→G' x=some o):Mks K H G' as cfs os :=
  ⟨fun i a c h1 h2=>(m.at_ i a c h1 h2).frame fun x o h e=>f x o e fun z=>hp (z ▸ m.fr i (List.getElem?_eq_some_iff.mp h1).1 x h),m.fr,m.dis⟩
theorem Mks.ex {K:PySem.W.Frag} {H G:Hp} {as:List SA} {cfs:List Cf} {os:OS} (m:Mks K H G as cfs os) (l:as.length≤cfs.length) {i:Nat} (hi:i<as.length) {x:Addr} (h:os i x):G x≠none :=
  (m.at_ i _ _ (List.getElem?_eq_getElem hi) (List.getElem?_eq_getElem (Nat.lt_of_lt_of_le hi l))).sto.ex x h
def St0 (n:Nat):Stt:=⟨List.replicate n Rm0,fun _=>0,[]⟩
section
def spSteps (K:PySem.W.Frag):Sp:=fun vs H Q _=>∃ (p dx tp:Addr) (size:Int) (ts:List Addr) (cfs:List Cf),vs=[.ref p,.int size,.ref tp]∧H p=some (.ins (clsOf K "Stairs") dx [])∧PlanAt K H tp ts cfs∧cfs.length≤4∧Tb K H ∧
  ∀ (A:TA) (os:OS) (H':Hp),A.p=p→H' p=some (.ins (clsOf K "Stairs") dx (tf0 size A.ss A.bm A.as.length A.ev))→(∀ kind U,WF ⟨size,kind,cfs,U⟩→StairsAt K (upd H' p (.ins (clsOf K "Stairs") dx (tflds size A.ss A.bm A.as.length A.ev kind))) A ⟨size,kind,cfs,U⟩ (St0 cfs.length) os 0) →
    (∀ x,OW A os x→x≠p→H x=none)→(∀ b o,H b=some o→b≠p→H' b=some o)→Q .non H'
theorem ok_Steps_init {f:Addr} {fd:FuncData} (F:Fun K "__init__" "Steps.__init__" s_Steps_init f fd) (T:Txt K mg) (K_Store:KDef P w K mg base (clsOf K "Store") "Store" 3 P_Store_init (spStore K)) (K_Memory:KDef P w K mg base (clsOf K "Memory") "Memory" 1 P_Memory_init (spMem K)):FnOk P w K mg base CX0 5 f fd P_Steps_init (spSteps K):=by
  refine F.ok sc_Steps_init (fun vs H Q E h=>?_) (fun cdv A outer s0 H vs Q E hr h=>?_)
  · obtain ⟨p,dx,tp,size,ts,cfs,rfl,_⟩:=h
    rfl
  obtain ⟨p,dx,tp,size,ts,cfs,rfl,hp,pa,l4,tb,k⟩:=h
  have nd:=sc_Steps_init.nd
  refine ⟨_,(pss_cons (ps_fld (pv 0) (pv 1) rfl)
      (pss_cons (ps_fld (pv 0) (pe_comp0 (compOk_of (osc:=(defScope s_Steps_init)) (oN:=N_Steps_init) (N:=["room_plan"]) (own:=1) (js:=[]) (by decide +kernel) rfl rfl) rfl (pi_tupK (K:=K) rfl (pv 2)) (fun _ _ _ _ _ _=>(pgn 0 (show List.Nodup (["room_plan"]:List Str) by decide +kernel))) (fun _ _ _ _ _ _=>(pe_makeN K_Store hr.m rfl (pc (pv 0) pa_nil)))) rfl)
      (pss_cons (ps_fld (pv 0) (pe_makeN K_Memory hr.m rfl (pc (pv 1) pa_nil)) rfl)
      (pss_cons (ps_fld (pv 0) (pe_callBN (call_len_seqK (K:=K) rfl) rfl T.z_len PySem.boot_len (pc (pe_fldK (K:=K) rfl (pv 0) rfl) pa_nil)) rfl)
      (pss_one (ps_fld (pv 0) (pe_lst pa_nil) rfl)))))),?_⟩
  refine ⟨_,rfl,_,rfl,p,_,dx,_,rfl,hp,T.cl_Stairs,T.n_Stairs_size,(by show 0<1000; decide),?_⟩
  have fu:∀ {G:Hp} {o':HO} x o,G x=some o→x≠p→upd G p o' x=some o:=fun x o e n=>by rw [upd_ne n]; exact e
  have hpn:H p≠none:=by rw [hp]; simp
  have nk:∀ {x o},H x=some o→(∀ C d f,o≠.ins C d f)→x≠p:=fun {x o} q m z=>by rw [z,hp] at q; exact m _ _ _ (Option.some.inj q).symm
  have e1:upd H p (.ins (clsOf K "Stairs") dx (putF "size" (.int size) [])) p=some (.ins (clsOf K "Stairs") dx (putF "size" (.int size) [])):=upd_same
  have f1:∀ x o,H x=some o→x≠p→upd H p (.ins (clsOf K "Stairs") dx (putF "size" (.int size) [])) x=some o:=fu
  have n1:∀ x,upd H p (.ins (clsOf K "Stairs") dx (putF "size" (.int size) [])) x=none→H x=none:=fun x e=>by
    by_cases z:x=p
    · rw [z,upd_same] at e; cases e
    · rw [upd_ne z] at e; exact e
  generalize upd H p (.ins (clsOf K "Stairs") dx (putF "size" (.int size) []))=H1 at *
  have pa1:=pa.frame (H':=H1) fun x ys e=>f1 x _ e (nk e (fun _ _ _ z=>by cases z))
  refine ⟨_,rfl,tp,rfl,⟨_,SqT.of pa1.top⟩,fun ss hss=>?_⟩
  refine comp_tup (K:=K) (a:=tp) (xs:=ts.map V.ref) (l:=ss) (fun j ys σ G=>∃ (v0:Option V) (as:List SA) (os:OS),σ=[v0]∧ys=as.map (fun a=>V.ref a.sp)∧as.length=j∧G ss=some (.lst ys)∧Same H1 G∧Mks K H G as cfs os∧∀ i,i<as.length→¬ os i ss)
    ⟨none,[],fun _ _=>False,rfl,rfl,rfl,upd_same,same_upd hss _,⟨fun i a c h=>by simp at h,fun i h=>by simp at h,fun i j h=>by simp at h⟩,fun i h=>by simp at h⟩ (fun j ys σ G _ ⟨_,_,_,_,_,_,_,s,_⟩=>SqT.of (s _ _ pa1.top)) ?_ ?_
  · rintro j x ys σ G hj hxj hys ⟨v0,as,os,rfl,rfl,hlen,g1,s1,mk,ns⟩
    rw [List.length_map] at hj
    rw [List.getElem?_map] at hxj
    obtain ⟨t,et,rfl⟩:∃ t,ts[j]?=some t∧V.ref t=x:=by
      cases e:ts[j]? with
      | none=>rw [e] at hxj; cases hxj
      | some t=>rw [e] at hxj; exact ⟨t,rfl,Option.some.inj hxj⟩
    have hjc:j<cfs.length:=by rw [← pa.len]; exact hj
    have ec:cfs[j]?=some cfs[j]:=List.getElem?_eq_getElem hjc
    obtain ⟨wr,q1,q2,_⟩:=pa1.at_ j t _ et ec
    have cb:=pa.cf _ (List.getElem_mem hjc)
    have q1':=s1 _ _ q1
    refine ⟨_,rfl,fun x dx' hx hdx ne=>⟨x,dx',t,cfs[j].sh,cfs[j].pl,cfs[j].ru,wr,rfl,upd_same,SqT.of ?_,cb.1,cb.2.1,fun a G1 ea S1 k2=>⟨rfl,?_⟩⟩⟩
    · rw [upd_ne (ne_of_none q1' hx),upd_ne (ne_of_none q1' hdx)]; exact q1'
    have sG:Same G G1:=fun y o e=>k2 y o (by rw [upd_ne (ne_of_none e hx),upd_ne (ne_of_none e hdx)]; exact e) (ne_of_none e hx)
    have newG:∀ y,(y=x∨(upd (upd G dx' (.own x)) x (.ins (clsOf K "Store") dx' []) y=none∧G1 y≠none))→G y=none:=fun y h=>by
      rcases h with h | h
      · rw [h]; exact hx
      · cases q:G y with
        | none=>rfl
        | some o=>have e:=h.1; rw [upd_ne (ne_of_none q hx),upd_ne (ne_of_none q hdx),q] at e; cases e
    rw [show (⟨cfs[j].sh,cfs[j].pl,cfs[j].ru,decide (wr = "late")⟩:Cf)=cfs[j] by rw [← q2]] at S1
    rw [show V.ref x=V.ref a.sp by rw [ea]]
    have g1':=sG _ _ g1
    have lle:as.length≤cfs.length:=by lia
    obtain ⟨N,S1,newG⟩:∃ N:Addr→Prop,StoreAt K G1 a cfs[j] Rm0 N∧∀ y,N y→G y=none:=⟨_,S1,newG⟩
    have nN:¬ N ss:=fun h=>by have q:=newG ss h; rw [g1] at q; cases q
    have la:∀ {i:Nat} {b:SA},(as++[a])[i]?=some b→(i<as.length∧as[i]?=some b)∨(i=as.length∧b=a):=fun {i b} hb=>by
      by_cases hi:i<as.length
      · rw [List.getElem?_append_left hi] at hb; exact .inl ⟨hi,hb⟩
      · have:=(List.getElem?_eq_some_iff.mp hb).1
        rw [List.length_append,List.length_singleton] at this
        have hi2:i=as.length:=by lia
        subst hi2
        rw [List.getElem?_append_right (Nat.le_refl _),Nat.sub_self] at hb
        cases hb
        exact .inr ⟨rfl,rfl⟩
    have os':∀ {i},i<as.length→(os.set as.length N) i=os i:=fun {i} h=>if_neg (by lia)
    have osN:(os.set as.length N) as.length=N:=if_pos rfl
    have cs:∀ {i},i<(as++[a]).length→i<as.length∨i=as.length:=fun {i} h=>by rw [List.length_append,List.length_singleton] at h; lia
    refine CNx.of (Nat.le_of_lt (small1000 (by rw [List.length_map,pa.len]; lia))) (by rw [List.length_map]; exact hj) hys g1' ⟨_,as++[a],os.set as.length N,rfl,by rw [List.map_append]; rfl,by rw [List.length_append,hlen]; rfl,upd_same,fun y o e=>?_,⟨fun i b c hb hc=>?_,fun i hi y hy=>?_,fun i i' hi hi' nn y h1 h2=>?_⟩,fun i hi=>?_⟩
    · rw [upd_ne (ne_of_none e hss)]; exact sG _ _ (s1 _ _ e)
    · rcases la hb with ⟨hi,hb⟩ | ⟨hi,rfl⟩
      · rw [os' hi]
        exact (mk.at_ i b c hb hc).frame fun y o h e=>by rw [upd_ne (fun z:y=ss=>ns i hi (z ▸ h))]; exact sG _ _ e
      · subst hi
        rw [osN]
        rw [hlen,ec] at hc; cases hc
        exact S1.frame fun y o h e=>by rw [upd_ne (fun z:y=ss=>nN (z ▸ h))]; exact e
    · rcases cs hi with h | h
      · rw [os' h] at hy; exact mk.fr i h y hy
      · rw [h,osN] at hy; exact n1 _ (s1.free (newG y hy))
    · rcases cs hi with a1 | a1
      · rw [os' a1] at h1
        rcases cs hi' with a2 | a2
        · rw [os' a2] at h2; exact mk.dis i i' a1 a2 nn y h1 h2
        · rw [a2,osN] at h2; exact mk.ex lle a1 h1 (newG y h2)
      · rw [a1,osN] at h1
        rcases cs hi' with a2 | a2
        · rw [os' a2] at h2; exact mk.ex lle a2 h2 (newG y h1)
        · exact nn (a1.trans a2.symm)
    · rcases cs hi with h | h
      · rw [os' h]; exact ns i h
      · rw [h,osN]; exact nN
  rintro ys σ G hys ⟨v0,as,os,rfl,rfl,hlen,g1,s1,mk,ns⟩
  rw [List.length_map,pa.len] at hlen
  have hp2:=s1 _ _ e1
  have fG:∀ x o,H x=some o→x≠p→G x=some o:=fun x o e n=>s1 _ _ (f1 x o e n)
  refine ⟨_,rfl,p,_,dx,_,rfl,hp2,T.cl_Stairs,T.n_Stairs_stores,(by show 1<1000; decide),?_⟩
  have nsp:ss≠p:=fun z=>by rw [z,hp2] at g1; cases g1
  have e2:upd G p (.ins (clsOf K "Stairs") dx (putF "stores" (.ref ss) (putF "size" (.int size) []))) p=some (.ins (clsOf K "Stairs") dx (putF "stores" (.ref ss) (putF "size" (.int size) []))):=upd_same
  have f2:∀ x o,G x=some o→x≠p→upd G p (.ins (clsOf K "Stairs") dx (putF "stores" (.ref ss) (putF "size" (.int size) []))) x=some o:=fu
  generalize upd G p (.ins (clsOf K "Stairs") dx (putF "stores" (.ref ss) (putF "size" (.int size) [])))=H2 at *
  have mk2:=mk.frame hpn f2
  refine ⟨_,rfl,fun bm bx hbm hbx nbx=>⟨bm,bx,size,rfl,upd_same,fun dk H3 M3 fdk k3=>⟨rfl,?_⟩⟩⟩
  have s3:Same H2 H3:=fun y o e=>k3 y o (by rw [upd_ne (ne_of_none e hbm),upd_ne (ne_of_none e hbx)]; exact e) (ne_of_none e hbm)
  have ndk:H2 dk=none:=by
    cases q:H2 dk with
    | none=>rfl
    | some o=>rw [upd_ne (ne_of_none q hbm),upd_ne (ne_of_none q hbx),q] at fdk; cases fdk
  have e3:=s3 _ _ e2
  have npb:p≠bm:=ne_of_none e2 hbm
  have npk:p≠dk:=ne_of_none e2 ndk
  refine ⟨_,rfl,p,_,dx,_,rfl,e3,T.cl_Stairs,T.n_Stairs_bottom,(by show 2<1000; decide),?_⟩
  have e4:upd H3 p (.ins (clsOf K "Stairs") dx (putF "bottom" (.ref bm) (putF "stores" (.ref ss) (putF "size" (.int size) [])))) p=some (.ins (clsOf K "Stairs") dx (putF "bottom" (.ref bm) (putF "stores" (.ref ss) (putF "size" (.int size) [])))):=upd_same
  have f4:∀ x o,H3 x=some o→x≠p→upd H3 p (.ins (clsOf K "Stairs") dx (putF "bottom" (.ref bm) (putF "stores" (.ref ss) (putF "size" (.int size) [])))) x=some o:=fu
  generalize upd H3 p (.ins (clsOf K "Stairs") dx (putF "bottom" (.ref bm) (putF "stores" (.ref ss) (putF "size" (.int size) []))))=H4 at *
  have g4:=f4 _ _ (s3 _ _ (f2 _ _ g1 nsp)) nsp
  have lks:(putF "bottom" (.ref bm) (putF "stores" (.ref ss) (putF "size" (.int size) [])):List (Str×V)).lookup ("stores" : Str)=some (.ref ss):=by rw [lookup_putF,if_neg (by decide +kernel),lookup_putF,if_pos rfl]
  refine ⟨_,rfl,p,_,dx,_,_,rfl,e4,T.cl_Stairs,T.n_Stairs_stores,lks,ss,_,rfl,.inl (SqL.of g4),_,rfl,p,_,dx,_,rfl,e4,T.cl_Stairs,T.n_Stairs_last,(by show 3<1000; decide),?_⟩
  rw [List.length_map]
  have e5:upd H4 p (.ins (clsOf K "Stairs") dx (putF "last" (.int (as.length:Int)) (putF "bottom" (.ref bm) (putF "stores" (.ref ss) (putF "size" (.int size) []))))) p=some (.ins (clsOf K "Stairs") dx (putF "last" (.int (as.length:Int)) (putF "bottom" (.ref bm) (putF "stores" (.ref ss) (putF "size" (.int size) []))))):=upd_same
  have f5:∀ x o,H4 x=some o→x≠p→upd H4 p (.ins (clsOf K "Stairs") dx (putF "last" (.int (as.length:Int)) (putF "bottom" (.ref bm) (putF "stores" (.ref ss) (putF "size" (.int size) []))))) x=some o:=fu
  generalize upd H4 p (.ins (clsOf K "Stairs") dx (putF "last" (.int (as.length:Int)) (putF "bottom" (.ref bm) (putF "stores" (.ref ss) (putF "size" (.int size) [])))))=H5 at *
  have f35:∀ x o,H3 x=some o→x≠p→H5 x=some o:=fun x o e n=>f5 _ _ (f4 _ _ e n) n
  have f25:∀ x o,H2 x=some o→x≠p→H5 x=some o:=fun x o e n=>f35 _ _ (s3 _ _ e) n
  have mk5:=mk2.frame hpn f25
  have f05:∀ x o,H x=some o→x≠p→H5 x=some o:=fun x o e n=>f25 _ _ (f2 _ _ (fG x o e n) n) n
  refine ⟨(by show 0≤sizeLine; decide),fun ev hev=>⟨_,rfl,p,_,dx,_,rfl,same_upd hev _ _ _ e5,T.cl_Stairs,T.n_Stairs_events,(by show 4<1000; decide),?_⟩⟩
  have s6:=same_upd hev (.lst ([]:List V))
  have nev:ev≠p:=fun z=>by rw [z,e5] at hev; cases hev
  have lle:as.length≤cfs.length:=by lia
  have nH:∀ {x},H5 x=none→x≠p→H x=none:=fun {x} h n=>by
    cases q:H x with
    | none=>rfl
    | some o=>rw [f05 x o q n] at h; cases h
  have nH2:∀ {x},H2 x=none→x≠p→H x=none:=fun {x} h n=>by
    cases q:H x with
    | none=>rfl
    | some o=>rw [f2 _ _ (fG x o q n) n] at h; cases h
  refine k ⟨p,ss,bm,dk,ev,as⟩ os _ rfl upd_same (fun kind U wf=>?_) (fun x hx n=>?_) fun x o e n=>?_
  · rw [upd_upd]
    have ff:∀ x o,H5 x=some o→x≠p→upd (upd H5 ev (.lst [])) p (.ins (clsOf K "Stairs") dx (tflds size ss bm as.length ev kind)) x=some o:=fun x o e n=>fu x o (s6 _ _ e) n
    have mk6:=mk5.frame hpn ff
    have g5:=f5 _ _ g4 nsp
    have rp:∀ {s:Rm},s∈List.replicate cfs.length Rm0→s=Rm0:=fun h=>(List.mem_replicate.mp h).2
    refine ⟨⟨dx,upd_same⟩,ff _ _ g5 nsp,(M3 U).frame fun x o m e=>ff x o (f35 x o e ?_) ?_,⟨(fun e m=>by cases m),[],by show upd _ p _ ev=_; rw [upd_ne nev]; exact upd_same,rfl,fun i t e q _=>by simp at q⟩,Nat.le_refl _,hlen.symm,by show (List.replicate _ _).length=_; rw [List.length_replicate]; exact hlen.symm,fun j b c s hb hc hs=>?_,fun j hj x h z=>?_,mk6.dis,ne_of_none g5 hev,npb,fun s hs b hb=>?_,fun j c s hc hs t=>?_,fun s hs b hb=>?_,wf,ff _ _ (f05 _ _ tb (nk tb (fun _ _ _ z=>by cases z))) (nk tb (fun _ _ _ z=>by cases z))⟩
    · rcases m with rfl | rfl; exact Ne.symm npb; exact Ne.symm npk
    · rcases m with rfl | rfl; exact Ne.symm npb; exact Ne.symm npk
    · have hs:(List.replicate cfs.length Rm0)[j]?=some s:=hs
      rw [rp (List.mem_of_getElem? hs)]
      exact mk6.at_ j b c hb hc
    · rcases z with z | z | z | z | z
      · exact hpn ((show x=p from z) ▸ mk6.fr j hj x h)
      · exact ns j hj ((show x=ss from z) ▸ h)
      · exact mk2.ex lle hj h (by rw [z]; exact hbm)
      · exact mk2.ex lle hj h (by rw [z]; exact ndk)
      · exact mk5.ex lle hj h (by rw [z]; exact hev)
    · rw [rp hs] at hb; exact absurd hb (by simp [Rm0])
    · have hs:(List.replicate cfs.length Rm0)[j]?=some s:=hs
      rw [rp (List.mem_of_getElem? hs)]
      show ((0:Nat):Int)≤c.pl
      have:=(wf.cf c (List.mem_of_getElem? hc)).1
      lia
    · rw [rp hs] at hb; exact absurd hb (by simp [Rm0])
  · rcases hx with hx | ⟨j,hj,hx⟩
    · rcases hx with z | z | z | z | z
      · exact absurd z n
      · rw [z]; exact n1 _ hss
      · rw [z]; exact nH2 hbm (Ne.symm npb)
      · rw [z]; exact nH2 ndk (Ne.symm npk)
      · rw [z]; exact nH hev nev
    · exact mk5.fr j hj x hx
  · rw [upd_ne n]
    exact s6 _ _ (f05 x o e n)
def spStairs (K:PySem.W.Frag):Sp:=fun vs H Q _=>∃ (p dx pp tp:Addr) (size:Int) (kind:Str) (ts:List Addr) (cfs:List Cf),vs=[.ref p,.ref pp]∧H p=some (.ins (clsOf K "Stairs") dx [])∧H pp=some (.tup [.int size,.str kind,.ref tp])∧PlanAt K H tp ts cfs∧cfs.length≤4∧Tb K H ∧
  ∀ (A:TA) (os:OS) (H':Hp),A.p=p→(∀ U,WF ⟨size,kind,cfs,U⟩→StairsAt K H' A ⟨size,kind,cfs,U⟩ (St0 cfs.length) os 0)→(∀ x,OW A os x→x≠p→H x=none)→(∀ b o,H b=some o→b≠p→H' b=some o)→Q .non H'
theorem ok_Stairs_init {f:Addr} {fd:FuncData} (F:Fun K "__init__" "Stairs.__init__" s_Stairs_init f fd) (T:Txt K mg) (C_Steps_init:CDef P w K mg base "Steps" "__init__" 5 P_Steps_init (spSteps K)):FnOk P w K mg base CX0 6 f fd P_Stairs_init (spStairs K):=by
  refine F.ok sc_Stairs_init (fun vs H Q E h=>?_) (fun cdv A outer s0 H vs Q E hr h=>?_)
  · obtain ⟨p,dx,pp,tp,size,kind,ts,cfs,rfl,_⟩:=h
    rfl
  obtain ⟨p,dx,pp,tp,size,kind,ts,cfs,rfl,hp,hpp,pa,l4,tb,q⟩:=h
  have nd:=sc_Stairs_init.nd
  refine ⟨_,(pss_cons (ps_asg (pv 1) (pg_tupK (K:=K) (n:=3) rfl rfl (pgs_cons (pgn 2 nd) (pgs_cons (pgn 3 nd) (pgs_cons (pgn 4 nd) pgs_nil)))))
      (pss_cons (ps_expr (pe_clsN C_Steps_init hr.m rfl (pc (pv 0) (pc (pv 2) (pc (pv 4) pa_nil)))))
      (pss_one (ps_fld (pv 0) (pv 3) rfl)))),?_⟩
  refine ⟨_,rfl,pp,_,rfl,SqT.of hpp,rfl,_,_,rfl,gN ⟨_,_,rfl,gN ⟨_,_,rfl,gN ⟨rfl,?_⟩⟩⟩⟩
  try dsimp only
  refine ⟨_,rfl,_,rfl,_,rfl,p,dx,tp,size,ts,cfs,rfl,hp,pa,l4,tb,fun A os H1 ep h1 RS f1 k1=>?_⟩
  refine ⟨_,rfl,_,rfl,p,_,dx,_,rfl,h1,T.cl_Stairs,T.n_Stairs_kind,(by show 5<1000; decide),?_⟩
  exact q A os _ ep (fun U wf=>RS kind U wf) f1 fun x o e n=>by rw [upd_ne n]; exact k1 x o e n
end
def nearF (st:Stt) (b:Int):Nat:=st.rm.findIdx fun s=>decide (b∈s.seq)
def freshS (k:Nat) (b:Int) (st:Stt):Stt:=st.set k (frS (st.at_ k) b)
def goOn (g:Pln) (b:Int) (ws:List Int):Nat→Nat→Stt→Stt
  | 0,k,st=>putS g k b ws st
  | r+1,k,st=>if b∈(st.at_ k).seq then (if (g.cf k).late=true then freshS k b (putS g k b ws st) else goOn g b ws r (k+1) (putS g k b ws st)) else goOn g b ws r (k+1) st
def changeS (g:Pln) (k:Nat) (b:Int) (st:Stt):Stt:=if (g.cf k).late=true then freshS k b st else goOn g b ((st.at_ k).wd b) (g.n - (k+1)) (k+1) st
def outsS (b:Int):Nat→Stt→List Int→Bool→Stt×List Int×Bool
  | 0,st,ws,fr=>(st,ws,fr)
  | j+1,st,ws,fr=>if b∈(st.at_ j).seq then outsS b j (goS j b st) ((st.at_ j).wd b) (fr || (st.at_ j).fr b) else outsS b j st ws fr
def drv1 (g:Pln) (k:Nat) (b:Int) (st:Stt):Stt×List Int×Bool:=if g.kind = "within" then outsS b k (goS k b st) ((st.at_ k).wd b) ((st.at_ k).fr b) else (goS k b st,(st.at_ k).wd b,(st.at_ k).fr b)
def driveS (g:Pln) (k:Nat) (b:Int) (st:Stt):Stt:=if (drv1 g k b st).2.2=true then goOn g b (drv1 g k b st).2.1 (g.n - (k+1)) (k+1) (drv1 g k b st).1 else (drv1 g k b st).1
noncomputable def leaveS (g:Pln) (j:Nat) (b:Int) (st:Stt):Stt:=match goneF (g.cf j) (st.at_ j) b with
  | none=>st
  | some o=>driveS g j o st
noncomputable def downS (g:Pln) (b:Int) (ws:List Int):Nat→Stt→Stt
  | 0,st=>st
  | j+1,st=>downS g b ws j (comeS j b ws (leaveS g j b st))
def usedS (g:Pln) (k:Nat) (b:Int) (st:Stt):Stt:=if k<g.n then st.set k (useS (g.cf k) (st.at_ k) b) else st
noncomputable def fetchD (g:Pln) (k:Nat) (b:Int) (st:Stt):Stt:=downS g b (wordsF g (usedS g k b st) k b) k (usedS g k b st)
def comeA (g:Pln) (k:Nat) (b:Int) (ws:List Int) (fr:Bool) (st:Stt):Stt:=if fr=true then changeS g k b (comeS k b ws st) else comeS k b ws st
noncomputable def pushS (g:Pln):Nat→Nat→Int→List Int→Bool→Stt→Stt
  | 0,k,b,ws,fr,st=>if fr=true then putS g k b ws st else st
  | r+1,k,b,ws,fr,st=>match goneF (g.cf k) (st.at_ k) b with
    | none=>comeA g k b ws fr st
    | some o=>pushS g r (k+1) o ((st.at_ k).wd o) ((st.at_ k).fr o) (comeA g k b ws fr (goS k o st))
noncomputable def fetchA (g:Pln) (k:Nat) (b:Int) (st:Stt):Stt:=if k=0 then usedS g 0 b st else if k=g.n then pushS g g.n 0 b (memW g.size st.mem b) false st else pushS g g.n 0 b ((st.at_ k).wd b) ((st.at_ k).fr b) (goS k b st)
noncomputable def fetchS (g:Pln) (b:Int) (st:Stt):Stt:=if g.kind = "apart" then fetchA g (nearF st b) b (st.tell (eF (nearF st b))) else fetchD g (nearF st b) b (st.tell (eF (nearF st b)))
noncomputable def writeS (g:Pln) (sp x:Int) (st:Stt):Stt:=(fun s1:Stt=>changeS g 0 (sp / g.size) (s1.set 0 (pwS g (s1.at_ 0) sp x))) (fetchS g (sp / g.size) st)
theorem at_set' {st:Stt} {k j:Nat} {s:Rm}:(st.set k s).at_ j=if j=k∧k<st.rm.length then s else st.at_ j:=by
  by_cases h:k<st.rm.length
  · rw [Stt.at_set h]
    by_cases z:j=k
    · rw [if_pos z,if_pos ⟨z,h⟩]
    · rw [if_neg z,if_neg (fun q=>z q.1)]
  · rw [if_neg (fun q=>h q.2)]
    unfold Stt.at_ Stt.set
    rw [List.set_eq_of_length_le (by lia)]
theorem at_tell {st:Stt} {e:List V} {j:Nat}:(st.tell e).at_ j=st.at_ j:=rfl
theorem set_sq {st:Stt} {k j:Nat} {s:Rm} (h:s.seq=(st.at_ k).seq):((st.set k s).at_ j).seq=(st.at_ j).seq:=by
  rw [at_set']
  split
  · rename_i q; rw [h,q.1]
  · rfl
theorem set_len {st:Stt} {k:Nat} {s:Rm}:(st.set k s).rm.length=st.rm.length:=List.length_set ..
theorem put_sq {g:Pln} {k:Nat} {b:Int} {ws:List Int} {st:Stt} {j:Nat}:((putS g k b ws st).at_ j).seq=(st.at_ j).seq:=by
  unfold putS
  split
  · rfl
  · exact set_sq rfl
theorem put_len {g:Pln} {k:Nat} {b:Int} {ws:List Int} {st:Stt}:(putS g k b ws st).rm.length=st.rm.length:=by
  unfold putS
  split
  · rfl
  · exact set_len
theorem fresh_sq {k j:Nat} {b:Int} {st:Stt}:((freshS k b st).at_ j).seq=(st.at_ j).seq:=set_sq rfl
theorem goOn_sq {g:Pln} {b:Int} {ws:List Int} {j:Nat}:∀ {r k:Nat} {st:Stt},((goOn g b ws r k st).at_ j).seq=(st.at_ j).seq
  | 0,k,st=>put_sq
  | r+1,k,st=>by
    rw [goOn]
    split
    · split
      · rw [fresh_sq,put_sq]
      · exact goOn_sq.trans put_sq
    · exact goOn_sq
theorem change_sq {g:Pln} {k:Nat} {b:Int} {st:Stt} {j:Nat}:((changeS g k b st).at_ j).seq=(st.at_ j).seq:=by
  unfold changeS
  split
  · exact fresh_sq
  · exact goOn_sq
theorem go_sq {k j:Nat} {b:Int} {st:Stt} (h:k<st.rm.length):((goS k b st).at_ j).seq=if j=k then (st.at_ j).seq.erase b else (st.at_ j).seq:=by
  unfold goS
  rw [Stt.at_set (by exact h)]
  by_cases z:j=k
  · rw [if_pos z,if_pos z,z]; rfl
  · rw [if_neg z,if_neg z]; rfl
theorem go_len {k:Nat} {b:Int} {st:Stt}:(goS k b st).rm.length=st.rm.length:=set_len
theorem outs_sq {b:Int} {j:Nat}:∀ {k:Nat} {st:Stt} {ws:List Int} {fr:Bool},k≤st.rm.length→((outsS b k st ws fr).1.at_ j).seq=if j<k then (st.at_ j).seq.erase b else (st.at_ j).seq
  | 0,st,ws,fr,_=>by rw [outsS,if_neg (by lia)]
  | k+1,st,ws,fr,h=>by
    rw [outsS]
    split
    · rw [outs_sq (by rw [go_len]; lia),go_sq (by lia)]
      by_cases z:j=k
      · rw [if_neg (by lia),if_pos z,if_pos (by lia)]
      · rw [if_neg z]
        by_cases y:j<k
        · rw [if_pos y,if_pos (by lia)]
        · rw [if_neg y,if_neg (by lia)]
    · rename_i m
      rw [outs_sq (by lia)]
      by_cases z:j=k
      · rw [if_neg (by lia),if_pos (by lia),z,List.erase_of_not_mem m]
      · by_cases y:j<k
        · rw [if_pos y,if_pos (by lia)]
        · rw [if_neg y,if_neg (by lia)]
theorem drv1_sq {g:Pln} {k:Nat} {b:Int} {st:Stt} {j:Nat} (h:k<st.rm.length):((drv1 g k b st).1.at_ j).seq=if j=k∨(g.kind = "within" ∧ j<k) then (st.at_ j).seq.erase b else (st.at_ j).seq:=by
  unfold drv1
  split
  · rename_i w
    rw [outs_sq (by rw [go_len]; lia),go_sq h]
    by_cases z:j=k
    · rw [if_neg (by lia),if_pos z,if_pos (.inl z)]
    · rw [if_neg z]
      by_cases y:j<k
      · rw [if_pos y,if_pos (.inr ⟨w,y⟩)]
      · rw [if_neg y,if_neg (by lia)]
  · rename_i w
    show ((goS k b st).at_ j).seq=_
    rw [go_sq h]
    by_cases z:j=k
    · rw [if_pos z,if_pos (.inl z)]
    · rw [if_neg z,if_neg (fun q=>q.elim z fun q=>w q.1)]
theorem drive_sq {g:Pln} {k:Nat} {b:Int} {st:Stt} {j:Nat} (h:k<st.rm.length):((driveS g k b st).at_ j).seq=if j=k∨(g.kind = "within" ∧ j<k) then (st.at_ j).seq.erase b else (st.at_ j).seq:=by
  unfold driveS
  split
  · rw [goOn_sq]; exact drv1_sq h
  · exact drv1_sq h
theorem come_sq {k j:Nat} {b:Int} {ws:List Int} {st:Stt} (h:k<st.rm.length):((comeS k b ws st).at_ j).seq=if j=k then (st.at_ j).seq++[b] else (st.at_ j).seq:=by
  unfold comeS
  rw [at_tell,Stt.at_set h]
  by_cases z:j=k
  · rw [if_pos z,if_pos z,z]; rfl
  · rw [if_neg z,if_neg z]
theorem comeA_sq {g:Pln} {k j:Nat} {b:Int} {ws:List Int} {fr:Bool} {st:Stt} (h:k<st.rm.length):((comeA g k b ws fr st).at_ j).seq=if j=k then (st.at_ j).seq++[b] else (st.at_ j).seq:=by
  unfold comeA
  split
  · rw [change_sq]; exact come_sq h
  · exact come_sq h
theorem near_lt {st:Stt} {b:Int} (h:nearF st b<st.rm.length):b∈(st.at_ (nearF st b)).seq:=by
  have e:=Stt.at_of h
  rw [List.getElem?_eq_getElem h] at e
  have:=List.findIdx_getElem (w:=h)
  rw [decide_eq_true_eq] at this
  rw [← Option.some.inj e]
  exact this
theorem near_not {st:Stt} {b:Int} {j:Nat} (h:j<nearF st b) (hl:j<st.rm.length):b∉(st.at_ j).seq:=by
  have e:=Stt.at_of hl
  rw [List.getElem?_eq_getElem hl] at e
  rw [← Option.some.inj e]
  have:=List.not_of_lt_findIdx h
  simpa using this
theorem near_le (st:Stt) (b:Int):nearF st b≤st.rm.length:=List.findIdx_le_length
theorem goneF_mem {c:Cf} {s:Rm} {b g:Int} (h:goneF c s b=some g):g∈s.seq∧g % c.sh=b % c.sh∧goneP c.ru s.us c.pl (shelfS c.sh (b % c.sh) s.seq) (some g):=by
  unfold goneF at h
  split at h
  · rename_i e
    have q:=Classical.choose_spec e
    rw [h] at q
    by_cases l:((shelfS c.sh (b % c.sh) s.seq).length:Int)<c.pl
    · exact absurd (q.1 l) (by simp)
    · obtain ⟨g',r,e',p,_⟩:=q.2 l
      cases e'
      have m:=mem_shelfS.mp (p.mem_iff.mp List.mem_cons_self)
      exact ⟨m.1,m.2,q⟩
  · cases h
theorem gone_lt {c:Cf} {s:Rm} {b:Int} (h:goneP c.ru s.us c.pl (shelfS c.sh (b % c.sh) s.seq) none):((shelfS c.sh (b % c.sh) s.seq).length:Int)<c.pl:=by
  by_cases l:((shelfS c.sh (b % c.sh) s.seq).length:Int)<c.pl
  · exact l
  · obtain ⟨_,_,z,_⟩:=h.2 l
    cases z
theorem gone_out {c:Cf} {seq:List Int} {b g:Int} (hf:∀ t,((shelfS c.sh t seq).length:Int)≤c.pl) (h:g∈seq) (e:g % c.sh=b % c.sh):((shelfS c.sh (b % c.sh) (seq.erase g)).length:Int)<c.pl:=by
  have m:g∈shelfS c.sh (b % c.sh) seq:=mem_shelfS.mpr ⟨h,e⟩
  rw [shelfS_erase,List.length_erase_of_mem m]
  have:=List.length_pos_of_mem m
  have:=hf (b % c.sh)
  lia
section
def spNearest (K:PySem.W.Frag):Sp:=fun vs H Q _=>∃ (A:TA) (g:Pln) (st:Stt) (os:OS) (n:Nat) (b:Int),vs=[.ref A.p,.int b]∧StairsAt K H A g st os n∧∀ H',Same H H'→Q (.int (nearF st b:Nat)) H'
theorem ok_Stairs_nearest {f:Addr} {fd:FuncData} (F:Fun K "nearest" "Stairs.nearest" s_Stairs_nearest f fd) (T:Txt K mg) (M_Store_has:MDef P w K mg base (clsOf K "Store") "has" 2 P_Store_has (spSHas K)):FnOk P w K mg base CX0 3 f fd P_Stairs_nearest (spNearest K):=by
  refine F.ok sc_Stairs_nearest (fun vs H Q E h=>?_) (fun cdv A outer s0 H vs Q E hr h=>?_)
  · obtain ⟨A,g,st,os,n,b,rfl,_⟩:=h
    rfl
  obtain ⟨A,g,st,os,n,b,rfl,R,q⟩:=h
  have nd:=sc_Stairs_nearest.nd
  refine ⟨_,(pss_cons (ps_for PassesOwn.never rfl (pi_enum rfl T.z_enumerate (pc (pe_fldK (K:=K) rfl (pv 0) rfl) pa_nil)) (pg_tupK (K:=K) (n:=2) rfl rfl (pgs_cons (pgn 2 nd) (pgs_cons (pgn 3 nd) pgs_nil))) (pss_one (ps_if (pt_val (pe_methN M_Store_has hr.m T.cl_Store (pv 3) (pc (pv 1) pa_nil))) (pss_one (ps_ret (pv 2))) pss_nil)))
      (pss_one (ps_ret (pe_fldK (K:=K) rfl (pv 0) rfl)))),?_⟩
  obtain ⟨dx,h1⟩:=R.ob
  have lS:=R.lS
  refine ⟨_,rfl,A.p,_,dx,_,_,rfl,h1,T.cl_Stairs,T.n_Stairs_stores,tf_stores ..,A.ss,rfl,⟨_,SqL.of R.ss⟩,for_enum (K:=K) (a:=A.ss) (xs:=A.as.map fun a=>V.ref a.sp) (fun i σ G=>∃ v2 v3:Option V,σ=[some (.ref A.p),some (.int b),v2,v3]∧Same H G∧i≤nearF st b) ⟨_,_,rfl,Same.refl _,Nat.zero_le _⟩ (fun i σ G _ ⟨_,_,_,s,_⟩=>SqL.of (s _ _ R.ss)) ?_ ?_⟩
  · rintro i x t σ G hi ⟨v2,v3,rfl,s,hle⟩ ht
    rw [List.getElem?_map] at hi
    obtain ⟨a,ea,rfl⟩:∃ a,A.as[i]?=some a∧V.ref a.sp=x:=by
      cases e:A.as[i]? with
      | none=>rw [e] at hi; cases hi
      | some a=>rw [e] at hi; exact ⟨a,rfl,Option.some.inj hi⟩
    have hil:=(List.getElem?_eq_some_iff.mp ea).1
    obtain ⟨a',e1,e2,e3,B⟩:=R.at_ hil
    rw [ea] at e1; cases e1
    refine ⟨t,_,rfl,SqT.of upd_same,rfl,_,_,rfl,gN ⟨_,_,rfl,gN ⟨rfl,?_⟩⟩⟩
    try dsimp only
    have s2:=s.trans (same_upd ht (.tup [.int (i:Int),.ref a.sp]))
    have B':=B.same s2
    obtain ⟨ds,h3⟩:=B'.sto.ob
    refine ⟨_,rfl,a.sp,ds,_,rfl,h3,sf_no ..,_,rfl,a,_,_,_,b,rfl,B',_,rfl,?_⟩
    by_cases m:b∈(st.at_ i).seq
    · refine ifT (decide_eq_true m) ⟨_,rfl,?_⟩
      have e:nearF st b=i:=by
        by_cases z:i<nearF st b
        · exact absurd m (near_not z (by lia))
        · lia
      have q':=q _ s2
      rw [e] at q'
      exact q'
    · refine ifF (decide_eq_false m) ⟨_,_,rfl,s2,?_⟩
      by_cases z:i=nearF st b
      · exact absurd (z ▸ near_lt (st:=st) (b:=b) (by lia)) m
      · lia
  · rintro σ G ⟨v2,v3,rfl,s,hle⟩
    rw [List.length_map] at hle
    have e:nearF st b=A.as.length:=by have:=near_le st b; lia
    have q':=q _ s
    rw [e] at q'
    exact ⟨_,rfl,A.p,_,dx,_,_,rfl,s _ _ h1,T.cl_Stairs,T.n_Stairs_last,tf_last ..,q'⟩
def spGoOn (K:PySem.W.Frag):Sp:=fun vs H Q _=>∃ (A:TA) (g:Pln) (st:Stt) (os:OS) (n k:Nat) (b:Int) (lw:Addr) (ws:List Int),vs=[.ref A.p,.int (k:Int),.int b,.ref lw]∧StairsAt K H A g st os n∧k≤g.n∧b∈g.U∧H lw=some (.lst (ws.map V.int))∧¬ OW A os lw∧ws.length=g.size.toNat∧n≤800000∧Res K H A g os (goOn g b ws (g.n - k) k st) (n+5) (Q .non)
theorem ok_Stairs_go_on {f:Addr} {fd:FuncData} (F:Fun K "go_on" "Stairs.go_on" s_Stairs_go_on f fd) (T:Txt K mg) (M_Store_has:MDef P w K mg base (clsOf K "Store") "has" 2 P_Store_has (spSHas K)) (M_Steps_put:MDef P w K mg base (clsOf K "Stairs") "put" 3 P_Steps_put (spPut K)) (M_Store_freshen:MDef P w K mg base (clsOf K "Store") "freshen" 1 P_Store_freshen (spFreshen K)):FnOk P w K mg base CX0 4 f fd P_Stairs_go_on (spGoOn K):=by
  refine F.ok sc_Stairs_go_on (fun vs H Q E h=>?_) (fun cdv A outer s0 H vs Q E hr h=>?_)
  · obtain ⟨A,g,st,os,n,k,b,lw,ws,rfl,_⟩:=h
    rfl
  obtain ⟨A,g,st,os,n,k,b,lw,ws,rfl,R,hk,bU,hlw,nO,lws,hn,q⟩:=h
  have nd:=sc_Stairs_go_on.nd
  refine ⟨_,(pss_cons (ps_for PassesOwn.never rfl (pi_range2 rfl T.z_range (pc (pv 1) (pc (pe_fldK (K:=K) rfl (pv 0) rfl) pa_nil))) (pgn 4 nd) (pss_cons (pst 5 nd (pe_ix (ix_listK (K:=K) rfl) (pe_fldK (K:=K) rfl (pv 0) rfl) (pv 4) (fun _ _=>rfl)))
      (pss_one (ps_if (pt_val (pe_methN M_Store_has hr.m T.cl_Store (pv 5) (pc (pv 2) pa_nil))) (pss_cons (ps_expr (pe_methN M_Steps_put hr.m T.cl_Stairs (pv 0) (pc (pv 4) (pc (pv 2) (pc (pv 3) pa_nil)))))
      (pss_one (ps_if (pt_val (pe_fldK (K:=K) rfl (pv 5) rfl)) (pss_cons (ps_expr (pe_methN M_Store_freshen hr.m T.cl_Store (pv 5) (pc (pv 2) pa_nil)))
      (pss_one ps_retN)) pss_nil))) pss_nil))))
      (pss_one (ps_expr (pe_methN M_Steps_put hr.m T.cl_Stairs (pv 0) (pc (pe_fldK (K:=K) rfl (pv 0) rfl) (pc (pv 2) (pc (pv 3) pa_nil))))))),?_⟩
  obtain ⟨dx,h1⟩:=R.ob
  have ln:=R.ln
  have l4:g.n≤4:=R.wf.l4
  refine ⟨_,rfl,_,rfl,A.p,_,dx,_,_,rfl,h1,T.cl_Stairs,T.n_Stairs_last,tf_last ..,_,_,rfl,⟨by lia,by lia,by lia,by lia⟩,for_range (lo:=(k:Int)) (n:=((A.as.length:Int) - (k:Int)).toNat) (fun i σ G=>∃ (v4 v5:Option V) (st':Stt) (os':OS),σ=[some (.ref A.p),some (.int (k:Int)),some (.int b),some (.ref lw),v4,v5]∧k+i≤g.n∧StairsAt K G A g st' os' (n+i)∧Pst (OW A os) H G (OW A os')∧goOn g b ws (g.n - (k+i)) (k+i) st'=goOn g b ws (g.n - k) k st∧G lw=some (.lst (ws.map V.int))∧¬ OW A os' lw)
    ⟨_,_,st,os,rfl,hk,R,Pst.same (Same.refl _),rfl,hlw,nO⟩ ?_ ?_⟩
  · rintro i σ G hi ⟨v4,v5,st',os',rfl,hki,R1,p1,eg,hlw1,nO1⟩
    have en:((k:Int)+(i:Int))=((k+i:Nat):Int):=by lia
    rw [en]
    refine gN ?_
    try dsimp only
    obtain ⟨dx1,g1⟩:=R1.ob
    obtain ⟨a,e1,e2,e3,B⟩:=R1.at_ (k:=k+i) (by lia)
    obtain ⟨ds,h3⟩:=B.sto.ob
    have er:g.n - (k+i)=(g.n - (k+(i+1)))+1:=by lia
    rw [er,goOn] at eg
    refine ⟨_,rfl,A.p,_,dx1,_,_,rfl,g1,T.cl_Stairs,T.n_Stairs_stores,tf_stores ..,_,rfl,A.ss,_,_,_,rfl,rfl,SqL.of R1.ss,StairsAt.ix e1,gN ?_⟩
    try dsimp only
    refine ⟨_,rfl,a.sp,ds,_,rfl,h3,sf_no ..,_,rfl,a,_,_,_,b,rfl,B,_,rfl,?_⟩
    by_cases m:b∈(st'.at_ (k+i)).seq
    · rw [if_pos m] at eg
      refine ifT (decide_eq_true m) ⟨_,rfl,A.p,dx1,_,rfl,g1,tf_no ..,_,rfl,_,rfl,_,rfl,A,g,st',os',n+i,k+i,b,lw,ws,rfl,R1,hki,fun _=>m,bU,hlw1,nO1,lws,by lia,fun G2 os2 R2 p2=>?_⟩
      obtain ⟨a2,e4,e5,e6,B2⟩:=R2.at_ (k:=k+i) (by lia)
      rw [e1] at e4; cases e4
      obtain ⟨d2,h4⟩:=B2.sto.ob
      obtain ⟨hlw2,nO2⟩:=p2.out hlw1 nO1
      refine ⟨_,rfl,a.sp,_,d2,_,_,rfl,h4,T.cl_Store,T.n_Store_late,sf_late ..,_,rfl,?_⟩
      by_cases c:(g.cf (k+i)).late=true
      · rw [if_pos c] at eg
        refine ifT c ?_
        have m2:b∈((putS g (k+i) b ws st').at_ (k+i)).seq:=by rw [put_sq]; exact m
        obtain ⟨u1,u2,u3,u4,u5,u6⟩:=R2.bds (k:=k+i) (by lia)
        refine ⟨_,rfl,a.sp,d2,_,rfl,h4,sf_no ..,_,rfl,a,_,_,_,b,rfl,B2,m2,u1,fun G3 B3 p3=>?_⟩
        obtain ⟨R3,p4⟩:=R2.deed e1 e2 B3 p3 u2 u3
        have R3:StairsAt K G3 A g (goOn g b ws (g.n - k) k st) (os2.set (k+i) (os2 (k+i))) (n+i+1):=by rw [← eg]; exact R3
        exact q _ _ (R3.le (by lia)) ((p1.trans p2).trans p4)
      · rw [if_neg c] at eg
        exact ifF (by simpa using c) ⟨_,_,_,os2,rfl,by lia,R2,p1.trans p2,eg,hlw2,nO2⟩
    · rw [if_neg m] at eg
      exact ifF (decide_eq_false m) ⟨_,_,st',os',rfl,by lia,R1.le (by lia),p1,eg,hlw1,nO1⟩
  · rintro σ G ⟨v4,v5,st',os',rfl,hki,R1,p1,eg,hlw1,nO1⟩
    have en:((A.as.length:Int) - (k:Int)).toNat=g.n - k:=by lia
    rw [en] at eg hki R1
    have ek:k+(g.n - k)=g.n:=by lia
    rw [ek,Nat.sub_self,goOn] at eg
    obtain ⟨dx1,g1⟩:=R1.ob
    refine ⟨_,rfl,A.p,dx1,_,rfl,g1,tf_no ..,_,rfl,A.p,_,dx1,_,_,rfl,g1,T.cl_Stairs,T.n_Stairs_last,tf_last ..,_,rfl,_,rfl,A,g,st',os',_,g.n,b,lw,ws,by rw [ln]; rfl,R1,Nat.le_refl _,fun h=>absurd h (Nat.lt_irrefl _),bU,hlw1,nO1,lws,by lia,fun G2 os2 R2 p2=>?_⟩
    rw [eg] at R2
    exact q _ _ (R2.le (by lia)) (p1.trans p2)
def spChange (K:PySem.W.Frag):Sp:=fun vs H Q _=>∃ (A:TA) (g:Pln) (st:Stt) (os:OS) (n k:Nat) (b:Int),vs=[.ref A.p,.int (k:Int),.int b]∧StairsAt K H A g st os n∧k<g.n∧b∈(st.at_ k).seq∧n≤800000∧Res K H A g os (changeS g k b st) (n+5) (Q .non)
theorem ok_Stairs_change {f:Addr} {fd:FuncData} (F:Fun K "change" "Stairs.change" s_Stairs_change f fd) (T:Txt K mg) (M_Store_freshen:MDef P w K mg base (clsOf K "Store") "freshen" 1 P_Store_freshen (spFreshen K)) (M_Stairs_go_on:MDef P w K mg base (clsOf K "Stairs") "go_on" 4 P_Stairs_go_on (spGoOn K)) (M_Store_words_of:MDef P w K mg base (clsOf K "Store") "words_of" 3 P_Store_words_of (spWordsOf K)):FnOk P w K mg base CX0 5 f fd P_Stairs_change (spChange K):=by
  refine F.ok sc_Stairs_change (fun vs H Q E h=>?_) (fun cdv A outer s0 H vs Q E hr h=>?_)
  · obtain ⟨A,g,st,os,n,k,b,rfl,_⟩:=h
    rfl
  obtain ⟨A,g,st,os,n,k,b,rfl,R,hk,hb,hn,q⟩:=h
  have nd:=sc_Stairs_change.nd
  refine ⟨_,(pss_cons (pst 3 nd (pe_ix (ix_listK (K:=K) rfl) (pe_fldK (K:=K) rfl (pv 0) rfl) (pv 1) (fun _ _=>rfl)))
      (pss_one (ps_if (pt_val (pe_fldK (K:=K) rfl (pv 3) rfl)) (pss_one (ps_expr (pe_methN M_Store_freshen hr.m T.cl_Store (pv 3) (pc (pv 2) pa_nil)))) (pss_one (ps_expr (pe_methN M_Stairs_go_on hr.m T.cl_Stairs (pv 0) (pc (pe_op op_add (pv 1) pe_int) (pc (pv 2) (pc (pe_methN M_Store_words_of hr.m T.cl_Store (pv 3) (pc (pv 2) pa_nil)) pa_nil))))))))),?_⟩
  obtain ⟨dx,h1⟩:=R.ob
  have ln:=R.ln
  obtain ⟨a,e1,e2,e3,B⟩:=R.at_ (k:=k) (by lia)
  obtain ⟨u1,u2,u3,u4,u5,u6⟩:=R.bds (k:=k) (by lia)
  obtain ⟨ds,h3⟩:=B.sto.ob
  unfold changeS at q
  refine ⟨_,rfl,A.p,_,dx,_,_,rfl,h1,T.cl_Stairs,T.n_Stairs_stores,tf_stores ..,_,rfl,A.ss,_,_,_,rfl,rfl,SqL.of R.ss,StairsAt.ix e1,gN ?_⟩
  try dsimp only
  refine ⟨_,rfl,a.sp,_,ds,_,_,rfl,h3,T.cl_Store,T.n_Store_late,sf_late ..,_,rfl,?_⟩
  by_cases c:(g.cf k).late=true
  · rw [if_pos c] at q
    refine ifT c ⟨_,rfl,a.sp,ds,_,rfl,h3,sf_no ..,_,rfl,a,_,_,_,b,rfl,B,hb,u1,fun G3 B3 p3=>?_⟩
    obtain ⟨R3,p4⟩:=R.deed e1 e2 B3 p3 u2 u3
    exact q _ _ (R3.le (by lia)) p4
  · rw [if_neg c] at q
    refine ifF (by simpa using c) ⟨_,rfl,A.p,dx,_,rfl,h1,tf_no ..,_,rfl,_,_,rfl,rfl,_,rfl,_,rfl,a.sp,ds,_,rfl,h3,sf_no ..,_,rfl,a,_,_,_,b,rfl,B,hb,fun l hl=>?_⟩
    have sm:=same_upd hl (.lst (((st.at_ k).wd b).map V.int))
    exact ⟨A,g,st,os,n,k+1,b,l,_,rfl,R.same sm,hk,(u2 b hb).1,upd_same,R.fresh hl,(u2 b hb).2,hn,fun G2 os2 R2 p2=>q _ _ R2 ((Pst.same sm).trans p2)⟩
end
section
def spDrive (K:PySem.W.Frag):Sp:=fun vs H Q _=>∃ (A:TA) (g:Pln) (st:Stt) (os:OS) (n k:Nat) (b:Int),vs=[.ref A.p,.int (k:Int),.int b]∧StairsAt K H A g st os n∧k<g.n∧b∈(st.at_ k).seq∧n≤700000∧Res K H A g os (driveS g k b st) (n+10) (Q .non)
theorem ok_Stairs_drive_out {f:Addr} {fd:FuncData} (F:Fun K "drive_out" "Stairs.drive_out" s_Stairs_drive_out f fd) (T:Txt K mg) (M_Steps_go_out:MDef P w K mg base (clsOf K "Stairs") "go_out" 5 P_Steps_go_out (spGoOut K)) (M_Store_has:MDef P w K mg base (clsOf K "Store") "has" 2 P_Store_has (spSHas K)) (M_Stairs_go_on:MDef P w K mg base (clsOf K "Stairs") "go_on" 4 P_Stairs_go_on (spGoOn K)):FnOk P w K mg base CX0 6 f fd P_Stairs_drive_out (spDrive K):=by
  refine F.ok sc_Stairs_drive_out (fun vs H Q E h=>?_) (fun cdv A outer s0 H vs Q E hr h=>?_)
  · obtain ⟨A,g,st,os,n,k,b,rfl,_⟩:=h
    rfl
  obtain ⟨A,g,st,os,n,k,b,rfl,R,hk,hb,hn,q⟩:=h
  have nd:=sc_Stairs_drive_out.nd
  refine ⟨_,(pss_cons (ps_asg (pe_methN M_Steps_go_out hr.m T.cl_Stairs (pv 0) (pc (pv 1) (pc (pv 2) pa_nil))) (pg_tupK (K:=K) (n:=2) rfl rfl (pgs_cons (pgn 3 nd) (pgs_cons (pgn 4 nd) pgs_nil))))
      (pss_cons (ps_if (pt_cmpR op_eq (pe_fldK (K:=K) rfl (pv 0) rfl) pe_str (nomark _)) (pss_one (ps_for PassesOwn.never rfl (pi_range3 rfl T.z_range (pc (pe_op op_sub (pv 1) pe_int) (pc (pe_un un_neg pe_int) (pc (pe_un un_neg pe_int) pa_nil)))) (pgn 5 nd) (pss_one (ps_if (pt_val (pe_methN M_Store_has hr.m T.cl_Store (pe_ix (ix_listK (K:=K) rfl) (pe_fldK (K:=K) rfl (pv 0) rfl) (pv 5) (fun _ _=>rfl)) (pc (pv 2) pa_nil))) (pss_cons (ps_asg (pe_methN M_Steps_go_out hr.m T.cl_Stairs (pv 0) (pc (pv 5) (pc (pv 2) pa_nil))) (pg_tupK (K:=K) (n:=2) rfl rfl (pgs_cons (pgn 3 nd) (pgs_cons (pgn 6 nd) pgs_nil))))
      (pss_one (pst 4 nd (pe_or (pv 4) (pe_one (pv 6)))))) pss_nil)))) pss_nil)
      (pss_one (ps_if (pt_val (pv 4)) (pss_one (ps_expr (pe_methN M_Stairs_go_on hr.m T.cl_Stairs (pv 0) (pc (pe_op op_add (pv 1) pe_int) (pc (pv 2) (pc (pv 3) pa_nil)))))) pss_nil)))),?_⟩
  obtain ⟨dx,h1⟩:=R.ob
  have ln:=R.ln
  have lS:=R.lS
  have l4:g.n≤4:=R.wf.l4
  obtain ⟨u1,u2,u3,u4,u5,u6⟩:=R.bds (k:=k) (by lia)
  obtain ⟨bU,bl⟩:=u2 b hb
  refine hide fun u1 e1=>?_
  refine ⟨_,rfl,A.p,dx,_,rfl,h1,tf_no ..,_,rfl,_,rfl,A,g,st,os,n,k,b,rfl,R,hk,hb,by lia,fun H1 os1 t l et el nl R1 p1=>⟨t,_,rfl,SqT.of et,rfl,_,_,rfl,gN ⟨_,_,rfl,gN ⟨rfl,?_⟩⟩⟩⟩
  subst e1
  try dsimp only
  refine cpI (fun σ G=>∃ (v5 v6:Option V) (l:Addr) (os':OS),σ=[some (.ref A.p),some (.int (k:Int)),some (.int b),some (.ref l),some (.bl (drv1 g k b st).2.2),v5,v6]∧StairsAt K G A g (drv1 g k b st).1 os' (n+5)∧Pst (OW A os) H G (OW A os')∧G l=some (.lst ((drv1 g k b st).2.1.map V.int))∧¬ OW A os' l∧(drv1 g k b st).2.1.length=g.size.toNat) (fun D' _ k'=>?_) ?_
  · obtain ⟨dx1,g1⟩:=R1.ob
    refine ⟨_,rfl,A.p,_,dx1,_,_,rfl,g1,T.cl_Stairs,T.n_Stairs_kind,tf_kind ..,rfl,_,rfl,ite_dec (fun c=>?_) (fun c=>?_)⟩
    · have c':g.kind = "within" := by injection c
      have ed:drv1 g k b st=outsS b k (goS k b st) ((st.at_ k).wd b) ((st.at_ k).fr b):=if_pos c'
      rw [ed] at k'
      refine ⟨_,rfl,_,_,rfl,rfl,_,rfl,_,rfl,_,_,rfl,⟨by lia,by lia,by lia,by lia⟩,for_down (hi:=(k:Int) - 1) (n:=((k:Int) - 1 - -1).toNat) (fun i σ G=>∃ (v5 v6:Option V) (l:Addr) (st':Stt) (os':OS) (ws:List Int) (fr:Bool),σ=[some (.ref A.p),some (.int (k:Int)),some (.int b),some (.ref l),some (.bl fr),v5,v6]∧i≤k∧StairsAt K G A g st' os' (n+1+i)∧Pst (OW A os) H G (OW A os')∧G l=some (.lst (ws.map V.int))∧¬ OW A os' l∧ws.length=g.size.toNat∧outsS b (k - i) st' ws fr=outsS b k (goS k b st) ((st.at_ k).wd b) ((st.at_ k).fr b))
        ⟨_,_,l,_,os1,_,_,rfl,Nat.zero_le _,R1,p1,el,nl,bl,rfl⟩ ?_ ?_⟩
      · rintro i σ G hi ⟨v5,v6,l,st',os',ws,fr,rfl,hik,R2,p2,el,nl,lw,eo⟩
        have hi':i<k:=by lia
        have en:((k:Int) - 1 - (i:Int))=((k - 1 - i:Nat):Int):=by lia
        rw [en]
        refine gN ?_
        try dsimp only
        obtain ⟨a,e1,e2,e3,B⟩:=R2.at_ (k:=k - 1 - i) (by lia)
        obtain ⟨w1,w2,w3,w4,w5,w6⟩:=R2.bds (k:=k - 1 - i) (by lia)
        obtain ⟨ds,h3⟩:=B.sto.ob
        obtain ⟨dx2,g2⟩:=R2.ob
        have ek:k - i=(k - 1 - i)+1:=by lia
        rw [ek,outsS] at eo
        refine ⟨_,rfl,A.p,_,dx2,_,_,rfl,g2,T.cl_Stairs,T.n_Stairs_stores,tf_stores ..,_,rfl,A.ss,_,_,_,rfl,rfl,SqL.of R2.ss,StairsAt.ix e1,a.sp,ds,_,rfl,h3,sf_no ..,_,rfl,a,_,_,_,b,rfl,B,_,rfl,?_⟩
        by_cases m:b∈(st'.at_ (k - 1 - i)).seq
        · rw [if_pos m] at eo
          refine ifT (decide_eq_true m) ⟨_,rfl,A.p,dx2,_,rfl,g2,tf_no ..,_,rfl,_,rfl,A,g,st',os',_,k - 1 - i,b,rfl,R2,by lia,m,by lia,fun H3 os3 t3 l3 et3 el3 nl3 R3 p3=>⟨t3,_,rfl,SqT.of et3,rfl,_,_,rfl,gN ⟨_,_,rfl,gN ⟨rfl,?_⟩⟩⟩⟩
          try dsimp only
          have fin:∃ (v5 v6:Option V) (l:Addr) (st'':Stt) (os':OS) (ws:List Int) (fr':Bool),[some (.ref A.p),some (.int (k:Int)),some (.int b),some (.ref l3),some (.bl (fr || (st'.at_ (k - 1 - i)).fr b)),some (.int ((k - 1 - i:Nat):Int)),some (.bl ((st'.at_ (k - 1 - i)).fr b))]=[some (V.ref A.p),some (.int (k:Int)),some (.int b),some (.ref l),some (.bl fr'),v5,v6]∧i+1≤k∧StairsAt K H3 A g st'' os' (n+1+(i+1))∧Pst (OW A os) H H3 (OW A os')∧H3 l=some (.lst (ws.map V.int))∧¬ OW A os' l∧ws.length=g.size.toNat∧outsS b (k - (i+1)) st'' ws fr'=outsS b k (goS k b st) ((st.at_ k).wd b) ((st.at_ k).fr b) :=
            ⟨_,_,l3,_,os3,_,_,rfl,by lia,R3,p2.trans p3,el3,nl3,(w2 b m).2,by rw [show k - (i+1)=k - 1 - i by lia]; exact eo⟩
          cases fr with
          | true=>exact ⟨_,rfl,_,rfl,ifT rfl (gN fin)⟩
          | false=>exact ⟨_,rfl,_,rfl,ifF rfl ⟨_,rfl,gN fin⟩⟩
        · rw [if_neg m] at eo
          exact ifF (decide_eq_false m) ⟨_,_,l,st',os',ws,fr,rfl,by lia,R2.le (by lia),p2,el,nl,lw,by rw [show k - (i+1)=k - 1 - i by lia]; exact eo⟩
      · rintro σ G ⟨v5,v6,l,st',os',ws,fr,rfl,hik,R2,p2,el,nl,lw,eo⟩
        have en:((k:Int) - 1 - -1).toNat=k:=by lia
        rw [en,Nat.sub_self,outsS] at eo
        rw [en] at R2
        rw [← eo] at k'
        exact k' _ _ ⟨_,_,l,os',rfl,R2.le (by lia),p2,el,nl,lw⟩
    · have c':¬ g.kind = "within" := fun z=>c (by rw [z])
      have ed:drv1 g k b st=(goS k b st,(st.at_ k).wd b,(st.at_ k).fr b):=if_neg c'
      rw [ed] at k'
      exact k' _ _ ⟨_,_,l,os1,rfl,R1.le (by lia),p1,el,nl,bl⟩
  rintro _ G ⟨v5,v6,l2,os2,rfl,R2,p2,el2,nl2,lw2⟩
  unfold driveS at q
  generalize drv1 g k b st=dq at *
  obtain ⟨st2,ws,fr⟩:=dq
  dsimp only at *
  cases fr with
  | true =>
    rw [if_pos rfl] at q
    obtain ⟨dx2,g2⟩:=R2.ob
    exact ⟨_,rfl,_,rfl,ifT rfl ⟨_,rfl,A.p,dx2,_,rfl,g2,tf_no ..,_,rfl,_,_,rfl,rfl,_,rfl,_,rfl,A,g,st2,os2,_,k+1,b,l2,ws,rfl,R2,hk,bU,el2,nl2,lw2,by lia,fun G3 os3 R3 p3=>q _ _ R3 (p2.trans p3)⟩⟩
  | false =>
    rw [if_neg (by decide)] at q
    exact ⟨_,rfl,_,rfl,ifF rfl (q _ _ (R2.le (by lia)) p2)⟩
def spDown (K:PySem.W.Frag):Sp:=fun vs H Q _=>∃ (A:TA) (g:Pln) (st:Stt) (os:OS) (n k:Nat) (b:Int),vs=[.ref A.p,.int (k:Int),.int b]∧StairsAt K H A g st os n∧k=nearF st b∧b∈g.U∧n≤600000∧(b∈((fetchD g k b st).at_ 0).seq→Res K H A g os (fetchD g k b st) (n+50) (Q .non))
theorem ok_Stairs_fetch_down {f:Addr} {fd:FuncData} (F:Fun K "fetch_down" "Stairs.fetch_down" s_Stairs_fetch_down f fd) (T:Txt K mg) (M_Steps_use_in:MDef P w K mg base (clsOf K "Stairs") "use_in" 4 P_Steps_use_in (spUseIn K)) (M_Steps_words:MDef P w K mg base (clsOf K "Stairs") "words" 4 P_Steps_words (spTWords K)) (M_Steps_leaver:MDef P w K mg base (clsOf K "Stairs") "leaver" 4 P_Steps_leaver (spLeav K)) (M_Stairs_drive_out:MDef P w K mg base (clsOf K "Stairs") "drive_out" 6 P_Stairs_drive_out (spDrive K)) (M_Steps_come_in:MDef P w K mg base (clsOf K "Stairs") "come_in" 6 P_Steps_come_in (spComeIn K)):FnOk P w K mg base CX0 7 f fd P_Stairs_fetch_down (spDown K):=by
  refine F.ok sc_Stairs_fetch_down (fun vs H Q E h=>?_) (fun cdv A outer s0 H vs Q E hr h=>?_)
  · obtain ⟨A,g,st,os,n,k,b,rfl,_⟩:=h
    rfl
  obtain ⟨A,g,st,os,n,k,b,rfl,R,hk,bU,hn,q⟩:=h
  have nd:=sc_Stairs_fetch_down.nd
  refine ⟨_,(pss_cons (ps_if (pt_cmpR op_lt (pv 1) (pe_fldK (K:=K) rfl (pv 0) rfl) (nomark _)) (pss_one (ps_expr (pe_methN M_Steps_use_in hr.m T.cl_Stairs (pv 0) (pc (pv 1) (pc (pv 2) pa_nil))))) pss_nil)
      (pss_cons (pst 3 nd (pe_methN M_Steps_words hr.m T.cl_Stairs (pv 0) (pc (pv 1) (pc (pv 2) pa_nil))))
      (pss_one (ps_for PassesOwn.never rfl (pi_range3 rfl T.z_range (pc (pe_op op_sub (pv 1) pe_int) (pc (pe_un un_neg pe_int) (pc (pe_un un_neg pe_int) pa_nil)))) (pgn 4 nd) (pss_cons (pst 5 nd (pe_methN M_Steps_leaver hr.m T.cl_Stairs (pv 0) (pc (pv 4) (pc (pv 2) pa_nil))))
      (pss_cons (ps_if (pt_cmp (pc_notN (pv 5))) (pss_one (ps_expr (pe_methN M_Stairs_drive_out hr.m T.cl_Stairs (pv 0) (pc (pv 4) (pc (pv 5) pa_nil))))) pss_nil)
      (pss_one (ps_expr (pe_methN M_Steps_come_in hr.m T.cl_Stairs (pv 0) (pc (pv 4) (pc (pv 2) (pc (pv 3) pa_nil)))))))))))),?_⟩
  have ln:=R.ln
  have lS:=R.lS
  have l4:g.n≤4:=R.wf.l4
  obtain ⟨b0,b1⟩:=R.wf.ub b bU
  have hkl:k≤g.n:=by rw [hk]; have:=near_le st b; lia
  have inb:k<g.n→b∈(st.at_ k).seq:=fun h=>by rw [hk]; exact near_lt (by lia)
  refine cpI (fun σ G=>σ=[some (.ref A.p),some (.int (k:Int)),some (.int b),none,none,none]∧∃ os',StairsAt K G A g (usedS g k b st) os' n∧Pst (OW A os) H G (OW A os')) (fun D' _ k'=>?_) ?_
  · obtain ⟨dx,h1⟩:=R.ob
    refine ⟨_,rfl,_,rfl,A.p,_,dx,_,_,rfl,h1,T.cl_Stairs,T.n_Stairs_last,tf_last ..,_,_,rfl,rfl,_,rfl,?_⟩
    by_cases c:k<g.n
    · have eu:usedS g k b st=st.set k (useS (g.cf k) (st.at_ k) b):=if_pos c
      rw [eu] at k'
      exact ifT (decide_eq_true (by lia)) ⟨_,rfl,A.p,dx,_,rfl,h1,tf_no ..,_,rfl,_,rfl,A,g,st,os,n,k,b,rfl,R,c,inb c,fun H1 os1 R1 p1=>k' _ _ ⟨rfl,os1,R1,p1⟩⟩
    · have eu:usedS g k b st=st:=if_neg c
      rw [eu] at k'
      exact ifF (decide_eq_false (by lia)) (k' _ _ ⟨rfl,os,R,Pst.same (Same.refl _)⟩)
  rintro _ G ⟨rfl,os0,R0,p0⟩
  have sq0:∀ j,j≠k→((usedS g k b st).at_ j).seq=(st.at_ j).seq:=fun j hj=>by
    unfold usedS
    split
    · rw [at_set',if_neg (fun z=>hj z.1)]
    · rfl
  have inb0:k<g.n→b∈((usedS g k b st).at_ k).seq:=fun h=>by
    have e:usedS g k b st=st.set k (useS (g.cf k) (st.at_ k) b):=if_pos h
    rw [e,Stt.at_set (by lia),if_pos rfl]
    exact (use_perm (inb h)).mem_iff.mpr (inb h)
  have nb:∀ j,j<k→b∉((usedS g k b st).at_ j).seq:=fun j hj=>by
    rw [sq0 j (by lia)]
    exact near_not (by lia) (by lia)
  unfold fetchD at q
  generalize usedS g k b st=st0 at *
  obtain ⟨dx,h1⟩:=R0.ob
  refine hide fun u1 e1=>?_
  refine ⟨_,rfl,A.p,dx,_,rfl,h1,tf_no ..,_,rfl,_,rfl,A,g,st0,os0,n,k,b,rfl,R0,hkl,inb0,b0,b1,fun lw H1 hlw s1 ew=>gN ?_⟩
  subst e1
  try dsimp only
  have nO:=R0.fresh hlw
  have lws:(wordsF g st0 k b).length=g.size.toNat:=by
    unfold wordsF
    split
    · unfold memW; rw [List.length_map,List.length_range]
    · exact ((R0.bds (k:=k) (by lia)).2.1 b (inb0 (by lia))).2
  generalize wordsF g st0 k b=ws at *
  have R1:=R0.same s1
  refine ⟨_,rfl,_,_,rfl,rfl,_,rfl,_,rfl,_,_,rfl,⟨by lia,by lia,by lia,by lia⟩,for_down (hi:=(k:Int) - 1) (n:=((k:Int) - 1 - -1).toNat) (fun i σ G'=>∃ (v4 v5:Option V) (st':Stt) (os':OS),σ=[some (.ref A.p),some (.int (k:Int)),some (.int b),some (.ref lw),v4,v5]∧i≤k∧StairsAt K G' A g st' os' (n+11 * i)∧Pst (OW A os) H G' (OW A os')∧downS g b ws (k - i) st'=downS g b ws k st0∧(∀ j,j<k - i→b∉(st'.at_ j).seq)∧(k - i<g.n→b∈(st'.at_ (k - i)).seq)∧G' lw=some (.lst (ws.map V.int))∧¬ OW A os' lw)
    ⟨_,_,st0,os0,rfl,Nat.zero_le _,R1,p0.trans (Pst.same s1),rfl,nb,inb0,ew,nO⟩ ?_ ?_⟩
  · rintro i σ G' hi ⟨v4,v5,st',os',rfl,hik,R2,p2,ed,nb2,inb2,ew2,nO2⟩
    have hi':i<k:=by lia
    have en:((k:Int) - 1 - (i:Int))=((k - 1 - i:Nat):Int):=by lia
    rw [en]
    refine gN ?_
    try dsimp only
    have hlt:k - 1 - i<g.n:=by lia
    have lS2:=R2.lS
    have hbn:b∉(st'.at_ (k - 1 - i)).seq:=nb2 (k - 1 - i) (by lia)
    obtain ⟨w1,w2,w3,w4,w5,w6⟩:=R2.bds (k:=k - 1 - i) (by lia)
    obtain ⟨dx2,g2⟩:=R2.ob
    have edn:k - i=(k - 1 - i)+1:=by lia
    rw [edn,downS] at ed
    refine hide fun u1 e1=>?_
    refine ⟨_,rfl,A.p,dx2,_,rfl,g2,tf_no ..,_,rfl,_,rfl,A,g,st',os',_,k - 1 - i,b,rfl,R2,hlt,fun H3 s3 gp=>gN ?_⟩
    subst e1
    try dsimp only
    have R3:=R2.same s3
    have ew3:=s3 _ _ ew2
    obtain ⟨dx3,g3⟩:=R3.ob
    refine cpI (fun σ' G3=>σ'=[some (.ref A.p),some (.int (k:Int)),some (.int b),some (.ref lw),some (.int ((k - 1 - i:Nat):Int)),some (optV (goneF (g.cf (k - 1 - i)) (st'.at_ (k - 1 - i)) b))]∧∃ os1,StairsAt K G3 A g (leaveS g (k - 1 - i) b st') os1 (n+11 * i+10)∧Pst (OW A os') H3 G3 (OW A os1)∧b∉((leaveS g (k - 1 - i) b st').at_ (k - 1 - i)).seq∧((shelfS (g.cf (k - 1 - i)).sh (b % (g.cf (k - 1 - i)).sh) ((leaveS g (k - 1 - i) b st').at_ (k - 1 - i)).seq).length:Int)<(g.cf (k - 1 - i)).pl∧∀ j,j<k - 1 - i→b∉((leaveS g (k - 1 - i) b st').at_ j).seq) (fun D' _ k'=>?_) ?_
    · cases eg:goneF (g.cf (k - 1 - i)) (st'.at_ (k - 1 - i)) b with
      | none =>
        have el:leaveS g (k - 1 - i) b st'=st':=by unfold leaveS; rw [eg]
        rw [eg] at gp k'
        rw [el] at k'
        exact ⟨_,rfl,_,rfl,ifF rfl (k' _ _ ⟨rfl,os',R3.le (by lia),Pst.same (Same.refl _),hbn,gone_lt gp,fun j hj=>nb2 j (by lia)⟩)⟩
      | some go =>
        have el:leaveS g (k - 1 - i) b st'=driveS g (k - 1 - i) go st':=by unfold leaveS; rw [eg]
        rw [eg] at gp k'
        rw [el] at k'
        obtain ⟨m1,m2,m3⟩:=goneF_mem eg
        have sq:=fun j=>drive_sq (g:=g) (k:=k - 1 - i) (b:=go) (st:=st') (j:=j) (by lia)
        refine ⟨_,rfl,_,rfl,ifT rfl ⟨_,rfl,A.p,dx3,_,rfl,g3,tf_no ..,_,rfl,_,rfl,A,g,st',os',_,k - 1 - i,go,rfl,R3,hlt,m1,by lia,fun H4 os4 R4 p4=>k' _ _ ⟨rfl,os4,R4,p4,?_,?_,fun j hj=>?_⟩⟩⟩
        · rw [sq,if_pos (.inl rfl)]
          exact fun m=>hbn (List.mem_of_mem_erase m)
        · rw [sq,if_pos (.inl rfl)]
          exact gone_out w3 m1 m2
        · rw [sq]
          have:=nb2 j (by lia)
          split
          · exact fun m=>this (List.mem_of_mem_erase m)
          · exact this
    rintro _ G3 ⟨rfl,os4,R4,p4,hb4,hsh,nb4⟩
    obtain ⟨ew4,nO4⟩:=p4.out ew3 nO2
    obtain ⟨dx4,g4⟩:=R4.ob
    have lS4:=R4.lS
    refine ⟨_,rfl,A.p,dx4,_,rfl,g4,tf_no ..,_,rfl,_,rfl,_,rfl,A,g,_,os4,_,k - 1 - i,b,lw,ws,rfl,R4,hlt,hb4,bU,hsh,ew4,nO4,lws,by lia,fun H5 os5 R5 p5=>?_⟩
    obtain ⟨ew5,nO5⟩:=p5.out ew4 nO4
    have sq:=fun j=>come_sq (k:=k - 1 - i) (b:=b) (ws:=ws) (st:=leaveS g (k - 1 - i) b st') (j:=j) (by lia)
    refine ⟨_,_,_,os5,rfl,by lia,R5.le (by lia),((p2.trans (Pst.same s3)).trans p4).trans p5,?_,fun j hj=>?_,fun _=>?_,ew5,nO5⟩
    · rw [show k - (i+1)=k - 1 - i by lia]
      exact ed
    · rw [sq,if_neg (by lia)]
      exact nb4 j (by lia)
    · rw [show k - (i+1)=k - 1 - i by lia,sq,if_pos rfl]
      exact List.mem_append_right _ (List.mem_singleton.mpr rfl)
  · rintro σ G' ⟨v4,v5,st',os',rfl,hik,R2,p2,ed,nb2,inb2,ew2,nO2⟩
    have en:((k:Int) - 1 - -1).toNat=k:=by lia
    have l1:1≤g.n:=R.wf.l1
    rw [en,Nat.sub_self] at ed inb2
    rw [en] at R2
    have ed:st'=downS g b ws k st0:=ed
    rw [← ed] at q
    exact q (inb2 (by lia)) _ _ (R2.le (by lia)) p2
end
def Disj (st:Stt):Prop:=∀ i j,i<st.rm.length→j<st.rm.length→i≠j→∀ x∈(st.at_ i).seq,x∉(st.at_ j).seq
def Nowh (st:Stt) (b:Int):Prop:=∀ j,j<st.rm.length→b∉(st.at_ j).seq
theorem comeA_len {g:Pln} {k:Nat} {b:Int} {ws:List Int} {fr:Bool} {st:Stt}:(comeA g k b ws fr st).rm.length=st.rm.length:=by
  have go:∀ {r k:Nat} {st:Stt} {ws:List Int},(goOn g b ws r k st).rm.length=st.rm.length:=fun {r}=>by
    induction r with
    | zero=>intro k st ws; exact put_len
    | succ r ih =>
      intro k st ws
      rw [goOn]
      split
      · split
        · exact set_len.trans put_len
        · exact ih.trans put_len
      · exact ih
  unfold comeA changeS
  split
  · split
    · exact set_len.trans set_len
    · exact go.trans set_len
  · exact set_len
theorem disj_in {st st':Stt} {k:Nat} {b:Int} (d:Disj st) (h:Nowh st b) (l:st'.rm.length=st.rm.length) (sq:∀ j,(st'.at_ j).seq=if j=k then (st.at_ j).seq++[b] else (st.at_ j).seq):Disj st':=fun i j hi hj hij x hx hx'=>by
  rw [l] at hi hj
  rw [sq] at hx hx'
  by_cases z:i=k
  · rw [if_pos z] at hx
    rw [if_neg (by lia)] at hx'
    rcases List.mem_append.mp hx with m | m
    · exact d i j hi hj hij x m hx'
    · exact h j hj (List.mem_singleton.mp m ▸ hx')
  · rw [if_neg z] at hx
    by_cases y:j=k
    · rw [if_pos y] at hx'
      rcases List.mem_append.mp hx' with m | m
      · exact d i j hi hj hij x hx m
      · exact h i hi (List.mem_singleton.mp m ▸ hx)
    · rw [if_neg y] at hx'
      exact d i j hi hj hij x hx hx'
theorem disj_out {st:Stt} {k:Nat} {b:Int} (d:Disj st) (hk:k<st.rm.length) (nn:(st.at_ k).seq.Nodup) (hb:b∈(st.at_ k).seq):Disj (goS k b st)∧Nowh (goS k b st) b:=by
  have sq:=fun j=>go_sq (b:=b) (j:=j) hk
  refine ⟨fun i j hi hj hij x hx hx'=>?_,fun j hj m=>?_⟩
  · rw [go_len] at hi hj
    rw [sq] at hx hx'
    refine d i j hi hj hij x ?_ ?_
    · split at hx
      · exact List.mem_of_mem_erase hx
      · exact hx
    · split at hx'
      · exact List.mem_of_mem_erase hx'
      · exact hx'
  · rw [go_len] at hj
    rw [sq] at m
    split at m
    · rename_i z
      rw [z] at m
      exact ((List.Nodup.mem_erase_iff nn).mp m).1 rfl
    · rename_i z
      exact d k j hk hj (fun y=>z y.symm) b hb m
section
def spComeA (K:PySem.W.Frag):Sp:=fun vs H Q _=>∃ (A:TA) (g:Pln) (st:Stt) (os:OS) (n k:Nat) (b:Int) (lw:Addr) (ws:List Int) (fr:Bool),vs=[.ref A.p,.int (k:Int),.int b,.ref lw,.bl fr]∧StairsAt K H A g st os n∧k<g.n∧b∉(st.at_ k).seq∧b∈g.U∧((shelfS (g.cf k).sh (b % (g.cf k).sh) (st.at_ k).seq).length:Int)<(g.cf k).pl∧H lw=some (.lst (ws.map V.int))∧¬ OW A os lw∧ws.length=g.size.toNat∧n≤700000∧Res K H A g os (comeA g k b ws fr st) (n+6) (Q .non)
theorem ok_Stairs_come_apart {f:Addr} {fd:FuncData} (F:Fun K "come_apart" "Stairs.come_apart" s_Stairs_come_apart f fd) (T:Txt K mg) (M_Steps_come_in:MDef P w K mg base (clsOf K "Stairs") "come_in" 6 P_Steps_come_in (spComeIn K)) (M_Stairs_change:MDef P w K mg base (clsOf K "Stairs") "change" 5 P_Stairs_change (spChange K)):FnOk P w K mg base CX0 7 f fd P_Stairs_come_apart (spComeA K):=by
  refine F.ok sc_Stairs_come_apart (fun vs H Q E h=>?_) (fun cdv A outer s0 H vs Q E hr h=>?_)
  · obtain ⟨A,g,st,os,n,k,b,lw,ws,fr,rfl,_⟩:=h
    rfl
  obtain ⟨A,g,st,os,n,k,b,lw,ws,fr,rfl,R,hk,hb,bU,hsh,hlw,nO,lws,hn,q⟩:=h
  have nd:=sc_Stairs_come_apart.nd
  refine ⟨_,(pss_cons (ps_expr (pe_methN M_Steps_come_in hr.m T.cl_Stairs (pv 0) (pc (pv 1) (pc (pv 2) (pc (pv 3) pa_nil)))))
      (pss_one (ps_if (pt_val (pv 4)) (pss_one (ps_expr (pe_methN M_Stairs_change hr.m T.cl_Stairs (pv 0) (pc (pv 1) (pc (pv 2) pa_nil))))) pss_nil))),?_⟩
  obtain ⟨dx,h1⟩:=R.ob
  have ln:=R.ln
  have lS:=R.lS
  refine ⟨_,rfl,A.p,dx,_,rfl,h1,tf_no ..,_,rfl,_,rfl,_,rfl,A,g,st,os,n,k,b,lw,ws,rfl,R,hk,hb,bU,hsh,hlw,nO,lws,by lia,fun H1 os1 R1 p1=>?_⟩
  unfold comeA at q
  cases fr with
  | true =>
    rw [if_pos rfl] at q
    obtain ⟨dx1,g1⟩:=R1.ob
    exact ⟨_,rfl,_,rfl,ifT rfl ⟨_,rfl,A.p,dx1,_,rfl,g1,tf_no ..,_,rfl,_,rfl,A,g,_,os1,_,k,b,rfl,R1,hk,by rw [come_sq (by lia),if_pos rfl]; exact List.mem_append_right _ (List.mem_singleton.mpr rfl),by lia,fun H2 os2 R2 p2=>q _ _ R2 (p1.trans p2)⟩⟩
  | false =>
    rw [if_neg (by decide)] at q
    exact ⟨_,rfl,_,rfl,ifF rfl (q _ _ (R1.le (by lia)) p1)⟩
def spPush (K:PySem.W.Frag) (r:Nat):Sp:=fun vs H Q _=>∃ (A:TA) (g:Pln) (st:Stt) (os:OS) (n k:Nat) (b:Int) (lw:Addr) (ws:List Int) (fr:Bool),vs=[.ref A.p,.int (k:Int),.int b,.ref lw,.bl fr]∧StairsAt K H A g st os n∧k+r=g.n∧Nowh st b∧Disj st∧b∈g.U∧H lw=some (.lst (ws.map V.int))∧¬ OW A os lw∧ws.length=g.size.toNat∧n+7 * r≤600000∧(Disj (pushS g r k b ws fr st)→(0<r→b∈((pushS g r k b ws fr st).at_ k).seq)→(∀ j,j<k→((pushS g r k b ws fr st).at_ j).seq=(st.at_ j).seq)→Res K H A g os (pushS g r k b ws fr st) (n+7 * r+1) (Q .non))
def spNever:Sp:=fun _ _ _ _=>False
theorem ok_Stairs_push {r:Nat} {sp0:Sp} (hsp:∀ m,r=m+1→sp0=spPush K m) {f:Addr} {fd:FuncData} (F:Fun K "push" "Stairs.push" s_Stairs_push f fd) (T:Txt K mg) (M_Steps_put:MDef P w K mg base (clsOf K "Stairs") "put" 3 P_Steps_put (spPut K)) (M_Steps_leaver:MDef P w K mg base (clsOf K "Stairs") "leaver" 4 P_Steps_leaver (spLeav K)) (M_Stairs_come_apart:MDef P w K mg base (clsOf K "Stairs") "come_apart" 7 P_Stairs_come_apart (spComeA K)) (M_Steps_go_out:MDef P w K mg base (clsOf K "Stairs") "go_out" 5 P_Steps_go_out (spGoOut K)) (M_Stairs_push:MDef P w K mg base (clsOf K "Stairs") "push" (r+7) P_Stairs_push sp0):FnOk P w K mg base CX0 (r+8) f fd P_Stairs_push (spPush K r):=by
  refine F.ok sc_Stairs_push (fun vs H Q E h=>?_) (fun cdv A outer s0 H vs Q E hr h=>?_)
  · obtain ⟨A,g,st,os,n,k,b,lw,ws,fr,rfl,_⟩:=h
    rfl
  obtain ⟨A,g,st,os,n,k,b,lw,ws,fr,rfl,R,hk,hb,dj,bU,hlw,nO,lws,hn,q⟩:=h
  have nd:=sc_Stairs_push.nd
  refine ⟨_,(pss_cons (ps_if (pt_cmpR op_eq (pv 1) (pe_fldK (K:=K) rfl (pv 0) rfl) (nomark _)) (pss_cons (ps_if (pt_val (pv 4)) (pss_one (ps_expr (pe_methN M_Steps_put hr.m T.cl_Stairs (pv 0) (pc (pv 1) (pc (pv 2) (pc (pv 3) pa_nil)))))) pss_nil)
      (pss_one ps_retN)) pss_nil)
      (pss_cons (pst 5 nd (pe_methN M_Steps_leaver hr.m T.cl_Stairs (pv 0) (pc (pv 1) (pc (pv 2) pa_nil))))
      (pss_cons (ps_if (pt_cmp (pc_isN (pv 5))) (pss_cons (ps_expr (pe_methN M_Stairs_come_apart hr.m T.cl_Stairs (pv 0) (pc (pv 1) (pc (pv 2) (pc (pv 3) (pc (pv 4) pa_nil))))))
      (pss_one ps_retN)) pss_nil)
      (pss_cons (ps_asg (pe_methN M_Steps_go_out hr.m T.cl_Stairs (pv 0) (pc (pv 1) (pc (pv 5) pa_nil))) (pg_tupK (K:=K) (n:=2) rfl rfl (pgs_cons (pgn 6 nd) (pgs_cons (pgn 7 nd) pgs_nil))))
      (pss_cons (ps_expr (pe_methN M_Stairs_come_apart hr.m T.cl_Stairs (pv 0) (pc (pv 1) (pc (pv 2) (pc (pv 3) (pc (pv 4) pa_nil))))))
      (pss_one (ps_expr (pe_methN M_Stairs_push hr.m T.cl_Stairs (pv 0) (pc (pe_op op_add (pv 1) pe_int) (pc (pv 5) (pc (pv 6) (pc (pv 7) pa_nil)))))))))))),?_⟩
  obtain ⟨dx,h1⟩:=R.ob
  have ln:=R.ln
  have lS:=R.lS
  cases r with
  | zero =>
    have ek:k=g.n:=by lia
    refine ⟨_,rfl,_,rfl,A.p,_,dx,_,_,rfl,h1,T.cl_Stairs,T.n_Stairs_last,tf_last ..,rfl,_,rfl,eq_case (fun e=>?_) (fun e=>absurd (show (k:Int)=(A.as.length:Int) by lia) e)⟩
    rw [pushS] at q
    cases fr with
    | true =>
      rw [if_pos rfl] at q
      refine ⟨_,rfl,_,rfl,ifT rfl ⟨_,rfl,A.p,dx,_,rfl,h1,tf_no ..,_,rfl,_,rfl,_,rfl,A,g,st,os,n,k,b,lw,ws,rfl,R,by lia,(fun h=>absurd h (by lia)),bU,hlw,nO,lws,by lia,fun H2 os2 R2 p2=>q (fun i j hi hj hij x=>?_) (fun h=>absurd h (Nat.lt_irrefl _)) (fun j _=>put_sq) _ _ (R2.le (by lia)) p2⟩⟩
      rw [put_sq,put_sq]
      rw [put_len] at hi hj
      exact dj i j hi hj hij x
    | false =>
      rw [if_neg (by decide)] at q
      exact ⟨_,rfl,_,rfl,ifF rfl (q dj (fun h=>absurd h (Nat.lt_irrefl _)) (fun _ _=>rfl) _ _ (R.le (by lia)) (Pst.same (Same.refl _)))⟩
  | succ r =>
    have hkl:k<g.n:=by lia
    obtain ⟨u1,u2,u3,u4,u5,u6⟩:=R.bds (k:=k) (by lia)
    refine ⟨_,rfl,_,rfl,A.p,_,dx,_,_,rfl,h1,T.cl_Stairs,T.n_Stairs_last,tf_last ..,rfl,_,rfl,eq_case (fun e=>absurd e (by lia)) (fun e=>?_)⟩
    dsimp only [tNext]
    refine hide fun u1 eu=>?_
    refine ⟨_,rfl,A.p,dx,_,rfl,h1,tf_no ..,_,rfl,_,rfl,A,g,st,os,n,k,b,rfl,R,hkl,fun H1 s1 gp=>gN ?_⟩
    subst eu
    try dsimp only
    have R1:=R.same s1
    have hlw1:=s1 _ _ hlw
    obtain ⟨dx1,h2⟩:=R1.ob
    have hbs:=hb k (by lia)
    rw [pushS] at q
    cases eg:goneF (g.cf k) (st.at_ k) b with
    | none =>
      rw [eg] at gp q
      dsimp only at q
      have sq:=fun j=>comeA_sq (g:=g) (k:=k) (b:=b) (ws:=ws) (fr:=fr) (st:=st) (j:=j) (by lia)
      refine ⟨_,rfl,_,rfl,ifT rfl ⟨_,rfl,A.p,dx1,_,rfl,h2,tf_no ..,_,rfl,_,rfl,_,rfl,_,rfl,A,g,st,os,n,k,b,lw,ws,fr,rfl,R1,hkl,hbs,bU,gone_lt gp,hlw1,nO,lws,by lia,fun H2 os2 R2 p2=>?_⟩⟩
      exact q (disj_in dj hb comeA_len sq) (fun _=>by rw [sq,if_pos rfl]; exact List.mem_append_right _ (List.mem_singleton.mpr rfl)) (fun j hj=>by rw [sq,if_neg (by lia)]) _ _ (R2.le (by lia)) ((Pst.same s1).trans p2)
    | some go =>
      rw [eg] at gp q
      dsimp only at q
      obtain ⟨m1,m2,m3⟩:=goneF_mem eg
      refine ⟨_,rfl,_,rfl,ifF rfl ?_⟩
      dsimp only [tNext]
      refine hide fun u1 eu=>?_
      refine ⟨_,rfl,A.p,dx1,_,rfl,h2,tf_no ..,_,rfl,_,rfl,A,g,st,os,n,k,go,rfl,R1,hkl,m1,by lia,fun H2 os2 t l et el nl R2 p2=>⟨t,_,rfl,SqT.of et,rfl,_,_,rfl,gN ⟨_,_,rfl,gN ⟨rfl,?_⟩⟩⟩⟩
      subst eu
      try dsimp only
      obtain ⟨hlw2,nO2⟩:=p2.out hlw1 nO
      obtain ⟨dx2,h3⟩:=R2.ob
      obtain ⟨d2,nw2⟩:=disj_out dj (by lia) u6 m1
      have sg:=fun j=>go_sq (b:=go) (j:=j) (st:=st) (k:=k) (by lia)
      have sgk:((goS k go st).at_ k).seq=(st.at_ k).seq.erase go:=by rw [sg,if_pos rfl]
      have nb2:Nowh (goS k go st) b:=fun j hj m=>by
        rw [go_len] at hj
        rw [sg] at m
        split at m
        · exact hb j hj (List.mem_of_mem_erase m)
        · exact hb j hj m
      refine ⟨_,rfl,A.p,dx2,_,rfl,h3,tf_no ..,_,rfl,_,rfl,_,rfl,_,rfl,A,g,_,os2,_,k,b,lw,ws,fr,rfl,R2,hkl,nb2 k (by rw [go_len]; lia),bU,by rw [sgk]; exact gone_out u3 m1 m2,hlw2,nO2,lws,by lia,fun H3 os3 R3 p3=>?_⟩
      obtain ⟨el3,nl3⟩:=p3.out el nl
      obtain ⟨dx3,h4⟩:=R3.ob
      have sq:=fun j=>comeA_sq (g:=g) (k:=k) (b:=b) (ws:=ws) (fr:=fr) (st:=goS k go st) (j:=j) (by rw [go_len]; lia)
      have ne:go≠b:=fun z=>hbs (z ▸ m1)
      have d3:=disj_in d2 nb2 (comeA_len (g:=g) (k:=k) (b:=b) (ws:=ws) (fr:=fr)) sq
      have nw3:Nowh (comeA g k b ws fr (goS k go st)) go:=fun j hj m=>by
        rw [comeA_len] at hj
        rw [sq] at m
        split at m
        · rcases List.mem_append.mp m with m | m
          · exact nw2 j hj m
          · exact ne (List.mem_singleton.mp m)
        · exact nw2 j hj m
      have e0:=hsp r rfl
      subst e0
      refine ⟨_,rfl,A.p,dx3,_,rfl,h4,tf_no ..,_,rfl,_,_,rfl,rfl,_,rfl,_,rfl,_,rfl,A,g,_,os3,_,k+1,go,l,_,_,rfl,R3,by lia,nw3,d3,(u2 go m1).1,el3,nl3,(u2 go m1).2,by lia,fun z1 z2 z3 H4 os4 R4 p4=>?_⟩
      refine q z1 (fun _=>?_) (fun j hj=>?_) _ _ (R4.le (by lia)) ((((Pst.same s1).trans p2).trans p3).trans p4)
      · rw [z3 k (by lia),sq,if_pos rfl]
        exact List.mem_append_right _ (List.mem_singleton.mpr rfl)
      · rw [z3 j (by lia),sq,if_neg (by lia),sg,if_neg (by lia)]
theorem own_Stairs_push {f:Addr} {fd:FuncData} (F:Fun K "push" "Stairs.push" s_Stairs_push f fd) (bi:Binds K fd P_Stairs_push []) (m:Meth K (clsOf K "Stairs") "push" f) (T:Txt K mg) (M_Steps_put:MDef P w K mg base (clsOf K "Stairs") "put" 3 P_Steps_put (spPut K)) (M_Steps_leaver:MDef P w K mg base (clsOf K "Stairs") "leaver" 4 P_Steps_leaver (spLeav K)) (M_Stairs_come_apart:MDef P w K mg base (clsOf K "Stairs") "come_apart" 7 P_Stairs_come_apart (spComeA K)) (M_Steps_go_out:MDef P w K mg base (clsOf K "Stairs") "go_out" 5 P_Steps_go_out (spGoOut K)):∀ n,MDef P w K mg base (clsOf K "Stairs") "push" (n+8) P_Stairs_push (spPush K n)
  | 0=>by
    have M0:MDef P w K mg base (clsOf K "Stairs") "push" 7 P_Stairs_push spNever:=⟨f,fd,⟨fun _ _ _ _ h=>h.elim,fun _ _ _ _ _ _ _ _ _ _ _ _ _ h=>h.elim⟩,m,bi⟩
    exact ⟨f,fd,ok_Stairs_push (r:=0) (fun _ h=>by lia) F T M_Steps_put M_Steps_leaver M_Stairs_come_apart M_Steps_go_out M0,m,bi⟩
  | n+1=>⟨f,fd,ok_Stairs_push (r:=n+1) (fun j h=>by cases (show j=n by lia); rfl) F T M_Steps_put M_Steps_leaver M_Stairs_come_apart M_Steps_go_out (own_Stairs_push F bi m T M_Steps_put M_Steps_leaver M_Stairs_come_apart M_Steps_go_out n),m,bi⟩
end
section
def spApart (K:PySem.W.Frag):Sp:=fun vs H Q _=>∃ (A:TA) (g:Pln) (st:Stt) (os:OS) (n:Nat) (b:Int),vs=[.ref A.p,.int (nearF st b:Nat),.int b]∧StairsAt K H A g st os n∧Disj st∧b∈g.U∧n≤500000∧(Disj (fetchA g (nearF st b) b st)→b∈((fetchA g (nearF st b) b st).at_ 0).seq→Res K H A g os (fetchA g (nearF st b) b st) (n+50) (Q .non))
theorem ok_Stairs_fetch_apart {f:Addr} {fd:FuncData} (F:Fun K "fetch_apart" "Stairs.fetch_apart" s_Stairs_fetch_apart f fd) (T:Txt K mg) (M_Steps_use_in:MDef P w K mg base (clsOf K "Stairs") "use_in" 4 P_Steps_use_in (spUseIn K)) (M_Steps_words:MDef P w K mg base (clsOf K "Stairs") "words" 4 P_Steps_words (spTWords K)) (M_Steps_go_out:MDef P w K mg base (clsOf K "Stairs") "go_out" 5 P_Steps_go_out (spGoOut K)) (M_Stairs_push':∀ n,MDef P w K mg base (clsOf K "Stairs") "push" (n+8) P_Stairs_push (spPush K n)):FnOk P w K mg base CX0 13 f fd P_Stairs_fetch_apart (spApart K):=by
  refine F.ok sc_Stairs_fetch_apart (fun vs H Q E h=>?_) (fun cdv A outer s0 H vs Q E hr h=>?_)
  · obtain ⟨A,g,st,os,n,b,rfl,_⟩:=h
    rfl
  obtain ⟨A,g,st,os,n,b,rfl,R,dj,bU,hn,q⟩:=h
  have nd:=sc_Stairs_fetch_apart.nd
  have l4:g.n≤4:=R.wf.l4
  have l1:1≤g.n:=R.wf.l1
  have M_Stairs_push:=M_Stairs_push' g.n
  refine ⟨_,(pss_one (ps_if (pt_cmpR op_eq (pv 1) pe_int (nomark _)) (pss_one (ps_expr (pe_methN M_Steps_use_in hr.m T.cl_Stairs (pv 0) (pc (pv 1) (pc (pv 2) pa_nil))))) (pss_one (ps_if (pt_cmpR op_eq (pv 1) (pe_fldK (K:=K) rfl (pv 0) rfl) (nomark _)) (pss_one (ps_expr (pe_methN M_Stairs_push hr.m T.cl_Stairs (pv 0) (pc pe_int (pc (pv 2) (pc (pe_methN M_Steps_words hr.m T.cl_Stairs (pv 0) (pc (pv 1) (pc (pv 2) pa_nil))) (pc pe_bl pa_nil))))))) (pss_cons (ps_asg (pe_methN M_Steps_go_out hr.m T.cl_Stairs (pv 0) (pc (pv 1) (pc (pv 2) pa_nil))) (pg_tupK (K:=K) (n:=2) rfl rfl (pgs_cons (pgn 3 nd) (pgs_cons (pgn 4 nd) pgs_nil))))
      (pss_one (ps_expr (pe_methN M_Stairs_push hr.m T.cl_Stairs (pv 0) (pc pe_int (pc (pv 2) (pc (pv 3) (pc (pv 4) pa_nil)))))))))))),?_⟩
  obtain ⟨dx,h1⟩:=R.ob
  have ln:=R.ln
  have lS:=R.lS
  obtain ⟨b0,b1⟩:=R.wf.ub b bU
  have nle:=near_le st b
  have nlt:=near_lt (st:=st) (b:=b)
  have nno:=fun j=>near_not (st:=st) (b:=b) (j:=j)
  generalize nearF st b=k at *
  unfold fetchA at q
  refine ⟨_,rfl,rfl,_,rfl,eq_case (fun e=>?_) (fun e=>?_)⟩
  · have e0:k=0:=by lia
    subst e0
    rw [if_pos rfl] at q
    have hb:=nlt (by lia)
    have eu:usedS g 0 b st=st.set 0 (useS (g.cf 0) (st.at_ 0) b):=if_pos (by lia)
    rw [eu] at q
    have sq:∀ j,((st.set 0 (useS (g.cf 0) (st.at_ 0) b)).at_ j).seq.Perm (st.at_ j).seq:=fun j=>by
      rw [at_set']
      split
      · rename_i z; rw [z.1]; exact use_perm hb
      · exact List.Perm.refl _
    refine ⟨_,rfl,A.p,dx,_,rfl,h1,tf_no ..,_,rfl,_,rfl,A,g,st,os,n,0,b,rfl,R,by lia,hb,fun H1 os1 R1 p1=>q (fun i j hi hj hij x hx hx'=>?_) ((sq 0).mem_iff.mpr hb) _ _ (R1.le (by lia)) p1⟩
    rw [set_len] at hi hj
    exact dj i j hi hj hij x ((sq i).mem_iff.mp hx) ((sq j).mem_iff.mp hx')
  · have n0:k≠0:=by lia
    rw [if_neg n0] at q
    refine ⟨_,rfl,_,rfl,A.p,_,dx,_,_,rfl,h1,T.cl_Stairs,T.n_Stairs_last,tf_last ..,rfl,_,rfl,eq_case (fun e'=>?_) (fun e'=>?_)⟩
    · have ek:k=g.n:=by lia
      rw [if_pos ek] at q
      refine ⟨_,rfl,A.p,dx,_,rfl,h1,tf_no ..,_,rfl,_,rfl,A.p,dx,_,rfl,h1,tf_no ..,_,rfl,_,rfl,A,g,st,os,n,k,b,rfl,R,by lia,(fun h=>absurd h (by lia)),b0,b1,fun lw H1 hlw s1 ew=>?_⟩
      have ew:H1 lw=some (.lst ((memW g.size st.mem b).map V.int)):=by rw [ew]; unfold wordsF; rw [if_pos ek]
      exact ⟨A,g,st,os,n,0,b,lw,_,false,rfl,R.same s1,by lia,fun j hj=>nno j (by lia) hj,dj,bU,ew,R.fresh hlw,by unfold memW; rw [List.length_map,List.length_range],by lia,fun z1 z2 _ H2 os2 R2 p2=>q z1 (z2 (by lia)) _ _ (R2.le (by lia)) ((Pst.same s1).trans p2)⟩
    · have hkl:k<g.n:=by lia
      rw [if_neg (by lia)] at q
      have hb:=nlt (by lia)
      obtain ⟨u1,u2,u3,u4,u5,u6⟩:=R.bds (k:=k) (by lia)
      obtain ⟨d2,nw2⟩:=disj_out dj (by lia) u6 hb
      refine ⟨_,rfl,A.p,dx,_,rfl,h1,tf_no ..,_,rfl,_,rfl,A,g,st,os,n,k,b,rfl,R,hkl,hb,by lia,fun H2 os2 t l et el nl R2 p2=>⟨t,_,rfl,SqT.of et,rfl,_,_,rfl,gN ⟨_,_,rfl,gN ⟨rfl,?_⟩⟩⟩⟩
      try dsimp only
      obtain ⟨dx2,h2⟩:=R2.ob
      exact ⟨_,rfl,A.p,dx2,_,rfl,h2,tf_no ..,_,rfl,_,rfl,_,rfl,A,g,_,os2,_,0,b,l,_,_,rfl,R2,by lia,nw2,d2,bU,el,nl,(u2 b hb).2,by lia,fun z1 z2 _ H3 os3 R3 p3=>q z1 (z2 (by lia)) _ _ (R3.le (by lia)) (p2.trans p3)⟩
def spFetch (K:PySem.W.Frag):Sp:=fun vs H Q _=>∃ (A:TA) (g:Pln) (st:Stt) (os:OS) (n:Nat) (b:Int),vs=[.ref A.p,.int b]∧StairsAt K H A g st os n∧(g.kind = "apart" → Disj st)∧b∈g.U∧n≤400000∧((g.kind = "apart" → Disj (fetchS g b st))→b∈((fetchS g b st).at_ 0).seq→Res K H A g os (fetchS g b st) (n+60) (Q .non))
theorem ok_Stairs_fetch {f:Addr} {fd:FuncData} (F:Fun K "fetch" "Stairs.fetch" s_Stairs_fetch f fd) (T:Txt K mg) (M_Stairs_nearest:MDef P w K mg base (clsOf K "Stairs") "nearest" 3 P_Stairs_nearest (spNearest K)) (M_Steps_tell_found:MDef P w K mg base (clsOf K "Stairs") "tell_found" 1 P_Steps_tell_found (spTell K)) (M_Stairs_fetch_apart:MDef P w K mg base (clsOf K "Stairs") "fetch_apart" 13 P_Stairs_fetch_apart (spApart K)) (M_Stairs_fetch_down:MDef P w K mg base (clsOf K "Stairs") "fetch_down" 7 P_Stairs_fetch_down (spDown K)):FnOk P w K mg base CX0 14 f fd P_Stairs_fetch (spFetch K):=by
  refine F.ok sc_Stairs_fetch (fun vs H Q E h=>?_) (fun cdv A outer s0 H vs Q E hr h=>?_)
  · obtain ⟨A,g,st,os,n,b,rfl,_⟩:=h
    rfl
  obtain ⟨A,g,st,os,n,b,rfl,R,dj,bU,hn,q⟩:=h
  have nd:=sc_Stairs_fetch.nd
  refine ⟨_,(pss_cons (pst 2 nd (pe_methN M_Stairs_nearest hr.m T.cl_Stairs (pv 0) (pc (pv 1) pa_nil)))
      (pss_cons (ps_expr (pe_methN M_Steps_tell_found hr.m T.cl_Stairs (pv 0) (pc (pv 2) pa_nil)))
      (pss_one (ps_if (pt_cmpR op_eq (pe_fldK (K:=K) rfl (pv 0) rfl) pe_str (nomark _)) (pss_one (ps_expr (pe_methN M_Stairs_fetch_apart hr.m T.cl_Stairs (pv 0) (pc (pv 2) (pc (pv 1) pa_nil))))) (pss_one (ps_expr (pe_methN M_Stairs_fetch_down hr.m T.cl_Stairs (pv 0) (pc (pv 2) (pc (pv 1) pa_nil))))))))),?_⟩
  obtain ⟨dx,h1⟩:=R.ob
  refine ⟨_,rfl,A.p,dx,_,rfl,h1,tf_no ..,_,rfl,A,g,st,os,n,b,rfl,R,fun H1 s1=>gN ?_⟩
  try dsimp only
  have R1:=R.same s1
  refine ⟨_,rfl,A.p,dx,_,rfl,s1 _ _ h1,tf_no ..,_,rfl,A,g,st,os,n,nearF st b,rfl,R1,(by have:=near_le st b; have:=R.lS; have:=R.ln; lia),by lia,fun H2 os2 R2 p2=>?_⟩
  obtain ⟨dx2,h2⟩:=R2.ob
  unfold fetchS at q
  refine ⟨_,rfl,A.p,_,dx2,_,_,rfl,h2,T.cl_Stairs,T.n_Stairs_kind,tf_kind ..,rfl,_,rfl,ite_dec (fun c=>?_) (fun c=>?_)⟩
  · have c':g.kind = "apart" := by injection c
    rw [if_pos c'] at q
    exact ⟨_,rfl,A.p,dx2,_,rfl,h2,tf_no ..,_,rfl,_,rfl,A,g,st.tell (eF (nearF st b)),os2,_,b,rfl,R2,dj c',bU,by lia,fun z1 z2 H3 os3 R3 p3=>q (fun _=>z1) z2 _ _ (R3.le (by lia)) (((Pst.same s1).trans p2).trans p3)⟩
  · have c':¬ g.kind = "apart" := fun z=>c (by rw [z])
    rw [if_neg c'] at q
    exact ⟨_,rfl,A.p,dx2,_,rfl,h2,tf_no ..,_,rfl,_,rfl,A,g,st.tell (eF (nearF st b)),os2,_,nearF st b,b,rfl,R2,rfl,bU,by lia,fun z2 H3 os3 R3 p3=>q (fun z=>absurd z c') z2 _ _ (R3.le (by lia)) (((Pst.same s1).trans p2).trans p3)⟩
def spRead (K:PySem.W.Frag):Sp:=fun vs H Q _=>∃ (A:TA) (g:Pln) (st:Stt) (os:OS) (sp:Int),vs=[.ref A.p,.int sp]∧StairsAt K H A g st os 0∧(g.kind = "apart" → Disj st)∧sp / g.size∈g.U ∧
  ∀ H' e' os' tp,H' tp=some (.tup [.int (wordF g ((fetchS g (sp / g.size) st).at_ 0) sp),.ref A.ev])→StairsAt K H' (A.re e') g (clr (fetchS g (sp / g.size) st)) os' 0→EvL g.n H' A.ev (fetchS g (sp / g.size) st).ev→(fetchS g (sp / g.size) st).ev.length≤100→¬ OW (A.re e') os' A.ev→Pst (OW A os) H H' (OW (A.re e') os')→(g.kind = "apart" → Disj (fetchS g (sp / g.size) st))→sp / g.size∈((fetchS g (sp / g.size) st).at_ 0).seq→Q (.ref tp) H'
theorem ok_Stairs_read {f:Addr} {fd:FuncData} (F:Fun K "read" "Stairs.read" s_Stairs_read f fd) (T:Txt K mg) (D_board_of:Def P w K mg base "board_of" 1 P_board_of spBoard) (M_Stairs_fetch:MDef P w K mg base (clsOf K "Stairs") "fetch" 14 P_Stairs_fetch (spFetch K)) (M_Steps_word_in:MDef P w K mg base (clsOf K "Stairs") "word_in" 4 P_Steps_word_in (spWordIn K)) (M_Steps_happened:MDef P w K mg base (clsOf K "Stairs") "happened" 1 P_Steps_happened (spHappened K)):FnOk P w K mg base CX0 15 f fd P_Stairs_read (spRead K):=by
  refine F.ok sc_Stairs_read (fun vs H Q E h=>?_) (fun cdv A outer s0 H vs Q E hr h=>?_)
  · obtain ⟨A,g,st,os,sp,rfl,_⟩:=h
    rfl
  obtain ⟨A,g,st,os,sp,rfl,R,dj,bU,q⟩:=h
  have nd:=sc_Stairs_read.nd
  refine ⟨_,(pss_cons (pst 2 nd (pe_defN D_board_of hr.m rfl (pc (pe_fldK (K:=K) rfl (pv 0) rfl) (pc (pv 1) pa_nil))))
      (pss_cons (ps_expr (pe_methN M_Stairs_fetch hr.m T.cl_Stairs (pv 0) (pc (pv 2) pa_nil)))
      (pss_one (ps_ret (pe_tup (pc (pe_methN M_Steps_word_in hr.m T.cl_Stairs (pv 0) (pc pe_int (pc (pv 1) pa_nil))) (pc (pe_methN0 M_Steps_happened hr.m T.cl_Stairs (pv 0)) pa_nil))))))),?_⟩
  obtain ⟨dx,h1⟩:=R.ob
  have z0:=R.wf.z0
  have z1:=R.wf.z1
  have l1:1≤g.n:=R.wf.l1
  refine ⟨_,rfl,A.p,_,dx,_,_,rfl,h1,T.cl_Stairs,T.n_Stairs_size,tf_size ..,_,rfl,g.size,sp,rfl,by lia,by lia,gN ?_⟩
  try dsimp only
  refine ⟨_,rfl,A.p,dx,_,rfl,h1,tf_no ..,_,rfl,A,g,st,os,0,_,rfl,R,dj,bU,by decide,fun y1 y2 H1 os1 R1 p1=>?_⟩
  obtain ⟨dx1,h2⟩:=R1.ob
  refine ⟨_,rfl,A.p,dx1,_,rfl,h2,tf_no ..,_,rfl,A,g,_,os1,_,0,sp,rfl,R1,l1,y2,fun H2 s2=>?_⟩
  have R2:=R1.same s2
  refine ⟨_,rfl,A.p,dx1,_,rfl,s2 _ _ h2,tf_no ..,A,g,_,os1,_,rfl,R2,fun e' H3 R3 ev3 ne3 p3=>⟨(by show 2≤sizeLine; decide),fun tp htp=>?_⟩⟩
  have s4:=same_upd htp (.tup [.int (wordF g ((fetchS g (sp / g.size) st).at_ 0) sp),.ref A.ev])
  exact q _ e' os1 tp upd_same (R3.same s4) (ev3.frame (fun o e=>s4 _ _ e) fun x ys e=>s4 _ _ e) (Nat.le_trans R1.evn (by decide)) ne3 (((p1.trans (Pst.same s2)).trans p3).trans (Pst.same s4)) y1 y2
def spWrite (K:PySem.W.Frag):Sp:=fun vs H Q _=>∃ (A:TA) (g:Pln) (st:Stt) (os:OS) (sp x:Int),vs=[.ref A.p,.int sp,.int x]∧StairsAt K H A g st os 0∧(g.kind = "apart" → Disj st)∧sp / g.size∈g.U ∧
  ∀ H' e' os',StairsAt K H' (A.re e') g (clr (writeS g sp x st)) os' 0→EvL g.n H' A.ev (writeS g sp x st).ev→(writeS g sp x st).ev.length≤100→¬ OW (A.re e') os' A.ev→Pst (OW A os) H H' (OW (A.re e') os')→(g.kind = "apart" → Disj (writeS g sp x st))→sp / g.size∈((writeS g sp x st).at_ 0).seq→Q (.ref A.ev) H'
theorem disj_sq {st st':Stt} (d:Disj st) (l:st'.rm.length=st.rm.length) (sq:∀ j,(st'.at_ j).seq=(st.at_ j).seq):Disj st':=fun i j hi hj hij x hx hx'=>by
  rw [l] at hi hj
  rw [sq] at hx hx'
  exact d i j hi hj hij x hx hx'
theorem ok_Stairs_write {f:Addr} {fd:FuncData} (F:Fun K "write" "Stairs.write" s_Stairs_write f fd) (T:Txt K mg) (D_board_of:Def P w K mg base "board_of" 1 P_board_of spBoard) (M_Stairs_fetch:MDef P w K mg base (clsOf K "Stairs") "fetch" 14 P_Stairs_fetch (spFetch K)) (M_Steps_put_word:MDef P w K mg base (clsOf K "Stairs") "put_word" 2 P_Steps_put_word (spPutWord K)) (M_Stairs_change:MDef P w K mg base (clsOf K "Stairs") "change" 5 P_Stairs_change (spChange K)) (M_Steps_happened:MDef P w K mg base (clsOf K "Stairs") "happened" 1 P_Steps_happened (spHappened K)):FnOk P w K mg base CX0 15 f fd P_Stairs_write (spWrite K):=by
  refine F.ok sc_Stairs_write (fun vs H Q E h=>?_) (fun cdv A outer s0 H vs Q E hr h=>?_)
  · obtain ⟨A,g,st,os,sp,x,rfl,_⟩:=h
    rfl
  obtain ⟨A,g,st,os,sp,x,rfl,R,dj,bU,q⟩:=h
  have nd:=sc_Stairs_write.nd
  refine ⟨_,(pss_cons (pst 3 nd (pe_defN D_board_of hr.m rfl (pc (pe_fldK (K:=K) rfl (pv 0) rfl) (pc (pv 1) pa_nil))))
      (pss_cons (ps_expr (pe_methN M_Stairs_fetch hr.m T.cl_Stairs (pv 0) (pc (pv 3) pa_nil)))
      (pss_cons (ps_expr (pe_methN M_Steps_put_word hr.m T.cl_Stairs (pv 0) (pc pe_int (pc (pv 1) (pc (pv 2) pa_nil)))))
      (pss_cons (ps_expr (pe_methN M_Stairs_change hr.m T.cl_Stairs (pv 0) (pc pe_int (pc (pv 3) pa_nil))))
      (pss_one (ps_ret (pe_methN0 M_Steps_happened hr.m T.cl_Stairs (pv 0)))))))),?_⟩
  obtain ⟨dx,h1⟩:=R.ob
  have z0:=R.wf.z0
  have z1:=R.wf.z1
  have l1:1≤g.n:=R.wf.l1
  refine ⟨_,rfl,A.p,_,dx,_,_,rfl,h1,T.cl_Stairs,T.n_Stairs_size,tf_size ..,_,rfl,g.size,sp,rfl,by lia,by lia,gN ?_⟩
  try dsimp only
  refine ⟨_,rfl,A.p,dx,_,rfl,h1,tf_no ..,_,rfl,A,g,st,os,0,_,rfl,R,dj,bU,by decide,fun y1 y2 H1 os1 R1 p1=>?_⟩
  obtain ⟨dx1,h2⟩:=R1.ob
  refine ⟨_,rfl,A.p,dx1,_,rfl,h2,tf_no ..,_,rfl,_,rfl,A,g,_,os1,_,0,sp,x,rfl,R1,l1,y2,fun H2 os2 R2 p2=>?_⟩
  obtain ⟨dx2,h3⟩:=R2.ob
  have sq2:∀ j,(((fetchS g (sp / g.size) st).set 0 (pwS g ((fetchS g (sp / g.size) st).at_ 0) sp x)).at_ j).seq=((fetchS g (sp / g.size) st).at_ j).seq:=fun j=>set_sq rfl
  refine ⟨_,rfl,A.p,dx2,_,rfl,h3,tf_no ..,_,rfl,A,g,_,os2,_,0,_,rfl,R2,l1,by rw [sq2]; exact y2,by decide,fun H3 os3 R3 p3=>?_⟩
  obtain ⟨dx3,h4⟩:=R3.ob
  have sq3:∀ j,((writeS g sp x st).at_ j).seq=((fetchS g (sp / g.size) st).at_ j).seq:=fun j=>change_sq.trans (sq2 j)
  refine ⟨_,rfl,A.p,dx3,_,rfl,h4,tf_no ..,A,g,_,os3,_,rfl,R3,fun e' H4 R4 ev4 ne4 p4=>?_⟩
  exact q _ e' os3 R4 ev4 (Nat.le_trans R3.evn (by decide)) ne4 (((p1.trans p2).trans p3).trans p4) (fun c=>disj_sq (y1 c) (by have a1:=R3.lS; have a2:=R1.lS; show (writeS g sp x st).rm.length=_; rw [a2]; exact a1) sq3) (by rw [sq3]; exact y2)
end
section
theorem pick2s (x y:Str) (r:Int) (h0:0≤r) (h1:r<2):∃ z:Str,atI [V.str x,V.str y] r=some (.str z)∧(z=x∨z=y):=by
  have h:r=0∨r=1:=by lia
  rcases h with rfl | rfl
  · exact ⟨x,atI0,.inl rfl⟩
  · exact ⟨y,atI1,.inr rfl⟩
def spPlan:Sp:=fun vs H Q _=>∃ (b:Addr) (a q c:Int),vs=[.ref b]∧BoxAt H b a q c∧c<400000000 ∧
  ∀ (p:Addr) (sh pl:Int) (r wr:Str) (a' c':Int) (H':Hp),H' p=some (.tup [.int sh,.int pl,.str r,.str wr])→1≤sh→sh≤64→1≤pl→pl≤16→Rule r→Wr wr→BoxAt H' b a' q c'→c'≤c+6→SB b H H'→Q (.ref p) H'
theorem ok_room_plan {f:Addr} {fd:FuncData} (F:Fun K "_law_room_plan" "_law_room_plan" s_room_plan f fd) (T:Txt K mg) (D_take:Def P w K mg base "_law_take" 1 P_take spTake):FnOk P w K mg base CX0 2 f fd P_room_plan spPlan:=by
  refine F.ok sc_room_plan (fun vs H Q E h=>?_) (fun cdv A outer st H vs Q E hr h=>?_)
  · obtain ⟨b,a,q,c,rfl,_⟩:=h
    rfl
  obtain ⟨b,a,q,c,rfl,B,hc,k⟩:=h
  have nd:=sc_room_plan.nd
  refine ⟨_,(pss_cons (pst 1 nd (pe_cmpR op_eq (pe_defN D_take hr.m rfl (pc (pv 0) (pc pe_int pa_nil))) pe_int (nomark _)))
      (pss_cons (pst 2 nd (pe_ifExp (pt_val (pv 1)) (pe_op op_add pe_int (pe_defN D_take hr.m rfl (pc (pv 0) (pc pe_int pa_nil)))) (pe_ix (ix_listK (K:=K) rfl) (pe_lst (pc pe_int (pc pe_int (pc pe_int (pc pe_int (pc pe_int pa_nil)))))) (pe_defN D_take hr.m rfl (pc (pv 0) (pc pe_int pa_nil))) (fun _ _=>rfl))))
      (pss_cons (pst 3 nd (pe_op op_add pe_int (pe_defN D_take hr.m rfl (pc (pv 0) (pc (pe_ifExp (pt_val (pv 1)) pe_int pe_int) pa_nil)))))
      (pss_cons (pst 4 nd (pe_ix (ix_listK (K:=K) rfl) (pe_lst (pc pe_str (pc pe_str (pc pe_str pa_nil)))) (pe_defN D_take hr.m rfl (pc (pv 0) (pc pe_int pa_nil))) (fun _ _=>rfl)))
      (pss_one (ps_ret (pe_tup (pc (pv 2) (pc (pv 3) (pc (pv 4) (pc (pe_ix (ix_listK (K:=K) rfl) (pe_lst (pc pe_str (pc pe_str pa_nil))) (pe_defN D_take hr.m rfl (pc (pv 0) (pc pe_int pa_nil))) (fun _ _=>rfl)) pa_nil))))))))))),?_⟩
  refine ⟨_,rfl,b,a,q,c,6,rfl,B,by lia,by decide,by decide,fun r1 a1 c1 H1 r10 r11 B1 hc1 s1=>⟨rfl,?_⟩⟩
  generalize decide (V.int r1=V.int 0)=far
  try dsimp only
  refine cpA (fun v G=>∃ z a' c',v=.int z∧1≤z∧z≤64∧BoxAt G b a' q c'∧c'≤c1+1∧SB b H G) (fun Q' k'=>?_) ?_
  · refine ⟨_,rfl,_,rfl,?_⟩
    cases far with
    | true=>exact ifT rfl ⟨_,rfl,b,a1,q,c1,64,rfl,B1,by lia,by decide,by decide,fun r2 a2 c2 H2 r20 r21 B2 hc2 s2=>⟨_,_,rfl,rfl,k' _ _ ⟨_,a2,c2,rfl,by lia,by lia,B2,by lia,s1.trans s2⟩⟩⟩
    | false =>
      refine ifF rfl ⟨(by show 5≤sizeLine; decide),fun p0 hp0=>⟨_,rfl,b,a1,q,c1,5,rfl,B1.same (same_upd hp0 _),by lia,by decide,by decide,fun r2 a2 c2 H2 r20 r21 B2 hc2 s2=>?_⟩⟩
      have q0:b≠p0:=ne_of_none B1.at' hp0
      obtain ⟨sh,hsh,sh0,sh1⟩:=pick5 r2 r20 r21
      exact ⟨p0,_,_,_,rfl,rfl,SqL.of (s2 _ _ (Ne.symm q0) upd_same),hsh,k' _ _ ⟨_,a2,c2,rfl,sh0,sh1,B2,by lia,s1.trans (((same_upd hp0 _).sb b).trans s2)⟩⟩
  rintro _ H2 ⟨sh,a2,c2,rfl,sh0,sh1,B2,hc2,u2⟩
  refine gN ?_
  try dsimp only
  refine cpA (fun v G=>∃ z a' c',v=.int z∧1≤z∧z≤16∧BoxAt G b a' q c'∧c'≤c2+1∧SB b H G) (fun Q' k'=>?_) ?_
  · refine ⟨_,rfl,_,rfl,_,rfl,?_⟩
    cases far with
    | true=>exact ifT rfl ⟨b,a2,q,c2,16,rfl,B2,by lia,by decide,by decide,fun r3 a3 c3 H3 r30 r31 B3 hc3 s3=>⟨_,_,rfl,rfl,k' _ _ ⟨_,a3,c3,rfl,by lia,by lia,B3,by lia,u2.trans s3⟩⟩⟩
    | false=>exact ifF rfl ⟨b,a2,q,c2,4,rfl,B2,by lia,by decide,by decide,fun r3 a3 c3 H3 r30 r31 B3 hc3 s3=>⟨_,_,rfl,rfl,k' _ _ ⟨_,a3,c3,rfl,by lia,by lia,B3,by lia,u2.trans s3⟩⟩⟩
  rintro _ H3 ⟨pl,a3,c3,rfl,pl0,pl1,B3,hc3,u3⟩
  refine gN ?_
  try dsimp only
  refine ⟨(by show 3≤sizeLine; decide),fun p3 hp3=>⟨_,rfl,b,a3,q,c3,3,rfl,B3.same (same_upd hp3 _),by lia,by decide,by decide,fun r4 a4 c4 H4 r40 r41 B4 hc4 s4=>?_⟩⟩
  have q3:b≠p3:=ne_of_none B3.at' hp3
  obtain ⟨ru,hru,iru⟩:=pickR r4 r40 r41
  refine ⟨p3,_,_,_,rfl,rfl,SqL.of (s4 _ _ (Ne.symm q3) upd_same),hru,?_⟩
  have u4:SB b H H4:=u3.trans (((same_upd hp3 _).sb b).trans s4)
  refine ⟨_,rfl,_,rfl,_,rfl,(by show 2≤sizeLine; decide),fun p5 hp5=>⟨_,rfl,b,a4,q,c4,2,rfl,B4.same (same_upd hp5 _),by lia,by decide,by decide,fun r5 a5 c5 H5 r50 r51 B5 hc5 s5=>?_⟩⟩
  have q5:b≠p5:=ne_of_none B4.at' hp5
  obtain ⟨wr,hwr,iwr⟩:=pick2s "late" "through" r5 r50 r51
  refine ⟨p5,_,_,_,rfl,rfl,SqL.of (s5 _ _ (Ne.symm q5) upd_same),hwr,(by show 4≤sizeLine; decide),fun pp hpp=>?_⟩
  exact k pp sh pl ru wr a5 c5 _ upd_same sh0 sh1 pl0 pl1 iru iwr (B5.same (same_upd hpp _)) (by lia)
    ((u4.trans (((same_upd hp5 _).sb b).trans s5)).trans ((same_upd hpp _).sb b))
end
theorem pick3k (r:Int) (h0:0≤r) (h1:r<3):∃ z:Str,atI [V.str "within",V.str "apart",V.str "free"] r=some (.str z)∧(z = "within" ∨ z = "apart" ∨ z = "free"):=by
  have h:r=0∨r=1∨r=2:=by lia
  rcases h with rfl | rfl | rfl
  · exact ⟨_,atI0,.inl rfl⟩
  · exact ⟨_,atI1,.inr (.inl rfl)⟩
  · exact ⟨_,atI2,.inr (.inr rfl)⟩
section
def spPlanL (K:PySem.W.Frag):Sp:=fun vs H Q _=>∃ (b:Addr) (a q c:Int),vs=[.ref b]∧BoxAt H b a q c∧c<300000000 ∧
  ∀ (pp tp:Addr) (ts:List Addr) (size:Int) (kind:Str) (cfs:List Cf) (a' c':Int) (H':Hp),H' pp=some (.tup [.int size,.str kind,.ref tp])→PlanAt K H' tp ts cfs→(kind = "within" ∨ kind = "apart" ∨ kind = "free")→1≤size→size≤16→1≤cfs.length→cfs.length≤4→BoxAt H' b a' q c'→c'≤c+40→SB b H H'→Q (.ref pp) H'
theorem ok_plan {f:Addr} {fd:FuncData} (F:Fun K "_law_plan" "_law_plan" s_plan f fd) (T:Txt K mg) (D_take:Def P w K mg base "_law_take" 1 P_take spTake) (D_room_plan:Def P w K mg base "_law_room_plan" 2 P_room_plan spPlan):FnOk P w K mg base CX0 3 f fd P_plan (spPlanL K):=by
  refine F.ok sc_plan (fun vs H Q E h=>?_) (fun cdv A outer st H vs Q E hr h=>?_)
  · obtain ⟨b,a,q,c,rfl,_⟩:=h
    rfl
  obtain ⟨b,a,q,c,rfl,B,hc,k⟩:=h
  have nd:=sc_plan.nd
  refine ⟨_,(pss_cons (pst 1 nd (pe_ix (ix_listK (K:=K) rfl) (pe_lst (pc pe_str (pc pe_str (pc pe_str pa_nil)))) (pe_defN D_take hr.m rfl (pc (pv 0) (pc pe_int pa_nil))) (fun _ _=>rfl)))
      (pss_cons (pst 2 nd (pe_op op_add pe_int (pe_defN D_take hr.m rfl (pc (pv 0) (pc (pe_ix (ix_listK (K:=K) rfl) (pe_lst (pc pe_int (pc pe_int pa_nil))) (pe_callTyN call_int1 rfl T.z_int boot_intT (pc (pe_cmpR op_eq (pe_defN D_take hr.m rfl (pc (pv 0) (pc pe_int pa_nil))) pe_int (nomark _)) pa_nil)) (fun _ _=>rfl)) pa_nil)))))
      (pss_one (ps_ret (pe_tup (pc (pv 2) (pc (pv 1) (pc (pe_callTyN (call_tuple_ofK (K:=K) rfl) rfl T.z_tuple boot_tupleT (pc (pe_comp0 (compOk_of (osc:=(defScope s_plan)) (oN:=N_plan) (N:=["_law_k", "_law_box_here"]) (own:=1) (js:=[0]) (by decide +kernel) rfl rfl) rfl (pi_range1 rfl T.z_range (pc (pe_op op_add pe_int (pe_defN D_take hr.m rfl (pc (pv 0) (pc pe_int pa_nil)))) pa_nil)) (fun _ _ _ _ _ _=>(pgn 0 (show List.Nodup (["_law_k", "_law_box_here"]:List Str) by decide +kernel))) (fun _ _ _ _ _ _=>(pe_defN D_room_plan hr.m rfl (pc (pv 1) pa_nil)))) pa_nil)) pa_nil)))))))),?_⟩
  refine ⟨(by show 3≤sizeLine; decide),fun p1 hp1=>⟨_,rfl,b,a,q,c,3,rfl,B.same (same_upd hp1 _),by lia,by decide,by decide,fun r1 a1 c1 H1 r10 r11 B1 hc1 s1=>?_⟩⟩
  have q1:b≠p1:=ne_of_none B.at' hp1
  obtain ⟨kd,hkd,ikd⟩:=pick3k r1 r10 r11
  refine ⟨p1,_,_,_,rfl,rfl,SqL.of (s1 _ _ (Ne.symm q1) upd_same),hkd,gN ?_⟩
  try dsimp only
  have u1:SB b H H1:=((same_upd hp1 _).sb b).trans s1
  refine ⟨_,rfl,(by show 2≤sizeLine; decide),fun p2 hp2=>⟨_,rfl,b,a1,q,c1,8,rfl,B1.same (same_upd hp2 _),by lia,by decide,by decide,fun r2 a2 c2 H2 r20 r21 B2 hc2 s2=>⟨rfl,.inr ⟨_,rfl,?_⟩⟩⟩⟩
  have q2:b≠p2:=ne_of_none B1.at' hp2
  obtain ⟨n,hn,hn'⟩:=pick01 4 16 (decide (V.int r2=V.int 0))
  refine ⟨p2,_,_,_,rfl,rfl,SqL.of (s2 _ _ (Ne.symm q2) upd_same),hn,b,a2,q,c2,n,rfl,B2,by lia,by lia,by lia,fun r3 a3 c3 H3 r30 r31 B3 hc3 s3=>⟨_,_,rfl,rfl,gN ?_⟩⟩
  try dsimp only
  have u3:SB b H H3:=(((u1.trans ((same_upd hp2 _).sb b)).trans s2)).trans s3
  refine ⟨_,rfl,_,rfl,_,rfl,b,a3,q,c3,4,rfl,B3,by lia,by decide,by decide,fun r4 a4 c4 H4 r40 r41 B4 hc4 s4=>⟨_,_,rfl,rfl,_,rfl,by lia,by lia,fun l hl=>?_⟩⟩
  have nlb:l≠b:=Ne.symm (ne_of_none B4.at' hl)
  have u4:=u3.trans s4
  refine comp_range (lo:=0) (n:=(1+r4).toNat) (l:=l) (fun j ys σ G=>∃ (v0:Option V) (ts:List Addr) (cfs:List Cf) (a' c':Int),σ=[v0,some (.ref b)]∧ys=ts.map V.ref∧ts.length=j∧cfs.length=j∧(∀ (i:Nat) (t:Addr) (c:Cf),ts[i]?=some t→cfs[i]?=some c→∃ wr:Str,G t=some (.tup [.int c.sh,.int c.pl,.str c.ru,.str wr])∧c.late=decide (wr = "late")∧Wr wr)∧(∀ c∈cfs,1≤c.sh∧c.sh≤64∧1≤c.pl∧c.pl≤16∧Rule c.ru)∧G l=some (.lst ys)∧BoxAt G b a' q c'∧c'≤c4+6 * (j:Int)∧SB b H G)
    ⟨none,[],[],a4,c4,rfl,rfl,rfl,rfl,(fun i t c h=>by simp at h),(fun c h=>by simp at h),upd_same,B4.same (same_upd hl _),by lia,u4.trans ((same_upd hl _).sb b)⟩ ?_ ?_
  · rintro j ys σ G hj hys ⟨v0,ts,cfs,a',c',rfl,rfl,hl1,hl2,hat,hcf,g1,B',hc',u'⟩
    refine ⟨_,rfl,b,a',q,c',rfl,B',by lia,fun p sh pl r wr a5 c5 G5 ep sh0 sh1 pl0 pl1 hr hw B5 hc5 s5=>?_⟩
    have g5:=s5 _ _ nlb g1
    have npl:p≠l:=fun z=>by rw [z,g5] at ep; cases ep
    refine CNx.of (Nat.le_trans (by lia:(1+r4).toNat≤4) (by decide)) hj hys g5 ⟨_,ts++[p],cfs++[⟨sh,pl,r,decide (wr = "late")⟩],a5,c5,rfl,by rw [List.map_append]; rfl,by rw [List.length_append,hl1]; rfl,by rw [List.length_append,hl2]; rfl,fun i t c h1 h2=>?_,fun c hc=>?_,upd_same,B5.sb (sb_upd l _ _) (Ne.symm nlb),by lia,fun x o nx e=>?_⟩
    · by_cases hi:i<j
      · rw [List.getElem?_append_left (by lia)] at h1 h2
        obtain ⟨wr',e1,e2⟩:=hat i t c h1 h2
        refine ⟨wr',?_,e2⟩
        have ntb:t≠b:=fun z=>by rw [z,B'.at'] at e1; cases e1
        have e1':=s5 _ _ ntb e1
        rw [upd_ne (fun z=>by rw [z,g5] at e1'; cases e1')]
        exact e1'
      · have hi2:i=j:=by have:=(List.getElem?_eq_some_iff.mp h1).1; rw [List.length_append,List.length_singleton] at this; lia
        subst hi2
        rw [List.getElem?_append_right (by lia),show i - ts.length=0 by lia] at h1
        rw [List.getElem?_append_right (by lia),show i - cfs.length=0 by lia] at h2
        cases h1; cases h2
        exact ⟨wr,by rw [upd_ne npl]; exact ep,rfl,hw⟩
    · rcases List.mem_append.mp hc with hc | hc
      · exact hcf c hc
      · rw [List.mem_singleton.mp hc]; exact ⟨sh0,sh1,pl0,pl1,hr⟩
    · have nx2:x≠l:=fun z=>by
        rw [z] at e
        have:=u4 _ _ nlb e
        rw [this] at hl; cases hl
      rw [upd_ne nx2]
      exact s5 _ _ nx (u' _ _ nx e)
  rintro ys σ G _ ⟨v0,ts,cfs,a',c',rfl,rfl,hl1,hl2,hat,hcf,g1,B',hc',u'⟩
  refine ⟨l,_,rfl,.inl ⟨SqL.of g1,fun tp htp=>⟨(by show 3≤sizeLine; decide),fun pp hpp=>?_⟩⟩⟩
  have s5:=same_upd htp (.tup (ts.map V.ref))
  have s6:=s5.trans (same_upd hpp (.tup [.int (1+r3),.str kd,.ref tp]))
  refine k pp tp ts (1+r3) kd cfs a' c' _ upd_same ⟨same_upd hpp _ _ _ upd_same,by show ts.length=cfs.length; lia,fun i t c h1 h2=>by obtain ⟨wr,e1,e2⟩:=hat i t c h1 h2; exact ⟨wr,s6 _ _ e1,e2⟩,hcf⟩ ikd (by show 1≤1+r3; lia) (by show 1+r3≤16; lia) (by show 1≤cfs.length; lia) (by show cfs.length≤4; lia) (B'.same s6) (by lia) (u'.trans (s6.sb b))
end
section
def spMany:Sp:=fun vs H Q _=>∃ (b:Addr) (a q c x y:Int),vs=[.ref b,.int x,.int y]∧BoxAt H b a q c∧c<1099511627770∧0<x∧x≤y∧y<1073741824 ∧
  ∀ (r a' c':Int) (H':Hp),1≤r→r≤y→BoxAt H' b a' q c'→c'≤c+2→SB b H H'→Q (.int r) H'
theorem ok_many {f:Addr} {fd:FuncData} (F:Fun K "_law_many" "_law_many" s_many f fd) (T:Txt K mg) (D_take:Def P w K mg base "_law_take" 1 P_take spTake):FnOk P w K mg base CX0 2 f fd P_many spMany:=by
  refine F.ok sc_many (fun vs H Q E h=>?_) (fun cdv A outer st H vs Q E hr h=>?_)
  · obtain ⟨b,a,q,c,x,y,rfl,_⟩:=h
    rfl
  obtain ⟨b,a,q,c,x,y,rfl,B,hc,x0,xy,y1,k⟩:=h
  have nd:=sc_many.nd
  refine ⟨_,(pss_cons (pst 3 nd (pe_cmpR op_eq (pe_defN D_take hr.m rfl (pc (pv 0) (pc pe_int pa_nil))) pe_int (nomark _)))
      (pss_one (ps_ret (pe_op op_add pe_int (pe_defN D_take hr.m rfl (pc (pv 0) (pc (pe_ifExp (pt_val (pv 3)) (pv 2) (pv 1)) pa_nil))))))),?_⟩
  refine ⟨_,rfl,b,a,q,c,8,rfl,B,by lia,by decide,by decide,fun r a1 c1 G1 r0 r1 B1 hc1 t1=>?_⟩
  refine ⟨rfl,gN ?_⟩
  refine ⟨_,rfl,_,rfl,_,rfl,ite_dec' (fun z=>?_) (fun z=>?_)⟩
  · refine ⟨_,rfl,b,a1,q,c1,y,rfl,B1,by lia,by lia,by lia,fun r2 a2 c2 G2 r20 r21 B2 hc2 t2=>?_⟩
    exact ⟨_,_,rfl,rfl,k (1+r2) a2 c2 G2 (by lia) (by lia) B2 (by lia) (t1.trans t2)⟩
  · refine ⟨_,rfl,b,a1,q,c1,x,rfl,B1,by lia,by lia,by lia,fun r2 a2 c2 G2 r20 r21 B2 hc2 t2=>?_⟩
    exact ⟨_,_,rfl,rfl,k (1+r2) a2 c2 G2 (by lia) (by lia) B2 (by lia) (t1.trans t2)⟩
end
inductive Dd where
  | rd (sp:Int)
  | wt (sp x:Int)
def Dd.sp:Dd→Int
  | .rd sp=>sp
  | .wt sp _=>sp
def Dd.vs:Dd→List V
  | .rd sp=>[.str "read",.int sp]
  | .wt sp x=>[.str "write",.int sp,.int x]
def Dd.ok:Dd→Prop
  | .rd sp=>0≤sp∧sp≤9999
  | .wt sp x=>(0≤sp∧sp≤9999)∧x.natAbs<10 ^ 40
section
def spWordL:Sp:=fun vs H Q _=>∃ (b:Addr) (a q c:Int),vs=[.ref b]∧BoxAt H b a q c∧c<400000000∧∀ (x a' c':Int) (H':Hp),x.natAbs<10 ^ 40→BoxAt H' b a' q c'→c'≤c+8→SB b H H'→Q (.int x) H'
theorem ok_word {f:Addr} {fd:FuncData} (F:Fun K "_law_word" "_law_word" s_word f fd) (T:Txt K mg) (D_take:Def P w K mg base "_law_take" 1 P_take spTake):FnOk P w K mg base CX0 2 f fd P_word spWordL:=by
  refine F.ok sc_word (fun vs H Q E h=>?_) (fun cdv A outer s0 H vs Q E hr h=>?_)
  · obtain ⟨b,a,q,c,rfl,_⟩:=h
    rfl
  obtain ⟨b,a,q,c,rfl,B,hc,k⟩:=h
  have nd:=sc_word.nd
  refine ⟨_,(pss_cons (pst 1 nd (pe_defN D_take hr.m rfl (pc (pv 0) (pc pe_int pa_nil))))
      (pss_cons (ps_if (pt_cmpR op_lt (pv 1) pe_int (nomark _)) (pss_cons (pst 2 nd (pe_defN D_take hr.m rfl (pc (pv 0) (pc (pe_ix (ix_listK (K:=K) rfl) (pe_lst (pc pe_int (pc pe_int (pc pe_int pa_nil)))) (pv 1) (fun _ _=>rfl)) pa_nil))))
      (pss_one (ps_ret (pe_ix (ix_listK (K:=K) rfl) (pe_lst (pc (pv 2) (pc (pe_op op_add pe_int (pv 2)) (pc (pe_op op_sub (pe_un un_neg pe_int) (pv 2)) pa_nil)))) (pv 1) (fun _ _=>rfl))))) pss_nil)
      (pss_cons (pst 2 nd pe_int)
      (pss_cons (ps_for PassesOwn.never rfl (pi_range1 rfl T.z_range (pc (pe_op op_add pe_int (pe_defN D_take hr.m rfl (pc (pv 0) (pc pe_int pa_nil)))) pa_nil)) (pgn 3 nd) (pss_one (pst 2 nd (pe_op op_add (pe_op op_mul (pv 2) (pe_op op_pow pe_int pe_int)) (pe_defN D_take hr.m rfl (pc (pv 0) (pc (pe_op op_pow pe_int pe_int) pa_nil)))))))
      (pss_one (ps_ret (pe_ix (ix_listK (K:=K) rfl) (pe_lst (pc (pv 2) (pc (pe_op op_sub pe_int (pv 2)) pa_nil))) (pe_defN D_take hr.m rfl (pc (pv 0) (pc pe_int pa_nil))) (fun _ _=>rfl)))))))),?_⟩
  refine ⟨_,rfl,b,a,q,c,4,rfl,B,by lia,by decide,by decide,fun r1 a1 c1 H1 r10 r11 B1 hc1 s1=>gN ?_⟩
  try dsimp only
  refine ⟨_,rfl,_,_,rfl,rfl,_,rfl,ite_dec (fun z=>?_) (fun z=>?_)⟩
  · obtain ⟨n,hn,n0,n1⟩:∃ n:Int,atI [V.int 9,V.int 99,V.int 99] r1=some (.int n)∧1≤n∧n≤99:=by
      have h:r1=0∨r1=1∨r1=2:=by lia
      rcases h with rfl | rfl | rfl
      · exact ⟨9,atI0,by decide,by decide⟩
      · exact ⟨99,atI1,by decide,by decide⟩
      · exact ⟨99,atI2,by decide,by decide⟩
    refine ⟨_,rfl,(by show 3≤sizeLine; decide),fun p1 hp1=>⟨_,rfl,p1,_,_,_,rfl,rfl,SqL.of upd_same,hn,b,a1,q,c1,n,rfl,B1.same (same_upd hp1 _),by lia,by lia,by lia,fun r2 a2 c2 H2 r20 r21 B2 hc2 s2=>gN ?_⟩⟩
    try dsimp only
    refine ⟨_,rfl,_,rfl,_,_,rfl,rfl,_,rfl,_,rfl,_,_,rfl,rfl,(by show 3≤sizeLine; decide),fun p2 hp2=>⟨_,rfl,p2,?_⟩⟩
    obtain ⟨x,hx,x1⟩:∃ x:Int,atI [V.int r2,V.int (1+r2),V.int (-1 - r2)] r1=some (.int x)∧x.natAbs<10 ^ 40:=by
      have h:r1=0∨r1=1∨r1=2:=by lia
      have b40:1000≤10 ^ 40:=by decide
      rcases h with rfl | rfl | rfl
      · exact ⟨_,atI0,by lia⟩
      · exact ⟨_,atI1,by lia⟩
      · exact ⟨_,atI2,by lia⟩
    exact ⟨_,_,_,rfl,rfl,SqL.of upd_same,hx,k x a2 c2 _ x1 (B2.same (same_upd hp2 _)) (by lia) (((s1.trans ((same_upd hp1 _).sb b)).trans s2).trans ((same_upd hp2 _).sb b))⟩
  · dsimp only [tNext]
    refine gN ?_
    try dsimp only
    refine ⟨_,rfl,b,a1,q,c1,4,rfl,B1,by lia,by decide,by decide,fun r2 a2 c2 H2 r20 r21 B2 hc2 s2=>⟨_,_,rfl,rfl,_,rfl,by lia,by lia,?_⟩⟩
    have e7:(10:Int) ^ (7:Int).toNat=10000000:=by decide
    refine for_range (lo:=0) (n:=(1+r2).toNat) (fun i σ G=>∃ (v3:Option V) (z a' c':Int),σ=[some (.ref b),some (.int r1),some (.int z),v3]∧0≤z∧z<10000000 ^ i∧BoxAt G b a' q c'∧c'≤c2+(i:Int)∧SB b H G)
      ⟨none,0,a2,c2,rfl,by decide,by decide,B2,by lia,s1.trans s2⟩ ?_ ?_
    · rintro i σ G hi ⟨v3,z,a',c',rfl,z0,z1,B',hc',s'⟩
      refine gN ?_
      try dsimp only
      refine ⟨_,rfl,_,_,rfl,rfl,⟨by decide,by decide,by decide⟩,_,_,rfl,rfl,.inr (by rw [e7]; decide),_,rfl,_,_,rfl,rfl,⟨by decide,by decide,by decide⟩,b,a',q,c',_,rfl,B',by lia,by rw [e7]; decide,by rw [e7]; decide,fun r3 a3 c3 H3 r30 r31 B3 hc3 s3=>⟨_,_,rfl,rfl,gN ⟨_,_,a3,c3,rfl,?_,?_,B3,by lia,s'.trans s3⟩⟩⟩
      · rw [e7]
        lia
      · rw [e7] at r31 ⊢
        rw [Int.pow_succ]
        generalize (10000000:Int) ^ i=X at *
        lia
    · rintro σ G ⟨v3,z,a',c',rfl,z0,z1,B',hc',s'⟩
      have zb:z<10000000000000000000000000000:=by
        have h:(1+r2).toNat=1∨(1+r2).toNat=2∨(1+r2).toNat=3∨(1+r2).toNat=4:=by lia
        have p1:(10000000:Int) ^ 1=10000000:=by decide
        have p2:(10000000:Int) ^ 2=100000000000000:=by decide
        have p3:(10000000:Int) ^ 3=1000000000000000000000:=by decide
        have p4:(10000000:Int) ^ 4=10000000000000000000000000000:=by decide
        rcases h with e | e | e | e <;> rw [e] at z1 <;> lia
      have b40:10000000000000000000000000000≤10 ^ 40:=by decide
      refine ⟨_,rfl,_,rfl,_,_,rfl,rfl,(by show 2≤sizeLine; decide),fun p2 hp2=>⟨_,rfl,b,a',q,c',2,rfl,B'.same (same_upd hp2 _),by lia,by decide,by decide,fun r4 a4 c4 H4 r40 r41 B4 hc4 s4=>?_⟩⟩
      have np:b≠p2:=ne_of_none B'.at' hp2
      obtain ⟨x,hx,x1⟩:∃ x:Int,atI [V.int z,V.int (0 - z)] r4=some (.int x)∧x.natAbs<10 ^ 40:=by
        have h:r4=0∨r4=1:=by lia
        rcases h with rfl | rfl
        · exact ⟨_,atI0,by lia⟩
        · exact ⟨_,atI1,by lia⟩
      exact ⟨p2,_,_,_,rfl,rfl,SqL.of (s4 _ _ (Ne.symm np) upd_same),hx,k x a4 c4 _ x1 B4 (by lia) ((s'.trans ((same_upd hp2 _).sb b)).trans s4)⟩
def spDeedL:Sp:=fun vs H Q _=>∃ (b l:Addr) (a q c size:Int) (ns:List Int),vs=[.ref b,.int size,.ref l]∧BoxAt H b a q c∧l≠b∧c<350000000∧1≤size∧size≤16∧H l=some (.lst (ns.map V.int))∧1≤ns.length∧ns.length≤20∧(∀ x∈ns,0≤x∧x≤100000)∧∀ (t:Addr) (d:Dd) (a' c':Int) (H':Hp),H' t=some (.tup d.vs)→d.ok→d.sp / size∈(9999 / size) :: ns→BoxAt H' b a' q c'→c'≤c+12→SB b H H'→Q (.ref t) H'
theorem ok_deed {f:Addr} {fd:FuncData} (F:Fun K "_law_deed" "_law_deed" s_deed f fd) (T:Txt K mg) (D_take:Def P w K mg base "_law_take" 1 P_take spTake) (D_word:Def P w K mg base "_law_word" 2 P_word spWordL):FnOk P w K mg base CX0 3 f fd P_deed spDeedL:=by
  refine F.ok sc_deed (fun vs H Q E h=>?_) (fun cdv A outer s0 H vs Q E hr h=>?_)
  · obtain ⟨b,l,a,q,c,size,ns,rfl,_⟩:=h
    rfl
  obtain ⟨b,l,a,q,c,size,ns,rfl,B,nlb,hc,z0,z1,hl,l0,l1,nsB,k⟩:=h
  have nd:=sc_deed.nd
  refine ⟨_,(pss_cons (pst 3 nd (pe_defN D_take hr.m rfl (pc (pv 0) (pc pe_int pa_nil))))
      (pss_cons (pst 4 nd (pe_callBN (call_min2 rfl) rfl T.z_min boot_min (pc pe_int (pc (pe_op op_add (pe_op op_mul (pe_ix (ix_listK (K:=K) rfl) (pv 2) (pe_defN D_take hr.m rfl (pc (pv 0) (pc (pe_callBN (call_len_seqK (K:=K) rfl) rfl T.z_len PySem.boot_len (pc (pv 2) pa_nil)) pa_nil))) (fun _ _=>rfl)) (pv 1)) (pe_defN D_take hr.m rfl (pc (pv 0) (pc (pv 1) pa_nil)))) pa_nil))))
      (pss_one (ps_ret (pe_ifExp (pt_cmpR op_eq (pv 3) pe_int (nomark _)) (pe_tup (pc pe_str (pc (pv 4) (pc (pe_defN D_word hr.m rfl (pc (pv 0) pa_nil)) pa_nil)))) (pe_tup (pc pe_str (pc (pv 4) pa_nil)))))))),?_⟩
  refine ⟨_,rfl,b,a,q,c,2,rfl,B,by lia,by decide,by decide,fun r1 a1 c1 H1 r10 r11 B1 hc1 s1=>gN ?_⟩
  try dsimp only
  have hl1:=s1 _ _ nlb hl
  refine ⟨_,rfl,_,rfl,_,rfl,l,_,rfl,.inl (SqL.of hl1),b,a1,q,c1,_,rfl,B1,by lia,by rw [List.length_map]; lia,by rw [List.length_map]; lia,fun r2 a2 c2 H2 r20 r21 B2 hc2 s2=>?_⟩
  rw [List.length_map] at r21
  obtain ⟨x,hx,xm⟩:=at_mem r20 r21
  have xb:=nsB x xm
  refine ⟨l,_,_,_,rfl,rfl,SqL.of (s2 _ _ nlb hl1),hx,_,rfl,_,_,rfl,rfl,.inl ⟨by lia,by lia⟩,_,rfl,_,rfl,b,a2,q,c2,size,rfl,B2,by lia,by lia,by lia,fun r3 a3 c3 H3 r30 r31 B3 hc3 s3=>⟨_,_,rfl,rfl,_,_,rfl,gN ?_⟩⟩
  have m0:0≤x * size:=Int.mul_nonneg xb.1 (by lia)
  have ok:0≤(if x * size+r3<9999 then x * size+r3 else 9999)∧(if x * size+r3<9999 then x * size+r3 else 9999)≤9999:=by split <;> lia
  have inU:(if x * size+r3<9999 then x * size+r3 else 9999) / size∈(9999 / size) :: ns:=by
    split
    · have e:(x * size+r3) / size=x:=by
        rw [Int.add_comm,Int.add_mul_ediv_right _ _ (by lia),Int.ediv_eq_zero_of_lt r30 r31,Int.zero_add]
      rw [e]
      exact List.mem_cons_of_mem _ xm
    · exact List.mem_cons_self
  generalize (if x * size+r3<9999 then x * size+r3 else 9999)=sp at *
  try dsimp only
  have u3:=(s1.trans s2).trans s3
  refine ⟨_,rfl,rfl,_,rfl,ite_dec' (fun z=>?_) (fun z=>?_)⟩
  · exact ⟨_,rfl,_,rfl,b,a3,q,c3,rfl,B3,by lia,fun y a4 c4 H4 yb B4 hc4 s4=>⟨(by show 3≤sizeLine; decide),fun t ht=>k t (.wt sp y) a4 c4 _ upd_same ⟨ok,yb⟩ inU (B4.same (same_upd ht _)) (by lia) ((u3.trans s4).trans ((same_upd ht _).sb b))⟩⟩
  · exact ⟨_,rfl,(by show 2≤sizeLine; decide),fun t ht=>k t (.rd sp) a3 c3 _ upd_same ok inU (B3.same (same_upd ht _)) (by lia) (u3.trans ((same_upd ht _).sb b))⟩
end
noncomputable def stepS (g:Pln) (d:Dd) (st:Stt):Stt:=match d with
  | .rd sp=>fetchS g (sp / g.size) st
  | .wt sp x=>writeS g sp x st
section
structure Rdy (K:PySem.W.Frag) (H:Hp) (A:TA) (g:Pln) (st:Stt) (os:OS):Prop where
  at_:StairsAt K H A g st os 0
  dj:g.kind = "apart" → Disj st
theorem Rdy.frame {H H':Hp} {A:TA} {g:Pln} {st:Stt} {os:OS} (r:Rdy K H A g st os) (f:∀ x o,H x=some o→(OW A os x∨¬ Mt o)→H' x=some o):Rdy K H' A g st os:=⟨r.at_.frame f,r.dj⟩
theorem StairsAt.few {H:Hp} {A:TA} {g:Pln} {st:Stt} {os:OS} {n:Nat} (T:StairsAt K H A g st os n) {k:Nat} (hk:k<g.n) (hU:g.U.length<64):(st.at_ k).seq.length<64:=by
  have ln:=T.ln
  obtain ⟨a,e1,e2,e3,B⟩:=T.at_ (k:=k) (by lia)
  have nd:(st.at_ k).seq.Nodup:=B.sto.room.nd
  exact Nat.lt_of_le_of_lt (nd_len nd fun x hx=>T.uni _ (List.mem_of_getElem? e3) x hx) hU
end
structure Lk (a b:Stt):Prop where
  len:b.rm.length=a.rm.length
  sq:∀ j,(b.at_ j).seq=(a.at_ j).seq
  us:∀ j,(b.at_ j).us=(a.at_ j).us
theorem Lk.refl (a:Stt):Lk a a:=⟨rfl,fun _=>rfl,fun _=>rfl⟩
theorem Lk.trans {a b c:Stt} (x:Lk a b) (y:Lk b c):Lk a c:=⟨y.len.trans x.len,fun j=>(y.sq j).trans (x.sq j),fun j=>(y.us j).trans (x.us j)⟩
theorem lk_set {st:Stt} {k:Nat} {s:Rm} (h1:s.seq=(st.at_ k).seq) (h2:s.us=(st.at_ k).us):Lk st (st.set k s):=by
  refine ⟨set_len,fun j=>set_sq h1,fun j=>?_⟩
  rw [at_set']
  split
  · rename_i q; rw [h2,q.1]
  · rfl
theorem lk_put {g:Pln} {k:Nat} {b:Int} {ws:List Int} {st:Stt}:Lk st (putS g k b ws st):=by
  unfold putS
  split
  · exact ⟨rfl,fun _=>rfl,fun _=>rfl⟩
  · have q:=lk_set (st:=st) (k:=k) (s:=layS (st.at_ k) b ws) rfl rfl
    exact ⟨q.len,q.sq,q.us⟩
theorem lk_goOn {g:Pln} {b:Int} {ws:List Int}:∀ {r k:Nat} {st:Stt},Lk st (goOn g b ws r k st)
  | 0,k,st=>lk_put
  | r+1,k,st=>by
    rw [goOn]
    split
    · split
      · exact lk_put.trans (lk_set rfl rfl)
      · exact lk_put.trans lk_goOn
    · exact lk_goOn
theorem lk_change {g:Pln} {k:Nat} {b:Int} {st:Stt}:Lk st (changeS g k b st):=by
  unfold changeS
  split
  · exact lk_set rfl rfl
  · exact lk_goOn
theorem lk_step {g:Pln} {d:Dd} {st:Stt}:Lk (fetchS g (d.sp / g.size) st) (stepS g d st):=by
  cases d with
  | rd sp=>exact Lk.refl _
  | wt sp x=>exact (lk_set (s:=pwS g ((fetchS g (sp / g.size) st).at_ 0) sp x) rfl rfl).trans lk_change
def NoF (e:List V):Prop:=∃ (t:Str) (j:Nat) (b:Int),e=[.str t,.int (j:Int),.int b]∧¬ t = "found"
def PfN (st st':Stt):Prop:=∃ es,st'.ev=st.ev++es∧∀ e∈es,NoF e
theorem PfN.refl (st:Stt):PfN st st:=⟨[],(List.append_nil _).symm,fun e h=>(nomatch h)⟩
theorem nofW {k:Nat} {b:Int}:NoF (eW k b):=⟨"words",k,b,rfl,by decide +kernel⟩
theorem nofI {k:Nat} {b:Int}:NoF (eI k b):=⟨"in",k,b,rfl,by decide +kernel⟩
theorem nofO {k:Nat} {b:Int}:NoF (eO k b):=⟨"out",k,b,rfl,by decide +kernel⟩
theorem PfN.trans {a b c:Stt} (x:PfN a b) (y:PfN b c):PfN a c:=by
  obtain ⟨p,hp,h1⟩:=x
  obtain ⟨q,hq,h2⟩:=y
  exact ⟨p++q,by rw [hq,hp,List.append_assoc],fun e h=>(List.mem_append.mp h).elim (h1 e) (h2 e)⟩
theorem pfn_tell {st:Stt} {e:List V} (n:NoF e):PfN st (st.tell e):=⟨[e],rfl,fun x h=>by rw [List.mem_singleton.mp h]; exact n⟩
theorem pfn_set {st:Stt} {k:Nat} {s:Rm}:PfN st (st.set k s):=⟨[],(List.append_nil _).symm,fun e h=>(nomatch h)⟩
theorem pfn_put {g:Pln} {k:Nat} {b:Int} {ws:List Int} {st:Stt}:PfN st (putS g k b ws st):=by
  unfold putS
  split
  · exact ⟨[eW k b],rfl,fun x h=>by rw [List.mem_singleton.mp h]; exact nofW⟩
  · exact pfn_set.trans (pfn_tell nofW)
theorem pfn_goOn {g:Pln} {b:Int} {ws:List Int}:∀ {r k:Nat} {st:Stt},PfN st (goOn g b ws r k st)
  | 0,k,st=>pfn_put
  | r+1,k,st=>by
    rw [goOn]
    split
    · split
      · exact pfn_put.trans pfn_set
      · exact pfn_put.trans pfn_goOn
    · exact pfn_goOn
theorem pfn_change {g:Pln} {k:Nat} {b:Int} {st:Stt}:PfN st (changeS g k b st):=by
  unfold changeS
  split
  · exact pfn_set
  · exact pfn_goOn
theorem pfn_come {k:Nat} {b:Int} {ws:List Int} {st:Stt}:PfN st (comeS k b ws st):=pfn_set.trans (pfn_tell nofI)
theorem pfn_go {k:Nat} {b:Int} {st:Stt}:PfN st (goS k b st):=(pfn_tell nofO).trans pfn_set
theorem pfn_outs {b:Int}:∀ {k:Nat} {st:Stt} {ws:List Int} {fr:Bool},PfN st (outsS b k st ws fr).1
  | 0,st,ws,fr=>PfN.refl _
  | k+1,st,ws,fr=>by
    rw [outsS]
    split
    · exact pfn_go.trans pfn_outs
    · exact pfn_outs
theorem pfn_drive {g:Pln} {k:Nat} {b:Int} {st:Stt}:PfN st (driveS g k b st):=by
  have k1:PfN st (drv1 g k b st).1:=by
    unfold drv1
    split
    · exact pfn_go.trans pfn_outs
    · exact pfn_go
  unfold driveS
  split
  · exact k1.trans pfn_goOn
  · exact k1
theorem pfn_leave {g:Pln} {k:Nat} {b:Int} {st:Stt}:PfN st (leaveS g k b st):=by
  unfold leaveS
  split
  · exact PfN.refl _
  · exact pfn_drive
theorem pfn_down {g:Pln} {b:Int} {ws:List Int}:∀ {k:Nat} {st:Stt},PfN st (downS g b ws k st)
  | 0,st=>PfN.refl _
  | k+1,st=>(pfn_leave.trans pfn_come).trans (pfn_down (k:=k))
theorem pfn_used {g:Pln} {k:Nat} {b:Int} {st:Stt}:PfN st (usedS g k b st):=by
  unfold usedS
  split
  · exact pfn_set
  · exact PfN.refl _
theorem pfn_comeA {g:Pln} {k:Nat} {b:Int} {ws:List Int} {fr:Bool} {st:Stt}:PfN st (comeA g k b ws fr st):=by
  unfold comeA
  split
  · exact pfn_come.trans pfn_change
  · exact pfn_come
theorem pfn_push {g:Pln}:∀ {r k:Nat} {b:Int} {ws:List Int} {fr:Bool} {st:Stt},PfN st (pushS g r k b ws fr st)
  | 0,k,b,ws,fr,st=>by
    rw [pushS]
    split
    · exact pfn_put
    · exact PfN.refl _
  | r+1,k,b,ws,fr,st=>by
    rw [pushS]
    split
    · exact pfn_comeA
    · exact (pfn_go.trans pfn_comeA).trans pfn_push
theorem pfn_fetch {g:Pln} {b:Int} {st:Stt}:PfN (st.tell (eF (nearF st b))) (fetchS g b st):=by
  unfold fetchS
  split
  · unfold fetchA
    split
    · exact pfn_used
    · split
      · exact pfn_push
      · exact pfn_go.trans pfn_push
  · unfold fetchD
    exact pfn_used.trans pfn_down
theorem pfn_step {g:Pln} {d:Dd} {st:Stt} (he:st.ev=[]):∃ es,(stepS g d st).ev=eF (nearF st (d.sp / g.size)) :: es∧∀ e∈es,NoF e:=by
  have q:PfN (st.tell (eF (nearF st (d.sp / g.size)))) (stepS g d st):=by
    cases d with
    | rd sp=>exact pfn_fetch
    | wt sp x=>exact (pfn_fetch.trans pfn_set).trans pfn_change
  obtain ⟨es,h,hn⟩:=q
  refine ⟨es,h.trans ?_,hn⟩
  show (st.ev++[_])++es=_
  rw [he]
  rfl
theorem mul_in {a b s k:Int} (hs:0<s) (k0:0≤k) (k1:k<s) (h1:b * s≤a * s+k) (h2:a * s+k<b * s+s):a=b:=by
  have e1:∀ x y:Int,x+1≤y→x * s+s≤y * s:=fun x y h=>by
    have q:=Int.mul_le_mul_of_nonneg_right h (Int.le_of_lt hs)
    rw [Int.add_mul,Int.one_mul] at q
    exact q
  by_cases c:a<b
  · have:=e1 a b c; lia
  · by_cases d:b<a
    · have:=e1 b a d; lia
    · lia
theorem memW_ne {s:Int} {mem:Int→Int} {b y:Int} {ws:List Int} (hs:0<s) (h:y≠b):memW s (layM s mem b ws) y=memW s mem y:=by
  unfold memW
  refine List.map_congr_left fun k hk=>?_
  have hk:=List.mem_range.mp hk
  unfold layM layI
  rw [if_neg]
  rintro ⟨h1,h2⟩
  exact h (mul_in hs (Int.natCast_nonneg k) (by lia) h1 (by lia))
def Cl (g:Pln) (bk:Int→Int) (x:Int) (st:Stt) (k:Nat):Prop:=(k<g.n→x∈(st.at_ k).seq)→(∀ j,j<k→(st.at_ j).fr x=false)→wordsF g st k x=memW g.size bk x
def Fx (g:Pln) (bk:Int→Int) (x:Int) (st:Stt):Prop:=∀ k,k≤g.n→Cl g bk x st k
structure Okf (g:Pln) (st:Stt):Prop where
  len:st.rm.length=g.n
  nd:∀ k,(st.at_ k).seq.Nodup
  ff:∀ k x,(st.at_ k).fr x=true→x∈(st.at_ k).seq
section
variable {g:Pln} {bk:Int→Int} {x y b:Int} {st a c:Stt} {k:Nat} {ws:List Int}
theorem words_k (h:k<g.n):wordsF g st k x=(st.at_ k).wd x:=by unfold wordsF; rw [if_neg (by lia)]
theorem words_n:wordsF g st g.n x=memW g.size st.mem x:=by unfold wordsF; rw [if_pos rfl]
theorem fx_new:Okf g (St0 g.n)∧∀ x,Fx g (fun _=>0) x (St0 g.n):=by
  have e:∀ j,(St0 g.n).at_ j=Rm0:=fun j=>by
    unfold St0 Stt.at_
    rw [List.getD_eq_getElem?_getD,List.getElem?_replicate]
    split <;> rfl
  refine ⟨⟨List.length_replicate ..,fun j=>by rw [e]; exact List.nodup_nil,fun j x h=>by rw [e] at h; cases h⟩,fun x k hk h1 _=>?_⟩
  by_cases c:k=g.n
  · rw [c,words_n]; rfl
  · have q:=h1 (by lia)
    rw [e] at q; cases q
end
section
def spBds (K:PySem.W.Frag):Sp:=fun vs H Q _=>∃ (p:Addr) (sh pl:Int) (ru:Str) (ls:Addr) (ads:List Addr) (du:Addr) (seq:List Int) (us:Int→Int) (n:Nat),vs=[.ref p]∧RoomAt K H p sh pl ru ls ads du seq us n∧seq.length<64 ∧
  ∀ (D:Addr) (os:List Int),H D=none→os.Perm seq→os.Pairwise (·≤·)→Q (.ref D) (upd H D (.lst (os.map V.int)))
theorem ok_Room_boards {f:Addr} {fd:FuncData} (F:Fun K "boards" "Room.boards" s_Room_boards f fd) (T:Txt K mg):FnOk P w K mg base CX0 1 f fd P_Room_boards (spBds K):=by
  refine F.ok sc_Room_boards (fun vs H Q E h=>?_) (fun cdv A outer st H vs Q E hr h=>?_)
  · obtain ⟨p,sh,pl,ru,ls,ads,du,seq,us,n,rfl,_⟩:=h
    rfl
  obtain ⟨p,sh,pl,ru,ls,ads,du,seq,us,n,rfl,R,h64,k⟩:=h
  have nd:=sc_Room_boards.nd
  refine ⟨_,(pss_one (ps_ret (pe_callBN (call_sortedD rfl) rfl T.z_sorted PyProof.Rows.boot_sorted (pc (pe_fldK (K:=K) rfl (pv 0) rfl) pa_nil)))),?_⟩
  obtain ⟨dx,h1⟩:=R.ob
  obtain ⟨kvs,h2,⟨h3,ks,h4,h5⟩,h6⟩:=R.dc
  have per:ks.Perm seq:=by
    refine (List.perm_ext_iff_of_nodup h5 R.nd).mpr fun b=>?_
    have q:=val_key (kvs:=kvs) (Sum.inl b)
    rw [h6 b,h4] at q
    constructor
    · intro m
      have:=q.mpr (List.mem_map_of_mem m)
      by_cases c:b∈seq
      · exact c
      · rw [if_neg c] at this; cases this
    · intro m
      rw [if_pos m] at q
      obtain ⟨x,hx,e⟩:=List.mem_map.mp (q.mp rfl)
      rw [← Sum.inl.inj e]; exact hx
  exact ⟨_,rfl,p,_,dx,_,_,rfl,h1,T.cl_Room,T.n_Room_uses,fl_uses ..,du,kvs,ks,rfl,h2,h4,by rw [per.length_eq]; exact h64,fun D os hD po pw=>k D os hD (po.trans per) pw⟩
end
section
def spLies (K:PySem.W.Frag):Sp:=fun vs H Q _=>∃ (A:TA) (g:Pln) (st:Stt) (os:OS) (n k:Nat),vs=[.ref A.p,.int (k:Int)]∧StairsAt K H A g st os n∧k<g.n∧(st.at_ k).seq.length<64∧∀ (D:Addr) (bs:List Int),H D=none→bs.Perm (st.at_ k).seq→bs.Pairwise (·≤·)→Q (.ref D) (upd H D (.lst (bs.map V.int)))
theorem ok_Steps_lies {f:Addr} {fd:FuncData} (F:Fun K "lies" "Steps.lies" s_Steps_lies f fd) (T:Txt K mg) (M_Steps_store:MDef P w K mg base (clsOf K "Stairs") "store" 1 P_Steps_store (spTStore K)) (M_Room_boards:MDef P w K mg base (clsOf K "Room") "boards" 1 P_Room_boards (spBds K)):FnOk P w K mg base CX0 2 f fd P_Steps_lies (spLies K):=by
  refine F.ok sc_Steps_lies (fun vs H Q E h=>?_) (fun cdv A outer s0 H vs Q E hr h=>?_)
  · obtain ⟨A,g,st,os,n,k,rfl,_⟩:=h
    rfl
  obtain ⟨A,g,st,os,n,k,rfl,R,hk,h64,q⟩:=h
  have nd:=sc_Steps_lies.nd
  refine ⟨_,(pss_one (ps_ret (pe_methN0 M_Room_boards hr.m T.cl_Room (pe_fldK (K:=K) rfl (pe_methN M_Steps_store hr.m T.cl_Stairs (pv 0) (pc (pv 1) pa_nil)) rfl)))),?_⟩
  obtain ⟨dx,h1⟩:=R.ob
  have ln:=R.ln
  obtain ⟨a,e1,e2,e3,B⟩:=R.at_ (k:=k) (by lia)
  obtain ⟨ds,h3⟩:=B.sto.ob
  obtain ⟨dr,h4⟩:=B.sto.room.ob
  exact ⟨_,rfl,A.p,dx,_,rfl,h1,tf_no ..,_,rfl,A,g,st,os,n,k,a,rfl,R,e1,a.sp,_,ds,_,_,rfl,h3,T.cl_Store,T.n_Store_room,sf_room ..,a.rp,dr,_,rfl,h4,fl_no ..,a.rp,(g.cf k).sh,(g.cf k).pl,(g.cf k).ru,a.ls,a.ads,a.du,(st.at_ k).seq,(st.at_ k).us,_,rfl,B.sto.room,h64,q⟩
end
theorem flat_ints {ns:List Int}:(ns.map V.int).all flatV=true:=by
  rw [List.all_eq_true]
  intro x hx
  obtain ⟨n,_,rfl⟩:=List.mem_map.mp hx
  rfl
section
def spChanged (K:PySem.W.Frag):Sp:=fun vs H Q _=>∃ (A:TA) (g:Pln) (st:Stt) (os:OS) (n k:Nat),vs=[.ref A.p,.int (k:Int)]∧StairsAt K H A g st os n∧k<g.n∧g.U.length<64∧∀ (D:Addr) (cs:List Int),H D=none→(∀ x,x∈cs↔(st.at_ k).fr x=true)→cs.length<64→cs.Pairwise (·≤·)→cs.Nodup→Q (.ref D) (upd H D (.lst (cs.map V.int)))
theorem ok_Steps_changed {f:Addr} {fd:FuncData} (F:Fun K "changed" "Steps.changed" s_Steps_changed f fd) (T:Txt K mg) (M_Steps_store:MDef P w K mg base (clsOf K "Stairs") "store" 1 P_Steps_store (spTStore K)):FnOk P w K mg base CX0 2 f fd P_Steps_changed (spChanged K):=by
  refine F.ok sc_Steps_changed (fun vs H Q E h=>?_) (fun cdv A outer s0 H vs Q E hr h=>?_)
  · obtain ⟨A,g,st,os,n,k,rfl,_⟩:=h
    rfl
  obtain ⟨A,g,st,os,n,k,rfl,R,hk,hU,q⟩:=h
  have nd:=sc_Steps_changed.nd
  refine ⟨_,(pss_one (ps_ret (pe_callBN (call_sortedD rfl) rfl T.z_sorted PyProof.Rows.boot_sorted (pc (pe_fldK (K:=K) rfl (pe_methN M_Steps_store hr.m T.cl_Stairs (pv 0) (pc (pv 1) pa_nil)) rfl) pa_nil)))),?_⟩
  obtain ⟨dx,h1⟩:=R.ob
  have ln:=R.ln
  obtain ⟨a,e1,e2,e3,B⟩:=R.at_ (k:=k) (by lia)
  obtain ⟨ds,h3⟩:=B.sto.ob
  obtain ⟨kf,h4,⟨ks,h5,h6⟩,h7⟩:=B.fresh
  have mem:∀ b,b∈ks↔(st.at_ k).fr b=true:=fun b=>by
    have z:=val_key (kvs:=kf) (Sum.inl b)
    rw [h7 b,h5] at z
    constructor
    · intro m
      have:=z.mpr (List.mem_map_of_mem m)
      by_cases c:(st.at_ k).fr b=true
      · exact c
      · rw [if_neg c] at this; cases this
    · intro m
      rw [if_pos m] at z
      obtain ⟨x,hx,e⟩:=List.mem_map.mp (z.mp rfl)
      rw [← Sum.inl.inj e]; exact hx
  have l64:ks.length<64:=Nat.lt_of_le_of_lt (nd_len h6 fun x hx=>R.uni _ (List.mem_of_getElem? e3) x (B.ffr x ((mem x).mp hx))) hU
  exact ⟨_,rfl,A.p,dx,_,rfl,h1,tf_no ..,_,rfl,A,g,st,os,n,k,a,rfl,R,e1,a.sp,_,ds,_,_,rfl,h3,T.cl_Store,T.n_Store_fresh,sf_fresh ..,a.df,kf,ks,rfl,h4,h5,l64,fun D cs hD po pw=>q D cs hD (fun x=>po.mem_iff.trans (mem x)) (by rw [po.length_eq]; exact l64) pw (po.nodup_iff.mpr h6)⟩
end
theorem new_at {n:Nat} (i:Nat):(St0 n).at_ i=Rm0:=by
  unfold St0 Stt.at_
  rw [List.getD_eq_getElem?_getD,List.getElem?_replicate]
  split <;> rfl
theorem disj_new {n:Nat}:Disj (St0 n):=fun i j hi hj hij x hx=>by
  rw [new_at] at hx
  exact absurd hx (by simp [Rm0])
def bE (s:Str) (k:Nat) (es:List (List V)):List Int:=es.filterMap fun e=>match e with
  | [.str t,.int j,.int b]=>if t=s∧j=(k:Int) then some b else none
  | _=>none
theorem bE_snoc {s:Str} {k:Nat} {es:List (List V)} {e:List V}:bE s k (es++[e])=bE s k es++bE s k [e]:=List.filterMap_append ..
theorem nodup1 (b:Int):[b].Nodup:=by simp
theorem bE_one {s t:Str} {k j:Nat} {b:Int}:bE s k [[.str t,.int (j:Int),.int b]]=if t=s∧j=k then [b] else []:=by
  unfold bE
  rw [List.filterMap_cons,List.filterMap_nil]
  dsimp only
  by_cases c:t=s∧j=k
  · rw [if_pos c,if_pos ⟨c.1,by lia⟩]
  · rw [if_neg c,if_neg fun z=>c ⟨z.1,by lia⟩]
theorem nio:(("in" : Str) ≠ "out" ∧ ("in" : Str) ≠ "words")∧(("out" : Str) ≠ "in" ∧ ("out" : Str) ≠ "words")∧(("words" : Str) ≠ "in" ∧ ("words" : Str) ≠ "out"):=by decide +kernel
structure G1 (lt:Bool) (ap:Prop) (own:Int→Prop) (a s:Rm) (I O P:List Int):Prop where
  nd:s.seq.Nodup
  sq:∀ x,x∈s.seq↔(x∈a.seq∧x∉O)∨x∈I
  io:∀ x,x∈I→x∈a.seq→x∈O
  os:∀ x,x∈O→x∈a.seq
  ni:I.Nodup
  no:O.Nodup
  wd:∀ x,x∉I→x∉P→¬ own x→s.wd x=a.wd x
  f1:∀ x,x∈a.seq→x∉I→x∉O→(s.fr x=true↔a.fr x=true∨(lt=true∧(x∈P∨own x)))
  f2:∀ x,x∈I→s.fr x=true→ap∨x∈P∨own x
  f3:∀ x,s.fr x=true→x∈s.seq
  fl:∀ x,s.fr x=true→lt=true
section
variable {lt:Bool} {ap:Prop} {own:Int→Prop} {a s:Rm} {I O P:List Int} {b:Int} {ws:List Int}
theorem G1.out (h:G1 lt ap own a s I O P) (hb:b∈s.seq) (hi:b∉I):G1 lt ap own a (outS s b) I (O++[b]) P:=by
  have hab:=((h.sq b).mp hb).resolve_right hi
  have mo:∀ x,x∈O++[b]↔x∈O∨x=b:=fun x=>by rw [List.mem_append,List.mem_singleton]
  have ms:∀ x,x∈(outS s b).seq↔x≠b∧x∈s.seq:=fun x=>h.nd.mem_erase_iff
  have fo:∀ x,(outS s b).fr x=true↔x≠b∧s.fr x=true:=fun x=>by
    show (if x=b then false else s.fr x)=true↔_
    by_cases c:x=b
    · rw [if_pos c]; simp [c]
    · rw [if_neg c]; simp [c]
  refine ⟨h.nd.erase b,fun x=>?_,fun x h1 h2=>(mo x).mpr (.inl (h.io x h1 h2)),fun x hx=>?_,h.ni,?_,h.wd,fun x h1 h2 h3=>?_,fun x h1 h2=>h.f2 x h1 ((fo x).mp h2).2,fun x hx=>?_,fun x hx=>h.fl x ((fo x).mp hx).2⟩
  · rw [ms,h.sq,mo]
    constructor
    · rintro ⟨n,h1 | h1⟩
      · exact .inl ⟨h1.1,fun z=>z.elim h1.2 n⟩
      · exact .inr h1
    · rintro (⟨h1,h2⟩ | h1)
      · exact ⟨fun z=>h2 (.inr z),.inl ⟨h1,fun z=>h2 (.inl z)⟩⟩
      · exact ⟨fun z=>hi (z ▸ h1),.inr h1⟩
  · rcases (mo x).mp hx with hx | rfl
    · exact h.os x hx
    · exact hab.1
  · rw [List.nodup_append]
    refine ⟨h.no,nodup1 b,fun x hx y hy z=>?_⟩
    rw [List.mem_singleton.mp hy] at z
    exact hab.2 (z ▸ hx)
  · rw [fo]
    have nb:x≠b:=fun z=>h3 ((mo x).mpr (.inr z))
    rw [← h.f1 x h1 h2 fun z=>h3 ((mo x).mpr (.inl z))]
    exact ⟨fun z=>z.2,fun z=>⟨nb,z⟩⟩
  · rw [ms]
    exact ⟨((fo x).mp hx).1,h.f3 x ((fo x).mp hx).2⟩
theorem G1.inn (h:G1 lt ap own a s I O P) (hb:b∉s.seq):G1 lt ap own a (inS s b ws) (I++[b]) O P:=by
  have bI:b∉I:=fun z=>hb ((h.sq b).mpr (.inr z))
  have mi:∀ x,x∈I++[b]↔x∈I∨x=b:=fun x=>by rw [List.mem_append,List.mem_singleton]
  have ms:∀ x,x∈(inS s b ws).seq↔x∈s.seq∨x=b:=fun x=>by show x∈s.seq++[b]↔_; rw [List.mem_append,List.mem_singleton]
  have ndp:∀ l:List Int,l.Nodup→b∉l→(l++[b]).Nodup:=fun l n m=>by
    rw [List.nodup_append]
    exact ⟨n,nodup1 b,fun x hx y hy z=>by rw [List.mem_singleton.mp hy] at z; exact m (z ▸ hx)⟩
  refine ⟨ndp _ h.nd hb,fun x=>?_,fun x h1 h2=>?_,h.os,ndp _ h.ni bI,h.no,fun x h1 h2 h3=>?_,fun x h1 h2 h3=>h.f1 x h1 (fun z=>h2 ((mi x).mpr (.inl z))) h3,fun x h1 h2=>?_,fun x hx=>(ms x).mpr (.inl (h.f3 x hx)),h.fl⟩
  · rw [ms,h.sq,mi]
    constructor
    · rintro ((h1 | h1) | h1)
      · exact .inl h1
      · exact .inr (.inl h1)
      · exact .inr (.inr h1)
    · rintro (h1 | h1 | h1)
      · exact .inl (.inl h1)
      · exact .inl (.inr h1)
      · exact .inr h1
  · rcases (mi x).mp h1 with h1 | rfl
    · exact h.io x h1 h2
    · by_cases c:x∈O
      · exact c
      · exact absurd ((h.sq x).mpr (.inl ⟨h2,c⟩)) hb
  · have nb:x≠b:=fun z=>h1 ((mi x).mpr (.inr z))
    show (if x=b then ws else s.wd x)=_
    rw [if_neg nb]
    exact h.wd x (fun z=>h1 ((mi x).mpr (.inl z))) h2 h3
  · rcases (mi x).mp h1 with h1 | rfl
    · exact h.f2 x h1 h2
    · exact absurd (h.f3 x h2) hb
theorem G1.lay (h:G1 lt ap own a s I O P) (hl:lt=false):G1 lt ap own a (layS s b ws) I O (P++[b]):=by
  refine ⟨h.nd,h.sq,h.io,h.os,h.ni,h.no,fun x h1 h2 h3=>?_,fun x h1 h2 h3=>?_,fun x h1 h2=>absurd (h.fl x h2) (by rw [hl]; exact Bool.false_ne_true),h.f3,h.fl⟩
  · have nb:x≠b:=fun z=>h2 (List.mem_append.mpr (.inr (List.mem_singleton.mpr z)))
    show (if x=b then ws else s.wd x)=_
    rw [if_neg nb]
    exact h.wd x h1 (fun z=>h2 (List.mem_append.mpr (.inl z))) h3
  · have q:=h.f1 x h1 h2 h3
    rw [hl] at q ⊢
    refine q.trans ⟨fun z=>z.imp id fun z=>absurd z.1 Bool.false_ne_true,fun z=>z.imp id fun z=>absurd z.1 Bool.false_ne_true⟩
theorem fr_iff {x:Int}:(frS s b).fr x=true↔x=b∨s.fr x=true:=by
  show (if x=b then true else s.fr x)=true↔_
  by_cases c:x=b
  · rw [if_pos c]; simp [c]
  · rw [if_neg c]; simp [c]
theorem G1.layF (h:G1 lt ap own a s I O P) (hl:lt=true) (hb:b∈s.seq):G1 lt ap own a (frS (layS s b ws) b) I O (P++[b]):=by
  have mp:∀ x,x∈P++[b]↔x∈P∨x=b:=fun x=>by rw [List.mem_append,List.mem_singleton]
  have fq:∀ x,(frS (layS s b ws) b).fr x=true↔x=b∨s.fr x=true:=fun x=>fr_iff (s:=layS s b ws)
  refine ⟨h.nd,h.sq,h.io,h.os,h.ni,h.no,fun x h1 h2 h3=>?_,fun x h1 h2 h3=>?_,fun x h1 h2=>?_,fun x hx=>?_,fun x hx=>hl⟩
  · have nb:x≠b:=fun z=>h2 ((mp x).mpr (.inr z))
    show (if x=b then ws else s.wd x)=_
    rw [if_neg nb]
    exact h.wd x h1 (fun z=>h2 ((mp x).mpr (.inl z))) h3
  · rw [fq,h.f1 x h1 h2 h3,mp]
    constructor
    · rintro (z | z | z)
      · exact .inr ⟨hl,.inl (.inr z)⟩
      · exact .inl z
      · exact .inr ⟨hl,z.2.imp .inl id⟩
    · rintro (z | ⟨_,(z | z) | z⟩)
      · exact .inr (.inl z)
      · exact .inr (.inr ⟨hl,.inl z⟩)
      · exact .inl z
      · exact .inr (.inr ⟨hl,.inr z⟩)
  · rcases (fq x).mp h2 with z | z
    · exact .inr (.inl ((mp x).mpr (.inr z)))
    · exact (h.f2 x h1 z).imp id fun q=>q.imp (fun q=>(mp x).mpr (.inl q)) id
  · rcases (fq x).mp hx with rfl | z
    · exact hb
    · exact h.f3 x z
theorem G1.fre (h:G1 lt ap own a s I O P) (hl:lt=true) (hb:b∈I) (hp:ap):G1 lt ap own a (frS s b) I O P:=by
  refine ⟨h.nd,h.sq,h.io,h.os,h.ni,h.no,h.wd,fun x h1 h2 h3=>?_,fun x h1 h2=>.inl hp,fun x hx=>?_,fun x hx=>hl⟩
  · have nb:x≠b:=fun z=>h2 (z ▸ hb)
    rw [fr_iff,← h.f1 x h1 h2 h3]
    exact ⟨fun z=>z.resolve_left nb,.inr⟩
  · rcases fr_iff.mp hx with rfl | z
    · exact (h.sq x).mpr (.inr hb)
    · exact h.f3 x z
theorem G1.use {c:Cf} (h:G1 lt ap own a s I O P) (hb:b∈s.seq):G1 lt ap own a (useS c s b) I O P:=by
  have ms:∀ x,x∈(useS c s b).seq↔x∈s.seq:=fun x=>by
    show x∈(if c.ru = "old" then s.seq.erase b++[b] else s.seq)↔_
    split
    · rw [List.mem_append,List.mem_singleton,h.nd.mem_erase_iff]
      constructor
      · rintro (z | rfl)
        · exact z.2
        · exact hb
      · intro z
        by_cases c:x=b
        · exact .inr c
        · exact .inl ⟨c,z⟩
    · exact Iff.rfl
  refine ⟨?_,fun x=>(ms x).trans (h.sq x),h.io,h.os,h.ni,h.no,h.wd,h.f1,h.f2,fun x hx=>(ms x).mpr (h.f3 x hx),h.fl⟩
  show (if c.ru = "old" then s.seq.erase b++[b] else s.seq).Nodup
  split
  · rw [List.nodup_append]
    refine ⟨h.nd.erase b,nodup1 b,fun x hx y hy z=>?_⟩
    rw [List.mem_singleton.mp hy] at z
    exact (h.nd.mem_erase_iff.mp hx).1 z
  · exact h.nd
theorem G1.ownL (h:G1 lt ap (fun _=>False) a s I O P) (hl:lt=true) (hb:b∈s.seq):G1 lt ap (fun x=>x=b) a (frS (layS s b ws) b) I O P:=by
  have fq:∀ x,(frS (layS s b ws) b).fr x=true↔x=b∨s.fr x=true:=fun x=>fr_iff (s:=layS s b ws)
  refine ⟨h.nd,h.sq,h.io,h.os,h.ni,h.no,fun x h1 h2 h3=>?_,fun x h1 h2 h3=>?_,fun x h1 h2=>?_,fun x hx=>?_,fun x hx=>hl⟩
  · show (if x=b then ws else s.wd x)=_
    rw [if_neg h3]
    exact h.wd x h1 h2 id
  · rw [fq,h.f1 x h1 h2 h3]
    constructor
    · rintro (z | z | z)
      · exact .inr ⟨hl,.inr z⟩
      · exact .inl z
      · exact .inr ⟨hl,.inl (z.2.resolve_right id)⟩
    · rintro (z | ⟨_,z | z⟩)
      · exact .inr (.inl z)
      · exact .inr (.inr ⟨hl,.inl z⟩)
      · exact .inl z
  · rcases (fq x).mp h2 with z | z
    · exact .inr (.inr z)
    · exact (h.f2 x h1 z).imp id fun q=>.inl (q.resolve_right id)
  · rcases (fq x).mp hx with rfl | z
    · exact hb
    · exact h.f3 x z
theorem G1.ownT (h:G1 lt ap (fun _=>False) a s I O P) (hl:lt=false):G1 lt ap (fun x=>x=b) a (layS s b ws) I O P:=by
  refine ⟨h.nd,h.sq,h.io,h.os,h.ni,h.no,fun x h1 h2 h3=>?_,fun x h1 h2 h3=>?_,fun x h1 h2=>absurd (h.fl x h2) (by rw [hl]; exact Bool.false_ne_true),h.f3,h.fl⟩
  · show (if x=b then ws else s.wd x)=_
    rw [if_neg h3]
    exact h.wd x h1 h2 id
  · have q:=h.f1 x h1 h2 h3
    rw [hl] at q ⊢
    exact q.trans ⟨fun z=>z.imp id fun z=>absurd z.1 Bool.false_ne_true,fun z=>z.imp id fun z=>absurd z.1 Bool.false_ne_true⟩
end
structure Gh (g:Pln) (own:Nat→Int→Prop) (a st:Stt):Prop where
  len:st.rm.length=g.n
  at_:∀ k,k<g.n→G1 (g.cf k).late (g.kind = "apart") (own k) (a.at_ k) (st.at_ k) (bE "in" k st.ev) (bE "out" k st.ev) (bE "words" k st.ev)
  mm:∀ x,x∉bE "words" g.n st.ev→memW g.size st.mem x=memW g.size a.mem x
section
variable {g:Pln} {own:Nat→Int→Prop} {a st:Stt} {k:Nat} {b:Int} {ws:List Int}
theorem Gh.up (h:Gh g own a st) (hk:k<g.n) {s:Rm} {st':Stt} (hr:st'.rm=st.rm.set k s) (hm:st'.mem=st.mem) (hev:∀ t j,j≠k→bE t j st'.ev=bE t j st.ev)
    (h1:G1 (g.cf k).late (g.kind = "apart") (own k) (a.at_ k) s (bE "in" k st'.ev) (bE "out" k st'.ev) (bE "words" k st'.ev)):Gh g own a st':=by
  have ha:∀ j,st'.at_ j=if j=k then s else st.at_ j:=fun j=>by
    have e:=at_set' (st:=st) (k:=k) (j:=j) (s:=s)
    have e2:st'.at_ j=(st.set k s).at_ j:=by unfold Stt.at_ Stt.set; rw [hr]
    rw [e2,e]
    by_cases c:j=k
    · rw [if_pos ⟨c,by rw [h.len]; exact hk⟩,if_pos c]
    · rw [if_neg fun z=>c z.1,if_neg c]
  refine ⟨by rw [hr,List.length_set]; exact h.len,fun j hj=>?_,fun x hx=>by rw [hm]; exact h.mm x (by rw [hev _ _ (Nat.ne_of_gt hk)] at hx; exact hx)⟩
  rw [ha]
  by_cases c:j=k
  · subst c
    rw [if_pos rfl]; exact h1
  · rw [if_neg c,hev _ _ c,hev _ _ c,hev _ _ c]
    exact h.at_ j hj
theorem bE_other {s t:Str} {k j:Nat} {es:List (List V)} (h:¬ (t=s∧j=k)):bE s k (es++[[.str t,.int (j:Int),.int b]])=bE s k es:=by rw [bE_snoc,bE_one,if_neg h,List.append_nil]
theorem bE_this {s:Str} {k:Nat} {es:List (List V)}:bE s k (es++[[.str s,.int (k:Int),.int b]])=bE s k es++[b]:=by rw [bE_snoc,bE_one,if_pos ⟨rfl,rfl⟩]
theorem gh_go (h:Gh g own a st) (hk:k<g.n) (hb:b∈(st.at_ k).seq) (hi:b∉bE "in" k st.ev):Gh g own a (goS k b st):=by
  obtain ⟨n1,n2,n3⟩:=nio
  refine h.up (s:=outS (st.at_ k) b) hk rfl rfl (fun t j c=>bE_other fun z=>c z.2.symm) ?_
  have q:=(h.at_ k hk).out hb hi
  show G1 _ _ _ _ _ (bE "in" k (st.ev++[eO k b])) (bE "out" k (st.ev++[eO k b])) (bE "words" k (st.ev++[eO k b]))
  unfold eO
  rw [bE_other fun z=>n2.1 z.1,bE_this,bE_other fun z=>n2.2 z.1]
  exact q
theorem gh_come (h:Gh g own a st) (hk:k<g.n) (hb:b∉(st.at_ k).seq):Gh g own a (comeS k b ws st):=by
  obtain ⟨n1,n2,n3⟩:=nio
  refine h.up (s:=inS (st.at_ k) b ws) hk rfl rfl (fun t j c=>bE_other fun z=>c z.2.symm) ?_
  have q:=(h.at_ k hk).inn (ws:=ws) hb
  show G1 _ _ _ _ _ (bE "in" k (st.ev++[eI k b])) (bE "out" k (st.ev++[eI k b])) (bE "words" k (st.ev++[eI k b]))
  unfold eI
  rw [bE_this,bE_other fun z=>n1.1 z.1,bE_other fun z=>n1.2 z.1]
  exact q
theorem gh_putT (h:Gh g own a st) (hk:k<g.n) (hl:(g.cf k).late=false):Gh g own a (putS g k b ws st):=by
  obtain ⟨n1,n2,n3⟩:=nio
  unfold putS
  rw [if_neg (by lia)]
  refine h.up (s:=layS (st.at_ k) b ws) hk rfl rfl (fun t j c=>bE_other fun z=>c z.2.symm) ?_
  have q:=(h.at_ k hk).lay (b:=b) (ws:=ws) hl
  show G1 _ _ _ _ _ (bE "in" k (st.ev++[eW k b])) (bE "out" k (st.ev++[eW k b])) (bE "words" k (st.ev++[eW k b]))
  unfold eW
  rw [bE_other fun z=>n3.1 z.1,bE_other fun z=>n3.2 z.1,bE_this]
  exact q
theorem gh_putL (h:Gh g own a st) (hk:k<g.n) (hl:(g.cf k).late=true) (hb:b∈(st.at_ k).seq):Gh g own a (freshS k b (putS g k b ws st)):=by
  obtain ⟨n1,n2,n3⟩:=nio
  have e:(putS g k b ws st).at_ k=layS (st.at_ k) b ws:=by
    unfold putS
    rw [if_neg (by lia),at_tell,Stt.at_set (by rw [h.len]; exact hk),if_pos rfl]
  refine h.up (s:=frS (layS (st.at_ k) b ws) b) hk ?_ ?_ (fun t j c=>?_) ?_
  · show ((putS g k b ws st).rm.set k (frS ((putS g k b ws st).at_ k) b))=_
    rw [e]
    unfold putS
    rw [if_neg (by lia)]
    show (st.rm.set k _).set k _=_
    rw [List.set_set]
  · unfold freshS putS
    rw [if_neg (by lia)]; rfl
  · show bE t j (putS g k b ws st).ev=_
    unfold putS
    rw [if_neg (by lia)]
    exact bE_other fun z=>c z.2.symm
  · have q:=(h.at_ k hk).layF (b:=b) (ws:=ws) hl hb
    have ee:(freshS k b (putS g k b ws st)).ev=st.ev++[eW k b]:=by
      unfold freshS putS
      rw [if_neg (by lia)]; rfl
    rw [ee]
    unfold eW
    rw [bE_other fun z=>n3.1 z.1,bE_other fun z=>n3.2 z.1,bE_this]
    exact q
theorem gh_putN (hs:0<g.size) (h:Gh g own a st):Gh g own a (putS g g.n b ws st):=by
  obtain ⟨n1,n2,n3⟩:=nio
  unfold putS
  rw [if_pos rfl]
  refine ⟨h.len,fun j hj=>?_,fun x hx=>?_⟩
  · show G1 _ _ _ _ (st.at_ j) (bE "in" j (st.ev++[eW g.n b])) (bE "out" j (st.ev++[eW g.n b])) (bE "words" j (st.ev++[eW g.n b]))
    unfold eW
    rw [bE_other fun z=>n3.1 z.1,bE_other fun z=>n3.2 z.1,bE_other fun z=>(Nat.ne_of_gt hj) z.2]
    exact h.at_ j hj
  · have hx:x∉bE "words" g.n (st.ev++[eW g.n b]):=hx
    unfold eW at hx
    rw [bE_this,List.mem_append,List.mem_singleton] at hx
    show memW g.size (layM g.size st.mem b ws) x=_
    rw [memW_ne hs fun z=>hx (.inr z)]
    exact h.mm x fun z=>hx (.inl z)
theorem gh_goOn (hs:0<g.size):∀ {r k:Nat} {st:Stt},k+r=g.n→Gh g own a st→Gh g own a (goOn g b ws r k st)
  | 0,k,st,e,h=>by
    have:k=g.n:=by lia
    subst this
    exact gh_putN hs h
  | r+1,k,st,e,h=>by
    unfold goOn
    split
    · rename_i c
      cases l:(g.cf k).late with
      | true=>rw [if_pos rfl]; exact gh_putL h (by lia) l c
      | false=>rw [if_neg Bool.false_ne_true]; exact gh_goOn hs (by lia) (gh_putT h (by lia) l)
    · exact gh_goOn hs (by lia) h
theorem goOn_in {t:Str} (nt:("words" : Str)≠t) {j:Nat}:∀ {r k:Nat} {st:Stt},bE t j (goOn g b ws r k st).ev=bE t j st.ev:=by
  have p:∀ {k:Nat} {st:Stt},bE t j (putS g k b ws st).ev=bE t j st.ev:=fun {k st}=>by
    unfold putS
    split <;> exact bE_other fun z=>nt z.1
  intro r
  induction r with
  | zero=>intro k st; exact p
  | succ r ih =>
    intro k st
    unfold goOn
    split
    · split
      · exact p
      · exact ih.trans p
    · exact ih
theorem go_in {t:Str} (nt:("out" : Str)≠t) {j:Nat}:bE t j (goS k b st).ev=bE t j st.ev:=bE_other fun z=>nt z.1
theorem outs_in {j:Nat}:∀ {k:Nat} {st:Stt} {ws:List Int} {fr:Bool},bE "in" j (outsS b k st ws fr).1.ev=bE "in" j st.ev
  | 0,st,ws,fr=>rfl
  | k+1,st,ws,fr=>by
    unfold outsS
    split
    · exact outs_in.trans (go_in nio.2.1.1)
    · exact outs_in
theorem drive_in {j:Nat}:bE "in" j (driveS g k b st).ev=bE "in" j st.ev:=by
  have d:bE "in" j (drv1 g k b st).1.ev=bE "in" j st.ev:=by
    unfold drv1
    split
    · exact outs_in.trans (go_in nio.2.1.1)
    · exact go_in nio.2.1.1
  unfold driveS
  split
  · exact (goOn_in nio.2.2.1).trans d
  · exact d
theorem gh_outs:∀ {k:Nat} {st:Stt} {ws:List Int} {fr:Bool},k≤g.n→Gh g own a st→(∀ j,j<k→bE "in" j st.ev=[])→Gh g own a (outsS b k st ws fr).1
  | 0,st,ws,fr,_,h,_=>h
  | k+1,st,ws,fr,hk,h,hi=>by
    unfold outsS
    split
    · rename_i c
      exact gh_outs (by lia) (gh_go h (by lia) c (by rw [hi k (by lia)]; simp)) fun j hj=>(go_in nio.2.1.1).trans (hi j (by lia))
    · exact gh_outs (by lia) h fun j hj=>hi j (by lia)
theorem gh_drive (hs:0<g.size) (h:Gh g own a st) (hk:k<g.n) (hb:b∈(st.at_ k).seq) (hi:∀ j,j≤k→bE "in" j st.ev=[]):Gh g own a (driveS g k b st):=by
  have h1:Gh g own a (drv1 g k b st).1:=by
    have q:=gh_go h hk hb (by rw [hi k (Nat.le_refl _)]; simp)
    unfold drv1
    split
    · exact gh_outs (by lia) q fun j hj=>(go_in nio.2.1.1).trans (hi j (by lia))
    · exact q
  unfold driveS
  split
  · exact gh_goOn hs (by lia) h1
  · exact h1
theorem gh_leave (hs:0<g.size) (h:Gh g own a st) (hk:k<g.n) (hi:∀ j,j≤k→bE "in" j st.ev=[]) (hb:b∉(st.at_ k).seq):Gh g own a (leaveS g k b st)∧(∀ j,bE "in" j (leaveS g k b st).ev=bE "in" j st.ev)∧∀ j x,x∈((leaveS g k b st).at_ j).seq→x∈(st.at_ j).seq:=by
  unfold leaveS
  split
  · exact ⟨h,fun _=>rfl,fun _ _ z=>z⟩
  · rename_i o e
    refine ⟨gh_drive hs h hk (goneF_mem e).1 hi,fun j=>drive_in,fun j x hx=>?_⟩
    rw [drive_sq (by rw [h.len]; exact hk)] at hx
    split at hx
    · exact List.mem_of_mem_erase hx
    · exact hx
theorem gh_down (hs:0<g.size):∀ {k:Nat} {st:Stt},k≤g.n→Gh g own a st→(∀ j,j<k→bE "in" j st.ev=[])→(∀ j,j<k→b∉(st.at_ j).seq)→Gh g own a (downS g b ws k st)
  | 0,st,_,h,_,_=>h
  | k+1,st,hk,h,hi,hb=>by
    obtain ⟨h1,h2,h3⟩:=gh_leave (b:=b) hs h (k:=k) (by lia) (fun j hj=>hi j (by lia)) (hb k (by lia))
    have nb:b∉((leaveS g k b st).at_ k).seq:=fun z=>hb k (by lia) (h3 k b z)
    refine gh_down hs (k:=k) (by lia) (gh_come h1 (by lia) nb) (fun j hj=>?_) fun j hj z=>?_
    · show bE "in" j ((leaveS g k b st).ev++[eI k b])=[]
      unfold eI
      rw [bE_other fun z=>by lia,h2,hi j (by lia)]
    · rw [come_sq (by rw [h1.len]; lia),if_neg (by lia)] at z
      exact hb j (by lia) (h3 j b z)
theorem gh_used (h:Gh g own a st) (hb:k<g.n→b∈(st.at_ k).seq):Gh g own a (usedS g k b st):=by
  unfold usedS
  split
  · rename_i c
    exact h.up (s:=useS (g.cf k) (st.at_ k) b) c rfl rfl (fun _ _ _=>rfl) ((h.at_ k c).use (hb c))
  · exact h
theorem gh_comeA (hs:0<g.size) (ka:g.kind = "apart") (h:Gh g own a st) (hk:k<g.n) (hb:b∉(st.at_ k).seq) {fr:Bool}:Gh g own a (comeA g k b ws fr st)∧∀ j,j≠k→bE "in" j (comeA g k b ws fr st).ev=bE "in" j st.ev:=by
  have q:=gh_come (ws:=ws) h hk hb
  have qi:∀ j,j≠k→bE "in" j (comeS k b ws st).ev=bE "in" j st.ev:=fun j c=>bE_other fun z=>c z.2.symm
  unfold comeA
  split
  · unfold changeS
    cases l:(g.cf k).late with
    | true =>
      rw [if_pos rfl]
      refine ⟨q.up (s:=frS ((comeS k b ws st).at_ k) b) hk rfl rfl (fun _ _ _=>rfl) ((q.at_ k hk).fre l ?_ ka),qi⟩
      show b∈bE "in" k (st.ev++[eI k b])
      unfold eI
      rw [bE_this]
      exact List.mem_append.mpr (.inr (List.mem_singleton.mpr rfl))
    | false =>
      rw [if_neg Bool.false_ne_true]
      exact ⟨gh_goOn hs (by lia) q,fun j c=>(goOn_in nio.2.2.1).trans (qi j c)⟩
  · exact ⟨q,qi⟩
theorem gh_push (hs:0<g.size) (ka:g.kind = "apart"):∀ {r k:Nat} {b:Int} {ws:List Int} {fr:Bool} {st:Stt},k+r=g.n→Gh g own a st→(∀ j,k≤j→j<g.n→bE "in" j st.ev=[])→(∀ j,k≤j→j<g.n→b∉(st.at_ j).seq)→(∀ i j x,k≤i→i<j→j<g.n→x∈(st.at_ i).seq→x∉(st.at_ j).seq)→Gh g own a (pushS g r k b ws fr st)
  | 0,k,b,ws,fr,st,e,h,_,_,_=>by
    have:k=g.n:=by lia
    subst this
    unfold pushS
    split
    · exact gh_putN hs h
    · exact h
  | r+1,k,b,ws,fr,st,e,h,hi,hb,hd=>by
    have hk:k<g.n:=by lia
    unfold pushS
    split
    · exact (gh_comeA hs ka h hk (hb k (Nat.le_refl _) hk)).1
    · rename_i o eo
      have om:=(goneF_mem eo).1
      have h1:=gh_go h hk om (by rw [hi k (Nat.le_refl _) hk]; simp)
      have len1:k<st.rm.length:=by rw [h.len]; exact hk
      have nb:b∉((goS k o st).at_ k).seq:=fun z=>by
        rw [go_sq len1,if_pos rfl] at z
        exact hb k (Nat.le_refl _) hk (List.mem_of_mem_erase z)
      obtain ⟨h2,h3⟩:=gh_comeA (b:=b) (ws:=ws) (fr:=fr) hs ka h1 hk nb
      have sq2:∀ (fr:Bool) j,k+1≤j→((comeA g k b ws fr (goS k o st)).at_ j).seq=(st.at_ j).seq:=fun fr j hj=>by
        rw [comeA_sq (by rw [h1.len]; exact hk),if_neg (by lia),go_sq len1,if_neg (by lia)]
      refine gh_push hs ka (r:=r) (k:=k+1) (by lia) h2 (fun j h4 h5=>?_) (fun j h4 h5=>?_) fun i j x h4 h5 h6=>?_
      · rw [h3 j (by lia),go_in nio.2.1.1]
        exact hi j (by lia) h5
      · rw [sq2 _ j h4]
        exact hd k j o (Nat.le_refl _) (by lia) h5 om
      · rw [sq2 _ i h4,sq2 _ j (by lia)]
        exact hd i j x (by lia) h5 h6
end
def LateF (g:Pln) (st:Stt):Prop:=∀ k x,k<g.n→(st.at_ k).fr x=true→(g.cf k).late=true
section
variable {g:Pln} {st:Stt} {b:Int}
theorem gh_new {i:Nat} (ok:Okf g st) (lf:LateF g st) (he:st.ev=[]):Gh g (fun _ _=>False) st (st.tell (eF i)):=by
  have ev:∀ t j,bE t j (st.tell (eF i)).ev=[]:=fun t j=>by
    show bE t j (st.ev++[eF i])=[]
    rw [he]; rfl
  refine ⟨ok.len,fun k hk=>?_,fun x _=>rfl⟩
  rw [ev,ev,ev]
  exact ⟨ok.nd k,fun x=>⟨fun h=>.inl ⟨h,by simp⟩,fun h=>(h.resolve_right (by simp)).1⟩,fun x h=>by simp at h,fun x h=>by simp at h,List.nodup_nil,List.nodup_nil,fun _ _ _ _=>rfl,fun x _ _ _=>⟨.inl,fun h=>h.resolve_right fun z=>z.2.elim (by simp) id⟩,fun x h=>by simp at h,ok.ff k,fun x=>lf k x hk⟩
theorem gh_fetch (hs:0<g.size) (ok:Okf g st) (lf:LateF g st) (he:st.ev=[]) (dj:g.kind = "apart" → Disj st):Gh g (fun _ _=>False) st (fetchS g b st):=by
  have h0:=gh_new (i:=nearF st b) ok lf he
  have nl:=near_le st b
  have e0:∀ j,bE "in" j (st.tell (eF (nearF st b))).ev=[]:=fun j=>by
    show bE "in" j (st.ev++[eF (nearF st b)])=[]
    rw [he]; rfl
  have hn:nearF st b<g.n→b∈(st.at_ (nearF st b)).seq:=fun c=>near_lt (by rw [ok.len]; exact c)
  unfold fetchS
  split
  · rename_i ka
    have D:=dj ka
    have dd:∀ i j x,0≤i→i<j→j<g.n→x∈((st.tell (eF (nearF st b))).at_ i).seq→x∉((st.tell (eF (nearF st b))).at_ j).seq:=fun i j x _ h1 h2=>D i j (by rw [ok.len]; lia) (by rw [ok.len]; exact h2) (by lia) x
    unfold fetchA
    split
    · rename_i c
      exact gh_used h0 fun _=>by rw [← c] at *; exact hn (by lia)
    · split
      · rename_i c
        refine gh_push hs ka (by lia) h0 (fun j _ _=>e0 j) (fun j _ hj=>?_) dd
        exact near_not (st:=st) (by lia) (by rw [ok.len]; exact hj)
      · rename_i c1 c2
        have hk:nearF st b<g.n:=by have:=ok.len; lia
        have hb:=hn hk
        have hl:nearF st b<(st.tell (eF (nearF st b))).rm.length:=by show _<st.rm.length; rw [ok.len]; exact hk
        refine gh_push hs ka (by lia) (gh_go h0 hk hb (by rw [e0]; simp)) (fun j _ _=>(go_in nio.2.1.1).trans (e0 j)) (fun j _ hj z=>?_) fun i j x _ h1 h2 hx z=>?_
        · rw [go_sq hl] at z
          split at z
          · rename_i c
            exact ((ok.nd _).mem_erase_iff.mp (by rw [c] at z; exact z)).1 rfl
          · rename_i c
            exact D (nearF st b) j (by rw [ok.len]; exact hk) (by rw [ok.len]; exact hj) (fun q=>c q.symm) b hb z
        · have sub:∀ j x,x∈((goS (nearF st b) b (st.tell (eF (nearF st b)))).at_ j).seq→x∈(st.at_ j).seq:=fun j x z=>by
            rw [go_sq hl] at z
            split at z
            · exact List.mem_of_mem_erase z
            · exact z
          exact dd i j x (Nat.zero_le _) h1 h2 (sub i x hx) (sub j x z)
  · unfold fetchD
    have q:=gh_used (k:=nearF st b) (b:=b) h0 hn
    have um:∀ j,((usedS g (nearF st b) b (st.tell (eF (nearF st b)))).at_ j).seq=(st.at_ j).seq∨j=nearF st b:=fun j=>by
      by_cases c:j=nearF st b
      · exact .inr c
      · refine .inl ?_
        unfold usedS
        split
        · rw [at_set',if_neg fun z=>c z.1]; rfl
        · rfl
    refine gh_down hs (by have:=ok.len; lia) q (fun j _=>?_) fun j hj=>?_
    · unfold usedS
      split <;> exact e0 j
    · rw [(um j).resolve_right (by lia)]
      exact near_not hj (by have:=ok.len; lia)
def ownD (g:Pln):Dd→Nat→Int→Prop
  | .rd _,_,_=>False
  | .wt sp _,k,x=>k=0∧x=sp / g.size
theorem gh_step {d:Dd} (hs:0<g.size) (l1:1≤g.n) (ok:Okf g st) (lf:LateF g st) (he:st.ev=[]) (dj:g.kind = "apart" → Disj st) (hb:d.sp / g.size∈((fetchS g (d.sp / g.size) st).at_ 0).seq):Gh g (ownD g d) st (stepS g d st):=by
  have q:=gh_fetch (b:=d.sp / g.size) hs ok lf he dj
  cases d with
  | rd sp=>exact q
  | wt sp v =>
    have hb:sp / g.size∈((fetchS g (sp / g.size) st).at_ 0).seq:=hb
    have q:Gh g (fun _ _=>False) st (fetchS g (sp / g.size) st):=q
    show Gh g _ st (changeS g 0 (sp / g.size) ((fetchS g (sp / g.size) st).set 0 (pwS g ((fetchS g (sp / g.size) st).at_ 0) sp v)))
    generalize fetchS g (sp / g.size) st=s1 at *
    have l0:0<s1.rm.length:=by rw [q.len]; lia
    have e0:(s1.set 0 (pwS g (s1.at_ 0) sp v)).at_ 0=pwS g (s1.at_ 0) sp v:=by rw [at_set',if_pos ⟨rfl,l0⟩]
    have oth:∀ k,k<g.n→k≠0→G1 (g.cf k).late (g.kind = "apart") (ownD g (.wt sp v) k) (st.at_ k) (s1.at_ k) (bE "in" k s1.ev) (bE "out" k s1.ev) (bE "words" k s1.ev):=fun k hk c=>by
      have h:=q.at_ k hk
      exact ⟨h.nd,h.sq,h.io,h.os,h.ni,h.no,fun x h1 h2 h3=>h.wd x h1 h2 id,fun x h1 h2 h3=>(h.f1 x h1 h2 h3).trans ⟨fun z=>z.imp id fun z=>⟨z.1,.inl (z.2.resolve_right id)⟩,fun z=>z.imp id fun z=>⟨z.1,.inl (z.2.resolve_right fun y=>c y.1)⟩⟩,fun x h1 h2=>(h.f2 x h1 h2).imp id fun z=>.inl (z.resolve_right id),h.f3,h.fl⟩
    have eo:ownD g (.wt sp v) 0=fun x=>x=sp / g.size:=by
      funext x
      exact propext ⟨fun z=>z.2,fun z=>⟨rfl,z⟩⟩
    unfold changeS
    cases l:(g.cf 0).late with
    | true =>
      rw [if_pos rfl]
      have h1:=(q.at_ 0 (by lia)).ownL (b:=sp / g.size) (ws:=((s1.at_ 0).wd (sp / g.size)).set (sp % g.size).toNat v) l hb
      refine ⟨by unfold freshS; rw [set_len,set_len]; exact q.len,fun k hk=>?_,q.mm⟩
      have ea:(freshS 0 (sp / g.size) (s1.set 0 (pwS g (s1.at_ 0) sp v))).at_ k=if k=0 then frS (pwS g (s1.at_ 0) sp v) (sp / g.size) else s1.at_ k:=by
        unfold freshS
        rw [at_set',e0,set_len,at_set']
        by_cases c:k=0
        · rw [if_pos ⟨c,l0⟩,if_pos c]
        · rw [if_neg fun z=>c z.1,if_neg fun z=>c z.1,if_neg c]
      rw [ea]
      by_cases c:k=0
      · subst c
        rw [if_pos rfl,eo]
        exact h1
      · rw [if_neg c]
        exact oth k hk c
    | false =>
      rw [if_neg Bool.false_ne_true]
      have h1:=(q.at_ 0 (by lia)).ownT (b:=sp / g.size) (ws:=((s1.at_ 0).wd (sp / g.size)).set (sp % g.size).toNat v) l
      refine gh_goOn hs (by lia) ⟨by rw [set_len]; exact q.len,fun k hk=>?_,q.mm⟩
      rw [at_set']
      by_cases c:k=0
      · subst c
        rw [if_pos ⟨rfl,l0⟩,eo]
        exact h1
      · rw [if_neg fun z=>c z.1]
        exact oth k hk c
theorem late_step {d:Dd} (h:Gh g (ownD g d) st (stepS g d st)):LateF g (clr (stepS g d st)):=fun k x hk hx=>(h.at_ k hk).fl x hx
theorem late_new {n:Nat}:LateF g (St0 n):=fun k x _ h=>by rw [new_at] at h; cases h
end
theorem fold_put {P:Key→V→Prop}:∀ {ls:List (Addr×Key×V)} {a:List (Key×V)},(∀ x∈ls,P x.2.1 x.2.2)→(∀ k v,valV a k=some v→P k v)→∀ k v,valV (ls.foldl (fun a x=>putK a x.2.1 x.2.2) a) k=some v→P k v
  | [],_,_,h=>h
  | x :: ls,a,h1,h2=>by
    rw [List.foldl_cons]
    refine fold_put (fun y hy=>h1 y (List.mem_cons_of_mem _ hy)) fun k v hv=>?_
    rw [valV_put] at hv
    split at hv
    · rename_i e
      cases hv
      rw [e]
      exact h1 x List.mem_cons_self
    · exact h2 k v hv
theorem fold_has:∀ {ls:List (Addr×Key×V)} {a:List (Key×V)} {k:Key},(valV a k).isSome=true∨k∈ls.map (fun x=>x.2.1)→(valV (ls.foldl (fun a x=>putK a x.2.1 x.2.2) a) k).isSome=true
  | [],_,_,h=>h.resolve_right fun z=>(nomatch z)
  | x :: ls,a,k,h=>by
    rw [List.foldl_cons]
    refine fold_has ?_
    rw [valV_put]
    by_cases e:k=x.2.1
    · rw [if_pos e]; exact .inl rfl
    · rw [if_neg e]
      exact h.imp id fun z=>(List.mem_cons.mp z).resolve_left e
def VR (N:Addr→Prop) (H:Hp) (t:Addr) (bs cs:List Int) (wd:Int→List Int):Prop:=∃ (D C d:Addr) (kv:List (Key×V)),(N D∧N C∧N d)∧H t=some (.tup [.ref D,.ref C,.ref d])∧H D=some (.lst (bs.map V.int))∧H C=some (.lst (cs.map V.int))∧H d=some (.dK kv)∧∀ b∈bs,∃ x,N x∧valV kv (Sum.inl b:Key)=some (.ref x)∧H x=some (.lst ((wd b).map V.int))
theorem VR.frame {N:Addr→Prop} {H H':Hp} {t:Addr} {bs cs:List Int} {wd:Int→List Int} (h:VR N H t bs cs wd) (f:∀ x o,H x=some o→(N x∨¬ Mt o)→H' x=some o):VR N H' t bs cs wd:=by
  obtain ⟨D,C,d,kv,⟨n1,n2,n3⟩,h1,h2,h3,h4,h5⟩:=h
  refine ⟨D,C,d,kv,⟨n1,n2,n3⟩,f _ _ h1 (.inr id),f _ _ h2 (.inl n1),f _ _ h3 (.inl n2),f _ _ h4 (.inl n3),fun b hb=>?_⟩
  obtain ⟨x,nx,h6,h7⟩:=h5 b hb
  exact ⟨x,nx,h6,f _ _ h7 (.inl nx)⟩
structure VA (N:Addr→Prop) (H:Hp) (l:Addr) (g:Pln) (st:Stt) (ns:List Int):Prop where
  at_:∃ ts:List Addr,N l∧H l=some (.lst (ts.map V.ref))∧ts.length=g.n+1∧(∀ k,k<g.n→∃ t bs cs,ts[k]?=some t∧VR N H t bs cs ((st.at_ k).wd)∧bs.Perm (st.at_ k).seq∧bs.Pairwise (·≤·)∧bs.length<64∧∀ x,x∈cs↔(st.at_ k).fr x=true)∧∃ t,ts[g.n]?=some t∧VR N H t ns [] (memW g.size st.mem)
structure DLs (N:Addr→Prop) (G:Hp) (lm:Addr) (bs:List Int) (wd:Int→List Int) (ls:List (Addr×Key×V)):Prop where
  ks:ls.map (fun x=>x.2.1)=bs.map fun b=>(Sum.inl b:Key)
  at_:∀ x∈ls,x.1≠lm∧G x.1=some (.tup [kV x.2.1,x.2.2])∧∃ (b:Int) (a:Addr),x.2.1=Sum.inl b∧x.2.2=.ref a∧N a∧a≠lm∧G a=some (.lst ((wd b).map V.int))
theorem DLs.step {N:Addr→Prop} {G G2:Hp} {lm l t:Addr} {bs:List Int} {wd:Int→List Int} {ls:List (Addr×Key×V)} {b:Int} {o:HO} {xs:List V} (h:DLs N G lm bs wd ls) (s:Same G G2) (gm:G2 lm=some o) (el:G2 l=some (.lst ((wd b).map V.int))) (nl:N l) (nlm:l≠lm) (ht:G2 t=none) :
    DLs N (upd (upd G2 t (.tup [.int b,.ref l])) lm (.lst xs)) lm (bs++[b]) wd (ls++[(t,Sum.inl b,.ref l)]):=by
  have kp:∀ x u,x≠lm→G2 x=some u→upd (upd G2 t (.tup [.int b,.ref l])) lm (.lst xs) x=some u:=fun x u n e=>by rw [upd_ne n]; exact same_upd ht _ _ _ e
  have tn:t≠lm:=fun z=>by rw [z,gm] at ht; cases ht
  refine ⟨by rw [List.map_append,List.map_append,h.ks]; rfl,fun x hx=>?_⟩
  rcases List.mem_append.mp hx with hx | hx
  · obtain ⟨n1,h1,b',a,e1,e2,h2,n2,h3⟩:=h.at_ x hx
    exact ⟨n1,kp _ _ n1 (s _ _ h1),b',a,e1,e2,h2,n2,kp _ _ n2 (s _ _ h3)⟩
  · rw [List.mem_singleton.mp hx]
    exact ⟨tn,by rw [upd_ne tn]; exact upd_same,b,l,rfl,rfl,nl,nlm,kp _ _ nlm el⟩
theorem DLs.done {N:Addr→Prop} {G:Hp} {lm d:Addr} {bs:List Int} {wd:Int→List Int} {ls:List (Addr×Key×V)} (h:DLs N G lm bs wd ls) (hd:G d=none) {o:HO}:∀ b∈bs,∃ x,N x∧valV (ls.foldl (fun a x=>putK a x.2.1 x.2.2) []) (Sum.inl b:Key)=some (.ref x)∧upd G d o x=some (.lst ((wd b).map V.int)):=fun b hb=>by
  have q:=fold_has (ls:=ls) (a:=[]) (k:=Sum.inl b) (.inr (by rw [h.ks]; exact List.mem_map_of_mem hb))
  obtain ⟨v,hv⟩:=Option.isSome_iff_exists.mp q
  obtain ⟨b',a,e1,e2,e3,e4⟩:=fold_put (P:=fun k v=>∃ (b:Int) (a:Addr),k=Sum.inl b∧v=.ref a∧N a∧G a=some (.lst ((wd b).map V.int))) (ls:=ls) (a:=[]) (fun x hx=>by
    obtain ⟨_,_,b,a,h1,h2,h3,_,h4⟩:=h.at_ x hx
    exact ⟨b,a,h1,h2,h3,h4⟩) (fun k v z=>by cases z) _ _ hv
  cases e1
  exact ⟨a,e3,by rw [hv,e2],same_upd hd _ _ _ e4⟩
theorem VR.mono {N N':Addr→Prop} {H:Hp} {t:Addr} {bs cs:List Int} {wd:Int→List Int} (h:VR N H t bs cs wd) (f:∀ x,N x→N' x):VR N' H t bs cs wd:=by
  obtain ⟨D,C,d,kv,⟨n1,n2,n3⟩,h1,h2,h3,h4,h5⟩:=h
  refine ⟨D,C,d,kv,⟨f _ n1,f _ n2,f _ n3⟩,h1,h2,h3,h4,fun b hb=>?_⟩
  obtain ⟨x,nx,h6⟩:=h5 b hb
  exact ⟨x,f _ nx,h6⟩
section
def spView (K:PySem.W.Frag):Sp:=fun vs H Q _=>∃ (A:TA) (g:Pln) (st:Stt) (os:OS) (n:Nat) (pp tp so:Addr) (tss:List Addr) (ns:List Int),vs=[.ref A.p,.ref pp,.ref so]∧StairsAt K H A g st os n∧H pp=some (.tup [.int g.size,.str g.kind,.ref tp])∧PlanAt K H tp tss g.cfs∧g.U.length<64∧H so=some (.lst (ns.map V.int))∧ns.length<64∧(∀ x∈ns,0≤x∧x≤1000000)∧¬ OW A os so ∧
  ∀ l H',Same H H'→VA (fun x=>¬ OW A os x) H' l g st ns→Q (.ref l) H'
theorem ok_view {f:Addr} {fd:FuncData} (F:Fun K "_law_view" "_law_view" s_view f fd) (T:Txt K mg) (M_Steps_lies:MDef P w K mg base (clsOf K "Stairs") "lies" 2 P_Steps_lies (spLies K)) (M_Steps_changed:MDef P w K mg base (clsOf K "Stairs") "changed" 2 P_Steps_changed (spChanged K)) (M_Steps_words:MDef P w K mg base (clsOf K "Stairs") "words" 4 P_Steps_words (spTWords K)):FnOk P w K mg base CX0 5 f fd P_view (spView K):=by
  refine F.ok sc_view (fun vs H Q E h=>?_) (fun cdv A outer s0 H vs Q E hr h=>?_)
  · obtain ⟨A,g,st,os,n,pp,tp,so,tss,ns,rfl,_⟩:=h
    rfl
  obtain ⟨A,g,st,os,n,pp,tp,so,tss,ns,rfl,R,hpp,pa,hU,hso,n64,nsB,nso,q⟩:=h
  have nd:=sc_view.nd
  refine ⟨_,(pss_cons (pst 3 nd (pe_listrange1 rfl rfl T.z_list rfl T.z_range (pc (pe_callBN (call_len_seqK (K:=K) rfl) rfl T.z_len PySem.boot_len (pc (pe_ix (ix_tupK (K:=K) rfl) (pv 1) pe_int (fun _ _=>rfl)) pa_nil)) pa_nil)))
      (pss_cons (pst 4 nd (pe_lst pa_nil))
      (pss_cons (ps_for PassesOwn.never rfl (pi_listK (K:=K) rfl (pv 3)) (pgn 5 nd) (pss_cons (pst 6 nd (pe_methN M_Steps_lies hr.m T.cl_Stairs (pv 0) (pc (pv 5) pa_nil)))
      (pss_one (ps_expr (pe_bmC (K:=K) rfl (pe_bm PySem.F.plainAttrs_list PySem.F.slot_list_append PySem.F.type_list_append mt_append (pv 4) (pc (pe_tup (pc (pv 6) (pc (pe_methN M_Steps_changed hr.m T.cl_Stairs (pv 0) (pc (pv 5) pa_nil)) (pc (pe_callTyN (call_dictP rfl) rfl T.z_dict boot_dictT (pc (pe_comp0 (compOk_of (osc:=(defScope s_view)) (oN:=N_view) (N:=["_law_board", "_law_k", "_law_stairs"]) (own:=1) (js:=[5,0]) (by decide +kernel) rfl rfl) rfl (pi_listK (K:=K) rfl (pv 6)) (fun _ _ _ _ _ _=>(pgn 0 (show List.Nodup (["_law_board", "_law_k", "_law_stairs"]:List Str) by decide +kernel))) (fun _ _ _ _ _ _=>(pe_tup (pc (pv 0) (pc (pe_methN M_Steps_words hr.m T.cl_Stairs (pv 2) (pc (pv 1) (pc (pv 0) pa_nil))) pa_nil))))) pa_nil)) pa_nil)))) pa_nil)))))))
      (pss_one (ps_ret (pe_op op_cat (pv 4) (pe_lst (pc (pe_tup (pc (pv 2) (pc (pe_lst pa_nil) (pc (pe_callTyN (call_dictP rfl) rfl T.z_dict boot_dictT (pc (pe_comp0 (compOk_of (osc:=(defScope s_view)) (oN:=N_view) (N:=["_law_board", "_law_stairs", "_law_rooms"]) (own:=1) (js:=[0,3]) (by decide +kernel) rfl rfl) rfl (pi_listK (K:=K) rfl (pv 2)) (fun _ _ _ _ _ _=>(pgn 0 (show List.Nodup (["_law_board", "_law_stairs", "_law_rooms"]:List Str) by decide +kernel))) (fun _ _ _ _ _ _=>(pe_tup (pc (pv 0) (pc (pe_methN M_Steps_words hr.m T.cl_Stairs (pv 1) (pc (pe_callBN (call_len_seqK (K:=K) rfl) rfl T.z_len PySem.boot_len (pc (pv 2) pa_nil)) (pc (pv 0) pa_nil))) pa_nil))))) pa_nil)) pa_nil)))) pa_nil)))))))),?_⟩
  have ln:=R.ln
  have l4:g.n≤4:=R.wf.l4
  obtain ⟨dx,h1⟩:=R.ob
  have lt4:(tss.map V.ref).length=g.n:=by rw [List.length_map,pa.len]; rfl
  refine ⟨_,rfl,pp,_,_,_,rfl,rfl,SqT.of hpp,atI2,tp,_,rfl,.inr (SqT.of pa.top),_,rfl,by lia,by lia,Nat.le_trans (by lia:_≤4) (by decide),fun lr hlr=>?_⟩
  rw [lt4,Int.toNat_natCast]
  have s1:=same_upd hlr (.lst ((List.range g.n).map fun k:Nat=>V.int (k:Int)))
  have er:=upd_same (H:=H) (a:=lr) (o:=.lst ((List.range g.n).map fun k:Nat=>V.int (k:Int)))
  generalize upd H lr (.lst ((List.range g.n).map fun k:Nat=>V.int (k:Int)))=H1 at *
  refine gN ?_
  dsimp only
  refine hide fun u1 e1=>?_
  refine ⟨Nat.zero_le _,fun lf hlf=>gN ?_⟩
  subst e1
  dsimp only
  have s2:=s1.trans (same_upd hlf (.lst []))
  have elf:=upd_same (H:=H1) (a:=lf) (o:=.lst [])
  have er2:=same_upd hlf (.lst []) _ _ er
  have nlf:¬ OW A os lf:=(R.same s1).fresh hlf
  have lrf:lr≠lf:=fun z=>by rw [z,hlf] at er; cases er
  have lsf:H lf=none:=s1.free hlf
  generalize upd H1 lf (.lst [])=H2 at *
  refine hide fun u1 e1=>?_
  refine ⟨_,rfl,lr,rfl,⟨_,SqL.of er2⟩,for_list (K:=K) (a:=lr) (xs:=(List.range g.n).map fun k:Nat=>V.int (k:Int)) (fun i σ G=>∃ (v5 v6:Option V) (ts:List Addr),σ=[some (.ref A.p),some (.ref pp),some (.ref so),some (.ref lr),some (.ref lf),v5,v6]∧G lf=some (.lst (ts.map V.ref))∧ts.length=i∧G lr=some (.lst ((List.range g.n).map fun k:Nat=>V.int (k:Int)))∧Same H G∧∀ k,k<i→∃ t bs cs,ts[k]?=some t∧VR (fun x=>¬ OW A os x∧x≠lf) G t bs cs ((st.at_ k).wd)∧bs.Perm (st.at_ k).seq∧bs.Pairwise (·≤·)∧bs.length<64∧∀ x,x∈cs↔(st.at_ k).fr x=true) ⟨_,_,[],rfl,elf,rfl,er2,s2,fun k hk=>absurd hk (Nat.not_lt_zero _)⟩ (fun i σ G _ ⟨_,_,_,_,_,_,s,_⟩=>SqL.of s) ?_ ?_⟩
  · rintro i x σ G hi ⟨v5,v6,ts,rfl,gf,lts,gr,s3,old⟩
    obtain ⟨hi',rfl⟩:i<g.n∧x=V.int (i:Int):=by
      rw [List.getElem?_map] at hi
      have c:i<g.n:=by
        refine Nat.lt_of_not_le fun c=>?_
        rw [List.getElem?_eq_none (by rw [List.length_range]; exact c)] at hi
        cases hi
      rw [List.getElem?_range c] at hi
      exact ⟨c,(Option.some.inj hi).symm⟩
    refine gN ?_
    dsimp only
    refine hide fun u2 e2=>?_
    refine ⟨_,rfl,A.p,dx,_,rfl,s3 _ _ h1,tf_no ..,_,rfl,A,g,st,os,n,i,rfl,R.same s3,hi',R.few hi' hU,fun D bs hD pb pw=>gN ?_⟩
    subst e2
    dsimp only
    have nD:¬ OW A os D:=(R.same s3).fresh hD
    have lD:D≠lf:=fun z=>by rw [z,gf] at hD; cases hD
    have s4:=s3.trans (same_upd hD (.lst (bs.map V.int)))
    have eD:=upd_same (H:=G) (a:=D) (o:=.lst (bs.map V.int))
    have gf4:=same_upd hD (.lst (bs.map V.int)) _ _ gf
    have sG:=same_upd hD (.lst (bs.map V.int))
    generalize upd G D (.lst (bs.map V.int))=G1 at *
    refine ⟨_,rfl,.inl ⟨rfl,_,SqL.of gf4⟩,_,rfl,_,rfl,A.p,dx,_,rfl,s4 _ _ h1,tf_no ..,_,rfl,A,g,st,os,n,i,rfl,R.same s4,hi',hU,fun C cs hC mc _ _ _=>?_⟩
    have nC:¬ OW A os C:=(R.same s4).fresh hC
    have lC:C≠lf:=fun z=>by rw [z,gf4] at hC; cases hC
    have s5:=s4.trans (same_upd hC (.lst (cs.map V.int)))
    have eC:=upd_same (H:=G1) (a:=C) (o:=.lst (cs.map V.int))
    have sC:=same_upd hC (.lst (cs.map V.int))
    generalize upd G1 C (.lst (cs.map V.int))=G2 at *
    refine ⟨_,rfl,D,rfl,⟨_,SqL.of (sC _ _ eD)⟩,fun lm hlm=>?_⟩
    refine comp_list (K:=K) (a:=D) (xs:=bs.map V.int) (l:=lm) (fun j ys σ G'=>∃ (v0:Option V) (ls:List (Addr×Key×V)),σ=[v0,some (.int (i:Int)),some (.ref A.p)]∧ys=ls.map (fun x=>V.ref x.1)∧G' lm=some (.lst ys)∧Same G2 G'∧DLs (fun x=>¬ OW A os x∧x≠lf) G' lm (bs.take j) ((st.at_ i).wd) ls) ⟨none,[],rfl,rfl,upd_same,same_upd hlm _,rfl,fun x h=>(nomatch h)⟩ (fun j ys σ G' _ ⟨_,_,_,_,_,s,_⟩=>SqL.of (s _ _ (sC _ _ eD))) ?_ ?_
    · rintro j x ys σ G' hj hxj hys ⟨v0,ls,rfl,rfl,gm,s6,dl⟩
      obtain ⟨b,eb,rfl⟩:=ints_at hxj
      have mb:b∈(st.at_ i).seq:=pb.mem_iff.mp (List.mem_of_getElem? eb)
      have s7:=s5.trans s6
      obtain ⟨_,b01,_⟩:=R.bds (k:=i) (by lia)
      obtain ⟨b0,b1⟩:=R.wf.ub b (b01 b mb).1
      refine ⟨_,rfl,_,rfl,A.p,dx,_,rfl,s7 _ _ h1,tf_no ..,_,rfl,_,rfl,A,g,st,os,n,i,b,rfl,R.same s7,Nat.le_of_lt hi',(fun _=>mb),b0,b1,fun l G3 hl s8 el=>⟨Nat.le_of_ble_eq_true rfl,fun t ht=>?_⟩⟩
      rw [words_k hi'] at el
      have nl:¬ OW A os l:=(R.same s7).fresh hl
      have ll:l≠lf:=fun z=>by rw [z,s6 _ _ (sC _ _ gf4)] at hl; cases hl
      have llm:l≠lm:=fun z=>by rw [z,gm] at hl; cases hl
      refine CNx.of (Nat.le_of_lt (small1000 (by rw [List.length_map,pb.length_eq]; have:=R.few hi' hU; lia))) hj hys (same_upd ht _ _ _ (s8 _ _ gm)) ⟨_,ls++[(t,Sum.inl b,.ref l)],rfl,by rw [List.map_append]; rfl,upd_same,fun x o e=>?_,?_⟩
      · rw [upd_ne (ne_of_none e hlm)]
        exact same_upd ht _ _ _ (s8 _ _ (s6 _ _ e))
      · rw [List.take_succ,eb]
        exact dl.step s8 (s8 _ _ gm) el ⟨nl,ll⟩ llm ht
    rintro ys σ G' _ ⟨v0,ls,rfl,rfl,gm,s6,dl⟩
    rw [List.length_map,List.take_length] at dl
    refine ⟨lm,ls,rfl,gm,fun x hx=>(dl.at_ x hx).2.1,fun d hd=>⟨Nat.le_of_ble_eq_true rfl,fun t ht=>?_⟩⟩
    have wds:=dl.done hd (o:=.dK (ls.foldl (fun a x=>putK a x.2.1 x.2.2) []))
    have s7:=s5.trans s6
    have nd':¬ OW A os d:=(R.same s7).fresh hd
    have ldf:d≠lf:=fun z=>by rw [z,s6 _ _ (sC _ _ gf4)] at hd; cases hd
    have s8:=s7.trans (same_upd hd (.dK (ls.foldl (fun a x=>putK a x.2.1 x.2.2) [])))
    have s68:=s6.trans (same_upd hd (.dK (ls.foldl (fun a x=>putK a x.2.1 x.2.2) [])))
    have ed:=upd_same (H:=G') (a:=d) (o:=.dK (ls.foldl (fun a x=>putK a x.2.1 x.2.2) []))
    generalize upd G' d (.dK (ls.foldl (fun a x=>putK a x.2.1 x.2.2) []))=G4 at *
    have s9:=s68.trans (same_upd ht (.tup [.ref D,.ref C,.ref d]))
    have et:=upd_same (H:=G4) (a:=t) (o:=.tup [.ref D,.ref C,.ref d])
    have st4:=same_upd ht (.tup [.ref D,.ref C,.ref d])
    have ltf:t≠lf:=fun z=>by rw [z,s68 _ _ (sC _ _ gf4)] at ht; cases ht
    generalize upd G4 t (.tup [.ref D,.ref C,.ref d])=G5 at *
    have gf5:=s9 _ _ (sC _ _ gf4)
    refine ⟨lf,_,_,rfl,rfl,gf5,?_,?_⟩
    · rw [List.length_map,lts]
      exact Nat.lt_of_lt_of_le (by lia:i<4) (by decide)
    have kp:∀ x o,G5 x=some o→x≠lf→upd G5 lf (.lst (ts.map V.ref++[.ref t])) x=some o:=fun x o e n=>by rw [upd_ne n]; exact e
    have sf:∀ x o,H x=some o→G5 x=some o:=fun x o e=>st4 _ _ (s8 _ _ e)
    refine ⟨_,_,ts++[t],rfl,by rw [List.map_append]; exact upd_same,by rw [List.length_append,lts]; rfl,kp _ _ (s9 _ _ (sC _ _ (sG _ _ gr))) lrf,fun x o e=>kp _ _ (sf _ _ e) (ne_of_none e lsf),fun k hk=>?_⟩
    by_cases ck:k=i
    · subst ck
      refine ⟨t,bs,cs,by rw [List.getElem?_append_right (by lia),lts,Nat.sub_self]; rfl,⟨D,C,d,_,⟨⟨nD,lD⟩,⟨nC,lC⟩,⟨nd',ldf⟩⟩,kp _ _ et ltf,kp _ _ (s9 _ _ (sC _ _ eD)) lD,kp _ _ (s9 _ _ eC) lC,kp _ _ (st4 _ _ ed) ldf,fun b hb=>?_⟩,pb,pw,by rw [pb.length_eq]; exact R.few hi' hU,mc⟩
      obtain ⟨x,nx,q1,q2⟩:=wds b hb
      exact ⟨x,nx,q1,kp _ _ (st4 _ _ q2) nx.2⟩
    · obtain ⟨t',bs',cs',q1,q2,q3⟩:=old k (by lia)
      refine ⟨t',bs',cs',by rw [List.getElem?_append_left (by lia)]; exact q1,q2.frame fun x o e nx=>kp _ _ (s9 _ _ (sC _ _ (sG _ _ e))) (nx.elim (fun z=>z.2) fun z y=>?_),q3⟩
      rw [y,gf] at e
      cases e
      exact z trivial
  rintro σ G ⟨v5,v6,ts,rfl,gf,lts,gr,s3,all⟩
  rw [List.length_map,List.length_range] at lts all
  subst e1
  dsimp only
  have hso':=s3 _ _ hso
  refine ⟨_,rfl,_,rfl,Nat.zero_le _,fun C hC=>?_⟩
  have nC:¬ OW A os C:=(R.same s3).fresh hC
  have s5:=s3.trans (same_upd hC (.lst []))
  have eC:=upd_same (H:=G) (a:=C) (o:=.lst [])
  have sC:=same_upd hC (.lst [])
  generalize upd G C (.lst [])=G2 at *
  refine ⟨_,rfl,so,rfl,⟨_,SqL.of (sC _ _ hso')⟩,fun lm hlm=>?_⟩
  have nsm:¬ OW A os lm:=(R.same s5).fresh hlm
  refine comp_list (K:=K) (a:=so) (xs:=ns.map V.int) (l:=lm) (fun j ys σ G'=>∃ (v0:Option V) (ls:List (Addr×Key×V)),σ=[v0,some (.ref A.p),some (.ref lr)]∧ys=ls.map (fun x=>V.ref x.1)∧G' lm=some (.lst ys)∧Same G2 G'∧DLs (fun x=>¬ OW A os x) G' lm (ns.take j) (memW g.size st.mem) ls) ⟨none,[],rfl,rfl,upd_same,same_upd hlm _,rfl,fun x h=>(nomatch h)⟩ (fun j ys σ G' _ ⟨_,_,_,_,_,s,_⟩=>SqL.of (s _ _ (sC _ _ hso'))) ?_ ?_
  · rintro j x ys σ G' hj hxj hys ⟨v0,ls,rfl,rfl,gm,s6,dl⟩
    obtain ⟨b,eb,rfl⟩:=ints_at hxj
    obtain ⟨b0,b1⟩:=nsB b (List.mem_of_getElem? eb)
    have s7:=s5.trans s6
    refine ⟨_,rfl,_,rfl,A.p,dx,_,rfl,s7 _ _ h1,tf_no ..,_,rfl,lr,_,rfl,.inl (SqL.of (s6 _ _ (sC _ _ gr))),_,rfl,A,g,st,os,n,g.n,b,by rw [List.length_map,List.length_range]; rfl,R.same s7,Nat.le_refl _,(fun z=>absurd z (Nat.lt_irrefl _)),b0,b1,fun l G3 hl s8 el=>⟨Nat.le_of_ble_eq_true rfl,fun t ht=>?_⟩⟩
    rw [words_n] at el
    have nl:¬ OW A os l:=(R.same s7).fresh hl
    have llm:l≠lm:=fun z=>by rw [z,gm] at hl; cases hl
    refine CNx.of (Nat.le_of_lt (small1000 (by rw [List.length_map]; lia))) hj hys (same_upd ht _ _ _ (s8 _ _ gm)) ⟨_,ls++[(t,Sum.inl b,.ref l)],rfl,by rw [List.map_append]; rfl,upd_same,fun x o e=>?_,?_⟩
    · rw [upd_ne (ne_of_none e hlm)]
      exact same_upd ht _ _ _ (s8 _ _ (s6 _ _ e))
    · rw [List.take_succ,eb]
      exact dl.step s8 (s8 _ _ gm) el nl llm ht
  rintro ys σ G' _ ⟨v0,ls,rfl,rfl,gm,s6,dl⟩
  rw [List.length_map,List.take_length] at dl
  refine ⟨lm,ls,rfl,gm,fun x hx=>(dl.at_ x hx).2.1,fun d hd=>⟨Nat.le_of_ble_eq_true rfl,fun t ht=>⟨Nat.le_of_ble_eq_true rfl,fun l1 hl1=>?_⟩⟩⟩
  have wds:=dl.done hd (o:=.dK (ls.foldl (fun a x=>putK a x.2.1 x.2.2) []))
  have s7:=s5.trans s6
  have nd':¬ OW A os d:=(R.same s7).fresh hd
  have s8:=s7.trans (same_upd hd (.dK (ls.foldl (fun a x=>putK a x.2.1 x.2.2) [])))
  have s68:=s6.trans (same_upd hd (.dK (ls.foldl (fun a x=>putK a x.2.1 x.2.2) [])))
  have ed:=upd_same (H:=G') (a:=d) (o:=.dK (ls.foldl (fun a x=>putK a x.2.1 x.2.2) []))
  generalize upd G' d (.dK (ls.foldl (fun a x=>putK a x.2.1 x.2.2) []))=G4 at *
  have et:=upd_same (H:=G4) (a:=t) (o:=.tup [.ref so,.ref C,.ref d])
  have st4:=same_upd ht (.tup [.ref so,.ref C,.ref d])
  generalize upd G4 t (.tup [.ref so,.ref C,.ref d])=G5 at *
  have st5:=same_upd hl1 (.lst [.ref t])
  have e1:=upd_same (H:=G5) (a:=l1) (o:=.lst [.ref t])
  generalize upd G5 l1 (.lst [.ref t])=G6 at *
  have s46:Same G4 G6:=st4.trans st5
  have s26:Same G2 G6:=s68.trans s46
  have sG6:Same G G6:=sC.trans s26
  have sH:Same H G6:=s3.trans sG6
  refine ⟨lf,l1,_,_,rfl,rfl,sG6 _ _ gf,e1,?_,fun l hl=>?_⟩
  · rw [List.length_map,lts]
    exact Nat.le_trans (by lia:g.n+1≤5) (by decide)
  have nl:¬ OW A os l:=(R.same sH).fresh hl
  have k6:=same_upd hl (.lst (ts.map V.ref++[.ref t]))
  refine q l _ (sH.trans k6) ⟨ts++[t],nl,by rw [List.map_append]; exact upd_same,by rw [List.length_append,lts]; rfl,fun k hk=>?_,t,by rw [List.getElem?_append_right (by lia),lts,Nat.sub_self]; rfl,so,C,d,_,⟨nso,nC,nd'⟩,k6 _ _ (st5 _ _ et),k6 _ _ (sG6 _ _ hso'),k6 _ _ (s26 _ _ eC),k6 _ _ (s46 _ _ ed),fun b hb=>?_⟩
  · obtain ⟨t',bs',cs',q1,q2,q3⟩:=all k hk
    exact ⟨t',bs',cs',by rw [List.getElem?_append_left (by lia)]; exact q1,(q2.mono fun x z=>z.1).frame fun x o e _=>k6 _ _ (sG6 _ _ e),q3⟩
  · obtain ⟨x,nx,q1,q2⟩:=wds b hb
    exact ⟨x,nx,q1,k6 _ _ (s46 _ _ q2)⟩
end
structure StR (lt ap:Prop) (as_ ca:List Int) (wa:Int→List Int) (bs cb:List Int) (wb:Int→List Int) (I O Pu ow:List Int):Prop where
  srt:bs.Pairwise (·≤·)
  pm:(as_.filter (fun b=>decide (b∉O))++I).Perm bs
  ni:I.Nodup
  no:O.Nodup
  l64:bs.length<64
  la:as_.length<64
  c4:∀ b∈bs,b∈as_→b∉O→b∉Pu→b∉ow→wb b=wa b
  c5:∀ b∈bs,b∈cb→lt
  c6:∀ b∈bs,b∈as_→b∉O→(b∈cb↔b∈ca∨lt∧(b∈Pu∨b∈ow))
  c7:∀ b∈bs,¬ (b∈as_∧b∉O)→b∈cb→ap∨b∈Pu∨b∈ow
theorem G1.sr {lt:Bool} {ap:Prop} {own:Int→Prop} {a s:Rm} {I O Pu ow as_ ca bs cb:List Int} (h:G1 lt ap own a s I O Pu) (pa:as_.Perm a.seq) (na:a.seq.Nodup) (ma:∀ x,x∈ca↔a.fr x=true) (pb:bs.Perm s.seq) (mb:∀ x,x∈cb↔s.fr x=true) (sb:bs.Pairwise (·≤·)) (l1:bs.length<64) (l2:as_.length<64) (mo:∀ x,own x↔x∈ow):StR (lt=true) ap as_ ca a.wd bs cb s.wd I O Pu ow:=by
  refine ⟨sb,?_,h.ni,h.no,l1,l2,fun b _ h1 h2 h3 h4=>h.wd b (fun z=>h2 (h.io b z (pa.mem_iff.mp h1))) h3 fun z=>h4 ((mo b).mp z),fun b _ hb=>h.fl b ((mb b).mp hb),fun b _ h1 h2=>?_,fun b hb h1 h2=>?_⟩
  · refine (List.perm_ext_iff_of_nodup ?_ (pb.nodup_iff.mpr h.nd)).mpr fun x=>?_
    · rw [List.nodup_append]
      refine ⟨(pa.nodup_iff.mpr na).filter _,h.ni,fun x hx y hy e=>?_⟩
      subst e
      obtain ⟨h1,h2⟩:=List.mem_filter.mp hx
      exact of_decide_eq_true h2 (h.io x hy (pa.mem_iff.mp h1))
    · rw [pb.mem_iff,h.sq,List.mem_append,List.mem_filter,decide_eq_true_eq,pa.mem_iff]
  · rw [mb,ma,← mo,h.f1 b (pa.mem_iff.mp h1) (fun z=>h2 (h.io b z (pa.mem_iff.mp h1))) h2]
  · have q:=(h.sq b).mp (pb.mem_iff.mp hb)
    rw [← mo]
    refine h.f2 b (q.resolve_left fun z=>h1 ⟨pa.mem_iff.mpr z.1,z.2⟩) ((mb b).mp h2)
def ownL (g:Pln) (d:Dd) (k:Nat):List Int:=match d with
  | .rd _=>[]
  | .wt sp _=>if k=0 then [sp / g.size] else []
theorem own_mem {g:Pln} {d:Dd} {k:Nat} {x:Int}:ownD g d k x↔x∈ownL g d k:=by
  cases d with
  | rd sp=>exact ⟨fun h=>h.elim,fun h=>(nomatch h)⟩
  | wt sp v =>
    show (k=0∧x=sp / g.size)↔x∈(if k=0 then [sp / g.size] else [])
    by_cases c:k=0
    · rw [if_pos c,List.mem_singleton]; exact ⟨fun h=>h.2,fun h=>⟨c,h⟩⟩
    · rw [if_neg c]; exact ⟨fun h=>absurd h.1 c,fun h=>(nomatch h)⟩
structure EvN (H:Hp) (l:Addr) (es:List (List V)):Prop where
  nf:∀ e∈es,NoF e
  ln:es.length≤100
  at_:∃ ts:List Addr,H l=some (.lst (ts.map V.ref))∧ts.length=es.length∧∀ (i:Nat) (t:Addr) (e:List V),ts[i]?=some t→es[i]?=some e→H t=some (.tup e)
abbrev ER:=Addr×Str×Nat×Int
def erV (w:ER):List V:=[.str w.2.1,.int (w.2.2.1:Int),.int w.2.2.2]
theorem EvN.recs {H:Hp} {l:Addr} {es:List (List V)} (h:EvN H l es):∃ ws:List ER,H l=some (.lst (ws.map fun w=>V.ref w.1))∧es=ws.map erV∧ws.length≤100∧∀ w∈ws,H w.1=some (.tup (erV w)):=by
  obtain ⟨ts,h1,h2,h3⟩:=h.at_
  have gen:∀ (es:List (List V)) (ts:List Addr),(∀ e∈es,NoF e)→ts.length=es.length→(∀ (i:Nat) (t:Addr) (e:List V),ts[i]?=some t→es[i]?=some e→H t=some (.tup e))→∃ ws:List ER,ts.map V.ref=ws.map (fun w=>V.ref w.1)∧es=ws.map erV∧∀ w∈ws,H w.1=some (.tup (erV w)):=fun es=>by
    induction es with
    | nil=>intro ts _ l _; exact ⟨[],by rw [List.eq_nil_of_length_eq_zero l]; rfl,rfl,fun w z=>(nomatch z)⟩
    | cons e es ih =>
      intro ts n l a
      cases ts with
      | nil=>cases l
      | cons t ts =>
        obtain ⟨ws,w1,w2,w3⟩:=ih ts (fun x hx=>n x (List.mem_cons_of_mem _ hx)) (Nat.succ.inj l) fun i t e p q=>a (i+1) t e p q
        obtain ⟨s,j,b,rfl,_⟩:=n e List.mem_cons_self
        refine ⟨(t,s,j,b) :: ws,by rw [List.map_cons,List.map_cons,w1],by rw [List.map_cons,w2]; rfl,fun w hw=>?_⟩
        rcases List.mem_cons.mp hw with rfl | hw
        · exact a 0 t _ rfl rfl
        · exact w3 w hw
  obtain ⟨ws,w1,w2,w3⟩:=gen es ts h.nf h2 h3
  exact ⟨ws,by rw [h1,w1],w2,by have:=h.ln; rw [w2,List.length_map] at this; exact this,w3⟩
def selE (s:Str) (ws:List ER):List Int:=(ws.filter fun w=>decide (w.2.1=s)).map fun w=>w.2.2.2
theorem bE_rec {s:Str} {k:Nat}:∀ {ws:List ER},bE s k (ws.map erV)=selE s (ws.filter fun w=>decide (w.2.2.1=k))
  | []=>rfl
  | w :: ws=>by
    have e:bE s k ((w :: ws).map erV)=bE s k [erV w]++bE s k (ws.map erV):=by
      show bE s k (erV w :: ws.map erV)=_
      exact List.filterMap_append (l:=[erV w]) ..
    rw [e,bE_rec (ws:=ws)]
    unfold erV
    rw [bE_one]
    unfold selE
    by_cases c:w.2.2.1=k
    · rw [List.filter_cons,if_pos (decide_eq_true c)]
      by_cases d:w.2.1=s
      · rw [if_pos ⟨d,c⟩,List.filter_cons,if_pos (decide_eq_true d)]; rfl
      · rw [if_neg fun z=>d z.1,List.filter_cons,if_neg (by simpa using d)]; rfl
    · rw [if_neg fun z=>c z.2,List.filter_cons,if_neg (by simpa using c)]; rfl
theorem comp_ev {K:PySem.W.Frag} {tl:TE} {s:Str} {lm:Addr} {vs:List ER} {σ:St} {H:Hp} {gg:TG} {u:TS} {D:Ends} (hw:∀ R:VK,R (.ref lm) H→tl σ H R) (e:H lm=some (.lst (vs.map fun w=>V.ref w.1))) (ln:vs.length≤100) (at_:∀ w∈vs,H w.1=some (.tup (erV w)))
    (q:∀ p G,Same H G→G p=some (.lst ((selE s vs).map V.int))→gg (.ref p) σ G (u D)):tSeq (tAsg (tComp 1 [] (iList K tl) (gName 0) (tTest (tOp rEq (tOp (rIxT K) (tVar 0) (tC (V.int 0))) (tC (V.str s)))) (tOp (rIxT K) (tVar 0) (tC (V.int 2)))) gg) u D σ H:=by
  refine hw _ ⟨lm,rfl,⟨_,SqL.of e⟩,fun l hl=>?_⟩
  refine comp_list (K:=K) (a:=lm) (xs:=vs.map fun w=>V.ref w.1) (l:=l) (fun j ys σ G=>∃ v0:Option V,σ=[v0]∧ys=(selE s (vs.take j)).map V.int∧G=upd H l (.lst ys)) ⟨none,rfl,rfl,rfl⟩ (fun j ys σ G _ ⟨_,_,_,z⟩=>SqL.of (by rw [z,upd_ne (ne_of_none e hl)]; exact e)) ?_ ?_
  · rintro j x ys σ G hj hxj hys ⟨v0,rfl,rfl,rfl⟩
    rw [List.getElem?_map] at hxj
    cases ew:vs[j]? with
    | none=>rw [ew] at hxj; cases hxj
    | some w =>
      rw [ew] at hxj
      cases hxj
      have et:=same_upd hl (.lst ((selE s (vs.take j)).map V.int)) _ _ (at_ w (List.mem_of_getElem? ew))
      have sn:selE s (vs.take (j+1))=selE s (vs.take j)++if w.2.1=s then [w.2.2.2] else []:=by
        rw [List.take_succ,ew]
        unfold selE
        show (List.filter _ (_++[w])).map _=_
        rw [List.filter_append,List.map_append,List.filter_cons]
        by_cases c:w.2.1=s
        · rw [if_pos c,if_pos (decide_eq_true c)]; rfl
        · rw [if_neg c,if_neg (by simpa using c)]; rfl
      have h1000:(vs.map fun w=>V.ref w.1).length≤sizeLine:=Nat.le_of_lt (small1000 (by rw [List.length_map]; lia))
      refine ⟨_,rfl,w.1,_,_,_,rfl,rfl,SqT.of et,atI0,rfl,_,rfl,?_⟩
      rw [dec_str]
      by_cases c:w.2.1=s
      · have cb:(w.2.1 == s)=true:=by rw [c]; exact beq_self_eq_true s
        rw [cb]
        refine ⟨_,rfl,w.1,_,_,_,rfl,rfl,SqT.of et,atI2,CNx.of h1000 hj hys upd_same ⟨_,rfl,?_,upd_upd⟩⟩
        rw [sn,if_pos c,List.map_append]; rfl
      · have cb:(w.2.1 == s)=false:=beq_eq_false_iff_ne.mpr c
        rw [cb]
        refine ifF rfl (CNo.of hj hys ⟨_,rfl,?_,rfl⟩)
        rw [sn,if_neg c,List.append_nil]
  rintro ys σ G _ ⟨v0,rfl,rfl,rfl⟩
  rw [List.length_map,List.take_length]
  exact q l _ (same_upd hl _) upd_same
theorem met_len {ns:List Int} (h:ns.Nodup):(met ns).length=ns.length:=((List.perm_ext_iff_of_nodup (nd_met ns) h).mpr fun x=>mem_met ns x).length_eq
section
def spStairR (K:PySem.W.Frag):Sp:=fun vs H Q _=>∃ (g:Pln) (k:Nat) (pp tp ta tb le td:Addr) (tss:List Addr) (as_ ca bs cb:List Int) (wa wb:Int→List Int) (N M:Addr→Prop) (es:List (List V)) (d:Dd),vs=[.ref pp,.int (k:Int),.ref ta,.ref tb,.ref le,.ref td]∧k<g.n∧g.n≤4∧0<g.size∧g.size≤1000∧H pp=some (.tup [.int g.size,.str g.kind,.ref tp])∧PlanAt K H tp tss g.cfs∧VR N H ta as_ ca wa∧VR M H tb bs cb wb∧EvN H le es∧H td=some (.tup d.vs)∧d.sp / g.size∈g.U∧StR ((g.cf k).late=true) (g.kind = "apart") as_ ca wa bs cb wb (bE "in" k es) (bE "out" k es) (bE "words" k es) (ownL g d k)∧∀ H',Same H H'→Q (.bl true) H'
theorem ok_stair_right {f:Addr} {fd:FuncData} (F:Fun K "_law_stair_right" "_law_stair_right" s_stair_right f fd) (T:Txt K mg):FnOk P w K mg base CX0 1 f fd P_stair_right (spStairR K):=by
  refine F.ok sc_stair_right (fun vs H Q E h=>?_) (fun cdv A outer s0 H vs Q E hr h=>?_)
  · obtain ⟨g,k,pp,tp,ta,tb,le,td,tss,as_,ca,bs,cb,wa,wb,N,M,es,d,rfl,_⟩:=h
    rfl
  obtain ⟨g,k,pp,tp,ta,tb,le,td,tss,as_,ca,bs,cb,wa,wb,N,M,es,d,rfl,hk,l4,z0,z1,hpp,pa,ha,hb,ev,htd,hsp,sr,q⟩:=h
  have nd:=sc_stair_right.nd
  have hu:=hu_of hr
  refine ⟨_,(pss_cons (ps_comp1 6 (compOk_of (osc:=(defScope s_stair_right)) (oN:=N_stair_right) (N:=["_law_event", "_law_k"]) (own:=1) (js:=[1]) (by decide +kernel) rfl rfl) rfl nd rfl rfl (pi_listK (K:=K) rfl (pv 4)) (fun _ _ _ _ _ _=>(pgn 0 (show List.Nodup (["_law_event", "_law_k"]:List Str) by decide +kernel))) (fun _ _ _ _ _ _=>(pt_cmpR op_eq (pe_ix (ix_tupK (K:=K) rfl) (pv 0) pe_int (fun _ _=>rfl)) (pv 1) (nomark _))) (fun _ _ _ _ _ _=>(pv 0)))
      (pss_cons (ps_comp1 7 (compOk_of (osc:=(defScope s_stair_right)) (oN:=N_stair_right) (N:=["_law_event"]) (own:=1) (js:=[]) (by decide +kernel) rfl rfl) rfl nd rfl rfl (pi_listK (K:=K) rfl (pv 6)) (fun _ _ _ _ _ _=>(pgn 0 (show List.Nodup (["_law_event"]:List Str) by decide +kernel))) (fun _ _ _ _ _ _=>(pt_cmpR op_eq (pe_ix (ix_tupK (K:=K) rfl) (pv 0) pe_int (fun _ _=>rfl)) pe_str (nomark _))) (fun _ _ _ _ _ _=>(pe_ix (ix_tupK (K:=K) rfl) (pv 0) pe_int (fun _ _=>rfl))))
      (pss_cons (pst 8 nd (pe_comp1 (compOk_of (osc:=(defScope s_stair_right)) (oN:=N_stair_right) (N:=["_law_event"]) (own:=1) (js:=[]) (by decide +kernel) rfl rfl) rfl (pi_listK (K:=K) rfl (pv 6)) (fun _ _ _ _ _ _=>(pgn 0 (show List.Nodup (["_law_event"]:List Str) by decide +kernel))) (fun _ _ _ _ _ _=>(pt_cmpR op_eq (pe_ix (ix_tupK (K:=K) rfl) (pv 0) pe_int (fun _ _=>rfl)) pe_str (nomark _))) (fun _ _ _ _ _ _=>(pe_ix (ix_tupK (K:=K) rfl) (pv 0) pe_int (fun _ _=>rfl)))))
      (pss_cons (ps_comp1 9 (compOk_of (osc:=(defScope s_stair_right)) (oN:=N_stair_right) (N:=["_law_event"]) (own:=1) (js:=[]) (by decide +kernel) rfl rfl) rfl nd rfl rfl (pi_listK (K:=K) rfl (pv 6)) (fun _ _ _ _ _ _=>(pgn 0 (show List.Nodup (["_law_event"]:List Str) by decide +kernel))) (fun _ _ _ _ _ _=>(pt_cmpR op_eq (pe_ix (ix_tupK (K:=K) rfl) (pv 0) pe_int (fun _ _=>rfl)) pe_str (nomark _))) (fun _ _ _ _ _ _=>(pe_ix (ix_tupK (K:=K) rfl) (pv 0) pe_int (fun _ _=>rfl))))
      (pss_cons (pst 10 nd (pe_op op_rep (pe_lst (pc (pe_op op_fdiv (pe_ix (ix_tupK (K:=K) rfl) (pv 5) pe_int (fun _ _=>rfl)) (pe_ix (ix_tupK (K:=K) rfl) (pv 0) pe_int (fun _ _=>rfl))) pa_nil)) (pe_callTyN call_int1 rfl T.z_int boot_intT (pc (pe_and (pe_cmpR op_eq (pe_ix (ix_tupK (K:=K) rfl) (pv 5) pe_int (fun _ _=>rfl)) pe_str (nomark _)) (pe_one (pe_cmpR op_eq (pv 1) pe_int (nomark _)))) pa_nil))))
      (pss_cons (pst 11 nd (pe_op op_cat (pe_comp1 (compOk_of (osc:=(defScope s_stair_right)) (oN:=N_stair_right) (N:=["_law_board", "_law_outs"]) (own:=1) (js:=[8]) (by decide +kernel) rfl rfl) rfl (pi_listK (K:=K) rfl (pe_ix (ix_tupK (K:=K) rfl) (pv 2) pe_int (fun _ _=>rfl))) (fun _ _ _ _ _ _=>(pgn 0 (show List.Nodup (["_law_board", "_law_outs"]:List Str) by decide +kernel))) (fun _ _ _ _ _ _=>(pt_cmpR (op_notIn_seqK (K:=K) rfl) (pv 0) (pv 1) rfl)) (fun _ _ _ _ _ _=>(pv 0))) (pv 7)))
      (pss_cons (ps_if (PW.pt (pw_or (pt_cmpR (op_neL (K:=K) (Nat.lt_of_succ_lt hu) rfl) (pe_callBN (call_sorted (K:=K) rfl) rfl T.z_sorted PyProof.Rows.boot_sorted (pc (pv 11) pa_nil)) (pe_ix (ix_tupK (K:=K) rfl) (pv 3) pe_int (fun _ _=>rfl)) (nomark _)) (pw_or (pt_cmpR op_ne (pe_callBN call_lenS rfl T.z_len PySem.boot_len (pc (pe_callTyN (call_setL rfl) rfl T.z_set boot_setT (pc (pv 7) pa_nil)) pa_nil)) (pe_callBN (call_len_seqK (K:=K) rfl) rfl T.z_len PySem.boot_len (pc (pv 7) pa_nil)) (nomark _)) (pw_or1 (pt_cmpR op_ne (pe_callBN call_lenS rfl T.z_len PySem.boot_len (pc (pe_callTyN (call_setL rfl) rfl T.z_set boot_setT (pc (pv 8) pa_nil)) pa_nil)) (pe_callBN (call_len_seqK (K:=K) rfl) rfl T.z_len PySem.boot_len (pc (pv 8) pa_nil)) (nomark _)))))) (pss_one (ps_ret pe_bl)) pss_nil)
      (pss_cons (ps_for PassesOwn.never rfl (pi_listK (K:=K) rfl (pe_ix (ix_tupK (K:=K) rfl) (pv 3) pe_int (fun _ _=>rfl))) (pgn 12 nd) (pss_cons (pst 13 nd (pe_and (pe_cmpR (op_in_seqK (K:=K) rfl) (pv 12) (pe_ix (ix_tupK (K:=K) rfl) (pv 2) pe_int (fun _ _=>rfl)) rfl) (pe_one (pe_cmpR (op_notIn_seqK (K:=K) rfl) (pv 12) (pv 8) rfl))))
      (pss_cons (ps_if (PW.pt (pw_and (pt_val (pv 13)) (pw_and (pt_cmpR (op_notIn_seqK (K:=K) rfl) (pv 12) (pe_op op_cat (pv 9) (pv 10)) rfl) (pw_and1 (pt_cmpR (op_neL (K:=K) (Nat.lt_of_succ_lt hu) rfl) (pe_dget hu (pe_ix (ix_tupK (K:=K) rfl) (pv 3) pe_int (fun _ _=>rfl)) (pv 12) (fun _ _=>rfl)) (pe_dget hu (pe_ix (ix_tupK (K:=K) rfl) (pv 2) pe_int (fun _ _=>rfl)) (pv 12) (fun _ _=>rfl)) (nomark _)))))) (pss_one (ps_ret pe_bl)) pss_nil)
      (pss_cons (pst 14 nd (pe_and (pe_cmpR op_lt (pv 1) (pe_callBN (call_len_seqK (K:=K) rfl) rfl T.z_len PySem.boot_len (pc (pe_ix (ix_tupK (K:=K) rfl) (pv 0) pe_int (fun _ _=>rfl)) pa_nil)) (nomark _)) (pe_one (pe_cmpR op_eq (pe_ix (ix_tupK (K:=K) rfl) (pe_ix (ix_tupK (K:=K) rfl) (pe_ix (ix_tupK (K:=K) rfl) (pv 0) pe_int (fun _ _=>rfl)) (pv 1) (fun _ _=>rfl)) pe_int (fun _ _=>rfl)) pe_str (nomark _)))))
      (pss_cons (ps_if (PW.pt (pw_and (pt_cmpR (op_in_seqK (K:=K) rfl) (pv 12) (pe_ix (ix_tupK (K:=K) rfl) (pv 3) pe_int (fun _ _=>rfl)) rfl) (pw_and1 (pt_not (pt_val (pv 14)))))) (pss_one (ps_ret pe_bl)) pss_nil)
      (pss_cons (pst 15 nd (pe_or (pe_cmpR (op_in_seqK (K:=K) rfl) (pv 12) (pe_ix (ix_tupK (K:=K) rfl) (pv 2) pe_int (fun _ _=>rfl)) rfl) (pe_one (pe_and (pv 14) (pe_one (pe_cmpR (op_in_seqK (K:=K) rfl) (pv 12) (pe_op op_cat (pv 9) (pv 10)) rfl))))))
      (pss_cons (ps_if (PW.pt (pw_and (pt_val (pv 13)) (pw_and1 (pt_cmpR op_ne (pe_cmpR (op_in_seqK (K:=K) rfl) (pv 12) (pe_ix (ix_tupK (K:=K) rfl) (pv 3) pe_int (fun _ _=>rfl)) rfl) (pv 15) (nomark _))))) (pss_one (ps_ret pe_bl)) pss_nil)
      (pss_one (ps_if (PW.pt (pw_and (pt_not (pt_val (pv 13))) (pw_and (pt_cmpR (op_in_seqK (K:=K) rfl) (pv 12) (pe_ix (ix_tupK (K:=K) rfl) (pv 3) pe_int (fun _ _=>rfl)) rfl) (pw_and (pt_cmpR op_ne (pe_ix (ix_tupK (K:=K) rfl) (pv 0) pe_int (fun _ _=>rfl)) pe_str (nomark _)) (pw_and1 (pt_cmpR (op_notIn_seqK (K:=K) rfl) (pv 12) (pe_op op_cat (pv 9) (pv 10)) rfl)))))) (pss_one (ps_ret pe_bl)) pss_nil)))))))))
      (pss_one (ps_ret pe_bl)))))))))),?_⟩
  obtain ⟨ws,he,rfl,hln,hat⟩:=ev.recs
  rw [bE_rec,bE_rec,bE_rec] at sr
  refine cpA (fun v G=>∃ lm,v=.ref lm∧G lm=some (.lst ((ws.filter fun w=>decide (w.2.2.1=k)).map fun w=>V.ref w.1))∧Same H G) (fun Q' k'=>?_) ?_
  · refine ⟨_,rfl,le,rfl,⟨_,SqL.of he⟩,fun l hl=>?_⟩
    refine comp_list (K:=K) (a:=le) (xs:=ws.map fun w=>V.ref w.1) (l:=l) (fun j ys σ G=>∃ v0:Option V,σ=[v0,some (.int (k:Int))]∧ys=(((ws.take j).filter fun w=>decide (w.2.2.1=k)).map fun w=>V.ref w.1)∧G=upd H l (.lst ys)) ⟨none,rfl,rfl,rfl⟩ (fun j ys σ G _ ⟨_,_,_,z⟩=>SqL.of (by rw [z,upd_ne (ne_of_none he hl)]; exact he)) ?_ ?_
    · rintro j x ys σ G hj hxj hys ⟨v0,rfl,rfl,rfl⟩
      rw [List.getElem?_map] at hxj
      cases ew:ws[j]? with
      | none=>rw [ew] at hxj; cases hxj
      | some w =>
        rw [ew] at hxj
        cases hxj
        have et:=same_upd hl (.lst (((ws.take j).filter fun w=>decide (w.2.2.1=k)).map fun w=>V.ref w.1)) _ _ (hat w (List.mem_of_getElem? ew))
        refine ⟨_,rfl,w.1,_,_,_,rfl,rfl,SqT.of et,atI1,_,rfl,rfl,_,rfl,?_⟩
        rw [dec_int]
        by_cases c:w.2.2.1=k
        · have cb:((w.2.2.1:Int) == (k:Int))=true:=by rw [c]; exact beq_self_eq_true _
          rw [cb]
          refine ⟨_,rfl,CNx.of (Nat.le_of_lt (small1000 (by rw [List.length_map]; lia))) hj hys upd_same ⟨_,rfl,?_,upd_upd⟩⟩
          rw [List.take_succ,ew]
          show _=(List.filter _ (_++[w])).map _
          rw [List.filter_append,List.map_append,List.filter_cons,if_pos (decide_eq_true c)]; rfl
        · have cb:((w.2.2.1:Int) == (k:Int))=false:=beq_eq_false_iff_ne.mpr fun z=>c (by lia)
          rw [cb]
          refine ifF rfl (CNo.of hj hys ⟨_,rfl,?_,rfl⟩)
          rw [List.take_succ,ew]
          show _=(List.filter _ (_++[w])).map _
          rw [List.filter_append,List.map_append,List.filter_cons,if_neg (by simpa using c)]; simp
    · rintro ys σ G _ ⟨v0,rfl,rfl,rfl⟩
      rw [List.length_map,List.take_length]
      exact k' _ _ ⟨l,rfl,upd_same,same_upd hl _⟩
  rintro _ H1 ⟨lm,rfl,em,s1⟩
  have lvs:(ws.filter fun w=>decide (w.2.2.1=k)).length≤100:=Nat.le_trans (List.length_filter_le _ _) hln
  have avs:∀ w∈ws.filter fun w=>decide (w.2.2.1=k),H1 w.1=some (.tup (erV w)):=fun w hw=>s1 _ _ (hat w (List.mem_filter.mp hw).1)
  generalize (ws.filter fun w=>decide (w.2.2.1=k))=vs at *
  refine gN ?_
  try dsimp only
  refine hide fun u1 e1=>comp_ev (s := "in") (fun R r=>⟨_,rfl,r⟩) em lvs avs fun li H2 s2 ei=>gN ?_
  subst e1
  try dsimp only
  refine hide fun u1 e1=>comp_ev (s := "out") (fun R r=>⟨_,rfl,r⟩) (s2 _ _ em) lvs (fun w hw=>s2 _ _ (avs w hw)) fun lo H3 s3 eo=>gN ?_
  subst e1
  try dsimp only
  have s13:=s2.trans s3
  refine hide fun u1 e1=>comp_ev (s := "words") (fun R r=>⟨_,rfl,r⟩) (s13 _ _ em) lvs (fun w hw=>s13 _ _ (avs w hw)) fun lp H4 s4 ep=>gN ?_
  subst e1
  try dsimp only
  have s14:=s1.trans (s13.trans s4)
  have ei4:=s4 _ _ (s3 _ _ ei)
  have eo4:=s4 _ _ eo
  refine hide fun u1 e1=>?_
  refine cpA (fun v G=>∃ lw,v=.ref lw∧G lw=some (.lst ((ownL g d k).map V.int))∧Same H4 G) (fun Q' k'=>?_) ?_
  · have hd4:=s14 _ _ htd
    have hp4:=s14 _ _ hpp
    have a1:atI d.vs 1=some (.int d.sp):=by cases d <;> exact atI1
    refine ⟨_,rfl,td,_,_,_,rfl,rfl,SqT.of hd4,a1,_,rfl,pp,_,_,_,rfl,rfl,SqT.of hp4,atI0,_,_,rfl,rfl,⟨z0,by lia⟩,Nat.le_of_ble_eq_true rfl,fun l1 hl1=>?_⟩
    dsimp only
    have hd5:=same_upd hl1 (.lst [V.int (d.sp / g.size)]) _ _ hd4
    have fin:∀ c:Bool,ownL g d k=(if c=true then [d.sp / g.size] else [])→rRep (.ref l1) (.int (if c=true then 1 else 0)) (upd H4 l1 (.lst [.int (d.sp / g.size)])) Q':=fun c e=>by
      refine ⟨l1,_,_,rfl,rfl,upd_same,?_,?_,?_,fun p hp=>k' _ _ ⟨p,rfl,?_,(same_upd hl1 _).trans (same_upd hp _)⟩⟩
      · cases c <;> decide
      · cases c <;> decide
      · show 1 * _≤sizeLine
        cases c <;> decide
      · rw [e]
        cases c <;> exact upd_same
    cases d with
    | rd sp=>exact ⟨_,rfl,td,_,_,_,rfl,rfl,SqT.of hd5,atI0,rfl,_,rfl,ifF (by rw [dec_str]; decide +kernel) (.inr ⟨false,rfl,fin false rfl⟩)⟩
    | wt sp v =>
      refine ⟨_,rfl,td,_,_,_,rfl,rfl,SqT.of hd5,atI0,rfl,_,rfl,ifT (by rw [dec_str]; decide +kernel) ⟨_,rfl,rfl,.inr ⟨_,rfl,fin _ ?_⟩⟩⟩
      show (if k=0 then _ else _)=_
      by_cases c:k=0
      · rw [if_pos c,if_pos (decide_eq_true (by rw [c]; rfl))]; rfl
      · rw [if_neg c,if_neg fun z=>c (by have:=of_decide_eq_true z; injection this with y; lia)]
  rintro _ H5 ⟨lw,rfl,ew,s5⟩
  refine gN ?_
  subst e1
  try dsimp only
  have ei5:=s5 _ _ ei4
  have eo5:=s5 _ _ eo4
  have ep5:=s5 _ _ ep
  have s15:=s14.trans s5
  obtain ⟨Da,Ca,da,ka,_,a1,a2,a3,a4,a5⟩:=ha
  obtain ⟨Db,Cb,db,kb,_,b1,b2,b3,b4,b5⟩:=hb
  refine hide fun u1 e1=>?_
  refine cpA (fun v G=>∃ lr,v=.ref lr∧G lr=some (.lst ((as_.filter (fun b=>decide (b∉selE "out" vs))++selE "in" vs).map V.int))∧Same H5 G) (fun Q' k'=>?_) ?_
  · refine ⟨_,rfl,ta,_,_,_,rfl,rfl,SqT.of (s15 _ _ a1),atI0,Da,rfl,⟨_,SqL.of (s15 _ _ a2)⟩,fun l hl=>?_⟩
    have la:=sr.la
    refine comp_list (K:=K) (a:=Da) (xs:=as_.map V.int) (l:=l) (fun j ys σ G=>∃ v0:Option V,σ=[v0,some (.ref lo)]∧ys=((as_.take j).filter fun b=>decide (b∉selE "out" vs)).map V.int∧G=upd H5 l (.lst ys)) ⟨none,rfl,rfl,rfl⟩ (fun j ys σ G _ ⟨_,_,_,z⟩=>SqL.of (by rw [z]; exact same_upd hl _ _ _ (s15 _ _ a2))) ?_ ?_
    · rintro j x ys σ G hj hxj hys ⟨v0,rfl,rfl,rfl⟩
      obtain ⟨b,eb,rfl⟩:=ints_at hxj
      refine ⟨_,rfl,_,rfl,lo,_,rfl,.inl (SqL.of (same_upd hl _ _ _ eo5)),rfl,flat_ints,_,rfl,?_⟩
      show if (!inV (V.int b) ((selE "out" vs).map V.int))=true then _ else _
      rw [inV_int]
      by_cases c:b∈selE "out" vs
      · refine ifF (by rw [decide_eq_true c]; rfl) (CNo.of hj hys ⟨_,rfl,?_,rfl⟩)
        rw [List.take_succ,eb]
        show _=(List.filter _ (_++[b])).map _
        rw [List.filter_append,List.filter_cons,if_neg (by simpa using c)]; simp
      · refine ifT (by rw [decide_eq_false c]; rfl) ⟨_,rfl,CNx.of (Nat.le_of_lt (small1000 (by rw [List.length_map]; lia))) hj hys upd_same ⟨_,rfl,?_,upd_upd⟩⟩
        rw [List.take_succ,eb]
        show _=(List.filter _ (_++[b])).map _
        rw [List.filter_append,List.map_append,List.filter_cons,if_pos (by simpa using c)]; rfl
    rintro ys σ G _ ⟨v0,rfl,rfl,rfl⟩
    rw [List.length_map,List.take_length]
    refine ⟨_,rfl,l,li,_,_,rfl,rfl,upd_same,same_upd hl _ _ _ ei5,?_,fun p hp=>k' _ _ ⟨p,rfl,by rw [List.map_append]; exact upd_same,(same_upd hl _).trans (same_upd hp _)⟩⟩
    have q1:=List.length_filter_le (fun b=>decide (b∉selE "out" vs)) as_
    have q2:(selE "in" vs).length≤vs.length:=by unfold selE; rw [List.length_map]; exact List.length_filter_le _ _
    rw [List.length_map,List.length_map]
    exact Nat.le_of_lt (small1000 (by lia))
  rintro _ H6 ⟨lr,rfl,er,s6⟩
  refine gN ?_
  subst e1
  try dsimp only
  have s16:=s15.trans s6
  have e1b:=s16 _ _ b1
  have e2b:=s16 _ _ b2
  refine hide fun u1 e1=>?_
  refine cpIfS (fun c G=>c=false∧Same H6 G) (fun Q' k'=>?_) ?_
  · refine cpOr (fun c G=>c=false∧Same H6 G) (fun Q'' k''=>?_) ?_
    · refine ⟨_,rfl,lr,_,rfl,SqL.of er,?_,fun D os hD po pw=>?_⟩
      · rw [sr.pm.length_eq]; exact sr.l64
      have s7:=same_upd hD (.lst (os.map V.int))
      refine ⟨_,rfl,tb,_,_,_,rfl,rfl,SqT.of (s7 _ _ e1b),atI0,D,Db,os,bs,rfl,rfl,SqL.of upd_same,SqL.of (s7 _ _ e2b),_,rfl,k'' _ _ ⟨?_,s7⟩⟩
      rw [decide_eq_true (List.Perm.eq_of_pairwise (fun a b _ _ h1 h2=>Int.le_antisymm h1 h2) pw sr.srt (po.trans sr.pm))]; rfl
    rintro _ H7 ⟨rfl,s7⟩
    refine ifF rfl ?_
    have lsel:∀ s,(selE s vs).length≤100:=fun s=>by unfold selE; rw [List.length_map]; exact Nat.le_trans (List.length_filter_le _ _) lvs
    refine cpOr (fun c G=>c=false∧Same H6 G) (fun Q'' k''=>?_) ?_
    · have e:=s7 _ _ (s6 _ _ ei5)
      refine ⟨_,rfl,li,selE "in" vs,rfl,SqL.of e,Nat.le_trans (lsel _) (by decide),fun p hp=>⟨p,_,_,rfl,upd_same,_,rfl,li,_,rfl,.inl (SqL.of (same_upd hp _ _ _ e)),rfl,_,rfl,k'' _ _ ⟨?_,s7.trans (same_upd hp _)⟩⟩⟩
      rw [met_len sr.ni,List.length_map,decide_eq_true rfl]; rfl
    rintro _ H8 ⟨rfl,s8⟩
    refine ifF rfl ?_
    have e:=s8 _ _ (s6 _ _ eo5)
    refine ⟨_,rfl,lo,selE "out" vs,rfl,SqL.of e,Nat.le_trans (lsel _) (by decide),fun p hp=>⟨p,_,_,rfl,upd_same,_,rfl,lo,_,rfl,.inl (SqL.of (same_upd hp _ _ _ e)),rfl,_,rfl,k' _ _ ⟨?_,s8.trans (same_upd hp _)⟩⟩⟩
    rw [met_len sr.no,List.length_map,decide_eq_true rfl]; rfl
  rintro _ H7 ⟨rfl,s7⟩
  refine ifF rfl ?_
  dsimp only [tNext]
  subst e1
  try dsimp only
  have s17:=s16.trans s7
  have ep7:=s7 _ _ (s6 _ _ ep5)
  have eo7:=s7 _ _ (s6 _ _ eo5)
  have ew7:=s7 _ _ (s6 _ _ ew)
  have lP:(selE "words" vs).length≤100:=by unfold selE; rw [List.length_map]; exact Nat.le_trans (List.length_filter_le _ _) lvs
  have lO:(ownL g d k).length≤1:=by
    cases d with
    | rd sp=>exact Nat.zero_le _
    | wt sp v=>show (if k=0 then _ else _:List Int).length≤1; split <;> simp
  generalize selE "out" vs=O at *
  generalize selE "words" vs=Pu at *
  generalize ownL g d k=ow at *
  refine hide fun u1 e1=>?_
  refine ⟨_,rfl,tb,_,_,_,rfl,rfl,SqT.of (s17 _ _ b1),atI0,Db,rfl,⟨_,SqL.of (s17 _ _ b2)⟩,for_list (K:=K) (a:=Db) (xs:=bs.map V.int) (fun i σ G=>∃ v12 v13 v14 v15:Option V,σ=[some (.ref pp),some (.int (k:Int)),some (.ref ta),some (.ref tb),some (.ref le),some (.ref td),some (.ref lm),some (.ref li),some (.ref lo),some (.ref lp),some (.ref lw),some (.ref lr),v12,v13,v14,v15]∧Same H7 G) ⟨_,_,_,_,rfl,Same.refl _⟩ (fun i σ G _ ⟨_,_,_,_,_,s⟩=>SqL.of (s _ _ (s17 _ _ b2))) ?_ ?_⟩
  · rintro i x σ G hi ⟨v12,v13,v14,v15,rfl,t1⟩
    obtain ⟨b,eb,rfl⟩:=ints_at hi
    have hb:=List.mem_of_getElem? eb
    have t2:=s17.trans t1
    have inC:∀ {G':Hp},Same G G'→∀ {σ:St} {Q':VK},σ[12]?=some (some (V.int b))→σ[3]?=some (some (V.ref tb))→Q' (.bl (decide (b∈cb))) G'→tOp (rIn K false) (tVar 12) (tOp (rIxT K) (tVar 3) (tC (V.int 1))) σ G' Q':=fun {G'} s {σ Q'} h1 h2 h3=>by
      refine ⟨_,h1,_,h2,tb,_,_,_,rfl,rfl,SqT.of (s _ _ (t2 _ _ b1)),atI1,Cb,_,rfl,.inl (SqL.of (s _ _ (t2 _ _ b3))),rfl,flat_ints,?_⟩
      show Q' (.bl (inV (V.int b) (cb.map V.int))) G'
      rw [inV_int]
      exact h3
    have inPO:∀ {neg:Bool} {G':Hp},Same G G'→∀ {σ:St} {Q':VK},σ[12]?=some (some (V.int b))→σ[9]?=some (some (V.ref lp))→σ[10]?=some (some (V.ref lw))→(∀ G2,Same G' G2→Q' (.bl (if neg=true then !decide (b∈Pu∨b∈ow) else decide (b∈Pu∨b∈ow))) G2)→tOp (rIn K neg) (tVar 12) (tOp rCat (tVar 9) (tVar 10)) σ G' Q':=fun {neg G'} s {σ Q'} h1 h2 h3 h4=>by
      refine ⟨_,h1,_,h2,_,h3,lp,lw,_,_,rfl,rfl,s _ _ (t1 _ _ ep7),s _ _ (t1 _ _ ew7),?_,fun p hp=>⟨p,(Pu++ow).map V.int,rfl,.inl (SqL.of (by rw [List.map_append]; exact upd_same)),rfl,flat_ints,?_⟩⟩
      · rw [List.length_map,List.length_map]
        exact Nat.le_of_lt (small1000 (by lia))
      have q:=h4 _ (same_upd hp (.lst (Pu.map V.int++ow.map V.int)))
      rw [inV_int]
      simp only [List.mem_append]
      exact q
    refine gN ?_
    try dsimp only
    refine hide fun u2 e2=>?_
    refine cpA (fun v G'=>v=.bl (decide (b∈as_∧b∉O))∧G=G') (fun Q' k'=>?_) ?_
    · refine ⟨_,rfl,_,rfl,ta,_,_,_,rfl,rfl,SqT.of (t2 _ _ a1),atI0,Da,_,rfl,.inl (SqL.of (t2 _ _ a2)),rfl,flat_ints,_,rfl,?_⟩
      show if inV (V.int b) (as_.map V.int)=true then _ else _
      rw [inV_int]
      refine ite_dec (fun c=>?_) (fun c=>?_)
      · refine ⟨_,rfl,_,rfl,lo,_,rfl,.inl (SqL.of (t1 _ _ eo7)),rfl,flat_ints,?_⟩
        show Q' (.bl (!inV (V.int b) (O.map V.int))) G
        rw [inV_int]
        exact k' _ _ ⟨by simp [c],rfl⟩
      · exact k' _ _ ⟨by simp [c],rfl⟩
    rintro _ G' ⟨rfl,rfl⟩
    refine gN ?_
    subst e2
    try dsimp only
    refine hide fun u2 e2=>?_
    refine cpIfS (fun c G2=>c=false∧Same G G2) (fun Q' k'=>?_) ?_
    · refine ⟨_,rfl,_,rfl,ite_dec (fun ck=>?_) (fun ck=>k' _ _ ⟨rfl,Same.refl _⟩)⟩
      refine inPO (Same.refl _) rfl rfl rfl fun G2 s2'=>⟨_,rfl,?_⟩
      dsimp only
      rw [if_pos rfl]
      by_cases c:b∈Pu∨b∈ow
      · refine ifF (by rw [decide_eq_true c]; rfl) (k' _ _ ⟨rfl,s2'⟩)
      · refine ifT (by rw [decide_eq_false c]; rfl) ?_
        obtain ⟨xb,_,v1,v2⟩:=b5 b hb
        obtain ⟨xa,_,v3,v4⟩:=a5 b ck.1
        have t3:=t2.trans s2'
        refine ⟨_,rfl,tb,_,_,_,rfl,rfl,SqT.of (t3 _ _ b1),atI2,_,rfl,db,_,rfl,.inl ⟨kb,Sum.inl b,.inl (t3 _ _ b4),rfl,v1.symm⟩,_,rfl,ta,_,_,_,rfl,rfl,SqT.of (t3 _ _ a1),atI2,_,rfl,da,_,rfl,.inl ⟨ka,Sum.inl b,.inl (t3 _ _ a4),rfl,v3.symm⟩,xb,xa,wb b,wa b,rfl,rfl,SqL.of (t3 _ _ v2),SqL.of (t3 _ _ v4),_,rfl,k' _ _ ⟨?_,s2'⟩⟩
        rw [decide_eq_true (sr.c4 b hb ck.1 ck.2 (fun z=>c (.inl z)) fun z=>c (.inr z))]; rfl
    rintro _ G1 ⟨rfl,s2'⟩
    refine ifF rfl ?_
    dsimp only [tNext]
    subst e2
    try dsimp only
    have t3:=t2.trans s2'
    obtain ⟨tk,etk⟩:∃ tk,tss[k]?=some tk:=⟨_,List.getElem?_eq_getElem (by rw [pa.len]; exact hk)⟩
    obtain ⟨wr,hwr,elt,_⟩:=pa.at_ k tk (g.cf k) etk (by unfold Pln.cf; rw [List.getD_eq_getElem?_getD,List.getElem?_eq_getElem hk]; rfl)
    refine hide fun u2 e2=>?_
    refine cpA (fun v G'=>v=.bl (g.cf k).late∧G1=G') (fun Q' k'=>?_) ?_
    · refine ⟨_,rfl,_,rfl,pp,_,_,_,rfl,rfl,SqT.of (t3 _ _ hpp),atI2,tp,_,rfl,.inr (SqT.of (t3 _ _ pa.top)),_,_,rfl,rfl,_,rfl,ifT (decide_eq_true (by rw [List.length_map,pa.len]; exact Int.ofNat_lt.mpr hk)) ⟨_,rfl,pp,_,_,_,rfl,rfl,SqT.of (t3 _ _ hpp),atI2,_,rfl,tp,_,_,_,rfl,rfl,SqT.of (t3 _ _ pa.top),atI_nat (by rw [List.getElem?_map,etk]; rfl),tk,_,_,_,rfl,rfl,SqT.of (t3 _ _ hwr),atI3,rfl,k' _ _ ⟨?_,rfl⟩⟩⟩
      rw [elt,dec_str]; rfl
    rintro _ G' ⟨rfl,rfl⟩
    refine gN ?_
    subst e2
    try dsimp only
    refine hide fun u2 e2=>?_
    refine cpIfS (fun c G'=>c=false∧G1=G') (fun Q' k'=>?_) ?_
    · refine inC s2' rfl rfl ⟨_,rfl,ite_dec (fun c=>⟨_,rfl,_,rfl,k' _ _ ⟨?_,rfl⟩⟩) (fun c=>k' _ _ ⟨rfl,rfl⟩)⟩
      rw [sr.c5 b hb c]; rfl
    rintro _ G' ⟨rfl,rfl⟩
    refine ifF rfl ?_
    dsimp only [tNext]
    subst e2
    try dsimp only
    refine hide fun u2 e2=>?_
    refine cpA (fun v G'=>v=.bl (decide (b∈ca∨((g.cf k).late=true∧(b∈Pu∨b∈ow))))∧Same G1 G') (fun Q' k'=>?_) ?_
    · refine ⟨_,rfl,_,rfl,ta,_,_,_,rfl,rfl,SqT.of (t3 _ _ a1),atI1,Ca,_,rfl,.inl (SqL.of (t3 _ _ a3)),rfl,flat_ints,_,rfl,?_⟩
      show if inV (V.int b) (ca.map V.int)=true then _ else _
      rw [inV_int]
      refine ite_dec (fun c=>k' _ _ ⟨by rw [decide_eq_true (.inl c)],Same.refl _⟩) (fun c=>⟨_,rfl,_,rfl,?_⟩)
      cases l:(g.cf k).late with
      | true =>
        refine ifT rfl (inPO s2' rfl rfl rfl fun G2 s3'=>k' _ _ ⟨?_,s3'⟩)
        simp [c,l]
      | false =>
        refine ifF rfl (k' _ _ ⟨?_,Same.refl _⟩)
        simp [c,l]
    rintro _ G2 ⟨rfl,s3'⟩
    refine gN ?_
    subst e2
    try dsimp only
    have t4:=s2'.trans s3'
    refine hide fun u2 e2=>?_
    refine cpIfS (fun c G'=>c=false∧G2=G') (fun Q' k'=>?_) ?_
    · refine ⟨_,rfl,_,rfl,ite_dec (fun c=>?_) (fun c=>k' _ _ ⟨rfl,rfl⟩)⟩
      refine inC t4 rfl rfl ⟨_,rfl,rfl,_,rfl,k' _ _ ⟨?_,rfl⟩⟩
      rw [dec_bl,show decide (b∈cb)=decide (b∈ca∨((g.cf k).late=true∧(b∈Pu∨b∈ow))) from decide_eq_decide.mpr (sr.c6 b hb c.1 c.2),beq_self_eq_true]
      rfl
    rintro _ G' ⟨rfl,rfl⟩
    refine ifF rfl ?_
    dsimp only [tNext]
    subst e2
    try dsimp only
    refine cpIfS (fun c G'=>c=false∧Same G2 G') (fun Q' k'=>?_) ?_
    · refine ⟨_,rfl,_,rfl,?_⟩
      dsimp only
      by_cases ck:b∈as_∧b∉O
      · exact ifF (by rw [decide_eq_true ck]; rfl) (k' _ _ ⟨rfl,Same.refl _⟩)
      refine ifT (by rw [decide_eq_false ck]; rfl) (inC t4 rfl rfl ⟨_,rfl,ite_dec (fun cc=>?_) (fun _=>k' _ _ ⟨rfl,Same.refl _⟩)⟩)
      refine ⟨_,rfl,pp,_,_,_,rfl,rfl,SqT.of (t4.trans (Same.refl _) |> fun s=>t2.trans s _ _ hpp),atI1,rfl,_,rfl,?_⟩
      rw [dec_str]
      by_cases ca':g.kind = "apart"
      · exact ifF (by rw [ca',beq_self_eq_true]; rfl) (k' _ _ ⟨rfl,Same.refl _⟩)
      refine ifT (by rw [beq_eq_false_iff_ne.mpr ca']; rfl) (inPO t4 rfl rfl rfl fun G3 s4'=>⟨_,rfl,k' _ _ ⟨?_,s4'⟩⟩)
      rw [if_pos rfl,decide_eq_true ((sr.c7 b hb ck cc).resolve_left ca')]; rfl
    rintro _ G3 ⟨rfl,s4'⟩
    refine ifF rfl ?_
    dsimp only [tNext]
    exact ⟨_,_,_,_,rfl,t1.trans (t4.trans s4')⟩
  · rintro σ G ⟨v12,v13,v14,v15,rfl,t1⟩
    subst e1
    exact q G (s17.trans t1)
end
structure W5 (K:PySem.W.Frag) (H G:Hp) (b pp tp lo:Addr) (tss:List Addr) (g:Pln) (A:TA) (os:OS) (st:Stt) (ns:List Int):Prop where
  rd:Rdy K G A g st os
  elo:G lo=some (.lst (ns.map V.int))
  pl:G pp=some (.tup [.int g.size,.str g.kind,.ref tp])
  pa:PlanAt K G tp tss g.cfs
  kp:SB b H G
  nw:∀ x,OW A os x→H x=none
  of:¬ OW A os b∧¬ OW A os lo
  nb:lo≠b
section
variable {K:PySem.W.Frag} {H G G1:Hp} {b pp tp lo:Addr} {tss:List Addr} {g:Pln} {A:TA} {os:OS} {st:Stt} {ns:List Int} {a q c:Int}
theorem W5.sb (w:W5 K H G b pp tp lo tss g A os st ns) (B:BoxAt G b a q c) (s:SB b G G1):W5 K H G1 b pp tp lo tss g A os st ns:=by
  have nt:∀ {x ys},G x=some (.tup ys)→x≠b:=fun {x ys} e z=>by rw [z,B.at'] at e; cases e
  refine ⟨w.rd.frame fun x o e z=>s x o (fun y=>?_) e,s _ _ w.nb w.elo,s _ _ (nt w.pl) w.pl,w.pa.frame fun x ys e=>s _ _ (nt e) e,w.kp.trans s,w.nw,w.of,w.nb⟩
  subst y
  rcases z with z | z
  · exact w.of.1 z
  · rw [B.at'] at e; cases e; exact z trivial
theorem W5.same (w:W5 K H G b pp tp lo tss g A os st ns) (B:BoxAt G b a q c) (s:Same G G1):W5 K H G1 b pp tp lo tss g A os st ns:=w.sb B (s.sb b)
theorem W5.new (w:W5 K H G b pp tp lo tss g A os st ns) (B:BoxAt G b a q c) {x:Addr} (h:G x=none):H x=none:=by
  cases e:H x with
  | none=>rfl
  | some o =>
    by_cases z:x=b
    · rw [z,B.at'] at h; cases h
    · rw [w.kp x o z e] at h; cases h
theorem W5.deed (w:W5 K H G b pp tp lo tss g A os st ns) (B:BoxAt G b a q c) {A':TA} {os':OS} {st':Stt} (R:Rdy K G1 A' g st' os') (t:Pst (OW A os) G G1 (OW A' os')):W5 K H G1 b pp tp lo tss g A' os' st' ns∧BoxAt G1 b a q c:=by
  obtain ⟨l1,l2⟩:=t.out w.elo w.of.2
  obtain ⟨b1,b2⟩:=t.out B.at' w.of.1
  refine ⟨⟨R,l1,tups t w.pl,w.pa.frame fun x ys e=>tups t e,fun x o n e=>t.kp x o (w.kp x o n e) (fun z=>?_),fun x z=>?_,⟨b2,l2⟩,w.nb⟩,⟨b1,B.a0,B.q0,B.q1,B.c0⟩⟩
  · have z:=w.nw x z
    rw [z] at e; cases e
  · exact (t.fr x z).elim (fun z=>w.nw x z) fun z=>w.new B z
theorem W5.made {A0:TA} {os0:OS} {H3 H5:Hp} (u:SB b H H3) (B:BoxAt H3 b a q c) (hO:∀ x,OW A0 os0 x→H3 x=none) (m:Same H3 H5) (R:StairsAt K H5 A0 g (St0 g.n) os0 0) (elo:H3 lo=some (.lst (ns.map V.int))) (pl:H3 pp=some (.tup [.int g.size,.str g.kind,.ref tp])) (pa:PlanAt K H3 tp tss g.cfs) (nb:lo≠b):W5 K H H5 b pp tp lo tss g A0 os0 (St0 g.n) ns :=
  ⟨⟨R,fun _=>disj_new⟩,m _ _ elo,m _ _ pl,pa.same m,u.trans (m.sb b),fun x z=>sb_fresh u B.at' (hO x z),⟨fun z=>(by have z:=hO b z; rw [B.at'] at z; cases z),fun z=>(by have z:=hO lo z; rw [elo] at z; cases z)⟩,nb⟩
end
theorem VA.frame {N:Addr→Prop} {H H':Hp} {l:Addr} {g:Pln} {st:Stt} {ns:List Int} (h:VA N H l g st ns) (f:∀ x o,H x=some o→(N x∨¬ Mt o)→H' x=some o):VA N H' l g st ns:=by
  obtain ⟨ts,h1,h2,h3,h4,t,h5,h6⟩:=h
  refine ⟨ts,h1,f _ _ h2 (.inl h1),h3,fun k hk=>?_,t,h5,h6.frame f⟩
  obtain ⟨t,bs,cs,q1,q2,q3⟩:=h4 k hk
  exact ⟨t,bs,cs,q1,q2.frame f,q3⟩
theorem Gh.ok {g:Pln} {own:Nat→Int→Prop} {a st:Stt} (h:Gh g own a st):Okf g st:=by
  have big:∀ k,¬ k<g.n→st.at_ k=Rm0:=fun k hk=>by
    unfold Stt.at_
    rw [List.getD_eq_getElem?_getD,List.getElem?_eq_none (by rw [h.len]; lia)]; rfl
  refine ⟨h.len,fun k=>?_,fun k x hx=>?_⟩
  · by_cases c:k<g.n
    · exact (h.at_ k c).nd
    · rw [big k c]; exact List.nodup_nil
  · by_cases c:k<g.n
    · exact (h.at_ k c).f3 x hx
    · rw [big k c] at hx; cases hx
theorem EvL.split {n:Nat} {H:Hp} {l:Addr} {i:Nat} {es:List (List V)} (h:EvL n H l (eF i :: es)):∃ (t0:Addr) (ts:List Addr),H l=some (.lst (V.ref t0 :: ts.map V.ref))∧H t0=some (.tup (eF i))∧ts.length=es.length∧∀ (i:Nat) (t:Addr) (e:List V),ts[i]?=some t→es[i]?=some e→H t=some (.tup e):=by
  obtain ⟨_,ts,h1,h2,h3⟩:=h
  cases ts with
  | nil=>cases h2
  | cons t0 ts=>exact ⟨t0,ts,h1,h3 0 t0 _ rfl rfl,Nat.succ.inj h2,fun i t e p q=>h3 (i+1) t e p q⟩
theorem EvN.of {H:Hp} {l:Addr} {ts:List Addr} {es:List (List V)} (h1:H l=some (.lst (ts.map V.ref))) (h2:ts.length=es.length) (nf:∀ e∈es,NoF e) (ln:es.length≤100) (h3:∀ (i:Nat) (t:Addr) (e:List V),ts[i]?=some t→es[i]?=some e→H t=some (.tup e)):EvN H l es:=⟨nf,ln,ts,h1,h2,h3⟩
theorem cut_tl {x:V} {xs:List V}:cutV (x :: xs) (some 1) none=xs:=by
  unfold cutV
  rw [HT.sIx_none,show (some (1:Int))=some ((1:Nat):Int) from rfl,HT.sIx_nat]
  rw [Nat.min_eq_left (by simp)]
  show List.take _ xs=xs
  exact List.take_of_length_le (by simp)
def hereF (st:Stt) (n:Nat) (b:Int):List Nat:=(List.range n).filter fun k=>decide (b∈(st.at_ k).seq)
theorem here_snoc {st:Stt} {n:Nat} {b:Int}:hereF st (n+1) b=if b∈(st.at_ n).seq then hereF st n b++[n] else hereF st n b:=by
  unfold hereF
  rw [List.range_succ,List.filter_append,List.filter_cons,List.filter_nil]
  by_cases h:b∈(st.at_ n).seq
  · rw [if_pos h,if_pos (decide_eq_true h)]
  · rw [if_neg h,if_neg (by simpa using h),List.append_nil]
theorem here_head {st:Stt} {n:Nat} {b:Int} (hn:st.rm.length=n):(hereF st n b++[n])[0]?=some (nearF st b):=by
  have gen:∀ m,m≤n→(nearF st b<m→(hereF st m b)[0]?=some (nearF st b))∧(m≤nearF st b→hereF st m b=[]):=fun m=>by
    induction m with
    | zero=>intro _; exact ⟨fun h=>absurd h (Nat.not_lt_zero _),fun _=>rfl⟩
    | succ m ih =>
      intro hm
      obtain ⟨i1,i2⟩:=ih (by lia)
      rw [here_snoc]
      refine ⟨fun h=>?_,fun h=>?_⟩
      · by_cases c:nearF st b<m
        · have q:=i1 c
          split
          · rw [List.getElem?_append_left (List.getElem?_eq_some_iff.mp q).1]; exact q
          · exact q
        · have e:nearF st b=m:=by lia
          have hb:=near_lt (st:=st) (b:=b) (by lia)
          rw [e] at hb
          rw [if_pos hb,i2 (by lia),e]
          rfl
      · rw [if_neg (near_not (by lia) (by lia)),i2 (by lia)]
  have nle:=near_le st b
  obtain ⟨a1,a2⟩:=gen n (Nat.le_refl _)
  by_cases c:nearF st b<n
  · have q:=a1 c
    rw [List.getElem?_append_left (List.getElem?_eq_some_iff.mp q).1]; exact q
  · rw [a2 (by lia),show nearF st b=n by lia]
    rfl
theorem hideD {t:TS} {D:Ends} {σ:St} {H:Hp} (h:∀ D':Ends,(∀ σ G,D.nx σ G→D'.nx σ G)→t D' σ H):t D σ H:=h D fun _ _ x=>x
section
def spRight (K:PySem.W.Frag):Sp:=fun vs H Q _=>∃ (b:Addr) (a q:Int),vs=[.ref b]∧BoxAt H b a q 0∧Tb K H∧∀ H',SB b H H'→Q (.bl true) H'
theorem ok_right {f:Addr} {fd:FuncData} (F:Fun K "_law_right" "_law_right" s_right f fd) (T:Txt K mg) (D_plan:Def P w K mg base "_law_plan" 3 P_plan (spPlanL K)) (D_some_boards:Def P w K mg base "_law_some_boards" 2 P_some_boards spBoards) (D_deed:Def P w K mg base "_law_deed" 3 P_deed spDeedL) (D_many:Def P w K mg base "_law_many" 2 P_many spMany) (K_Stairs:KDef P w K mg base (clsOf K "Stairs") "Stairs" 6 P_Stairs_init (spStairs K)) (M_Stairs_read:MDef P w K mg base (clsOf K "Stairs") "read" 15 P_Stairs_read (spRead K)) (M_Stairs_write:MDef P w K mg base (clsOf K "Stairs") "write" 15 P_Stairs_write (spWrite K)) (D_view:Def P w K mg base "_law_view" 5 P_view (spView K)) (D_stair_right:Def P w K mg base "_law_stair_right" 1 P_stair_right (spStairR K)):FnOk P w K mg base CX0 18 f fd P_right (spRight K):=by
  refine F.ok sc_right (fun vs H Q E h=>?_) (fun cdv A outer s0 H vs Q E hr h=>?_)
  · obtain ⟨b,a,q,rfl,_⟩:=h
    rfl
  obtain ⟨b,a,q,rfl,B,tb,k⟩:=h
  have nd:=sc_right.nd
  have hu:=hu_of hr
  refine ⟨_,(pss_cons (pst 1 nd (pe_defN D_plan hr.m rfl (pc (pv 0) pa_nil)))
      (pss_cons (ps_par (i:=2) (j:=3) rfl nd rfl rfl (by decide) rfl rfl (pc (pe_defN D_some_boards hr.m rfl (pc (pv 0) (pc (pe_ix (ix_tupK (K:=K) rfl) (pv 1) pe_int (fun _ _=>rfl)) pa_nil))) (pc (pe_makeN K_Stairs hr.m rfl (pc (pv 1) pa_nil)) pa_nil)) rfl)
      (pss_cons (pst 4 nd (pe_callBN (call_len_seqK (K:=K) rfl) rfl T.z_len PySem.boot_len (pc (pe_ix (ix_tupK (K:=K) rfl) (pv 1) pe_int (fun _ _=>rfl)) pa_nil)))
      (pss_cons (ps_for PassesOwn.never rfl (pi_range1 rfl T.z_range (pc (pe_defN D_many hr.m rfl (pc (pv 0) (pc pe_int (pc pe_int pa_nil)))) pa_nil)) (pgn 5 nd) (pss_cons (pst 6 nd (pe_defN D_deed hr.m rfl (pc (pv 0) (pc (pe_ix (ix_tupK (K:=K) rfl) (pv 1) pe_int (fun _ _=>rfl)) (pc (pv 2) pa_nil)))))
      (pss_cons (pst 7 nd (pe_defN D_view hr.m rfl (pc (pv 3) (pc (pv 1) (pc (pv 2) pa_nil)))))
      (pss_cons (pst 8 nd (pe_ifExp (pt_cmpR op_eq (pe_ix (ix_tupK (K:=K) rfl) (pv 6) pe_int (fun _ _=>rfl)) pe_str (nomark _)) (pe_ix (ix_tupK (K:=K) rfl) (pe_methN M_Stairs_read hr.m T.cl_Stairs (pv 3) (pc (pe_ix (ix_tupK (K:=K) rfl) (pv 6) pe_int (fun _ _=>rfl)) pa_nil)) pe_int (fun _ _=>rfl)) (pe_methN M_Stairs_write hr.m T.cl_Stairs (pv 3) (pc (pe_ix (ix_tupK (K:=K) rfl) (pv 6) pe_int (fun _ _=>rfl)) (pc (pe_ix (ix_tupK (K:=K) rfl) (pv 6) pe_int (fun _ _=>rfl)) pa_nil)))))
      (pss_cons (pst 9 nd (pe_defN D_view hr.m rfl (pc (pv 3) (pc (pv 1) (pc (pv 2) pa_nil)))))
      (pss_cons (pst 10 nd (pe_op op_cat (pe_comp1 (compOk_of (osc:=(defScope s_right)) (oN:=N_right) (N:=["_law_k", "_law_deed_here", "_law_plan_here", "_law_ahead"]) (own:=1) (js:=[6,1,7]) (by decide +kernel) rfl rfl) rfl (pi_range1 rfl T.z_range (pc (pv 4) pa_nil)) (fun _ _ _ _ _ _=>(pgn 0 (show List.Nodup (["_law_k", "_law_deed_here", "_law_plan_here", "_law_ahead"]:List Str) by decide +kernel))) (fun _ _ _ _ _ _=>(pt_cmpR (op_in_seqK (K:=K) rfl) (pe_op op_fdiv (pe_ix (ix_tupK (K:=K) rfl) (pv 1) pe_int (fun _ _=>rfl)) (pe_ix (ix_tupK (K:=K) rfl) (pv 2) pe_int (fun _ _=>rfl))) (pe_ix (ix_tupK (K:=K) rfl) (pe_ix (ix_listK (K:=K) rfl) (pv 3) (pv 0) (fun _ _=>rfl)) pe_int (fun _ _=>rfl)) rfl)) (fun _ _ _ _ _ _=>(pv 0))) (pe_lst (pc (pv 4) pa_nil))))
      (pss_cons (ps_if (PW.pt (pw_or (pt_cmpR (op_neT (K:=K) 0 (hu_to hr 0 (by decide)) rfl) (pe_ix (ix_listK (K:=K) rfl) (pv 8) pe_int (fun _ _=>rfl)) (pe_tup (pc pe_str (pc (pe_ix (ix_listK (K:=K) rfl) (pv 10) pe_int (fun _ _=>rfl)) pa_nil))) (nomark _)) (pw_or1 (pt_val (pe_callBN (call_anyL rfl) rfl T.z_any boot_any (pc (pe_comp0 (compOk_of (osc:=(defScope s_right)) (oN:=N_right) (N:=["_law_event"]) (own:=1) (js:=[]) (by decide +kernel) rfl rfl) rfl (pi_listK (K:=K) rfl (pe_slice (sl_listK (K:=K) rfl) (pv 8) (po_some pe_int) po_none)) (fun _ _ _ _ _ _=>(pgn 0 (show List.Nodup (["_law_event"]:List Str) by decide +kernel))) (fun _ _ _ _ _ _=>(pe_cmpR op_eq (pe_ix (ix_tupK (K:=K) rfl) (pv 0) pe_int (fun _ _=>rfl)) pe_str (nomark _)))) pa_nil)))))) (pss_one (ps_ret pe_bl)) pss_nil)
      (pss_cons (ps_for PassesOwn.never rfl (pi_range1 rfl T.z_range (pc (pv 4) pa_nil)) (pgn 11 nd) (pss_one (ps_if (pt_not (pt_val (pe_defN D_stair_right hr.m rfl (pc (pv 1) (pc (pv 11) (pc (pe_ix (ix_listK (K:=K) rfl) (pv 7) (pv 11) (fun _ _=>rfl)) (pc (pe_ix (ix_listK (K:=K) rfl) (pv 9) (pv 11) (fun _ _=>rfl)) (pc (pe_slice (sl_listK (K:=K) rfl) (pv 8) (po_some pe_int) po_none) (pc (pv 6) pa_nil))))))))) (pss_one (ps_ret pe_bl)) pss_nil)))
      (pss_cons (pst 12 nd (pe_comp1 (compOk_of (osc:=(defScope s_right)) (oN:=N_right) (N:=["_law_event", "_law_rooms"]) (own:=1) (js:=[4]) (by decide +kernel) rfl rfl) rfl (pi_listK (K:=K) rfl (pv 8)) (fun _ _ _ _ _ _=>(pgn 0 (show List.Nodup (["_law_event", "_law_rooms"]:List Str) by decide +kernel))) (fun _ _ _ _ _ _=>(PW.pt (pw_and (pt_cmpR op_eq (pe_ix (ix_tupK (K:=K) rfl) (pv 0) pe_int (fun _ _=>rfl)) pe_str (nomark _)) (pw_and1 (pt_cmpR op_eq (pe_ix (ix_tupK (K:=K) rfl) (pv 0) pe_int (fun _ _=>rfl)) (pv 1) (nomark _)))))) (fun _ _ _ _ _ _=>(pe_ix (ix_tupK (K:=K) rfl) (pv 0) pe_int (fun _ _=>rfl)))))
      (pss_one (ps_if (pt_val (pe_callBN (call_anyL rfl) rfl T.z_any boot_any (pc (pe_comp1 (compOk_of (osc:=(defScope s_right)) (oN:=N_right) (N:=["_law_board", "_law_behind", "_law_rooms", "_law_ahead", "_law_puts"]) (own:=1) (js:=[9,4,7,12]) (by decide +kernel) rfl rfl) rfl (pi_listK (K:=K) rfl (pv 2)) (fun _ _ _ _ _ _=>(pgn 0 (show List.Nodup (["_law_board", "_law_behind", "_law_rooms", "_law_ahead", "_law_puts"]:List Str) by decide +kernel))) (fun _ _ _ _ _ _=>(pt_cmpR (op_notIn_seqK (K:=K) rfl) (pv 0) (pv 4) rfl)) (fun _ _ _ _ _ _=>(pe_cmpR (op_neL (K:=K) (Nat.lt_of_succ_lt hu) rfl) (pe_dget hu (pe_ix (ix_tupK (K:=K) rfl) (pe_ix (ix_listK (K:=K) rfl) (pv 1) (pv 2) (fun _ _=>rfl)) pe_int (fun _ _=>rfl)) (pv 0) (fun _ _=>rfl)) (pe_dget hu (pe_ix (ix_tupK (K:=K) rfl) (pe_ix (ix_listK (K:=K) rfl) (pv 3) (pv 2) (fun _ _=>rfl)) pe_int (fun _ _=>rfl)) (pv 0) (fun _ _=>rfl)) (nomark _)))) pa_nil))) (pss_one (ps_ret pe_bl)) pss_nil)))))))))))
      (pss_one (ps_ret pe_bl)))))),?_⟩
  refine hide fun u1 e1=>?_
  refine ⟨_,rfl,b,a,q,0,rfl,B,by decide,fun pp tp tss size kind cfs a1 c1 H1 hpp pa ikd z0 z1 l1 l4 B1 hc1 s1=>gN ?_⟩
  subst e1
  try dsimp only
  have npb:∀ {x ys},H1 x=some (.tup ys)→x≠b:=fun {x ys} e z=>by rw [z,B1.at'] at e; cases e
  refine hide fun u1 e1=>?_
  refine ⟨_,rfl,_,rfl,pp,_,_,_,rfl,rfl,SqT.of hpp,atI0,b,a1,q,c1,size,rfl,B1,by lia,z0,z1,fun lo ns a3 c3 H3 hlo elo n3 n20 bdn _ B3 hc3 t3=>⟨_,rfl,fun p dx hp hdx npd=>?_⟩⟩
  have hpp3:=t3 _ _ (npb hpp) hpp
  have pa3:=pa.frame (H':=H3) fun x ys e=>t3 _ _ (npb e) e
  have u3:SB b H H3:=s1.trans t3
  have nlb:lo≠b:=fun z=>by rw [z,B1.at'] at hlo; cases hlo
  have tb3:Tb K H3:=u3 _ _ (fun z=>by have t:=tb; unfold Tb at t; rw [z,B.at'] at t; cases t) tb
  have s9:9999 / size≤9999:=Int.ediv_le_self _ (by decide)
  have nsB:∀ x∈ns,0≤x∧x≤100000:=fun x hx=>by
    have:=bdn x hx
    lia
  obtain ⟨g,eg⟩:∃ g:Pln,g=⟨size,kind,cfs,(9999 / size) :: ns⟩:=⟨_,rfl⟩
  have wf:WF g:=by
    rw [eg]
    refine ⟨fun c hc=>⟨(pa.cf c hc).2.2.1,(pa.cf c hc).2.2.2.1⟩,z0,by show size≤1000; lia,by show _+1≤800; lia,fun b hb=>?_,l4,l1⟩
    have s0:0≤9999 / size:=Int.ediv_nonneg (by decide) (by lia)
    rcases List.mem_cons.mp hb with rfl | hb
    · lia
    · have:=nsB b hb; lia
  have U64:g.U.length<64:=by rw [eg]; show ns.length+1<64; lia
  have gU:g.U=(9999 / size) :: ns:=by rw [eg]
  have eg1:size=g.size:=by rw [eg]
  have eg2:kind=g.kind:=by rw [eg]
  have eg3:cfs=g.cfs:=by rw [eg]
  clear eg
  subst eg1 eg2 eg3
  have m1:Same H3 (upd (upd H3 dx (.own p)) p (.ins (clsOf K "Stairs") dx [])):=fun x o e=>by rw [upd_ne (ne_of_none e hp),upd_ne (ne_of_none e hdx)]; exact e
  have hp1:=upd_same (H:=upd H3 dx (.own p)) (a:=p) (o:=.ins (clsOf K "Stairs") dx [])
  have fr1:∀ x,upd (upd H3 dx (.own p)) p (.ins (clsOf K "Stairs") dx []) x=none→H3 x=none:=fun x e=>m1.free e
  generalize upd (upd H3 dx (.own p)) p (.ins (clsOf K "Stairs") dx [])=H4 at *
  refine ⟨p,dx,pp,tp,g.size,g.kind,tss,g.cfs,rfl,hp1,m1 _ _ hpp3,pa3.same m1,wf.l4,tb3.same m1,fun A0 os0 H5 ep RS own k2=>⟨rfl,_,_,rfl,?_⟩⟩
  have m2:Same H3 H5:=fun x o e=>k2 x o (m1 _ _ e) (ne_of_none e hp)
  have hO:∀ x,OW A0 os0 x→H3 x=none:=fun x h=>by
    by_cases z:x=p
    · rw [z]; exact hp
    · exact fr1 x (own x h z)
  subst e1
  try dsimp only
  have w0:W5 K H H5 b pp tp lo tss g A0 os0 (St0 g.n) ns:=W5.made u3 B3 hO m2 (RS g.U wf) elo hpp3 pa3 nlb
  have B5:=B3.same m2
  rw [show V.ref p=V.ref A0.p by rw [ep]]
  clear RS own k2 m1 hp1 fr1 hO
  have lt4:(tss.map V.ref).length=g.n:=by rw [List.length_map,pa.len]; rfl
  refine hide fun u1 e1=>?_
  refine ⟨_,rfl,pp,_,_,_,rfl,rfl,SqT.of w0.pl,atI2,tp,_,rfl,.inr (SqT.of w0.pa.top),gN ?_⟩
  rw [lt4]
  subst e1
  try dsimp only
  have hs:0<g.size:=by lia
  have hl1:1≤g.n:=wf.l1
  have hl4:g.n≤4:=wf.l4
  clear pa pa3 hpp hpp3 npb lt4 ikd l1 l4 tb3 m2 bdn s9
  refine hide fun u1 e1=>?_
  refine ⟨_,rfl,b,a3,q,c3,24,60,rfl,B5,by lia,by decide,by decide,by decide,fun mn a4 c4 H9 m0 m1' B9 hc4 t4=>⟨_,rfl,by lia,by lia,for_range (lo:=0) (n:=mn.toNat) (fun i σ G=>∃ (v5 v6 v7 v8 v9 v10 v11 v12:Option V) (A:TA) (os:OS) (st:Stt) (a' c':Int),σ=[some (.ref b),some (.ref pp),some (.ref lo),some (.ref A0.p),some (.int (g.n:Nat)),v5,v6,v7,v8,v9,v10,v11,v12]∧A.p=A0.p∧W5 K H G b pp tp lo tss g A os st ns∧Okf g st∧LateF g st∧BoxAt G b a' q c'∧c'≤c4+12 * (i:Int))
    ⟨_,_,_,_,_,_,_,_,A0,os0,_,a4,c4,rfl,rfl,w0.sb B5 t4,fx_new.1,late_new,B9,by lia⟩ ?_ ?_⟩⟩
  · rintro i σ G hi ⟨v5,v6,v7,v8,v9,v10,v11,v12,A,os,st,a',c',rfl,eA,w,ok,lf,B',hc'⟩
    refine gN ?_
    refine hideD fun D' hD'=>?_
    try dsimp only
    rw [← eA] at hD' ⊢
    refine hide fun u1 e1=>?_
    refine ⟨_,rfl,_,rfl,pp,_,_,_,rfl,rfl,SqT.of w.pl,atI0,_,rfl,b,lo,a',q,c',g.size,ns,rfl,B',w.nb,by lia,z0,z1,w.elo,by lia,n20,nsB,fun t d a5 c5 G1 et ok5 iU B5 hc5 s5=>gN ?_⟩
    subst e1
    try dsimp only
    have w:=w.sb B' s5
    have bU:d.sp / g.size∈g.U:=by rw [gU]; exact iU
    have he0:st.ev=[]:=List.eq_nil_of_length_eq_zero (Nat.le_zero.mp w.rd.at_.evn)
    have nsB':∀ x∈ns,0≤x∧x≤1000000:=fun x hx=>by have:=nsB x hx; lia
    refine hide fun u1 e1=>?_
    refine ⟨_,rfl,_,rfl,_,rfl,A,g,st,os,0,pp,tp,lo,tss,ns,rfl,w.rd.at_,w.pl,w.pa,U64,w.elo,by lia,nsB',w.of.2,fun l7 G2 s7 va=>gN ?_⟩
    subst e1
    try dsimp only
    have w:=w.same B5 s7
    have B6:=B5.same s7
    have et:=s7 _ _ et
    obtain ⟨dx,ob⟩:=w.rd.at_.ob
    have a1:atI d.vs 1=some (.int d.sp):=by cases d <;> exact atI1
    refine hide fun u1 e1=>?_
    refine cpA (fun v G=>v=.ref A.ev∧∃ e' os1,W5 K H G b pp tp lo tss g (A.re e') os1 (clr (stepS g d st)) ns∧BoxAt G b a5 q c5∧EvL g.n G A.ev (stepS g d st).ev∧(stepS g d st).ev.length≤100∧Pst (OW A os) G2 G (OW (A.re e') os1)∧¬ OW (A.re e') os1 A.ev∧d.sp / g.size∈((fetchS g (d.sp / g.size) st).at_ 0).seq) (fun Q' k'=>?_) ?_
    · cases d with
      | rd sp =>
        refine ⟨_,rfl,t,_,_,_,rfl,rfl,SqT.of et,atI0,rfl,_,rfl,ifT (decide_eq_true rfl) ⟨_,rfl,A.p,dx,_,rfl,ob,tf_no ..,_,rfl,t,_,_,_,rfl,rfl,SqT.of et,atI1,A,g,st,os,sp,rfl,w.rd.at_,w.rd.dj,bU,fun G3 e' os1 tp' etp r1 r2 r3 r4 r5 r6 r7=>⟨tp',_,_,_,rfl,rfl,SqT.of etp,atI1,?_⟩⟩⟩
        obtain ⟨w2,B7⟩:=w.deed B6 (A':=A.re e') (os':=os1) (st':=clr (stepS g (.rd sp) st)) ⟨r1,r6⟩ r5
        exact k' _ _ ⟨rfl,e',os1,w2,B7,r2,r3,r5,r4,r7⟩
      | wt sp v =>
        refine ⟨_,rfl,t,_,_,_,rfl,rfl,SqT.of et,atI0,rfl,_,rfl,ifF (by decide +kernel) ⟨_,rfl,A.p,dx,_,rfl,ob,tf_no ..,_,rfl,t,_,_,_,rfl,rfl,SqT.of et,atI1,_,rfl,t,_,_,_,rfl,rfl,SqT.of et,atI2,A,g,st,os,sp,v,rfl,w.rd.at_,w.rd.dj,bU,fun G3 e' os1 r1 r2 r3 r4 r5 r6 r7=>?_⟩⟩
        obtain ⟨w2,B7⟩:=w.deed B6 (A':=A.re e') (os':=os1) (st':=clr (stepS g (.wt sp v) st)) ⟨r1,r6⟩ r5
        exact k' _ _ ⟨rfl,e',os1,w2,B7,r2,r3,r5,r4,by rw [← (lk_step (g:=g) (d:=.wt sp v) (st:=st)).sq 0]; exact r7⟩
    rintro _ G3 ⟨rfl,e',os1,w2,B7,evl,l100,ps,nev,hb⟩
    refine gN ?_
    subst e1
    try dsimp only
    have gh:=gh_step hs hl1 ok lf he0 w.rd.dj hb
    obtain ⟨es,ees,nf⟩:=pfn_step (g:=g) (d:=d) he0
    have va3:=va.frame fun x o e z=>ps.kp x o e fun y=>z.elim (fun z=>absurd y z) id
    have et3:=tups ps et
    rw [ees] at evl l100
    have bE':∀ s k,bE s k (stepS g d st).ev=bE s k es:=fun s k=>by rw [ees]; rfl
    obtain ⟨t0,ts,ev1,ev2,ev3,ev4⟩:=evl.split
    have hes:es.length≤100:=by rw [List.length_cons] at l100; lia
    refine hide fun u1 e1=>?_
    refine ⟨_,rfl,_,rfl,_,rfl,A.re e',g,_,os1,0,pp,tp,lo,tss,ns,rfl,w2.rd.at_,w2.pl,w2.pa,U64,w2.elo,by lia,nsB',w2.of.2,fun l9 G4 s9 vb=>gN ?_⟩
    subst e1
    try dsimp only
    have w4:=w2.same B7 s9
    have B8:=B7.same s9
    have va4:=va3.frame fun x o e _=>s9 _ _ e
    have et4:=s9 _ _ et3
    have ev1:=s9 _ _ ev1
    have ev2:=s9 _ _ ev2
    have ev4:∀ (i:Nat) (t:Addr) (e:List V),ts[i]?=some t→es[i]?=some e→G4 t=some (.tup e):=fun i t e p q=>s9 _ _ (ev4 i t e p q)
    obtain ⟨ta,_,a2,a3',a4',tam,a5m,a6m⟩:=va4
    obtain ⟨tb',_,b2,b3',b4',tbm,b5m,b6m⟩:=vb
    have len:=ok.len
    refine hide fun u1 e1=>?_
    refine cpA (fun v G=>∃ ln,v=.ref ln∧G ln=some (.lst (((hereF st g.n (d.sp / g.size)++[g.n]).map fun k:Nat=>(k:Int)).map V.int))∧Same G4 G) (fun Q' k'=>?_) ?_
    · refine ⟨_,rfl,_,rfl,by lia,by lia,fun ll hll=>?_⟩
      refine comp_range (lo:=0) (n:=(g.n:Int).toNat) (l:=ll) (fun j ys σ G=>∃ v0:Option V,σ=[v0,some (.ref t),some (.ref pp),some (.ref l7)]∧ys=((hereF st j (d.sp / g.size)).map fun k:Nat=>(k:Int)).map V.int∧G=upd G4 ll (.lst ys)) ⟨none,rfl,rfl,rfl⟩ ?_ ?_
      · rintro j ys σ G hj hys ⟨v0,rfl,rfl,rfl⟩
        have hj':j<g.n:=by lia
        obtain ⟨tk,bs,cs,q1,⟨D,C,dd,kv,_,q2,q3,_⟩,q4,_⟩:=a4' j hj'
        have kp:=same_upd hll (.lst (((hereF st j (d.sp / g.size)).map fun k:Nat=>(k:Int)).map V.int))
        have e0:(0:Int)+(j:Int)=(j:Int):=by lia
        rw [e0]
        refine ⟨_,rfl,t,_,_,_,rfl,rfl,SqT.of (kp _ _ et4),a1,_,rfl,pp,_,_,_,rfl,rfl,SqT.of (kp _ _ w4.pl),atI0,_,_,rfl,rfl,⟨z0,by lia⟩,_,rfl,_,rfl,l7,_,_,_,rfl,rfl,SqL.of (kp _ _ a2),atI_nat (by rw [List.getElem?_map,q1]; rfl),tk,_,_,_,rfl,rfl,SqT.of (kp _ _ q2),atI0,D,_,rfl,.inl (SqL.of (kp _ _ q3)),rfl,flat_ints,_,rfl,?_⟩
        show if inV (V.int (d.sp / g.size)) (bs.map V.int)=true then _ else _
        rw [inV_int]
        refine ite_dec (fun c=>?_) (fun c=>?_)
        · refine ⟨_,rfl,CNx.of (Nat.le_trans (by lia:(g.n:Int).toNat≤4) (by decide)) hj hys upd_same ⟨_,rfl,?_,upd_upd⟩⟩
          rw [here_snoc,if_pos (q4.mem_iff.mp c),List.map_append,List.map_append]; rfl
        · refine CNo.of hj hys ⟨_,rfl,?_,rfl⟩
          rw [here_snoc,if_neg fun z=>c (q4.mem_iff.mpr z)]
      rintro ys σ G hys ⟨v0,rfl,rfl,rfl⟩
      rw [Int.toNat_natCast] at hys ⊢
      rw [List.length_map,List.length_map] at hys
      refine ⟨_,rfl,Nat.le_of_ble_eq_true rfl,fun p hp=>⟨ll,p,_,_,rfl,rfl,same_upd hp _ _ _ upd_same,upd_same,?_,fun q hq=>k' _ _ ⟨q,rfl,?_,(same_upd hll _).trans ((same_upd hp _).trans (same_upd hq _))⟩⟩⟩
      · rw [List.length_map,List.length_map]
        exact Nat.le_trans (by show _+1≤5; lia) (by decide)
      · rw [List.map_append,List.map_append]; exact upd_same
    rintro _ G5 ⟨ln,rfl,eln,s10⟩
    refine gN ?_
    subst e1
    try dsimp only
    have ev1':=s10 _ _ ev1
    have hh:=here_head (b:=d.sp / g.size) len
    refine hide fun u1 e1=>?_
    refine cpIfS (fun c G=>c=false∧Same G5 G) (fun Q' k'=>?_) ?_
    · refine cpOr (fun c G=>c=false∧Same G5 G) (fun Q'' k''=>?_) ?_
      · refine ⟨_,rfl,A.ev,_,_,_,rfl,rfl,SqL.of ev1',atI0,_,rfl,ln,_,_,_,rfl,rfl,SqL.of eln,atI_nat (j:=0) (by rw [List.getElem?_map,List.getElem?_map,hh]; rfl),Nat.le_of_ble_eq_true rfl,fun pt hpt=>⟨t0,pt,_,_,fun _=>true,rfl,rfl,fun i u v p q=>?_,SqT.of (same_upd hpt _ _ _ (s10 _ _ ev2)),SqT.of upd_same,rfl,_,rfl,k'' _ _ ⟨rfl,same_upd hpt _⟩⟩⟩
        match i,p,q with
        | 0,p,q=>cases p; cases q; exact ⟨rfl,rfl,(beq_self_eq_true _).symm⟩
        | 1,p,q=>cases p; cases q; exact ⟨rfl,rfl,(beq_self_eq_true _).symm⟩
        | i+2,p,q=>simp at q
      rintro _ G6 ⟨rfl,s11⟩
      refine ifF rfl ?_
      have s12:=s10.trans s11
      refine ⟨_,rfl,1,rfl,A.ev,_,rfl,SqL.of (s12 _ _ ev1),fun lz hlz=>?_⟩
      have s13:=s12.trans (same_upd hlz (.lst (cutV (V.ref t0 :: ts.map V.ref) (some 1) none)))
      have elz:upd G6 lz (.lst (cutV (V.ref t0 :: ts.map V.ref) (some 1) none)) lz=some (.lst (ts.map V.ref)):=by rw [upd_same,cut_tl]
      have s11z:=s11.trans (same_upd hlz (.lst (cutV (V.ref t0 :: ts.map V.ref) (some 1) none)))
      generalize upd G6 lz (.lst (cutV (V.ref t0 :: ts.map V.ref) (some 1) none))=G7 at *
      refine ⟨lz,rfl,⟨_,SqL.of elz⟩,fun l hl=>?_⟩
      refine comp_list (K:=K) (a:=lz) (xs:=ts.map V.ref) (l:=l) (fun j ys σ G=>∃ v0:Option V,σ=[v0]∧ys=(List.replicate j false).map V.bl∧G=upd G7 l (.lst ys)) ⟨none,rfl,rfl,rfl⟩ (fun j ys σ G _ ⟨_,_,_,e⟩=>SqL.of (by rw [e]; exact same_upd hl _ _ _ elz)) ?_ ?_
      · rintro j x ys σ G hj hxj hys ⟨v0,rfl,rfl,rfl⟩
        rw [List.length_map] at hj
        obtain ⟨e,ee⟩:∃ e,es[j]?=some e:=⟨_,List.getElem?_eq_getElem (by rw [← ev3]; exact hj)⟩
        obtain ⟨tj,etj⟩:∃ t,ts[j]?=some t:=⟨_,List.getElem?_eq_getElem hj⟩
        rw [List.getElem?_map,etj] at hxj
        cases hxj
        obtain ⟨s,m,z,rfl,ns'⟩:=nf e (List.mem_of_getElem? ee)
        refine ⟨_,rfl,tj,_,_,_,rfl,rfl,SqT.of (same_upd hl _ _ _ (s13 _ _ (ev4 j tj _ etj ee))),atI0,rfl,CNx.of (Nat.le_of_lt (small1000 (by rw [List.length_map]; lia))) (by rw [List.length_map]; exact hj) hys upd_same ⟨_,rfl,?_,upd_upd⟩⟩
        rw [List.replicate_succ',List.map_append,dec_str,beq_eq_false_iff_ne.mpr ns']; rfl
      rintro ys σ G _ ⟨v0,rfl,rfl,rfl⟩
      refine ⟨l,_,rfl,SqL.of upd_same,_,rfl,k' _ _ ⟨?_,s11z.trans (same_upd hl _)⟩⟩
      rw [List.any_eq_false]
      intro z hz
      rw [(List.mem_replicate.mp hz).2]; exact Bool.false_ne_true
    rintro _ G6 ⟨rfl,s11⟩
    refine ifF rfl ?_
    dsimp only [tNext]
    subst e1
    try dsimp only
    have s46:=s10.trans s11
    have w6:=w4.same B8 s46
    have B9':=B8.same s46
    refine hide fun u1 e1=>?_
    refine cpI (fun σ G=>Same G6 G∧∃ v11:Option V,σ=[some (.ref b),some (.ref pp),some (.ref lo),some (.ref A.p),some (.int (g.n:Nat)),some (.int (0+(i:Int))),some (.ref t),some (.ref l7),some (.ref A.ev),some (.ref l9),some (.ref ln),v11,v12]) (fun D2 eD2 hD2=>?_) ?_
    · refine ⟨_,rfl,_,rfl,by lia,by lia,for_range (lo:=0) (n:=(g.n:Int).toNat) (fun j σ G=>Same G6 G∧∃ v11:Option V,σ=[some (.ref b),some (.ref pp),some (.ref lo),some (.ref A.p),some (.int (g.n:Nat)),some (.int (0+(i:Int))),some (.ref t),some (.ref l7),some (.ref A.ev),some (.ref l9),some (.ref ln),v11,v12]) ⟨Same.refl _,_,rfl⟩ ?_ ?_⟩
      · rintro j σ G hj ⟨s12,v11',rfl⟩
        have hj':j<g.n:=by lia
        have e0:(0:Int)+(j:Int)=(j:Int):=by lia
        rw [e0]
        refine gN ?_
        try dsimp only
        have s47:=s46.trans s12
        obtain ⟨t1,as_,ca,p1,p2,p3,p4,p5,p6⟩:=a4' j hj'
        obtain ⟨t2,bs,cb,q1,q2,q3,q4,q5,q6⟩:=b4' j hj'
        refine ⟨_,rfl,_,rfl,_,rfl,_,rfl,l7,_,_,_,rfl,rfl,SqL.of (s47 _ _ a2),atI_nat (by rw [List.getElem?_map,p1]; rfl),_,rfl,_,rfl,l9,_,_,_,rfl,rfl,SqL.of (s47 _ _ b2),atI_nat (by rw [List.getElem?_map,q1]; rfl),_,rfl,1,rfl,A.ev,_,rfl,SqL.of (s47 _ _ ev1),fun lz hlz=>?_⟩
        have elz:upd G lz (.lst (cutV (V.ref t0 :: ts.map V.ref) (some 1) none)) lz=some (.lst (ts.map V.ref)):=by rw [upd_same,cut_tl]
        have s48:=s12.trans (same_upd hlz (.lst (cutV (V.ref t0 :: ts.map V.ref) (some 1) none)))
        generalize upd G lz (.lst (cutV (V.ref t0 :: ts.map V.ref) (some 1) none))=G7 at *
        have s49:=s46.trans s48
        have w7:=w6.same B9' s48
        have sr:=(gh.at_ j hj').sr p3 (ok.nd j) p6 q3 q6 q4 q5 p5 (fun x=>own_mem (g:=g) (d:=d) (k:=j) (x:=x))
        rw [bE',bE',bE'] at sr
        refine ⟨_,rfl,g,j,pp,tp,t1,t2,lz,t,tss,as_,ca,bs,cb,_,_,_,_,es,d,rfl,hj',hl4,hs,by lia,w7.pl,w7.pa,p2.frame fun x o e _=>s49 _ _ e,q2.frame fun x o e _=>s49 _ _ e,EvN.of elz ev3 nf hes fun i t e p q=>s49 _ _ (ev4 i t e p q),s49 _ _ et4,bU,sr,fun G8 s50=>⟨_,rfl,ifF rfl ?_⟩⟩
        dsimp only [tNext]
        exact ⟨s48.trans s50,_,rfl⟩
      · rintro σ G ⟨s12,v11',rfl⟩
        exact hD2 _ _ ⟨s12,_,rfl⟩
    rintro σ G7 ⟨s12,v11',rfl⟩
    subst e1
    try dsimp only
    have s47:=s46.trans s12
    have w7:=w6.same B9' s12
    have B10:=B9'.same s12
    refine hide fun u1 e1=>?_
    refine cpA (fun v G=>∃ lp,v=.ref lp∧G lp=some (.lst ((bE "words" g.n (stepS g d st).ev).map V.int))∧Same G7 G) (fun Q' k'=>?_) ?_
    · have ev1':=s47 _ _ ev1
      refine ⟨_,rfl,A.ev,rfl,⟨_,SqL.of ev1'⟩,fun l hl=>?_⟩
      rw [ees] at k'
      refine comp_list (K:=K) (a:=A.ev) (xs:=V.ref t0 :: ts.map V.ref) (l:=l) (fun j ys σ G=>∃ v0:Option V,σ=[v0,some (.int (g.n:Nat))]∧ys=(bE "words" g.n ((eF (nearF st (d.sp / g.size)) :: es).take j)).map V.int∧G=upd G7 l (.lst ys)) ⟨none,rfl,rfl,rfl⟩ (fun j ys σ G _ ⟨_,_,_,e⟩=>SqL.of (by rw [e]; exact same_upd hl _ _ _ ev1')) ?_ ?_
      · rintro j x ys σ G hj hxj hys ⟨v0,rfl,rfl,rfl⟩
        have h1000:(V.ref t0 :: ts.map V.ref).length≤sizeLine:=Nat.le_of_lt (small1000 (by rw [List.length_cons,List.length_map]; lia))
        have kp:=same_upd hl (.lst ((bE "words" g.n ((eF (nearF st (d.sp / g.size)) :: es).take j)).map V.int))
        cases j with
        | zero =>
          cases hxj
          refine ⟨_,rfl,t0,_,_,_,rfl,rfl,SqT.of (kp _ _ (s47 _ _ ev2)),atI0,rfl,_,rfl,ifF (by rw [dec_str]; decide +kernel) (ifF rfl (CNo.of hj hys ⟨_,rfl,?_,rfl⟩))⟩
          rfl
        | succ j =>
          have hj2:j<ts.length:=by rw [List.length_cons,List.length_map] at hj; lia
          obtain ⟨e,ee⟩:∃ e,es[j]?=some e:=⟨_,List.getElem?_eq_getElem (by rw [← ev3]; exact hj2)⟩
          obtain ⟨tj,etj⟩:∃ t,ts[j]?=some t:=⟨_,List.getElem?_eq_getElem hj2⟩
          rw [List.getElem?_cons_succ,List.getElem?_map,etj] at hxj
          cases hxj
          obtain ⟨s,m,z,rfl,ns'⟩:=nf e (List.mem_of_getElem? ee)
          have etj':=kp _ _ (s47 _ _ (ev4 j tj _ etj ee))
          have sn:bE "words" g.n ((eF (nearF st (d.sp / g.size)) :: es).take (j+1+1))=bE "words" g.n ((eF (nearF st (d.sp / g.size)) :: es).take (j+1))++if s = "words" ∧ m=g.n then [z] else []:=by
            rw [List.take_succ (i:=j+1),List.getElem?_cons_succ,ee]
            show bE _ _ (_++[_])=_
            rw [bE_snoc,bE_one]
          refine ⟨_,rfl,tj,_,_,_,rfl,rfl,SqT.of etj',atI0,rfl,_,rfl,?_⟩
          rw [dec_str]
          by_cases c1:s = "words"
          · refine ifT (by rw [c1]; exact beq_self_eq_true _) ⟨_,rfl,tj,_,_,_,rfl,rfl,SqT.of etj',atI1,_,rfl,rfl,_,rfl,?_⟩
            rw [dec_int]
            by_cases c2:m=g.n
            · refine ifT (by rw [c2]; exact beq_self_eq_true _) ⟨_,rfl,tj,_,_,_,rfl,rfl,SqT.of etj',atI2,CNx.of h1000 hj hys upd_same ⟨_,rfl,?_,upd_upd⟩⟩
              rw [sn,if_pos ⟨c1,c2⟩,List.map_append]; rfl
            · refine ifF (beq_eq_false_iff_ne.mpr fun z=>c2 (by lia)) (CNo.of hj hys ⟨_,rfl,?_,rfl⟩)
              rw [sn,if_neg fun z=>c2 z.2,List.append_nil]
          · refine ifF (beq_eq_false_iff_ne.mpr c1) (ifF rfl (CNo.of hj hys ⟨_,rfl,?_,rfl⟩))
            rw [sn,if_neg fun z=>c1 z.1,List.append_nil]
      rintro ys σ G hys ⟨v0,rfl,rfl,rfl⟩
      rw [List.take_of_length_le (by rw [List.length_cons,List.length_cons,List.length_map,ev3]; exact Nat.le_refl _)]
      exact k' _ _ ⟨l,rfl,upd_same,same_upd hl _⟩
    rintro _ G8 ⟨lp,rfl,elp,s13⟩
    refine gN ?_
    subst e1
    try dsimp only
    have s48:=s47.trans s13
    have w8:=w7.same B10 s13
    have B11:=B10.same s13
    refine cpIfS (fun c G=>c=false∧Same G8 G) (fun Q' k'=>?_) ?_
    · have elo8:=w8.elo
      refine ⟨_,rfl,lo,rfl,⟨_,SqL.of elo8⟩,fun l hl=>?_⟩
      refine comp_list (K:=K) (a:=lo) (xs:=ns.map V.int) (l:=l) (fun j ys σ G=>∃ (v0:Option V) (m:Nat),σ=[v0,some (.ref l9),some (.int (g.n:Nat)),some (.ref l7),some (.ref lp)]∧ys=(List.replicate m false).map V.bl∧G=upd G8 l (.lst ys)) ⟨none,0,rfl,rfl,rfl⟩ (fun j ys σ G _ ⟨_,_,_,_,e⟩=>SqL.of (by rw [e]; exact same_upd hl _ _ _ elo8)) ?_ ?_
      · rintro j x ys σ G hj hxj hys ⟨v0,m,rfl,rfl,rfl⟩
        obtain ⟨x,ex,rfl⟩:=ints_at hxj
        have hx:=List.mem_of_getElem? ex
        have s49:=s48.trans (same_upd hl (.lst ((List.replicate m false).map V.bl)))
        refine ⟨_,rfl,_,rfl,lp,_,rfl,.inl (SqL.of (same_upd hl _ _ _ elp)),rfl,flat_ints,_,rfl,?_⟩
        show if (!inV (V.int x) ((bE "words" g.n (stepS g d st).ev).map V.int))=true then _ else _
        rw [inV_int]
        by_cases c:x∈bE "words" g.n (stepS g d st).ev
        · exact ifF (by rw [decide_eq_true c]; rfl) (CNo.of hj hys ⟨_,m,rfl,rfl,rfl⟩)
        obtain ⟨D1,C1,d1,k1,_,p1,p2,p3,p4,p5⟩:=a6m
        obtain ⟨D2,C2,d2,k2,_,q1,q2,q3,q4,q5⟩:=b6m
        obtain ⟨x1,_,v1,v2⟩:=p5 x hx
        obtain ⟨x2,_,v3,v4⟩:=q5 x hx
        refine ifT (by rw [decide_eq_false c]; rfl) ⟨_,rfl,_,rfl,l9,_,_,_,rfl,rfl,SqL.of (s49 _ _ b2),atI_nat (by rw [List.getElem?_map,b5m]; rfl),tbm,_,_,_,rfl,rfl,SqT.of (s49 _ _ q1),atI2,_,rfl,d2,_,rfl,.inl ⟨k2,Sum.inl x,.inl (s49 _ _ q4),rfl,v3.symm⟩,_,rfl,_,rfl,l7,_,_,_,rfl,rfl,SqL.of (s49 _ _ a2),atI_nat (by rw [List.getElem?_map,a5m]; rfl),tam,_,_,_,rfl,rfl,SqT.of (s49 _ _ p1),atI2,_,rfl,d1,_,rfl,.inl ⟨k1,Sum.inl x,.inl (s49 _ _ p4),rfl,v1.symm⟩,x2,x1,_,_,rfl,rfl,SqL.of (s49 _ _ v4),SqL.of (s49 _ _ v2),CNx.of (Nat.le_of_lt (small1000 (by rw [List.length_map]; lia))) hj hys upd_same ⟨_,m+1,rfl,?_,upd_upd⟩⟩
        rw [List.replicate_succ',List.map_append,show memW g.size (clr (stepS g d st)).mem x=memW g.size st.mem x from gh.mm x c,decide_eq_true rfl]; rfl
      rintro ys σ G hys ⟨v0,m,rfl,rfl,rfl⟩
      refine ⟨l,_,rfl,SqL.of upd_same,_,rfl,k' _ _ ⟨?_,same_upd hl _⟩⟩
      rw [List.any_eq_false]
      intro z hz
      rw [(List.mem_replicate.mp hz).2]; exact Bool.false_ne_true
    rintro _ G9 ⟨rfl,s14⟩
    refine ifF rfl ?_
    dsimp only [tNext]
    have go:Okf g (clr (stepS g d st)):=⟨gh.ok.len,gh.ok.nd,gh.ok.ff⟩
    exact hD' _ _ ⟨_,_,_,_,_,_,_,_,A.re e',os1,_,a5,c5,rfl,rfl,w8.same B11 s14,go,late_step gh,B11.same s14,by lia⟩
  · rintro σ G ⟨v5,v6,v7,v8,v9,v10,v11,v12,A,os,st,a',c',rfl,eA,w,_⟩
    subst e1
    exact k G w.kp
end
section
def spLaw (K:PySem.W.Frag):Sp:=fun vs H Q _=>∃ (a:Addr) (ns:List Int),vs=[.ref a]∧SqL K H a (ns.map V.int)∧ns.length≤63∧Tb K H∧∀ H',Q (.bl true) H'
theorem ok_law {f:Addr} {fd:FuncData} (F:Fun K "law" "law" s_law f fd) (T:Txt K mg) (D_box:Def P w K mg base "_law_box" 1 P_box (spBox K)) (D_folded:Def P w K mg base "_law_folded" 1 P_folded (spFolded K)) (D_right:Def P w K mg base "_law_right" 18 P_right (spRight K)):FnOk P w K mg base CX0 19 f fd P_law (spLaw K):=by
  refine F.ok sc_law (fun vs H Q E h=>?_) (fun cdv A outer st H vs Q E hr h=>?_)
  · obtain ⟨a,ns,rfl,_⟩:=h
    rfl
  obtain ⟨a,ns,rfl,hS,h63,tb,k⟩:=h
  have nd:=sc_law.nd
  have hu:=hu_of hr
  refine ⟨_,(pss_cons (pst 1 nd (pe_defN D_folded hr.m rfl (pc (pv 0) (pc pe_int pa_nil))))
      (pss_one (ps_ret (pe_callBN (call_allL rfl) rfl T.z_all boot_all (pc (pe_comp0 (compOk_of (osc:=(defScope s_law)) (oN:=N_law) (N:=["_law_k", "_law_cells"]) (own:=1) (js:=[1]) (by decide +kernel) rfl rfl) rfl (pi_range1 rfl T.z_range (pc (pe_callBN (call_max2 rfl) rfl T.z_max boot_max (pc pe_int (pc (pe_callBN (call_len_seqK (K:=K) rfl) rfl T.z_len PySem.boot_len (pc (pv 1) pa_nil)) pa_nil))) pa_nil)) (fun _ _ _ _ _ _=>(pgn 0 (show List.Nodup (["_law_k", "_law_cells"]:List Str) by decide +kernel))) (fun _ _ _ _ _ _=>(pe_defN D_right hr.m rfl (pc (pe_defN D_box hr.m rfl (pc (pv 1) (pc (pv 0) pa_nil))) pa_nil)))) pa_nil))))),?_⟩
  refine ⟨_,rfl,a,ns,3,rfl,hS,h63,by decide,by decide,fun r ms H1 hr' s1 e1 lm=>?_⟩
  have lc:(if ((ms.map V.int).length:Int) > 1 then ((ms.map V.int).length:Int) else 1)≤63:=by rw [List.length_map]; split <;> lia
  refine ⟨_,rfl,r,_,rfl,.inl (SqL.of e1),_,_,rfl,_,rfl,?_,?_,fun l hl'=>?_⟩
  · split <;> lia
  · lia
  generalize (if ((ms.map V.int).length:Int) > 1 then ((ms.map V.int).length:Int) else 1)=n at *
  have n63:n.toNat≤63:=by lia
  have nrl:r≠l:=ne_of_none e1 hl'
  have tb1:=tb.same s1
  have ntl:tabOf K "Room" "going" ≠ l:=ne_of_none tb1 hl'
  refine comp_range (lo:=0) (n:=n.toNat) (l:=l) (fun j ys σ G=>∃ v0:Option V,σ=[v0,some (.ref r)]∧ys=(List.replicate j true).map V.bl∧G l=some (.lst ys)∧G r=some (.lst (ms.map V.int))∧Tb K G)
    ⟨none,rfl,rfl,upd_same,by rw [upd_ne nrl]; exact e1,by unfold Tb; rw [upd_ne ntl]; exact tb1⟩ ?_ ?_
  · rintro j ys σ G hj hy ⟨v0,rfl,rfl,g1,g2,g3⟩
    refine ⟨_,rfl,_,rfl,r,ms,_,rfl,SqL.of g2,by lia,by lia,fun b ba bq G1 hb t1 B1=>?_⟩
    refine ⟨b,ba,bq,rfl,B1,g3.same t1,fun G2 t2=>?_⟩
    have nlb:l≠b:=ne_of_none g1 hb
    have nrb:r≠b:=ne_of_none g2 hb
    have ntb:tabOf K "Room" "going" ≠ b:=ne_of_none g3 hb
    refine CNx.of (Nat.le_trans n63 (by decide)) hj hy (t2 _ _ nlb (t1 _ _ g1)) ⟨_,rfl,by rw [List.replicate_succ',List.map_append]; rfl,upd_same,?_,?_⟩
    · rw [upd_ne nrl]
      exact t2 _ _ nrb (t1 _ _ g2)
    · unfold Tb
      rw [upd_ne ntl]
      exact t2 _ _ ntb (t1 _ _ g3)
  · rintro ys σ G hy ⟨v0,rfl,rfl,g1,g2,g3⟩
    refine ⟨l,_,rfl,SqL.of g1,?_⟩
    rw [show (List.replicate n.toNat true).all id=true by rw [List.all_eq_true]; intro z hz; rw [(List.mem_replicate.mp hz).2]; rfl]
    exact k G
end
theorem pl1 {us:List Value} {n:Nat} (h:us.length=n+1):∃ v r,us=v :: r∧r.length=n:=by
  cases us with
  | nil=>cases h
  | cons v r=>exact ⟨v,r,rfl,Nat.succ.inj h⟩
theorem ln1 {fn:Value→Value→Value→Option Addr→Value→Value→FuncData} {ps:List Str} (h:∀ a b c d e f v0,bindArgs (fn a b c d e f) ⟨[v0],[]⟩=pure (ps.zip [v0])) (hp:ps.length=1:=by rfl) (a b c:Value) (d:Option Addr) (e f:Value) (us:List Value) (hl:us.length=ps.length):bindArgs (fn a b c d e f) ⟨us,[]⟩=pure (ps.zip us):=by
  rw [hp] at hl
  obtain ⟨v0,r0,rfl,q0⟩:=pl1 hl
  cases List.eq_nil_of_length_eq_zero q0
  exact h a b c d e f v0
theorem ln2 {fn:Value→Value→Value→Option Addr→Value→Value→FuncData} {ps:List Str} (h:∀ a b c d e f v0 v1,bindArgs (fn a b c d e f) ⟨[v0,v1],[]⟩=pure (ps.zip [v0,v1])) (hp:ps.length=2:=by rfl) (a b c:Value) (d:Option Addr) (e f:Value) (us:List Value) (hl:us.length=ps.length):bindArgs (fn a b c d e f) ⟨us,[]⟩=pure (ps.zip us):=by
  rw [hp] at hl
  obtain ⟨v0,r0,rfl,q0⟩:=pl1 hl
  obtain ⟨v1,r1,rfl,q1⟩:=pl1 q0
  cases List.eq_nil_of_length_eq_zero q1
  exact h a b c d e f v0 v1
theorem ln3 {fn:Value→Value→Value→Option Addr→Value→Value→FuncData} {ps:List Str} (h:∀ a b c d e f v0 v1 v2,bindArgs (fn a b c d e f) ⟨[v0,v1,v2],[]⟩=pure (ps.zip [v0,v1,v2])) (hp:ps.length=3:=by rfl) (a b c:Value) (d:Option Addr) (e f:Value) (us:List Value) (hl:us.length=ps.length):bindArgs (fn a b c d e f) ⟨us,[]⟩=pure (ps.zip us):=by
  rw [hp] at hl
  obtain ⟨v0,r0,rfl,q0⟩:=pl1 hl
  obtain ⟨v1,r1,rfl,q1⟩:=pl1 q0
  obtain ⟨v2,r2,rfl,q2⟩:=pl1 q1
  cases List.eq_nil_of_length_eq_zero q2
  exact h a b c d e f v0 v1 v2
theorem ln4 {fn:Value→Value→Value→Option Addr→Value→Value→FuncData} {ps:List Str} (h:∀ a b c d e f v0 v1 v2 v3,bindArgs (fn a b c d e f) ⟨[v0,v1,v2,v3],[]⟩=pure (ps.zip [v0,v1,v2,v3])) (hp:ps.length=4:=by rfl) (a b c:Value) (d:Option Addr) (e f:Value) (us:List Value) (hl:us.length=ps.length):bindArgs (fn a b c d e f) ⟨us,[]⟩=pure (ps.zip us):=by
  rw [hp] at hl
  obtain ⟨v0,r0,rfl,q0⟩:=pl1 hl
  obtain ⟨v1,r1,rfl,q1⟩:=pl1 q0
  obtain ⟨v2,r2,rfl,q2⟩:=pl1 q1
  obtain ⟨v3,r3,rfl,q3⟩:=pl1 q2
  cases List.eq_nil_of_length_eq_zero q3
  exact h a b c d e f v0 v1 v2 v3
theorem ln5 {fn:Value→Value→Value→Option Addr→Value→Value→FuncData} {ps:List Str} (h:∀ a b c d e f v0 v1 v2 v3 v4,bindArgs (fn a b c d e f) ⟨[v0,v1,v2,v3,v4],[]⟩=pure (ps.zip [v0,v1,v2,v3,v4])) (hp:ps.length=5:=by rfl) (a b c:Value) (d:Option Addr) (e f:Value) (us:List Value) (hl:us.length=ps.length):bindArgs (fn a b c d e f) ⟨us,[]⟩=pure (ps.zip us):=by
  rw [hp] at hl
  obtain ⟨v0,r0,rfl,q0⟩:=pl1 hl
  obtain ⟨v1,r1,rfl,q1⟩:=pl1 q0
  obtain ⟨v2,r2,rfl,q2⟩:=pl1 q1
  obtain ⟨v3,r3,rfl,q3⟩:=pl1 q2
  obtain ⟨v4,r4,rfl,q4⟩:=pl1 q3
  cases List.eq_nil_of_length_eq_zero q4
  exact h a b c d e f v0 v1 v2 v3 v4
theorem ln6 {fn:Value→Value→Value→Option Addr→Value→Value→FuncData} {ps:List Str} (h:∀ a b c d e f v0 v1 v2 v3 v4 v5,bindArgs (fn a b c d e f) ⟨[v0,v1,v2,v3,v4,v5],[]⟩=pure (ps.zip [v0,v1,v2,v3,v4,v5])) (hp:ps.length=6:=by rfl) (a b c:Value) (d:Option Addr) (e f:Value) (us:List Value) (hl:us.length=ps.length):bindArgs (fn a b c d e f) ⟨us,[]⟩=pure (ps.zip us):=by
  rw [hp] at hl
  obtain ⟨v0,r0,rfl,q0⟩:=pl1 hl
  obtain ⟨v1,r1,rfl,q1⟩:=pl1 q0
  obtain ⟨v2,r2,rfl,q2⟩:=pl1 q1
  obtain ⟨v3,r3,rfl,q3⟩:=pl1 q2
  obtain ⟨v4,r4,rfl,q4⟩:=pl1 q3
  obtain ⟨v5,r5,rfl,q5⟩:=pl1 q4
  cases List.eq_nil_of_length_eq_zero q5
  exact h a b c d e f v0 v1 v2 v3 v4 v5
def CGF (K:PySem.W.Frag) (nm:Str) (st:Stmt):Prop:=∃ (f:Addr) (od an:Option Addr) (sl:Array (Option Value)) (oc kV dc pm cd ct:Value),PySem.W.nsIn K mainGlobals nm=some (some (.ref f))∧K.lookup f=some ⟨oc,od,.func (PySem.W.fnOf nm nm (defArgs st) (defBody st) (defScope st) .none kV dc pm an cd ct),sl⟩∧PySem.W.codeIn K cd nm=true∧PySem.W.keepIn K (.ref f)=true
def CMF (K:PySem.W.Frag) (Ca:Addr) (nm q:Str) (st:Stmt):Prop:=∃ (f:Addr) (od an:Option Addr) (sl:Array (Option Value)) (oc kV dc pm cd ct:Value),PySem.W.findIn K (.ref Ca) nm=some (some (.ref f))∧PySem.W.isFn K (.ref f)=true∧K.lookup f=some ⟨oc,od,.func (PySem.W.fnOf nm q (defArgs st) (defBody st) (defScope st) .none kV dc pm an cd ct),sl⟩∧PySem.W.codeIn K cd q=true∧PySem.W.keepIn K (.ref f)=true
theorem CGF.mk {K:PySem.W.Frag} {nm:Str} {st:Stmt} {f:Addr} {od an:Option Addr} {sl:Array (Option Value)} {oc kV dc pm cd ct:Value} (a:PySem.W.nsIn K mainGlobals nm=some (some (.ref f))) (l:K.lookup f=some ⟨oc,od,.func (PySem.W.fnOf nm nm (defArgs st) (defBody st) (defScope st) .none kV dc pm an cd ct),sl⟩) (c:PySem.W.codeIn K cd nm=true) (k:PySem.W.keepIn K (.ref f)=true):CGF K nm st:=⟨_,_,_,_,_,_,_,_,_,_,a,l,c,k⟩
theorem CMF.mk {K:PySem.W.Frag} {Ca:Addr} {nm q:Str} {st:Stmt} {f:Addr} {od an:Option Addr} {sl:Array (Option Value)} {oc kV dc pm cd ct:Value} (a:PySem.W.findIn K (.ref Ca) nm=some (some (.ref f))) (i:PySem.W.isFn K (.ref f)=true) (l:K.lookup f=some ⟨oc,od,.func (PySem.W.fnOf nm q (defArgs st) (defBody st) (defScope st) .none kV dc pm an cd ct),sl⟩) (c:PySem.W.codeIn K cd q=true) (k:PySem.W.keepIn K (.ref f)=true):CMF K Ca nm q st:=⟨_,_,_,_,_,_,_,_,_,_,a,i,l,c,k⟩
def CBs (P:Program) (w:World) (K:PySem.W.Frag) (mg:Str→Option Value) (base:Heap):Prop:=∃ h,K.In h∧h.Ns mainGlobals mg
section
variable {P:Program} {w:World} {K:PySem.W.Frag} {mg:Str→Option Value} {base:Heap} {Ca:Addr} {nm q:Str} {st:Stmt} {n:Nat} {ps:List Str} {sp:Sp} (B:CBs P w K mg base)
include B
theorem CBs.df (x:CGF K nm st) (ok:∀ {f fd},Fun K nm nm st f fd→FnOk P w K mg base CX0 n f fd ps sp) (hb:∀ (kV dc pm:Value) (an:Option Addr) (cd ct:Value) (us:List Value),us.length=ps.length→bindArgs (PySem.W.fnOf nm nm (defArgs st) (defBody st) (defScope st) .none kV dc pm an cd ct) ⟨us,[]⟩=pure (ps.zip us)):Def P w K mg base nm n ps sp:=by
  obtain ⟨f,od,an,sl,oc,kV,dc,pm,cd,ct,a,l,c,k⟩:=x
  obtain ⟨h,X,G⟩:=B
  have F:=fun_mk l c k
  exact ⟨_,_,ok F,PySem.W.mg_of X G a,F.kp,F.binds hb⟩
theorem CBs.md (x:CMF K Ca nm q st) (ok:∀ {f fd},Fun K nm q st f fd→FnOk P w K mg base CX0 n f fd ps sp) (hb:∀ (kV dc pm:Value) (an:Option Addr) (cd ct:Value) (us:List Value),us.length=ps.length→bindArgs (PySem.W.fnOf nm q (defArgs st) (defBody st) (defScope st) .none kV dc pm an cd ct) ⟨us,[]⟩=pure (ps.zip us)):MDef P w K mg base Ca nm n ps sp:=by
  obtain ⟨f,od,an,sl,oc,kV,dc,pm,cd,ct,a,i,l,c,k⟩:=x
  have F:=fun_mk l c k
  exact ⟨_,_,ok F,⟨a,i,k⟩,F.binds hb⟩
theorem CBs.kd {y:Str} (x:CMF K Ca "__init__" q st) (mk:PySem.W.makesIn K Ca=true) (kc:PySem.W.keepIn K (.ref Ca)=true) (aC:PySem.W.nsIn K mainGlobals y=some (some (.ref Ca))) (ok:∀ {f fd},Fun K "__init__" q st f fd→FnOk P w K mg base CX0 n f fd ps sp) (hb:∀ (kV dc pm:Value) (an:Option Addr) (cd ct:Value) (us:List Value),us.length=ps.length→bindArgs (PySem.W.fnOf "__init__" q (defArgs st) (defBody st) (defScope st) .none kV dc pm an cd ct) ⟨us,[]⟩=pure (ps.zip us)):KDef P w K mg base Ca y n ps sp:=by
  obtain ⟨f,od,an,sl,oc,kV,dc,pm,cd,ct,a,i,l,c,k⟩:=x
  obtain ⟨h,X,G⟩:=B
  have F:=fun_mk l c k
  exact ⟨_,_,ok F,⟨mk,a,i,kc⟩,PySem.W.mg_of X G aC,F.binds hb⟩
end
theorem all_mk {l:PySem.W.OpenLaw} {w:World} {K:PySem.W.Frag} {h:Heap} {mg:Str→Option Value} {fa:Addr} {tp cg:Addr} (X:K.In h) (G:h.Ns mainGlobals mg) (hfa:mg "law" = some (.ref fa))
    {CaRoom:Addr} (aCRoom:PySem.W.nsIn K mainGlobals "Room" = some (some (.ref CaRoom)))
    {CaStore:Addr} (aCStore:PySem.W.nsIn K mainGlobals "Store" = some (some (.ref CaStore)))
    {CaMemory:Addr} (aCMemory:PySem.W.nsIn K mainGlobals "Memory" = some (some (.ref CaMemory)))
    {CaStairs:Addr} (aCStairs:PySem.W.nsIn K mainGlobals "Stairs" = some (some (.ref CaStairs)))
    {CaSteps:Addr} (aCSteps:PySem.W.nsIn K mainGlobals "Steps" = some (some (.ref CaSteps)))
    (x0:CGF K "_law_take" s_take)
    (x1:CGF K "_law_box" s_box)
    (x2:CGF K "_law_folded" s_folded)
    (x3:CGF K "_law_some_boards" s_some_boards)
    (x4:CGF K "shelf_of" s_shelf_of)
    (x5:CMF K CaRoom "has" "Room.has" s_Room_has)
    (x6:CMF K CaRoom "mates" "Room.mates" s_Room_mates)
    (x7:CMF K CaRoom "need" "Room.need" s_Room_need)
    {f8:Addr} {od8 an8:Option Addr} {sl8:Array (Option Value)} {oc8 kV8 dc8 pm8 ct8:Value}
    (a8:PySem.W.findIn K (.ref CaRoom) "going" = some (some (.ref f8))) (i8:PySem.W.isFn K (.ref f8)=true) (l8:K.lookup f8=some ⟨oc8,od8,.func (PySem.W.fnOf "going" "Room.going" (defArgs s_Room_going) (defBody s_Room_going) (defScope s_Room_going) .none kV8 dc8 pm8 an8 (.ref cg) ct8),sl8⟩) (c8:PySem.W.codeIn K (.ref cg) "Room.going" = true) (k8:PySem.W.keepIn K (.ref f8)=true)
    (x9:CMF K CaRoom "drop" "Room.drop" s_Room_drop)
    (x10:CMF K CaRoom "use" "Room.use" s_Room_use)
    (x11:CMF K CaRoom "__init__" "Room.__init__" s_Room_init)
    (x12:CMF K CaRoom "leaver_for" "Room.leaver_for" s_Room_leaver_for)
    (x13:CMF K CaRoom "bring" "Room.bring" s_Room_bring)
    (x14:CMF K CaStore "__init__" "Store.__init__" s_Store_init)
    (x15:CMF K CaStore "has" "Store.has" s_Store_has)
    (x16:CMF K CaStore "lay" "Store.lay" s_Store_lay)
    (x17:CMF K CaStore "take_in" "Store.take_in" s_Store_take_in)
    (x18:CMF K CaStore "give_out" "Store.give_out" s_Store_give_out)
    (x19:CMF K CaStore "words_of" "Store.words_of" s_Store_words_of)
    (x20:CMF K CaStore "lay_word" "Store.lay_word" s_Store_lay_word)
    (x21:CMF K CaStore "freshen" "Store.freshen" s_Store_freshen)
    (x22:CGF K "board_of" s_board_of)
    (x23:CGF K "spots_of" s_spots_of)
    (x24:CMF K CaMemory "__init__" "Memory.__init__" s_Memory_init)
    (x25:CMF K CaMemory "words_of" "Memory.words_of" s_Memory_words_of)
    (x26:CMF K CaMemory "lay" "Memory.lay" s_Memory_lay)
    (x27:CMF K CaStairs "store" "Steps.store" s_Steps_store)
    (x28:CMF K CaStairs "words" "Steps.words" s_Steps_words)
    (x29:CMF K CaStairs "happened" "Steps.happened" s_Steps_happened)
    (x30:CMF K CaStairs "leaver" "Steps.leaver" s_Steps_leaver)
    (x31:CMF K CaStairs "tell_found" "Steps.tell_found" s_Steps_tell_found)
    (x32:CMF K CaStairs "use_in" "Steps.use_in" s_Steps_use_in)
    (x33:CMF K CaStairs "come_in" "Steps.come_in" s_Steps_come_in)
    (x34:CMF K CaStairs "go_out" "Steps.go_out" s_Steps_go_out)
    (x35:CMF K CaStairs "put" "Steps.put" s_Steps_put)
    (x36:CMF K CaStairs "word_in" "Steps.word_in" s_Steps_word_in)
    (x37:CMF K CaStairs "put_word" "Steps.put_word" s_Steps_put_word)
    {f38:Addr} {od38 an38:Option Addr} {sl38:Array (Option Value)} {oc38 kV38 dc38 pm38 cd38 ct38:Value}
    (g38:PySem.W.specialIn K (.ref CaSteps) "__getattribute__" = some (some (.builtin "type.__getattribute__"))) (r38:PySem.W.readsIn K CaSteps (.type "type")=true) (a38:PySem.W.findCls K (.ref CaSteps) (.type "type") "__init__" = some (.val (.ref f38))) (l38:K.lookup f38=some ⟨oc38,od38,.func (PySem.W.fnOf "__init__" "Steps.__init__" (defArgs s_Steps_init) (defBody s_Steps_init) (defScope s_Steps_init) .none kV38 dc38 pm38 an38 cd38 ct38),sl38⟩) (c38:PySem.W.codeIn K cd38 "Steps.__init__" = true) (k38:PySem.W.keepIn K (.ref f38)=true)
    (x39:CMF K CaStairs "__init__" "Stairs.__init__" s_Stairs_init)
    (x40:CMF K CaStairs "nearest" "Stairs.nearest" s_Stairs_nearest)
    (x41:CMF K CaStairs "go_on" "Stairs.go_on" s_Stairs_go_on)
    (x42:CMF K CaStairs "change" "Stairs.change" s_Stairs_change)
    (x43:CMF K CaStairs "drive_out" "Stairs.drive_out" s_Stairs_drive_out)
    (x44:CMF K CaStairs "fetch_down" "Stairs.fetch_down" s_Stairs_fetch_down)
    (x45:CMF K CaStairs "come_apart" "Stairs.come_apart" s_Stairs_come_apart)
    {f46:Addr} {od46 an46:Option Addr} {sl46:Array (Option Value)} {oc46 kV46 dc46 pm46 cd46 ct46:Value}
    (a46:PySem.W.findIn K (.ref CaStairs) "push" = some (some (.ref f46))) (i46:PySem.W.isFn K (.ref f46)=true) (l46:K.lookup f46=some ⟨oc46,od46,.func (PySem.W.fnOf "push" "Stairs.push" (defArgs s_Stairs_push) (defBody s_Stairs_push) (defScope s_Stairs_push) .none kV46 dc46 pm46 an46 cd46 ct46),sl46⟩) (c46:PySem.W.codeIn K cd46 "Stairs.push" = true) (k46:PySem.W.keepIn K (.ref f46)=true)
    (x47:CMF K CaStairs "fetch_apart" "Stairs.fetch_apart" s_Stairs_fetch_apart)
    (x48:CMF K CaStairs "fetch" "Stairs.fetch" s_Stairs_fetch)
    (x49:CMF K CaStairs "read" "Stairs.read" s_Stairs_read)
    (x50:CMF K CaStairs "write" "Stairs.write" s_Stairs_write)
    (x51:CGF K "_law_room_plan" s_room_plan)
    (x52:CGF K "_law_plan" s_plan)
    (x53:CGF K "_law_many" s_many)
    (x54:CGF K "_law_word" s_word)
    (x55:CGF K "_law_deed" s_deed)
    (x56:CMF K CaRoom "boards" "Room.boards" s_Room_boards)
    (x57:CMF K CaStairs "lies" "Steps.lies" s_Steps_lies)
    (x58:CMF K CaStairs "changed" "Steps.changed" s_Steps_changed)
    (x59:CGF K "_law_view" s_view)
    (x60:CGF K "_law_stair_right" s_stair_right)
    (x61:CGF K "_law_right" s_right)
    {f62:Addr} {od62 an62:Option Addr} {sl62:Array (Option Value)} {oc62 kV62 dc62 pm62 cd62 ct62:Value}
    (a62:PySem.W.nsIn K mainGlobals "law" = some (some (.ref f62))) (l62:K.lookup f62=some ⟨oc62,od62,.func (PySem.W.fnOf "law" "law" (defArgs s_law) (defBody s_law) (defScope s_law) .none kV62 dc62 pm62 an62 cd62 ct62),sl62⟩) (c62:PySem.W.codeIn K cd62 "law" = true) (k62:PySem.W.keepIn K (.ref f62)=true)
    (z_abs:PySem.W.nsIn K mainGlobals "abs" = some none)
    (z_all:PySem.W.nsIn K mainGlobals "all" = some none)
    (z_any:PySem.W.nsIn K mainGlobals "any" = some none)
    (z_dict:PySem.W.nsIn K mainGlobals "dict" = some none)
    (z_divmod:PySem.W.nsIn K mainGlobals "divmod" = some none)
    (z_enumerate:PySem.W.nsIn K mainGlobals "enumerate" = some none)
    (z_int:PySem.W.nsIn K mainGlobals "int" = some none)
    (z_len:PySem.W.nsIn K mainGlobals "len" = some none)
    (z_list:PySem.W.nsIn K mainGlobals "list" = some none)
    (z_max:PySem.W.nsIn K mainGlobals "max" = some none)
    (z_min:PySem.W.nsIn K mainGlobals "min" = some none)
    (z_range:PySem.W.nsIn K mainGlobals "range" = some none)
    (z_set:PySem.W.nsIn K mainGlobals "set" = some none)
    (z_sorted:PySem.W.nsIn K mainGlobals "sorted" = some none)
    (z_tuple:PySem.W.nsIn K mainGlobals "tuple" = some none)
    (z_zip:PySem.W.nsIn K mainGlobals "zip" = some none)
    (pgRoom:PySem.W.plainGet K CaRoom Str.empty=true) (hdRoom:PySem.W.hasDictIn K CaRoom=true) (poRoom:PySem.W.plainOver K CaRoom=true) (saRoom:PySem.W.findIn K (.ref CaRoom) "__setattr__" = some (some (.builtin "object.__setattr__"))) (mkRoom:PySem.W.makesIn K CaRoom=true) (kcRoom:PySem.W.keepIn K (.ref CaRoom)=true)
    (nRoom_places:PySem.W.findIn K (.ref CaRoom) "places" = some none)
    (nRoom_rule:PySem.W.findIn K (.ref CaRoom) "rule" = some none)
    (nRoom_shelves:PySem.W.findIn K (.ref CaRoom) "shelves" = some none)
    (nRoom_standing:PySem.W.findIn K (.ref CaRoom) "standing" = some none)
    (nRoom_uses:PySem.W.findIn K (.ref CaRoom) "uses" = some none)
    (pgStore:PySem.W.plainGet K CaStore Str.empty=true) (hdStore:PySem.W.hasDictIn K CaStore=true) (poStore:PySem.W.plainOver K CaStore=true) (saStore:PySem.W.findIn K (.ref CaStore) "__setattr__" = some (some (.builtin "object.__setattr__"))) (mkStore:PySem.W.makesIn K CaStore=true) (kcStore:PySem.W.keepIn K (.ref CaStore)=true)
    (nStore_fresh:PySem.W.findIn K (.ref CaStore) "fresh" = some none)
    (nStore_held:PySem.W.findIn K (.ref CaStore) "held" = some none)
    (nStore_late:PySem.W.findIn K (.ref CaStore) "late" = some none)
    (nStore_room:PySem.W.findIn K (.ref CaStore) "room" = some none)
    (pgMemory:PySem.W.plainGet K CaMemory Str.empty=true) (hdMemory:PySem.W.hasDictIn K CaMemory=true) (poMemory:PySem.W.plainOver K CaMemory=true) (saMemory:PySem.W.findIn K (.ref CaMemory) "__setattr__" = some (some (.builtin "object.__setattr__"))) (mkMemory:PySem.W.makesIn K CaMemory=true) (kcMemory:PySem.W.keepIn K (.ref CaMemory)=true)
    (nMemory_kept:PySem.W.findIn K (.ref CaMemory) "kept" = some none)
    (nMemory_size:PySem.W.findIn K (.ref CaMemory) "size" = some none)
    (pgStairs:PySem.W.plainGet K CaStairs Str.empty=true) (hdStairs:PySem.W.hasDictIn K CaStairs=true) (poStairs:PySem.W.plainOver K CaStairs=true) (saStairs:PySem.W.findIn K (.ref CaStairs) "__setattr__" = some (some (.builtin "object.__setattr__"))) (mkStairs:PySem.W.makesIn K CaStairs=true) (kcStairs:PySem.W.keepIn K (.ref CaStairs)=true)
    (nStairs_bottom:PySem.W.findIn K (.ref CaStairs) "bottom" = some none)
    (nStairs_events:PySem.W.findIn K (.ref CaStairs) "events" = some none)
    (nStairs_kind:PySem.W.findIn K (.ref CaStairs) "kind" = some none)
    (nStairs_last:PySem.W.findIn K (.ref CaStairs) "last" = some none)
    (nStairs_size:PySem.W.findIn K (.ref CaStairs) "size" = some none)
    (nStairs_stores:PySem.W.findIn K (.ref CaStairs) "stores" = some none)
    (ch:PySem.W.codeHdIn K cg tp=true) (kt:K.lookup tp=none)
    : tabOf K "Room" "going" = tp∧(∃ c0,PySem.W.codeHdIn K c0 tp=true)∧K.lookup tp=none∧∃ fd:FuncData,(∀ (s:Shared) (v:Value),BindsTo s fd ⟨[v],[]⟩ [("_law_script",v)])∧∀ base:Heap,K.In base→base.Ns mainGlobals mg→BMod base mg→FnOk l.prog w K mg base CX0 19 fa fd P_law (spLaw K):=by
  have e:=hfa.symm.trans (PySem.W.mg_of X G a62)
  cases e
  have hCRoom:=clsOf_eq aCRoom
  subst hCRoom
  have hCStore:=clsOf_eq aCStore
  subst hCStore
  have hCMemory:=clsOf_eq aCMemory
  subst hCMemory
  have hCStairs:=clsOf_eq aCStairs
  subst hCStairs
  have hCSteps:=clsOf_eq aCSteps
  subst hCSteps
  have T:Txt K mg:=⟨PySem.W.mg_none_of X G z_abs,PySem.W.mg_none_of X G z_all,PySem.W.mg_none_of X G z_any,PySem.W.mg_none_of X G z_dict,PySem.W.mg_none_of X G z_divmod,PySem.W.mg_none_of X G z_enumerate,PySem.W.mg_none_of X G z_int,PySem.W.mg_none_of X G z_len,PySem.W.mg_none_of X G z_list,PySem.W.mg_none_of X G z_max,PySem.W.mg_none_of X G z_min,PySem.W.mg_none_of X G z_range,PySem.W.mg_none_of X G z_set,PySem.W.mg_none_of X G z_sorted,PySem.W.mg_none_of X G z_tuple,PySem.W.mg_none_of X G z_zip,⟨pgRoom,hdRoom,poRoom,saRoom⟩,nRoom_places,nRoom_rule,nRoom_shelves,nRoom_standing,nRoom_uses,⟨pgStore,hdStore,poStore,saStore⟩,nStore_fresh,nStore_held,nStore_late,nStore_room,⟨pgMemory,hdMemory,poMemory,saMemory⟩,nMemory_kept,nMemory_size,⟨pgStairs,hdStairs,poStairs,saStairs⟩,nStairs_bottom,nStairs_events,nStairs_kind,nStairs_last,nStairs_size,nStairs_stores⟩
  have F8:=fun_mk (st:=s_Room_going) l8 c8 k8
  have b1008:=F8.binds (ps:=P_Room_going) (ln2 fun _ _ _ _ _ _ _ _=>rfl)
  have F38:=fun_mk (st:=s_Steps_init) l38 c38 k38
  have b1038:=F38.binds (ps:=P_Steps_init) (ln3 fun _ _ _ _ _ _ _ _ _=>rfl)
  have F46:=fun_mk (st:=s_Stairs_push) l46 c46 k46
  have b1046:=F46.binds (ps:=P_Stairs_push) (ln5 fun _ _ _ _ _ _ _ _ _ _ _=>rfl)
  have F62:=fun_mk (st:=s_law) l62 c62 k62
  have b1062:=F62.binds (ps:=P_law) (ln1 fun _ _ _ _ _ _ _=>rfl)
  have tq:=tabOf_eq a8 l8 rfl ch
  refine ⟨tq,⟨_,ch⟩,kt,?_⟩
  refine ⟨PySem.W.fnOf "law" "law" (defArgs s_law) (defBody s_law) (defScope s_law) .none kV62 dc62 pm62 an62 cd62 ct62,fun s v=>.of_eq rfl,fun base _ _ bm=>?_⟩
  have B:CBs l.prog w K mg base:=⟨_,X,G⟩
  have D_take:=B.df x0 (fun F=>ok_take F T ) (ln2 fun _ _ _ _ _ _ _ _=>rfl)
  have D_box:=B.df x1 (fun F=>ok_box F T ) (ln2 fun _ _ _ _ _ _ _ _=>rfl)
  have D_folded:=B.df x2 (fun F=>ok_folded F T ) (ln2 fun _ _ _ _ _ _ _ _=>rfl)
  have D_some_boards:=B.df x3 (fun F=>ok_some_boards F T D_take) (ln2 fun _ _ _ _ _ _ _ _=>rfl)
  have D_shelf_of:=B.df x4 (fun F=>ok_shelf_of F T ) (ln2 fun _ _ _ _ _ _ _ _=>rfl)
  have M_Room_has:=B.md x5 (fun F=>ok_Room_has F T ) (ln2 fun _ _ _ _ _ _ _ _=>rfl)
  have M_Room_mates:=B.md x6 (fun F=>ok_Room_mates F T D_shelf_of) (ln2 fun _ _ _ _ _ _ _ _=>rfl)
  have M_Room_need:=B.md x7 (fun F=>ok_Room_need F T M_Room_has) (ln2 fun _ _ _ _ _ _ _ _=>rfl)
  have M_Room_going:MDef l.prog w K mg base (clsOf K "Room") "going" 2 P_Room_going (spGoing K):=⟨_,_,ok_Room_going F8 rfl tq ch bm T ,⟨a8,i8,k8⟩,b1008⟩
  have M_Room_drop:=B.md x9 (fun F=>ok_Room_drop F T M_Room_need M_Room_mates) (ln2 fun _ _ _ _ _ _ _ _=>rfl)
  have M_Room_use:=B.md x10 (fun F=>ok_Room_use F T M_Room_need M_Room_mates) (ln2 fun _ _ _ _ _ _ _ _=>rfl)
  have K_Room:=B.kd x11 mkRoom kcRoom aCRoom (fun F=>ok_Room_init F T ) (ln4 fun _ _ _ _ _ _ _ _ _ _=>rfl)
  have M_Room_leaver_for:=B.md x12 (fun F=>ok_Room_leaver_for F T M_Room_mates M_Room_going) (ln2 fun _ _ _ _ _ _ _ _=>rfl)
  have M_Room_bring:=B.md x13 (fun F=>ok_Room_bring F T M_Room_has M_Room_leaver_for M_Room_mates M_Room_drop) (ln2 fun _ _ _ _ _ _ _ _=>rfl)
  have K_Store:=B.kd x14 mkStore kcStore aCStore (fun F=>ok_Store_init F T K_Room) (ln2 fun _ _ _ _ _ _ _ _=>rfl)
  have M_Store_has:=B.md x15 (fun F=>ok_Store_has F T M_Room_has) (ln2 fun _ _ _ _ _ _ _ _=>rfl)
  have M_Store_lay:=B.md x16 (fun F=>ok_Store_lay F T ) (ln3 fun _ _ _ _ _ _ _ _ _=>rfl)
  have M_Store_take_in:=B.md x17 (fun F=>ok_Store_take_in F T M_Room_bring M_Store_lay) (ln3 fun _ _ _ _ _ _ _ _ _=>rfl)
  have M_Store_give_out:=B.md x18 (fun F=>ok_Store_give_out F T M_Room_drop) (ln2 fun _ _ _ _ _ _ _ _=>rfl)
  have M_Store_words_of:=B.md x19 (fun F=>ok_Store_words_of F T M_Room_need) (ln2 fun _ _ _ _ _ _ _ _=>rfl)
  have M_Store_lay_word:=B.md x20 (fun F=>ok_Store_lay_word F T ) (ln4 fun _ _ _ _ _ _ _ _ _ _=>rfl)
  have M_Store_freshen:=B.md x21 (fun F=>ok_Store_freshen F T ) (ln2 fun _ _ _ _ _ _ _ _=>rfl)
  have D_board_of:=B.df x22 (fun F=>ok_board_of F T ) (ln2 fun _ _ _ _ _ _ _ _=>rfl)
  have D_spots_of:=B.df x23 (fun F=>ok_spots_of F T ) (ln2 fun _ _ _ _ _ _ _ _=>rfl)
  have K_Memory:=B.kd x24 mkMemory kcMemory aCMemory (fun F=>ok_Memory_init F T ) (ln2 fun _ _ _ _ _ _ _ _=>rfl)
  have M_Memory_words_of:=B.md x25 (fun F=>ok_Memory_words_of F T D_spots_of) (ln2 fun _ _ _ _ _ _ _ _=>rfl)
  have M_Memory_lay:=B.md x26 (fun F=>ok_Memory_lay F T D_spots_of) (ln3 fun _ _ _ _ _ _ _ _ _=>rfl)
  have M_Steps_store:=B.md x27 (fun F=>ok_Steps_store F T ) (ln2 fun _ _ _ _ _ _ _ _=>rfl)
  have M_Steps_words:=B.md x28 (fun F=>ok_Steps_words F T M_Memory_words_of M_Steps_store M_Store_words_of) (ln3 fun _ _ _ _ _ _ _ _ _=>rfl)
  have M_Steps_happened:=B.md x29 (fun F=>ok_Steps_happened F T ) (ln1 fun _ _ _ _ _ _ _=>rfl)
  have M_Steps_leaver:=B.md x30 (fun F=>ok_Steps_leaver F T M_Room_leaver_for) (ln3 fun _ _ _ _ _ _ _ _ _=>rfl)
  have M_Steps_tell_found:=B.md x31 (fun F=>ok_Steps_tell_found F T ) (ln2 fun _ _ _ _ _ _ _ _=>rfl)
  have M_Steps_use_in:=B.md x32 (fun F=>ok_Steps_use_in F T M_Room_use) (ln3 fun _ _ _ _ _ _ _ _ _=>rfl)
  have M_Steps_come_in:=B.md x33 (fun F=>ok_Steps_come_in F T M_Store_take_in) (ln4 fun _ _ _ _ _ _ _ _ _ _=>rfl)
  have M_Steps_go_out:=B.md x34 (fun F=>ok_Steps_go_out F T M_Store_give_out) (ln3 fun _ _ _ _ _ _ _ _ _=>rfl)
  have M_Steps_put:=B.md x35 (fun F=>ok_Steps_put F T M_Memory_lay M_Store_lay) (ln4 fun _ _ _ _ _ _ _ _ _ _=>rfl)
  have M_Steps_word_in:=B.md x36 (fun F=>ok_Steps_word_in F T M_Store_words_of D_board_of) (ln3 fun _ _ _ _ _ _ _ _ _=>rfl)
  have M_Steps_put_word:=B.md x37 (fun F=>ok_Steps_put_word F T M_Store_lay_word D_board_of) (ln4 fun _ _ _ _ _ _ _ _ _ _=>rfl)
  have C_Steps_init:CDef l.prog w K mg base "Steps" "__init__" 5 P_Steps_init (spSteps K):=⟨_,_,_,ok_Steps_init F38 T K_Store K_Memory,⟨g38,⟨_,r38,a38⟩,k38⟩,PySem.W.mg_of X G aCSteps,b1038⟩
  have K_Stairs:=B.kd x39 mkStairs kcStairs aCStairs (fun F=>ok_Stairs_init F T C_Steps_init) (ln2 fun _ _ _ _ _ _ _ _=>rfl)
  have M_Stairs_nearest:=B.md x40 (fun F=>ok_Stairs_nearest F T M_Store_has) (ln2 fun _ _ _ _ _ _ _ _=>rfl)
  have M_Stairs_go_on:=B.md x41 (fun F=>ok_Stairs_go_on F T M_Store_has M_Steps_put M_Store_freshen) (ln4 fun _ _ _ _ _ _ _ _ _ _=>rfl)
  have M_Stairs_change:=B.md x42 (fun F=>ok_Stairs_change F T M_Store_freshen M_Stairs_go_on M_Store_words_of) (ln3 fun _ _ _ _ _ _ _ _ _=>rfl)
  have M_Stairs_drive_out:=B.md x43 (fun F=>ok_Stairs_drive_out F T M_Steps_go_out M_Store_has M_Stairs_go_on) (ln3 fun _ _ _ _ _ _ _ _ _=>rfl)
  have M_Stairs_fetch_down:=B.md x44 (fun F=>ok_Stairs_fetch_down F T M_Steps_use_in M_Steps_words M_Steps_leaver M_Stairs_drive_out M_Steps_come_in) (ln3 fun _ _ _ _ _ _ _ _ _=>rfl)
  have M_Stairs_come_apart:=B.md x45 (fun F=>ok_Stairs_come_apart F T M_Steps_come_in M_Stairs_change) (ln5 fun _ _ _ _ _ _ _ _ _ _ _=>rfl)
  have M_Stairs_push:=own_Stairs_push (P:=l.prog) (w:=w) (base:=base) F46 b1046 ⟨a46,i46,k46⟩ T M_Steps_put M_Steps_leaver M_Stairs_come_apart M_Steps_go_out
  have M_Stairs_fetch_apart:=B.md x47 (fun F=>ok_Stairs_fetch_apart F T M_Steps_use_in M_Steps_words M_Steps_go_out M_Stairs_push) (ln3 fun _ _ _ _ _ _ _ _ _=>rfl)
  have M_Stairs_fetch:=B.md x48 (fun F=>ok_Stairs_fetch F T M_Stairs_nearest M_Steps_tell_found M_Stairs_fetch_apart M_Stairs_fetch_down) (ln2 fun _ _ _ _ _ _ _ _=>rfl)
  have M_Stairs_read:=B.md x49 (fun F=>ok_Stairs_read F T D_board_of M_Stairs_fetch M_Steps_word_in M_Steps_happened) (ln2 fun _ _ _ _ _ _ _ _=>rfl)
  have M_Stairs_write:=B.md x50 (fun F=>ok_Stairs_write F T D_board_of M_Stairs_fetch M_Steps_put_word M_Stairs_change M_Steps_happened) (ln3 fun _ _ _ _ _ _ _ _ _=>rfl)
  have D_room_plan:=B.df x51 (fun F=>ok_room_plan F T D_take) (ln1 fun _ _ _ _ _ _ _=>rfl)
  have D_plan:=B.df x52 (fun F=>ok_plan F T D_take D_room_plan) (ln1 fun _ _ _ _ _ _ _=>rfl)
  have D_many:=B.df x53 (fun F=>ok_many F T D_take) (ln3 fun _ _ _ _ _ _ _ _ _=>rfl)
  have D_word:=B.df x54 (fun F=>ok_word F T D_take) (ln1 fun _ _ _ _ _ _ _=>rfl)
  have D_deed:=B.df x55 (fun F=>ok_deed F T D_take D_word) (ln3 fun _ _ _ _ _ _ _ _ _=>rfl)
  have M_Room_boards:=B.md x56 (fun F=>ok_Room_boards F T ) (ln1 fun _ _ _ _ _ _ _=>rfl)
  have M_Steps_lies:=B.md x57 (fun F=>ok_Steps_lies F T M_Steps_store M_Room_boards) (ln2 fun _ _ _ _ _ _ _ _=>rfl)
  have M_Steps_changed:=B.md x58 (fun F=>ok_Steps_changed F T M_Steps_store) (ln2 fun _ _ _ _ _ _ _ _=>rfl)
  have D_view:=B.df x59 (fun F=>ok_view F T M_Steps_lies M_Steps_changed M_Steps_words) (ln3 fun _ _ _ _ _ _ _ _ _=>rfl)
  have D_stair_right:=B.df x60 (fun F=>ok_stair_right F T ) (ln6 fun _ _ _ _ _ _ _ _ _ _ _ _=>rfl)
  have D_right:=B.df x61 (fun F=>ok_right F T D_plan D_some_boards D_deed D_many K_Stairs M_Stairs_read M_Stairs_write D_view D_stair_right) (ln1 fun _ _ _ _ _ _ _=>rfl)
  exact ok_law F62 T D_box D_folded D_right
theorem walk {l:PySem.W.OpenLaw} {q:Program} {loose:List Str} {XP:(Str→Option Value)→Heap→Prop} {YP:World→Heap→Prop} {d:DefRec} {K:Params→PySem.W.Frag} {tp:Addr} (hn:l.most=some 63) (hdf:d.params.defaults=[])
    (hY:∀ (w:World) (h:Heap),YP w h→(K w.params).In h∧h.get? tp=some { cls:=.none,data:=.fields #[] })
    (F:∀ (w:World) (mg:Str→Option Value) (fa:Addr) (h:Heap),(K w.params).In h→h.Ns mainGlobals mg→mg d.name=some (.ref fa) →
      tabOf (K w.params) "Room" "going" = tp∧(∃ c0,PySem.W.codeHdIn (K w.params) c0 tp=true)∧(K w.params).lookup tp=none∧∃ fd:FuncData,(∀ (s:Shared) (u:Value),BindsTo s fd ⟨[u],[]⟩ [("_law_script",u)])∧∀ base:Heap,(K w.params).In base→base.Ns mainGlobals mg→BMod base mg→FnOk l.prog w (K w.params) mg base CX0 19 fa fd P_law (spLaw (K w.params))) :
    PySem.W.WalkO q loose XP YP l.row.toRowW d [] (fun f vs=>PySem.call f vs) :=
  L2.walk_ofT (tp:=tp) (pos:=tpos) (qual:=tqual) (G:=fun w=>tabOf (K w.params) "Room" "going" = tp) (n:=63) (k:=19) (x := "_law_script") (CX:=fun _=>CX0) (sp:=fun w=>spLaw (K w.params)) hn (by decide) hdf ⟨rfl,by decide,by decide,rfl⟩ hY F (fun _ _ a ns g hl hT hS=>⟨a,ns,rfl,hS,hl,(by unfold Tb; rw [g]; exact hT),fun _=>rfl⟩) fun _ _ _ _ _ z=>z
end Mine
namespace PySem.W.Fast
abbrev Q:=Nat
open Lean in
local macro_rules|`(command|#reduce 0)=>do
 let f:=fun (n:Name)=>`(command|def $(mkIdent (.mkSimple s!"tw{n.hash}")):ident:=Q)
 let mut r:=#[<-f `PySem.Challenge.pw_nearstairs_k29_nothing_untold]
 for (x,l) in [("o_",List.range' 43 820),("tree_",[47,91,106,121,136,151,242,243,330,379,498,581,585,699,778,862]),("sts_",[49,92,107,122,137,152,243,245,331,380,585,587,782]),("heap_",[39,46,863]),("env_",[41]),("thread_",[581,778]),("view_",[39])] do for i in l do r:=r.push (<-f (.str `PySem.Challenge.cw_nearstairs_k29_nothing_untold_holds s!"{x}{i}"))
 return mkNullNode r
#reduce 0
end PySem.W.Fast
open PySem PySem.W PyProof.Rows
set_option maxRecDepth 100000 in
set_option maxHeartbeats 0 in
theorem PySem.Challenge.cw_nearstairs_k29_nothing_untold_holds : PySem.Challenge.rw_nearstairs_k29_nothing_untold.Holds := by
  w_on; o_law; k_head; (case hw=>w_witness2)
  k_fill
  refine Mine.walk (l:=PySem.Challenge.rw_nearstairs_k29_nothing_untold) rfl rfl (fun w h Y=>⟨PySem.W.km_in_of Y,PySem.W.km_tabs_of Y _ List.mem_cons_self⟩) ?F
  case F =>
    intro w mg fa h KX G hmg
    refine' Mine.all_mk KX G hmg ?_ ?_ ?_ ?_ ?_ ?_ ?_ ?_ ?_ ?_ ?_ ?_ ?_ ?_ ?_ ?_ ?_ ?_ ?_ ?_ ?_ ?_ ?_ ?_ ?_ ?_ ?_ ?_ ?_ ?_ ?_ ?_ ?_ ?_ ?_ ?_ ?_ ?_ ?_ ?_ ?_ ?_ ?_ ?_ ?_ ?_ ?_ ?_ ?_ ?_ ?_ ?_ ?_ ?_ ?_ ?_ ?_ ?_ ?_ ?_ ?_ ?_ ?_ ?_ ?_ ?_ ?_ ?_ ?_ ?_ ?_ ?_ ?_ ?_ ?_ ?_ ?_ ?_ ?_ ?_ ?_ ?_ ?_ ?_ ?_ ?_ ?_ ?_ ?_ ?_ ?_ ?_ ?_ ?_ ?_ ?_ ?_ ?_ ?_ ?_ ?_ ?_ ?_ ?_ ?_ ?_ ?_ ?_ ?_ ?_ ?_ ?_ ?_ ?_ ?_ ?_ ?_ ?_ ?_ ?_ ?_ ?_ ?_ ?_ ?_ ?_ ?_ ?_ ?_ ?_ ?_ ?_ ?_ ?_ ?_ ?_ ?_ ?_ ?_ ?_ ?_ ?_ ?_
    all_goals try refine' Mine.CGF.mk ?_ ?_ ?_ ?_
    all_goals try refine' Mine.CMF.mk ?_ ?_ ?_ ?_ ?_
    all_goals try k_is
    all_goals kernel_rfl
