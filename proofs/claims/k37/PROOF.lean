import PyProof.Rows.All
import Wide.All
import OpenK.AllK
import Wide.FinOn
import Lean
import PyProof.EqAt
import PyProof.EqKinds
import PyProof.TupleCall
import KE.KDictSum
import KE.KTryDeep
import KE.KTryMore
import PyProof.NsDelKeeps
import PyProof.FString
import PySem.Challenge.RW_nearstairs_k37_founds_stair_by_stair
set_option Elab.async false
set_option linter.all false
set_option maxRecDepth 100000
namespace L2
open PySem PySem.Spec PyProof.Rows
abbrev Key:=Sum Int Str
def keyIs:Key→Value→Bool
  | .inl k,v=>Value.isInt k v
  | .inr x,v=>Value.isStrOf x v
def keyH (w:World):Key→Int
  | .inl k=>hashInt k
  | .inr x=>hashStr w x
theorem Zam:∀ {k:Key} {v:Value},keyIs k v=true→(∃ i t,k=Sum.inl i∧v=Value.int i t)∨(∃ x t,k=Sum.inr x∧v=Value.str x t)
  | .inl i,v,h=>by
    obtain ⟨t,e⟩:=Value.isInt_shape (k:=i) (v:=v) h
    exact .inl ⟨i,t,rfl,e⟩
  | .inr x,v,h=>by
    obtain ⟨t,e⟩:=Value.isStrOf_shape (x:=x) (v:=v) h
    exact .inr ⟨x,t,rfl,e⟩
theorem Zku (i:Int) (t:Tok):keyIs (.inl i) (.int i t)=true:=by simp [keyIs,Value.isInt]
theorem Zkv (x:Str) (t:Tok):keyIs (.inr x) (.str x t)=true:=by simp [keyIs,Value.isStrOf]
theorem Zop (a b:Int):decide ((Sum.inl a:Key)=Sum.inl b)=(a == b):=by
  by_cases e:a=b
  · subst e; simp
  · have h:¬ (Sum.inl a:Key)=Sum.inl b:=fun q=>e (Sum.inl.inj q)
    rw [decide_eq_false h]
    exact (beq_eq_false_iff_ne.mpr e).symm
theorem Zoq (a b:Str):decide ((Sum.inr a:Key)=Sum.inr b)=decide (a=b):=by
  by_cases e:a=b
  · subst e; simp
  · have h:¬ (Sum.inr a:Key)=Sum.inr b:=fun q=>e (Sum.inr.inj q)
    rw [decide_eq_false h,decide_eq_false e]
theorem Zor (a:Int) (b:Str):decide ((Sum.inl a:Key)=Sum.inr b)=false:=decide_eq_false (fun q=>nomatch q)
theorem Zos (a:Str) (b:Int):decide ((Sum.inr a:Key)=Sum.inl b)=false:=decide_eq_false (fun q=>nomatch q)
def ZaA (prog:Program) (w:World):PySem.KeyKind prog w Key where
  is:=keyIs
  hash:=keyH w
  inj:=fun v a b ha hb=>by
    rcases Zam ha with ⟨i,t,rfl,rfl⟩ | ⟨x,t,rfl,rfl⟩
    · rcases Zam hb with ⟨j,u,rfl,e⟩ | ⟨y,u,rfl,e⟩
      · injection e with e1 _; rw [e1]
      · exact nomatch e
    · rcases Zam hb with ⟨j,u,rfl,e⟩ | ⟨y,u,rfl,e⟩
      · exact nomatch e
      · injection e with e1 _; rw [e1]
  byValue:=fun k v h=>by
    rcases Zam h with ⟨i,t,rfl,rfl⟩ | ⟨x,t,rfl,rfl⟩ <;> rfl
  pyHash:=fun hv h=>by
    rcases Zam hv with ⟨i,t,rfl,rfl⟩ | ⟨x,t,rfl,rfl⟩
    · exact wpAny_pyHash_int h
    · exact wpAny_pyHash_str h
  eqBool:=fun hu hv h=>by
    rcases Zam hu with ⟨i,t,rfl,rfl⟩ | ⟨x,t,rfl,rfl⟩
    · rcases Zam hv with ⟨j,u,rfl,rfl⟩ | ⟨y,u,rfl,rfl⟩
      · rw [Zop] at h; exact wpAny_eqBool_int h
      · rw [Zor] at h; exact SeqAt.EqAt.int_str i t y u _ _ _ _ h
    · rcases Zam hv with ⟨j,u,rfl,rfl⟩ | ⟨y,u,rfl,rfl⟩
      · rw [Zos] at h; exact SeqAt.EqAt.str_int x t j u _ _ _ _ h
      · rw [Zoq] at h; exact wpAny_eqBool_str h
  «strs»:=fun k x t v h=>by
    rcases Zam h with ⟨i,u,rfl,e⟩ | ⟨y,u,rfl,e⟩
    · exact nomatch e
    · injection e with e1 _
      subst e1
      cases v <;> rfl
theorem Zic (prog:Program) (w:World) (i:Int) (t:Tok):(ZaA prog w).is (.inl i) (.int i t)=true:=Zku i t
theorem Zid (prog:Program) (w:World) (x:Str) (t:Tok):(ZaA prog w).is (.inr x) (.str x t)=true:=Zkv x t
end L2
namespace L2
open PySem PySem.Spec PyProof.Rows
inductive V where
  | non | bl (b:Bool) | int (i:Int) | str (x:Str) | byt (b:Array UInt8) | flt (b:UInt64) | ref (a:Addr) | ty (n:String)
  deriving DecidableEq
def RelV:V→Value→Prop
  | .non,u=>u=Value.none
  | .bl b,u=>u=Value.bool b
  | .int i,u=>∃ t,u=Value.int i t
  | .str x,u=>∃ t,u=Value.str x t
  | .byt b,u=>∃ t,u=Value.bytes b t
  | .flt b,u=>∃ t,u=Value.float b t
  | .ref a,u=>u=Value.ref a
  | .ty n,u=>u=Value.type n
abbrev Vals:List V→List Value→Prop:=Paired RelV
theorem Vals.length {xs:List V} {us:List Value} (r:Vals xs us):xs.length=us.length:=Paired.length r
theorem Vals.get:∀ {xs:List V} {us:List Value} {i:Nat} {x:V},Vals xs us→xs[i]?=some x→∃ u,us[i]?=some u∧RelV x u
  | _,_,_,_,.nil,e=>by simp at e
  | _,_,0,_,.cons r _,e=>by simp at e; subst e; exact ⟨_,rfl,r⟩
  | _,_,i+1,x,.cons _ t,e=>by
    obtain ⟨u,h1,h2⟩:=Vals.get (i:=i) (x:=x) t (by simpa using e)
    exact ⟨u,by simpa using h1,h2⟩
theorem Vals.set {x:V} {u:Value} (r:RelV x u):∀ {xs:List V} {us:List Value} (i:Nat),Vals xs us→Vals (xs.set i x) (us.set i u)
  | _,_,_,.nil=>.nil
  | _,_,0,.cons _ t=>.cons r t
  | _,_,i+1,.cons q t=>.cons q (Vals.set r i t)
theorem Vals.append:∀ {xs ys:List V} {us ws:List Value},Vals xs us→Vals ys ws→Vals (xs++ys) (us++ws)
  | _,_,_,_,.nil,s=>s
  | _,_,_,_,.cons r t,s=>.cons r (Vals.append t s)
theorem Vals.take:∀ {xs:List V} {us:List Value} (n:Nat),Vals xs us→Vals (xs.take n) (us.take n)
  | _,_,0,_=>.nil
  | _,_,_+1,.nil=>.nil
  | _,_,n+1,.cons r t=>.cons r (Vals.take n t)
theorem Vals.drop:∀ {xs:List V} {us:List Value} (n:Nat),Vals xs us→Vals (xs.drop n) (us.drop n)
  | _,_,0,r=>r
  | _,_,_+1,.nil=>.nil
  | _,_,n+1,.cons _ t=>Vals.drop n t
def RelO:Option V→Option Value→Prop
  | some v,some u=>RelV v u
  | none,none=>True
  | _,_=>False
def KV {κ:Type}:List (κ×V)→List (κ×Value)→Prop:=Paired fun (p:κ×V) (q:κ×Value)=>p.1=q.1∧RelV p.2 q.2
def kV:Key→V
  | .inl i=>.int i
  | .inr x=>.str x
inductive HO where
    | lst (xs:List V)
    | tup (xs:List V)
    | dK (kvs:List (Key×V)) | dT (kvs:List (List Key×V))
    | set (S:Int→Bool) (n:Nat)
    | ins (C dx:Addr) (fs:List (Str×V))
    | own (x:Addr)
    | xd (fs:List (Str×V))
    | met (f x:Addr)
    | rng (lo hi:Int)
    | frz (o:Obj) (u:HO)
    | tbl (pos:Pos) (qual:Str)
    | ext (φ:Heap→Prop)
abbrev Hp:=Addr→Option HO
def upd (H:Hp) (a:Addr) (o:HO):Hp:=fun b=>if b=a then some o else H b
theorem Za {H:Hp} {a:Addr} {o:HO}:upd H a o a=some o:=by unfold upd; rw [if_pos rfl]
theorem Zb {H:Hp} {a b:Addr} {o:HO} (h:b≠a):upd H a o b=H b:=by unfold upd; rw [if_neg h]
theorem ZdK {H:Hp} {a:Addr} {o u:HO}:upd (upd H a o) a u=upd H a u:=by
  funext b; unfold upd; split <;> rfl
theorem ne_of {H:Hp} {a b:Addr} {o u:HO} (h:H a=some o) (h':H b=some u) (d:o≠u):a≠b:=by
  intro e; subst e; rw [h] at h'; exact d (Option.some.inj h')
theorem Zd {H:Hp} {a b:Addr} {o:HO} (h:H a=some o) (h':H b=none):a≠b:=by
  intro e; subst e; rw [h] at h'; cases h'
section
variable (P:Program) (w:World)
def ObjOk (H:Hp) (h:Heap) (a:Addr):HO→Prop
  | .lst xs=>xs.length≤sizeLine∧∃ (its:List Value) (n:Nat),Vals xs its∧h.get? a=some { cls:=.type "list",data:=.seq its.toArray n }
  | .tup xs=>xs.length≤sizeLine∧∃ its:List Value,Vals xs its∧IsTup h a its.toArray
  | .dK kvs=>kvs.length≤sizeLine∧(a == sysModules)=false∧∃ vs,KV kvs vs∧h.DictOf (ZaA P w) a vs
  | .dT kvs=>kvs.length≤sizeLine∧(a == sysModules)=false∧∃ xs:List (List Key×Addr×Value),
      Paired (fun (p:List Key×V) (q:List Key×Addr×Value)=>p.1=q.1∧H q.2.1=some (.tup (p.1.map kV))∧RelV p.2 q.2.2) kvs xs ∧
      ∃ o es ep,h.get? a=some o∧o.ExactDict∧o.data=.dict es ep∧es.toList=xs.map (entryOfKey (tupleKind (ZaA P w)))∧(xs.map (·.1)).Nodup
  | .set S n=>h.SetOf (intKind P w) a S n
  | .ins C dx fs=>H dx=some (.own a)∧fs.length≤1000∧dx≠a∧h.get? a=some (PySem.W.instObj C dx) ∧
      ∃ mA,h.Ns1 dx mA∧(∀ f,RelO (fs.lookup f) (mA f))∧PySem.Within mA (fs.map (·.1))
  | .own _=>∃ o,h.get? a=some o
  | .xd fs=>∃ mA,h.Ns1 a mA∧∀ f,RelO (fs.lookup f) (mA f)
  | .rng lo hi=>∃ t u v,h.get? a=some { cls:=.type "range",data:=.fields #[.int lo t,.int hi u,.int 1 v] }
  | .frz o u=>h.get? a=some o∧ObjOk H h a u
  | .tbl pos qual=>∃ ps,h.get? a=some { cls:=.none,data:=.fields ps }∧TriplesOk ps.toList∧∀ cv,codeAmong pos ps.toList=some cv→∃ c oc vs t,cv=.ref c∧H c=some (.frz oc (.own a))∧oc.data=.fields vs∧vs[1]?=some (.str qual t)
  | .met f x=>h.get? a=some (PySem.W.methodObj (.ref f) (.ref x))
  | .ext φ=>φ h∧(∃ o,h.get? a=some o)∧∀ h1 h2:Heap,φ h1→(∀ o,h1.get? a=some o→h2.get? a=some o)→φ h2
def HOk (H:Hp) (h:Heap):Prop:=∀ a o,H a=some o→ObjOk P w H h a o
end
section
variable {P:Program} {w:World} {H H':Hp} {h h':Heap} {a:Addr} {o:HO}
theorem ObjOk.lt (x:ObjOk P w H h a o):a<h.objs.size:=by
  cases o with
  | lst xs=>obtain ⟨_,_,_,_,e⟩:=x; exact Heap.lt_size e
  | tup xs=>obtain ⟨_,_,_,p⟩:=x; exact p.lt
  | dK kvs=>obtain ⟨_,_,_,_,o,_,_,e,_⟩:=x; exact Heap.lt_size e
  | dT kvs=>obtain ⟨_,_,_,_,o,_,_,e,_⟩:=x; exact Heap.lt_size e
  | set S n=>obtain ⟨o,_,_,_,e,_⟩:=x; exact Heap.lt_size e
  | ins C dx fs=>obtain ⟨_,_,_,e,_⟩:=x; exact Heap.lt_size e
  | own y=>obtain ⟨_,e⟩:=x; exact Heap.lt_size e
  | xd fs=>obtain ⟨_,⟨_,_,_,e,_⟩,_⟩:=x; exact Heap.lt_size e
  | rng lo hi=>obtain ⟨_,_,_,e⟩:=x; exact Heap.lt_size e
  | frz ob u=>obtain ⟨e,_⟩:=x; exact Heap.lt_size e
  | tbl p q=>obtain ⟨_,e,_⟩:=x; exact Heap.lt_size e
  | met f y=>exact Heap.lt_size (show h.get? a=some _ from x)
  | ext φ=>obtain ⟨_,⟨_,e⟩,_⟩:=x; exact Heap.lt_size e
theorem Paired.mapP {α β:Type} {F G:α→β→Prop}:∀ {l₁:List α} {l₂:List β},Paired F l₁ l₂→(∀ a b,F a b→G a b)→Paired G l₁ l₂
  | _,_,.nil,_=>.nil
  | _,_,.cons r t,f=>.cons (f _ _ r) (Paired.mapP t f)
theorem ObjOk.stay (x:ObjOk P w H h a o) (k:∀ b u,(b=a∨H b=some (.own a))→h.get? b=some u→h'.get? b=some u)
    (ho:∀ b,H b=some (.own a)→H' b=some (.own a)) (ht:∀ b xs,H b=some (.tup xs)→H' b=some (.tup xs))
    (hz:∀ b oz,H b=some (.frz oz (.own a))→H' b=some (.frz oz (.own a)):=by exact fun _ _ q=>q):ObjOk P w H' h' a o:=by
  induction o with
  | lst xs=>obtain ⟨z,its,n,r,e⟩:=x; exact ⟨z,its,n,r,k _ _ (.inl rfl) e⟩
  | tup xs=>obtain ⟨z,its,r,ob,e,c⟩:=x; exact ⟨z,its,r,ob,k _ _ (.inl rfl) e,c⟩
  | dK kvs=>obtain ⟨z,y,vs,r,ob,es,ep,e,c⟩:=x; exact ⟨z,y,vs,r,ob,es,ep,k _ _ (.inl rfl) e,c⟩
  | dT kvs =>
    obtain ⟨z,y,xs,r,ob,es,ep,e,c⟩:=x
    exact ⟨z,y,xs,Paired.mapP r fun p q z=>⟨z.1,ht _ _ z.2.1,z.2.2⟩,ob,es,ep,k _ _ (.inl rfl) e,c⟩
  | set S n=>obtain ⟨ob,es,ep,t,e,c⟩:=x; exact ⟨ob,es,ep,t,k _ _ (.inl rfl) e,c⟩
  | ins C dx fs =>
    obtain ⟨d,z,ne,e,mA,⟨od,es,ep,e2,c⟩,r⟩:=x
    exact ⟨ho _ d,z,ne,k _ _ (.inl rfl) e,mA,⟨od,es,ep,k _ _ (.inr d) e2,c⟩,r⟩
  | own y=>obtain ⟨ob,e⟩:=x; exact ⟨ob,k _ _ (.inl rfl) e⟩
  | xd fs=>obtain ⟨mA,⟨od,es,ep,e,c⟩,r⟩:=x; exact ⟨mA,⟨od,es,ep,k _ _ (.inl rfl) e,c⟩,r⟩
  | rng lo hi=>obtain ⟨t,u,v,e⟩:=x; exact ⟨t,u,v,k _ _ (.inl rfl) e⟩
  | frz ob u ih=>obtain ⟨e,q⟩:=x; exact ⟨k _ _ (.inl rfl) e,ih q⟩
  | tbl p q =>
    obtain ⟨ps,e,tr,hc⟩:=x
    refine ⟨ps,k a _ (.inl rfl) e,tr,fun cv e1=>?_⟩
    obtain ⟨c,oc,vs,tt,z,e2,r⟩:=hc cv e1
    exact ⟨c,oc,vs,tt,z,hz _ _ e2,r⟩
  | met f y =>
    have e:h.get? a=some (PySem.W.methodObj (.ref f) (.ref y)):=x
    show h'.get? a=some (PySem.W.methodObj (.ref f) (.ref y))
    exact k a _ (.inl rfl) e
  | ext φ=>obtain ⟨p,⟨o,e⟩,st⟩:=x; exact ⟨st _ _ p fun o q=>k _ _ (.inl rfl) q,⟨o,k _ _ (.inl rfl) e⟩,st⟩
theorem HOk.lt (x:HOk P w H h) (e:H a=some o):a<h.objs.size:=(x a o e).lt
theorem HOk.fresh (x:HOk P w H h) (e:h.objs.size≤a):H a=none:=by
  cases q:H a with
  | none=>rfl
  | some u=>exact absurd (Nat.lt_of_lt_of_le (x.lt q) e) (Nat.lt_irrefl _)
theorem HOk.kept (x:HOk P w H h) (k:∀ b u,h.get? b=some u→h'.get? b=some u):HOk P w H h':=fun a o e =>
  (x a o e).stay (fun b u _ q=>k b u q) (fun _ q=>q) fun _ _ q=>q
theorem HOk.laid (x:HOk P w H h) (k:∀ b u,h.get? b=some u→h'.get? b=some u) (hp:h.objs.size≤a) (new:ObjOk P w (upd H a o) h' a o):HOk P w (upd H a o) h':=fun b u e=>by
  have hn:=x.fresh hp
  by_cases hb:b=a
  · subst hb; rw [Za] at e; cases e; exact new
  · rw [Zb hb] at e
    exact (x b u e).stay (fun c v _ q=>k c v q) (fun c q=>by rw [Zb (Zd q hn)]; exact q) (fun c xs q=>by rw [Zb (Zd q hn)]; exact q) fun c oz q=>by rw [Zb (Zd q hn)]; exact q
end
def Rd (H:Hp) (a:Addr) (u:HO):Prop:=H a=some u∨∃ o,H a=some (.frz o u)
theorem Rd.ok {P:Program} {w:World} {H:Hp} {h:Heap} {a:Addr} {u:HO} (r:Rd H a u) (x:HOk P w H h):ObjOk P w H h a u:=by
  rcases r with r | ⟨o,r⟩
  · exact x a u r
  · obtain ⟨_,q⟩:=x a _ r
    exact q
def Mut:Option HO→Prop
  | some (.lst _)=>True
  | some (.dK _)=>True
  | some (.dT _)=>True
  | some (.set _ _)=>True
  | some (.ins _ _ _)=>True
  | some (.ext _)=>True
  | _=>False
section
variable {P:Program} {w:World} {H:Hp} {h h':Heap} {x e:Addr} {o':HO}
theorem HOk.write (ok:HOk P w H h) (mu:Mut (H x)) (he:e=x∨H e=some (.own x)) (k:∀ b u,b≠e→h.get? b=some u→h'.get? b=some u) (heo:∃ u,h'.get? e=some u)
    (new:ObjOk P w (upd H x o') h' x o'):HOk P w (upd H x o') h':=fun b u q=>by
  have nown:∀ c y,H c=some (.own y)→c≠x:=fun c y r z=>by subst z; rw [r] at mu; exact mu
  have ntup:∀ c xs,H c=some (.tup xs)→c≠x:=fun c xs r z=>by subst z; rw [r] at mu; exact mu
  by_cases hb:b=x
  · subst hb; rw [Za] at q; cases q; exact new
  · rw [Zb hb] at q
    by_cases hbe:b=e
    · have q':H b=some (.own x):=by
        rcases he with z | z
        · exact absurd (hbe.trans z) hb
        · rw [hbe]; exact z
      rw [q] at q'; cases q'
      obtain ⟨v,hv⟩:=heo
      exact ⟨v,by rw [hbe]; exact hv⟩
    · refine (ok b u q).stay (fun c v hc r=>k c v ?_ r) (fun c r=>by rw [Zb (nown c b r)]; exact r) (fun c xs r=>by rw [Zb (ntup c xs r)]; exact r) fun c oz r=>by rw [Zb (fun z=>by subst z; rw [r] at mu; exact mu)]; exact r
      rcases hc with rfl | hc
      · exact hbe
      · rintro rfl
        rcases he with z | z
        · exact nown c b hc z
        · rw [hc] at z; cases z; exact hb rfl
end
structure Un (fs ex:List Addr) (H H':Hp) (h h':Heap):Prop where
  keep:∀ b o,h.get? b=some o→H b=none→b∉fs→b∉ex→h'.get? b=some o
  slot:∀ b o,h.get? b=some o→H b=none→b∈fs→b∉ex→∃ sl,h'.get? b=some { o with slots:=sl }
  free:∀ b o,h.get? b=some o→H b=none→b∉ex→H' b=none
  there:∀ b o,h.get? b=some o→b∉ex→∃ o',h'.get? b=some o'
  tups:∀ b xs,H b=some (.tup xs)→H' b=some (.tup xs)
  frzs:∀ b o u,H b=some (.frz o u)→H' b=some (.frz o u)
  tbls:∀ b p q,H b=some (.tbl p q)→H' b=some (.tbl p q)
section
variable {fs fs' ex ex':List Addr} {H H1 H2:Hp} {h h1 h2 h':Heap} {a x e:Addr} {o:HO}
theorem Un.any (u:Un fs ex H H1 h h1) {b:Addr} {ob:Obj} (q:h.get? b=some ob) (n:H b=none) (hx:b∉ex):∃ sl,h1.get? b=some { ob with slots:=sl }:=by
  by_cases hb:b∈fs
  · exact u.slot b ob q n hb hx
  · exact ⟨ob.slots,u.keep b ob q n hb hx⟩
theorem Un.kept (k:∀ b u,h.get? b=some u→h'.get? b=some u):Un fs ex H H h h' :=
  ⟨fun b ob q _ _ _=>k b ob q,fun b ob q _ _ _=>⟨ob.slots,k b ob q⟩,fun _ _ _ n _=>n,fun b ob q _=>⟨ob,k b ob q⟩,fun _ _ q=>q,fun _ _ _ q=>q,fun _ _ _ q=>q⟩
theorem Un.refl:Un fs ex H H h h:=Un.kept fun _ _ q=>q
theorem Un.laid (k:∀ b u,h.get? b=some u→h'.get? b=some u) (hp:h.objs.size≤a) (hn:H a=none):Un fs ex H (upd H a o) h h' where
  keep:=fun b u q _ _ _=>k b u q
  slot:=fun b u q _ _ _=>⟨u.slots,k b u q⟩
  free:=fun b u q n _=>by rw [Zb (Nat.ne_of_lt (Nat.lt_of_lt_of_le (Heap.lt_size q) hp))]; exact n
  there:=fun b u q _=>⟨u,k b u q⟩
  tups:=fun b xs q=>by rw [Zb (Zd q hn)]; exact q
  frzs:=fun b u xs q=>by rw [Zb (Zd q hn)]; exact q
  tbls:=fun b _ _ q=>by rw [Zb (Zd q hn)]; exact q
theorem Un.write (mu:Mut (H x)) (he:e=x∨H e=some (.own x)) (k:∀ b u,b≠e→h.get? b=some u→h'.get? b=some u) (heo:∃ u,h'.get? e=some u):Un fs ex H (upd H x o) h h':=by
  have hx:∀ b,H b=none→b≠x:=fun b n z=>by subst z; rw [n] at mu; exact mu
  have hb:∀ b,H b=none→b≠e:=fun b n z=>by
    subst z
    rcases he with r | r
    · exact hx b n r
    · rw [n] at r; cases r
  have hm:∀ b u,H b=some u→¬ Mut (some u)→b≠x:=fun b u q nm z=>by subst z; rw [q] at mu; exact nm mu
  refine ⟨fun b u q n _ _=>k b u (hb b n) q,fun b u q n _ _=>⟨u.slots,k b u (hb b n) q⟩,fun b u q n _=>by rw [Zb (hx b n)]; exact n,fun b u q _=>?_,
    fun b xs q=>by rw [Zb (hm b _ q fun z=>z)]; exact q,fun b u xs q=>by rw [Zb (hm b _ q fun z=>z)]; exact q,fun b _ _ q=>by rw [Zb (hm b _ q fun z=>z)]; exact q⟩
  by_cases hbe:b=e
  · subst hbe; exact heo
  · exact ⟨u,k b u hbe q⟩
end
def trk (h:Heap) (H:Hp):List Addr:=(List.range h.objs.size).filter fun a=>(H a).isSome
def hidT (h:Heap) (H:Hp):Heap:=PySem.W.hideAll h (trk h H)
theorem Zkw (h:Heap) (H:Hp):(hidT h H).objs.size=h.objs.size:=PySem.W.hideAll_size _ _
theorem ZfY {h:Heap} {H:Hp} {b:Addr} {o:Obj} (e:h.get? b=some o) (n:H b=none):(hidT h H).get? b=some o :=
  PySem.W.hideAll_get _ e fun hm=>by
    have q:(H b).isSome=true:=(List.mem_filter.mp hm).2
    rw [n] at q; simp at q
theorem Znz {h:Heap} {H:Hp} {b:Addr} {o:Obj} (e:(hidT h H).get? b=some o):h.get? b=some o∧H b=none:=by
  have e':h.get? b=some o:=PySem.W.of_hideAll (trk h H) e
  refine ⟨e',?_⟩
  cases q:H b with
  | none=>rfl
  | some x =>
    have hm:b∈trk h H:=List.mem_filter.mpr ⟨List.mem_range.mpr (Heap.lt_size e'),by simp [q]⟩
    have z:(hidT h H).get? b=none:=PySem.W.hideAll_none (trk h H) hm
    rw [z] at e; cases e
end L2
namespace L2
open PySem PySem.Spec PyProof.Rows
structure Mod (K:PySem.W.Frag) (mg:Str→Option Value) (base:Heap):Prop where
  kin:K.In base
  glob:base.Ns mainGlobals mg
  blt:∃ mb,base.Ns builtinsNs mb∧∀ x:Str,x ≠ "__name__" → mb x=bootBuiltins x
  nolimit:base.NoLimit
structure Cx where
  prog:Program
  w:World
  K:PySem.W.Frag
  mg:Str→Option Value
  base:Heap
  A:Around
  N:List Str
  s₀:Shared
  H₀:Hp
  env:Env
  outer:List Env
  stack:List Env
  ex:List Addr
  fn:Str→Bool
  calm:Bool
  pn:List (Addr×Obj)
  xe:Value→Shared→Prop
def frs (l:List Env):List Addr:=l.filterMap (·.frame)
abbrev Cx.fs (X:Cx):List Addr:=frs X.outer
def Vis (sc:Scope) (x:Str):Prop:=sc.names.lookup x=some .local∨sc.names.lookup x=some .cell∨sc.names.lookup x=some .free
def Loc (sc:Scope) (x:Str):Prop:=sc.names.lookup x=some .local∨sc.names.lookup x=some .cell
def Look (env:Env) (h:Heap) (m:Str→Option Value) (x:Str) (u:Value):Prop :=
  (env.kindOf x=some .local∧m x=some u)∨((env.kindOf x=some .cell∨env.kindOf x=some .free)∧∃ c,env.cells.lookup x=some c∧h.IsCell c (some u))
structure Cx.Ok (X:Cx):Prop where
  mod:Mod X.K X.mg X.base
  kind:X.env.scope.kind=.function
  glob:X.env.globals=mainGlobals
  blt:X.env.builtins=builtinsNs
  above:X.s₀.heap.objs.size≤X.env.locals
  inj:∀ x y c,X.env.cells.lookup x=some c→X.env.cells.lookup y=some c→x=y
  has:∀ x,(X.env.kindOf x=some .cell∨X.env.kindOf x=some .free)→∃ c,X.env.cells.lookup x=some c
  cab:∀ x c,X.fn x=true→X.env.cells.lookup x=some c→X.s₀.heap.objs.size≤c
  hd:X.calm=true→X.A.handled=none
  frames:X.A.frames=some X.stack
  stk:X.stack=X.outer∨(X.stack=X.env :: X.outer∧X.env.frame=some X.env.locals)
  exf:∀ b∈X.ex,b≠X.env.locals∧∀ x c,X.env.cells.lookup x=some c→c≠b
  bs:∀ b o,X.base.get? b=some o→X.s₀.heap.get? b=some o∧X.H₀ b=none
  bsz:X.base.objs.size≤X.s₀.heap.objs.size
  noex:∀ b o,X.base.get? b=some o→b∉X.ex
  exfs:∀ b∈X.ex,b∉X.fs
  funs:X.s₀.heap.FunFrames X.base X.outer
  frf:∀ b∈X.fs,X.H₀ b=none
structure Inv (X:Cx) (pins:List (Addr×Obj)) (σ:List (Option V)) (H:Hp) (s:Shared):Prop where
  ok:X.Ok
  os:s.os=X.s₀.os
  bare:AllBare s.gens
  base:Un X.fs X.ex X.H₀ H X.s₀.heap s.heap
  loc:∃ m,s.heap.Ns X.env.locals m∧∀ (i:Nat) (x:Str) (v:V),X.N[i]?=some x→σ[i]?=some (some v)→Vis X.env.scope x→∃ u,RelV v u∧Look X.env s.heap m x u
  cell:∀ x c,X.env.cells.lookup x=some c→∃ v,s.heap.IsCell c v
  free:H X.env.locals=none
  freeC:∀ x c,X.env.cells.lookup x=some c→H c=none
  pin:∀ p∈X.pn++pins,s.heap.get? p.1=some p.2∧H p.1=none∧p.1≠X.env.locals∧p.1∉X.fs∧∀ v,p.2.data≠.cell v
  hok:HOk X.prog X.w H s.heap
  len:σ.length=X.N.length
section
variable {X:Cx} {pins:List (Addr×Obj)} {σ:List (Option V)} {H H':Hp} {s:Shared} {h':Heap}
theorem Cx.Ok.nofr (ok:X.Ok) {b:Addr} {o:Obj} (e:X.base.get? b=some o):b∉X.fs:=fun hb=>by
  have:=(ok.funs.mem hb).1
  rw [e] at this; cases this
theorem Inv.bs (I:Inv X pins σ H s):∀ b o,X.base.get? b=some o→s.heap.get? b=some o∧H b=none:=fun b o e =>
  ⟨I.base.keep b o (I.ok.bs b o e).1 (I.ok.bs b o e).2 (I.ok.nofr e) (I.ok.noex b o e),I.base.free b o (I.ok.bs b o e).1 (I.ok.bs b o e).2 (I.ok.noex b o e)⟩
theorem Inv.bk (I:Inv X pins σ H s):∀ b o,X.base.get? b=some o→s.heap.get? b=some o:=fun b o e=>(I.bs b o e).1
theorem Inv.mod (I:Inv X pins σ H s):Mod X.K X.mg X.base:=I.ok.mod
theorem Inv.kIn (I:Inv X pins σ H s):X.K.In s.heap:=I.ok.mod.kin.keeps I.bk
theorem Inv.nolimit (I:Inv X pins σ H s):s.heap.NoLimit:=I.ok.mod.nolimit.keeps I.bk
theorem Inv.lt (I:Inv X pins σ H s):X.env.locals<s.heap.objs.size:=let ⟨_,hn,_⟩:=I.loc; hn.lt
theorem Inv.sz (I:Inv X pins σ H s):X.s₀.heap.objs.size≤s.heap.objs.size:=Nat.le_trans I.ok.above (Nat.le_of_lt I.lt)
theorem Inv.nofs (I:Inv X pins σ H s) {a:Addr} (h:s.heap.objs.size≤a):a∉X.fs:=fun hb=>by
  obtain ⟨_,o,ho,_⟩:=I.ok.funs.mem hb
  exact absurd (Nat.lt_of_lt_of_le (Heap.lt_size ho) (Nat.le_trans I.sz h)) (Nat.lt_irrefl _)
theorem Inv.cne (I:Inv X pins σ H s):∀ x c,X.env.cells.lookup x=some c→c≠X.env.locals:=fun x c e z=>by
  obtain ⟨v,o,ho,hd⟩:=I.cell x c e
  obtain ⟨m,⟨o',es,ep,ho',hd',_⟩,_⟩:=I.loc
  rw [z,ho'] at ho; cases ho; rw [hd'] at hd; cases hd
theorem Inv.funs (I:Inv X pins σ H s):s.heap.FunFrames X.base X.outer:=by
  have all:∀ (l:List Env),(∀ b∈frs l,b∈X.fs)→X.s₀.heap.FunFrames X.base l→s.heap.FunFrames X.base l:=by
    intro l
    induction l with
    | nil=>intro _ _; trivial
    | cons env r ih =>
      intro hs hl
      obtain ⟨hk,⟨L,o,hf,hn,ho,hd⟩,hr⟩:=hl
      have hL:L∈X.fs:=hs L (by unfold frs; rw [List.filterMap_cons,hf]; exact List.mem_cons_self)
      obtain ⟨sl,e⟩:=I.base.slot L o ho (I.ok.frf L hL) hL fun z=>I.ok.exfs L z hL
      exact ⟨hk,⟨L,_,hf,hn,e,hd⟩,ih (fun b hb=>hs b (by unfold frs; rw [List.filterMap_cons,hf]; exact List.mem_cons_of_mem _ hb)) hr⟩
  exact all X.outer (fun _ hb=>hb) I.ok.funs
theorem Inv.stack (I:Inv X pins σ H s):s.heap.FunFrames X.base X.stack:=by
  rcases I.ok.stk with e | ⟨e,hf⟩
  · rw [e]; exact I.funs
  · rw [e]
    obtain ⟨m,hn,_⟩:=I.loc
    refine .cons (by rw [I.ok.kind]; decide) hf hn ?_ I.funs
    exact Heap.get?_none_of_le (Nat.le_trans I.ok.bsz I.ok.above)
theorem Inv.stkSub (I:Inv X pins σ H s):∀ b∈frs X.stack,b∈X.env.locals :: X.fs:=fun b hb=>by
  rcases I.ok.stk with e | ⟨e,hf⟩
  · rw [e] at hb; exact List.mem_cons_of_mem _ hb
  · rw [e] at hb
    unfold frs at hb
    rw [List.filterMap_cons,hf] at hb
    exact hb
theorem Inv.stkFree (I:Inv X pins σ H s):∀ b∈frs X.stack,H b=none:=fun b hb=>by
  rcases List.mem_cons.mp (I.stkSub b hb) with e | hb
  · rw [e]; exact I.free
  · obtain ⟨_,o,ho,_⟩:=I.ok.funs.mem hb
    exact I.base.free b o ho (I.ok.frf b hb) fun z=>I.ok.exfs b z hb
theorem Inv.step {g':Array GenState} {t':Nat} {d':Drawn} {ch:List Addr} (I:Inv X pins σ H s)
    (hch:∀ b∈ch,(b∈X.ex∨X.s₀.heap.objs.size≤b)∧b≠X.env.locals∧(∀ x c,X.env.cells.lookup x=some c→c≠b)∧∀ p∈X.pn++pins,p.1≠b)
    (keep:∀ b o,b≠X.env.locals→b∉X.fs→b∉ch→s.heap.get? b=some o→H b=none→h'.get? b=some o)
    (slot:∀ b o,b≠X.env.locals→b∈X.fs→b∉ch→s.heap.get? b=some o→H b=none→∃ sl,h'.get? b=some { o with slots:=sl }) (free:∀ b o,b∉ch→s.heap.get? b=some o→H b=none→H' b=none)
    (there:∀ b o,b∉ch→s.heap.get? b=some o→∃ o',h'.get? b=some o')
    (tups:∀ b xs,H b=some (.tup xs)→H' b=some (.tup xs)) (frzs:∀ b o u,H b=some (.frz o u)→H' b=some (.frz o u)) (tbls:∀ b p q,H b=some (.tbl p q)→H' b=some (.tbl p q))
    (ns:∀ m,s.heap.Ns X.env.locals m→h'.Ns X.env.locals m) (hok:HOk X.prog X.w H' h') (hg:AllBare g') :
    Inv X pins σ H' { s with heap:=h',gens:=g',drawn:=d',toks:=t' }:=by
  have neL:∀ b o,X.s₀.heap.get? b=some o→b≠X.env.locals:=fun b o e=>Nat.ne_of_lt (Nat.lt_of_lt_of_le (Heap.lt_size e) I.ok.above)
  have neC:∀ b o,X.s₀.heap.get? b=some o→b∉X.ex→b∉ch:=fun b o e hx hb=>by
    rcases (hch b hb).1 with z | z
    · exact hx z
    · exact absurd (Nat.lt_of_lt_of_le (Heap.lt_size e) z) (Nat.lt_irrefl _)
  have cellK:∀ x c,X.env.cells.lookup x=some c→∀ v,s.heap.IsCell c v→h'.IsCell c v:=fun x c e v ⟨o,ho,hd⟩=>by
    have nch:c∉ch:=fun z=>(hch c z).2.2.1 x c e rfl
    by_cases hc:c∈X.fs
    · obtain ⟨sl,q⟩:=slot c o (I.cne x c e) hc nch ho (I.freeC x c e)
      exact ⟨_,q,hd⟩
    · exact ⟨o,keep c o (I.cne x c e) hc nch ho (I.freeC x c e),hd⟩
  refine ⟨I.ok,I.os,hg,⟨fun b o e n hb hx=>?_,fun b o e n hb hx=>?_,fun b o e n hx=>?_,fun b o e hx=>?_,fun b xs e=>tups b xs (I.base.tups b xs e),fun b o xs e=>frzs b o xs (I.base.frzs b o xs e),fun b p r e=>tbls b p r (I.base.tbls b p r e)⟩,?_,fun x c e=>?_,?_,fun x c e=>?_,fun p hp=>?_,hok,I.len⟩
  · exact keep b o (neL b o e) hb (neC b o e hx) (I.base.keep b o e n hb hx) (I.base.free b o e n hx)
  · obtain ⟨sl,e1⟩:=I.base.slot b o e n hb hx
    obtain ⟨sl',e2⟩:=slot b _ (neL b o e) hb (neC b o e hx) e1 (I.base.free b o e n hx)
    exact ⟨sl',e2⟩
  · obtain ⟨o',e1⟩:=I.base.there b o e hx
    exact free b o' (neC b o e hx) e1 (I.base.free b o e n hx)
  · obtain ⟨o',e1⟩:=I.base.there b o e hx
    exact there b o' (neC b o e hx) e1
  · obtain ⟨m,hn,hl⟩:=I.loc
    refine ⟨m,ns m hn,fun i x v e1 e2 e3=>?_⟩
    obtain ⟨u,r,l⟩:=hl i x v e1 e2 e3
    refine ⟨u,r,?_⟩
    rcases l with l | ⟨k,c,e,z⟩
    · exact .inl l
    · exact .inr ⟨k,c,e,cellK x c e _ z⟩
  · obtain ⟨v,z⟩:=I.cell x c e
    exact ⟨v,cellK x c e v z⟩
  · obtain ⟨m,⟨o,_,_,ho,_⟩,_⟩:=I.loc
    exact free _ o (fun z=>(hch _ z).2.1 rfl) ho I.free
  · obtain ⟨v,o,ho,hd⟩:=I.cell x c e
    exact free c o (fun z=>(hch c z).2.2.1 x c e rfl) ho (I.freeC x c e)
  · obtain ⟨e,n,ne,nf,d⟩:=I.pin p hp
    have nch:p.1∉ch:=fun z=>(hch p.1 z).2.2.2 p hp rfl
    exact ⟨keep p.1 p.2 ne nf nch e n,free p.1 p.2 nch e n,ne,nf,d⟩
theorem Inv.un {t':Nat} (I:Inv X pins σ H s) (u:Un X.fs [] H H' s.heap h') (hok:HOk X.prog X.w H' h'):Inv X pins σ H' { s with heap:=h',toks:=t' }:=by
  obtain ⟨m,⟨o,es,ep,ho,r⟩,_⟩:=id I.loc
  obtain ⟨sl,hL⟩:=u.any ho I.free (by simp)
  exact I.step (g':=s.gens) (d':=s.drawn) (ch:=[]) (fun _ z=>nomatch z) (fun b o _ hb _ e n=>u.keep b o e n hb (by simp)) (fun b o _ hb _ e n=>u.slot b o e n hb (by simp)) (fun b o _ e n=>u.free b o e n (by simp)) (fun b o _ e=>u.there b o e (by simp)) u.tups u.frzs u.tbls (fun m' hm=>by
    obtain ⟨o',es',ep',ho',r'⟩:=hm
    rw [ho] at ho'; cases ho'
    exact ⟨_,es',ep',hL,r'⟩) hok I.bare
theorem Inv.call {g':Array GenState} {t':Nat} {d':Drawn} {ch:List Addr} (I:Inv X pins σ H s) (u:Un (frs X.stack) ch H H' s.heap h') (hok:HOk X.prog X.w H' h') (hg:AllBare g')
    (hch:∀ b∈ch,(b∈X.ex∨X.s₀.heap.objs.size≤b)∧b≠X.env.locals∧(∀ x c,X.env.cells.lookup x=some c→c≠b)∧∀ p∈X.pn++pins,p.1≠b) :
    Inv X pins σ H' { s with heap:=h',gens:=g',drawn:=d',toks:=t' }:=by
  obtain ⟨m,⟨o,es,ep,ho,r⟩,_⟩:=id I.loc
  obtain ⟨sl,hL⟩:=u.any ho I.free fun z=>(hch _ z).2.1 rfl
  exact I.step (ch:=ch) hch (fun b o hL hb hc e n=>u.keep b o e n (fun z=>(List.mem_cons.mp (I.stkSub b z)).elim hL hb) hc) (fun b o _ _ hc e n=>u.any e n hc) (fun b o hc e n=>u.free b o e n hc) (fun b o hc e=>u.there b o e hc) u.tups u.frzs u.tbls (fun m' hm=>by
    obtain ⟨o',es',ep',ho',r'⟩:=hm
    rw [ho] at ho'; cases ho'
    exact ⟨_,es',ep',hL,r'⟩) hok hg
theorem Inv.turned {t':Nat} {it:Addr} (I:Inv X pins σ H s) (k:∀ b o,b≠it→s.heap.get? b=some o→h'.get? b=some o) (hn:H it=none) (hL:it≠X.env.locals)
    (h1:it∈X.ex∨X.s₀.heap.objs.size≤it) (h2:∀ x c,X.env.cells.lookup x=some c→c≠it) (h3:∀ p∈X.pn++pins,p.1≠it):Inv X pins σ H { s with heap:=h',toks:=t' }:=by
  have nit:∀ b u,H b=some u→b≠it:=fun b u e z=>by rw [z,hn] at e; cases e
  refine I.step (g':=s.gens) (d':=s.drawn) (ch:=[it]) (fun b hb=>?_) (fun b o _ _ hc e _=>k b o (fun z=>hc (by simp [z])) e) (fun b o _ _ hc e _=>⟨o.slots,k b o (fun z=>hc (by simp [z])) e⟩) (fun _ _ _ _ n=>n)
    (fun b o hc e=>⟨o,k b o (fun z=>hc (by simp [z])) e⟩) (fun _ _ e=>e) (fun _ _ _ e=>e) (fun _ _ _ e=>e) (fun m hm=>?_) (fun b u e=>?_) I.bare
  · have e:b=it:=by simpa using hb
    subst e
    exact ⟨h1,hL,h2,h3⟩
  · obtain ⟨o,es,ep,ho,r⟩:=hm
    exact ⟨o,es,ep,k _ o (Ne.symm hL) ho,r⟩
  · refine (I.hok b u e).stay (fun c v hc q=>k c v ?_ q) (fun _ q=>q) fun _ _ q=>q
    rcases hc with z | z
    · rw [z]; exact nit b u e
    · exact nit c _ z
theorem Inv.tok (I:Inv X pins σ H s) (t:Nat):Inv X pins σ H { s with toks:=t }:=I.un (h':=s.heap) (t':=t) Un.refl I.hok
theorem Inv.kept {t':Nat} (I:Inv X pins σ H s) (k:∀ b u,s.heap.get? b=some u→h'.get? b=some u):Inv X pins σ H { s with heap:=h',toks:=t' }:=I.un (Un.kept k) (I.hok.kept k)
theorem Inv.laid {a:Addr} {o:HO} {t':Nat} (I:Inv X pins σ H s) (k:∀ b u,s.heap.get? b=some u→h'.get? b=some u) (hp:s.heap.objs.size≤a) (new:ObjOk X.prog X.w (upd H a o) h' a o) :
    Inv X pins σ (upd H a o) { s with heap:=h',toks:=t' }:=I.un (Un.laid k hp (I.hok.fresh hp)) (I.hok.laid k hp new)
theorem Inv.write {x e:Addr} {o:HO} {t':Nat} (I:Inv X pins σ H s) (mu:Mut (H x)) (he:e=x∨H e=some (.own x)) (k:∀ b u,b≠e→s.heap.get? b=some u→h'.get? b=some u) (heo:∃ u,h'.get? e=some u)
    (new:ObjOk X.prog X.w (upd H x o) h' x o):Inv X pins σ (upd H x o) { s with heap:=h',toks:=t' }:=I.un (Un.write mu he k heo) (I.hok.write mu he k heo new)
theorem Inv.pins_of {pins':List (Addr×Obj)} (I:Inv X pins σ H s) (h:∀ p∈pins',s.heap.get? p.1=some p.2∧H p.1=none∧p.1≠X.env.locals∧p.1∉X.fs∧∀ v,p.2.data≠.cell v):Inv X pins' σ H s :=
  ⟨I.ok,I.os,I.bare,I.base,I.loc,I.cell,I.free,I.freeC,fun p hp=>(List.mem_append.mp hp).elim (fun z=>I.pin p (List.mem_append_left _ z)) (h p),I.hok,I.len⟩
theorem ZiU {N:List Str} (hN:N.Nodup) {i j:Nat} {x:Str} (a:N[i]?=some x) (b:N[j]?=some x):i=j:=by
  obtain ⟨h1,e1⟩:=List.getElem?_eq_some_iff.mp a
  obtain ⟨h2,e2⟩:=List.getElem?_eq_some_iff.mp b
  exact (List.getElem_inj hN).mp (e1.trans e2.symm)
theorem ZgX {M:Model} {A:Around} {E:Value→Shared→Prop} {i:Nat} {x:Str} {v:V} {u:Value} {Q:Unit→Shared→Prop} (I:Inv X pins σ H s) (hN:X.N.Nodup) (hi:X.N[i]?=some x) (hx:Loc X.env.scope x) (r:RelV v u)
    (h:∀ s',Inv X pins (σ.set i (some v)) H s'→(∃ a,Heap.SameBut a s.heap s'.heap∧(a=X.env.locals∨X.env.cells.lookup x=some a))→Q () s') (hf:X.fn x=true∨X.env.scope.names.lookup x=some .local:=by first | exact .inl rfl | exact .inr rfl | assumption):wpAny M A (storeName X.env x u) Q E s:=by
  obtain ⟨m,hn,hl⟩:=id I.loc
  have hcls:(X.env.scope.kind == .class || (X.env.scope.kind == .module && X.env.locals != X.env.globals))=false:=by rw [I.ok.kind]; rfl
  have hiσ:i<σ.length:=by rw [I.len]; exact (List.getElem?_eq_some_iff.mp hi).1
  have cne:=I.cne
  have tracked:∀ {a:Addr} {h':Heap},(∃ o,s.heap.get? a=some o∧H a=none)→Heap.SameBut a s.heap h'→HOk X.prog X.w H h':=fun {a h'} ha hs b ob e=>by
    obtain ⟨_,_,hfree⟩:=ha
    refine (I.hok b ob e).stay (fun c w' hc q=>(hs.2 c ?_).trans q) (fun _ q=>q) fun _ _ q=>q
    rintro rfl
    rcases hc with rfl | hc
    · rw [hfree] at e; cases e
    · rw [hfree] at hc; cases hc
  rcases hx with hk | hk
  · refine wpAny_storeName_local hk hn (fun h' hn' hs=>?_) hcls
    obtain ⟨oL,_,_,hoL,_⟩:=id hn
    refine h _ ⟨I.ok,I.os,I.bare,⟨fun b o e n hb hx=>?_,fun b o e n hb hx=>?_,I.base.free,fun b o e hx=>?_,I.base.tups,I.base.frzs,I.base.tbls⟩,⟨_,hn',fun j y v' e1 e2 e3=>?_⟩,fun y c e=>?_,I.free,I.freeC,fun p hp=>?_,tracked ⟨oL,hoL,I.free⟩ hs,by simpa using I.len⟩ ⟨_,hs,.inl rfl⟩
    · exact (hs.2 b (Nat.ne_of_lt (Nat.lt_of_lt_of_le (Heap.lt_size e) I.ok.above))).trans (I.base.keep b o e n hb hx)
    · obtain ⟨sl,e1⟩:=I.base.slot b o e n hb hx
      exact ⟨sl,(hs.2 b (Nat.ne_of_lt (Nat.lt_of_lt_of_le (Heap.lt_size e) I.ok.above))).trans e1⟩
    · obtain ⟨o',e1⟩:=I.base.there b o e hx
      exact ⟨o',(hs.2 b (Nat.ne_of_lt (Nat.lt_of_lt_of_le (Heap.lt_size e) I.ok.above))).trans e1⟩
    · by_cases hj:j=i
      · subst hj
        rw [hi] at e1; cases e1
        rw [List.getElem?_set_self hiσ] at e2
        cases e2
        exact ⟨u,r,.inl ⟨hk,by simp⟩⟩
      · rw [List.getElem?_set_ne (Ne.symm hj)] at e2
        obtain ⟨u',r',q⟩:=hl j y v' e1 e2 e3
        refine ⟨u',r',?_⟩
        rcases q with ⟨k,e⟩ | ⟨k,c,e,z⟩
        · refine .inl ⟨k,?_⟩
          have:y≠x:=fun e=>hj (ZiU hN e1 (e ▸ hi))
          simp [this,e]
        · exact .inr ⟨k,c,e,z.sameBut hs (cne y c e)⟩
    · obtain ⟨w',z⟩:=I.cell y c e
      exact ⟨w',z.sameBut hs (cne y c e)⟩
    · obtain ⟨e,n,ne,nf,d⟩:=I.pin p hp
      exact ⟨(hs.2 p.1 ne).trans e,n,ne,nf,d⟩
  · have hfn:X.fn x=true:=by
      rcases hf with z | z
      · exact z
      · rw [z] at hk; cases hk
    obtain ⟨c,hc⟩:=I.ok.has x (.inl hk)
    obtain ⟨w',z⟩:=I.cell x c hc
    refine wpAny_storeName_cell I.ok.kind hk hc z (fun h' hc' hs=>?_)
    obtain ⟨oc,hoc,hocd⟩:=id z
    refine h { s with heap:=h' } ⟨I.ok,I.os,I.bare,⟨fun b o e n hb hx=>?_,fun b o e n hb hx=>?_,I.base.free,fun b o e hx=>?_,I.base.tups,I.base.frzs,I.base.tbls⟩,⟨m,hn.sameBut hs (Ne.symm (cne x c hc)),fun j y v' e1 e2 e3=>?_⟩,fun y c' e=>?_,I.free,I.freeC,fun p hp=>?_,tracked ⟨oc,hoc,I.freeC x c hc⟩ hs,by simpa using I.len⟩ ⟨c,hs,.inr hc⟩
    · exact (hs.2 b (Nat.ne_of_lt (Nat.lt_of_lt_of_le (Heap.lt_size e) (I.ok.cab x c hfn hc)))).trans (I.base.keep b o e n hb hx)
    · obtain ⟨sl,e1⟩:=I.base.slot b o e n hb hx
      exact ⟨sl,(hs.2 b (Nat.ne_of_lt (Nat.lt_of_lt_of_le (Heap.lt_size e) (I.ok.cab x c hfn hc)))).trans e1⟩
    · obtain ⟨o',e1⟩:=I.base.there b o e hx
      exact ⟨o',(hs.2 b (Nat.ne_of_lt (Nat.lt_of_lt_of_le (Heap.lt_size e) (I.ok.cab x c hfn hc)))).trans e1⟩
    · by_cases hj:j=i
      · subst hj
        rw [hi] at e1; cases e1
        rw [List.getElem?_set_self hiσ] at e2
        cases e2
        exact ⟨u,r,.inr ⟨.inl hk,c,hc,hc'⟩⟩
      · rw [List.getElem?_set_ne (Ne.symm hj)] at e2
        obtain ⟨u',r',q⟩:=hl j y v' e1 e2 e3
        refine ⟨u',r',?_⟩
        rcases q with q | ⟨k,c',e,z'⟩
        · exact .inl q
        · refine .inr ⟨k,c',e,z'.sameBut hs ?_⟩
          rintro rfl
          exact hj (ZiU hN e1 (I.ok.inj _ _ _ e hc ▸ hi))
    · by_cases hcc:c'=c
      · subst hcc; exact ⟨_,hc'⟩
      · obtain ⟨w2,z2⟩:=I.cell y c' e
        exact ⟨w2,z2.sameBut hs hcc⟩
    · obtain ⟨e,n,ne,nf,d⟩:=I.pin p hp
      refine ⟨(hs.2 p.1 ?_).trans e,n,ne,nf,d⟩
      intro q
      rw [q,hoc] at e
      have q':oc=p.2:=Option.some.inj e
      exact d w' (by rw [← q']; exact hocd)
theorem Zep {M:Model} {A:Around} {E:Value→Shared→Prop} {i:Nat} {x:Str} {v:V} {u:Value} {Q:Unit→Shared→Prop} (I:Inv X pins σ H s) (hN:X.N.Nodup) (hi:X.N[i]?=some x) (hx:Loc X.env.scope x) (r:RelV v u)
    (h:∀ s',Inv X pins (σ.set i (some v)) H s'→Q () s') (hf:X.fn x=true∨X.env.scope.names.lookup x=some .local:=by first | exact .inl rfl | exact .inr rfl | assumption):wpAny M A (storeName X.env x u) Q E s :=
  ZgX I hN hi hx r (fun s' I' _=>h s' I') hf
theorem Inv.call' {s':Shared} {ch:List Addr} (I:Inv X pins σ H s) (ho:s'.os=s.os) (u:Un (frs X.stack) ch H H' s.heap s'.heap) (hok:HOk X.prog X.w H' s'.heap) (hg:AllBare s'.gens)
    (hch:∀ b∈ch,(b∈X.ex∨X.s₀.heap.objs.size≤b)∧b≠X.env.locals∧(∀ x c,X.env.cells.lookup x=some c→c≠b)∧∀ p∈X.pn++pins,p.1≠b):Inv X pins σ H' s':=by
  obtain ⟨h',g',d',t',o'⟩:=s'
  have e:o'=s.os:=ho
  subst e
  exact I.call (g':=g') (t':=t') (d':=d') u hok hg hch
end
abbrev XK:=Value→Option Addr→Hp→Prop
abbrev St:=List (Option V)
abbrev VK:=V→Hp→Prop
abbrev TE:=St→Hp→VK→Prop
abbrev TT:=St→Hp→(Bool→Hp→Prop)→Prop
abbrev TA:=St→Hp→(List V→Hp→Prop)→Prop
structure Ends where
  nx:St→Hp→Prop
  rt:VK
  bk:St→Hp→Prop:=fun _ _=>False
  ct:St→Hp→Prop:=fun _ _=>False
abbrev TS:=Ends→St→Hp→Prop
def EP (X:Cx) (pins:List (Addr×Obj)) (σ:St) (Q:VK) (u:Value) (s':Shared):Prop:=∃ v H',Inv X pins σ H' s'∧RelV v u∧Q v H'
def TP (X:Cx) (pins:List (Addr×Obj)) (σ:St) (Q:Bool→Hp→Prop) (b:Bool) (s':Shared):Prop:=∃ H',Inv X pins σ H' s'∧Q b H'
def AP (X:Cx) (pins:List (Addr×Obj)) (σ:St) (Q:List V→Hp→Prop) (us:List Value) (s':Shared):Prop:=∃ vs H',Inv X pins σ H' s'∧Vals vs us∧Q vs H'
def SP (X:Cx) (pins:List (Addr×Obj)) (D:Ends) (f:Flow) (s':Shared):Prop :=
  match f with
  | .next=>∃ σ' H',Inv X pins σ' H' s'∧D.nx σ' H'
  | .brk=>∃ σ' H',Inv X pins σ' H' s'∧D.bk σ' H'
  | .cont=>∃ σ' H',Inv X pins σ' H' s'∧D.ct σ' H'
  | .ret u=>∃ v σ' H',Inv X pins σ' H' s'∧RelV v u∧D.rt v H'
def PE (X:Cx) (e:Expr) (t:TE):Prop :=
  ∀ (pins:List (Addr×Obj)) (s:Shared) (σ:St) (H:Hp) (Q:VK),Inv X pins σ H s→t σ H Q→wpAny (model X.prog X.w) X.A (eval e X.env) (EP X pins σ Q) X.xe s
def PT (X:Cx) (e:Expr) (t:TT):Prop :=
  ∀ (pins:List (Addr×Obj)) (s:Shared) (σ:St) (H:Hp) (Q:Bool→Hp→Prop),Inv X pins σ H s→t σ H Q→wpAny (model X.prog X.w) X.A (isTrue e X.env (eval e X.env)) (TP X pins σ Q) X.xe s
def PW (X:Cx) (e:Expr) (t:TT):Prop :=
  ∀ (whole:Sem Value) (pins:List (Addr×Obj)) (s:Shared) (σ:St) (H:Hp) (Q:Bool→Hp→Prop),Inv X pins σ H s→t σ H Q→wpAny (model X.prog X.w) X.A (isTrue e X.env whole) (TP X pins σ Q) X.xe s
theorem PW.pt {X:Cx} {e:Expr} {t:TT} (h:PW X e t):PT X e t:=h _
def PA (X:Cx) (es:List Expr) (t:TA):Prop :=
  ∀ (pos:Pos) (pins:List (Addr×Obj)) (s:Shared) (σ:St) (H:Hp) (Q:List V→Hp→Prop),Inv X pins σ H s→t σ H Q→wpAny (model X.prog X.w) X.A (spliced (backTo pos (starEach es X.env))) (AP X pins σ Q) X.xe s
def PS (X:Cx) (st:Stmt) (t:TS):Prop :=
  ∀ (pins:List (Addr×Obj)) (s:Shared) (σ:St) (H:Hp) (D:Ends),Inv X pins σ H s→t D σ H→wpAny (model X.prog X.w) X.A (exec st X.env) (SP X pins D) X.xe s
def PSs (X:Cx) (st:List Stmt) (t:TS):Prop :=
  ∀ (pins:List (Addr×Obj)) (s:Shared) (σ:St) (H:Hp) (D:Ends),Inv X pins σ H s→t D σ H→wpAny (model X.prog X.w) X.A (execs st X.env) (SP X pins D) X.xe s
theorem thn {α:Type} {t:Sem α} {Q Q':α→Shared→Prop} {M:Model} {A:Around} {E:Value→Shared→Prop} {s:Shared} (h:wpAny M A t Q E s) (hQ:∀ a s,Q a s→Q' a s):wpAny M A t Q' E s:=wpAny_mono h hQ fun _ _ x=>x
end L2
namespace L2
open PySem PySem.Spec PyProof.Rows
section
variable {X:Cx}
def tVar (i:Nat):TE:=fun σ H Q=>∃ v,σ[i]?=some (some v)∧Q v H
def tC (v:V):TE:=fun _ H Q=>Q v H
theorem Zot {i:Nat} {x:Str} {pos:Pos} (hN:X.N[i]?=some x) (hv:Vis X.env.scope x) (hd:(x == ("__debug__" : Str))=false:=by decide) (hcd:(x == ("__classdict__" : Str))=false:=by decide):PE X (.Name x pos) (tVar i):=by
  intro pins s σ H Q I h
  obtain ⟨v,e,h⟩:=h
  obtain ⟨m,hn,hl⟩:=I.loc
  obtain ⟨u,r,l⟩:=hl i x v hN e hv
  have fin:EP X pins σ Q u s:=⟨v,H,I,r,h⟩
  rcases l with ⟨hk,hm⟩ | ⟨hk,c,hc,hcell⟩
  · exact wpAny_Name (wpAny_loadName_local I.ok.kind hk hn hm fin) hd
  · rcases hk with hk | hk
    · exact wpAny_Name (wpAny_loadName_cell I.ok.kind hk hc hcell fin) hd
    · exact wpAny_Name (wpAny_loadName_free I.ok.kind hk hc hcell fin hcd) hd
theorem Zj {i j pos}:PE X (.Constant (.int i) j pos) (tC (.int i)):=fun _ _ _ H _ I h=>wpAny_Constant_int ⟨.int i,H,I.tok _,⟨_,rfl⟩,h⟩
theorem pe_bl {b j pos}:PE X (.Constant (.bool b) j pos) (tC (.bl b)):=fun _ _ _ H _ I h=>Constant_bool ⟨.bl b,H,I,rfl,h⟩
theorem Zkx {j pos}:PE X (.Constant .none j pos) (tC .non):=fun _ _ _ H _ I h=>Constant_none ⟨.non,H,I,rfl,h⟩
theorem ZaT {x j pos}:PE X (.Constant (.str x) j pos) (tC (.str x)):=fun _ _ _ H _ I h=>Calls.Constant_str ⟨.str x,H,I.tok _,⟨_,rfl⟩,h⟩
def Gl (X:Cx) (x:Str):Prop:=X.env.kindOf x=some .globalImplicit
theorem Zie {E:Value→Shared→Prop} {pins:List (Addr×Obj)} {s:Shared} {σ:St} {H:Hp} {x:Str} {u:Value} {pos:Pos} {Q:Value→Shared→Prop} (I:Inv X pins σ H s) (hg:Gl X x) (hm:X.mg x=some u) (h:Q u s)
    (hd:(x == ("__debug__" : Str))=false:=by decide):wpAny (model X.prog X.w) X.A (eval (.Name x pos) X.env) Q E s :=
  Calls.Name_function_global I.ok.kind hg (Calls.loadGlobal_global (by rw [I.ok.glob]; exact I.mod.glob.keeps I.bk) hm h) hd
theorem Zca {E:Value→Shared→Prop} {pins:List (Addr×Obj)} {s:Shared} {σ:St} {H:Hp} {x:Str} {u:Value} {pos:Pos} {Q:Value→Shared→Prop} (I:Inv X pins σ H s) (hg:Gl X x) (hm:X.mg x=none) (hv:bootBuiltins x=some u) (h:Q u s)
    (hn:x ≠ "__name__" := by decide) (hd:(x == ("__debug__" : Str))=false:=by decide):wpAny (model X.prog X.w) X.A (eval (.Name x pos) X.env) Q E s:=by
  obtain ⟨mb,h1,h2⟩:=I.mod.blt
  exact Calls.Name_function_global I.ok.kind hg (Calls.loadGlobal_builtin (by rw [I.ok.glob]; exact I.mod.glob.keeps I.bk) hm (by rw [I.ok.blt]; exact h1.keeps I.bk) ((h2 x hn).trans hv) h) hd
theorem ZnA {x:Str} {v:V} {u:Value} {pos:Pos} (hg:Gl X x) (hm:X.mg x=some u) (r:RelV v u) (hd:(x == ("__debug__" : Str))=false:=by decide):PE X (.Name x pos) (tC v) :=
  fun _ _ _ H _ I h=>Zie I hg hm ⟨v,H,I,r,h⟩ hd
theorem ZbI {x:Str} {v:V} {u:Value} {pos:Pos} (hg:Gl X x) (hm:X.mg x=none) (hv:bootBuiltins x=some u) (r:RelV v u) (hn:x ≠ "__name__" := by decide) (hd:(x == ("__debug__" : Str))=false:=by decide):PE X (.Name x pos) (tC v) :=
  fun _ _ _ H _ I h=>Zca I hg hm hv ⟨v,H,I,r,h⟩ hn hd
variable {a b:Expr} {ta tb:TE} {pos:Pos}
def PC (X:Cx) (op:CmpOp) (a b:Expr) (t:TE):Prop :=
  ∀ (pins:List (Addr×Obj)) (s:Shared) (σ:St) (H:Hp) (Q:VK),Inv X pins σ H s→t σ H Q →
    wpAny (model X.prog X.w) X.A (eval a X.env) (fun v s₁=>wpAny (model X.prog X.w) X.A (eval b X.env) (fun u s₂=>wpAny (model X.prog X.w) X.A (compareOp op v u) (EP X pins σ Q) X.xe s₂) X.xe s₁) X.xe s
theorem ZiV (b:Expr) {op:CmpOp} (h:op≠.In) (h2:op≠.NotIn):behindInMarks op b=false:=by
  have e1:(op == CmpOp.In)=false:=by cases op <;> first | rfl | exact absurd rfl h
  have e2:(op == CmpOp.NotIn)=false:=by cases op <;> first | rfl | exact absurd rfl h2
  cases b <;> simp [behindInMarks,e1,e2]
def tIsN (ta:TE):TE:=fun σ H Q=>ta σ H fun x H1=>Q (.bl (decide (x=.non))) H1
def tNotN (ta:TE):TE:=fun σ H Q=>ta σ H fun x H1=>Q (.bl (!decide (x=.non))) H1
theorem RelV.none_iff {x:V} {v:Value} (r:RelV x v):(v == Value.none)=decide (x=.non):=by
  cases x with
  | non=>cases r; rfl
  | bl _=>cases r; rfl
  | int _=>obtain ⟨t,rfl⟩:=r; rfl
  | str _=>obtain ⟨t,rfl⟩:=r; rfl
  | byt _=>obtain ⟨t,rfl⟩:=r; rfl
  | flt _=>obtain ⟨t,rfl⟩:=r; rfl
  | ref _=>cases r; rfl
  | ty _=>cases r; rfl
theorem Zky {j pos'} (ha:PE X a ta):PC X .Is a (.Constant .none j pos') (tIsN ta):=by
  intro pins s σ H Q I h
  refine thn (ha pins s σ H _ I h) fun v s1 ⟨x,H1,I1,r1,q1⟩=>?_
  exact Constant_none (is_none_gen ⟨.bl _,H1,I1,by rw [r1.none_iff]; rfl,q1⟩)
theorem Zkz {j pos'} (ha:PE X a ta):PC X .IsNot a (.Constant .none j pos') (tNotN ta):=by
  intro pins s σ H Q I h
  refine thn (ha pins s σ H _ I h) fun v s1 ⟨x,H1,I1,r1,q1⟩=>?_
  exact Constant_none (isnot_none_gen ⟨.bl _,H1,I1,by rw [r1.none_iff]; rfl,q1⟩)
def tB (t:TE):TT:=fun σ H Q=>t σ H fun x H1=>∃ c,x=.bl c∧Q c H1
theorem Zou {op:CmpOp} {t:TE} (h:PC X op a b t) (h1:behindInMarks op b=false:=by first | exact ZiV _ (by decide) (by decide) | rfl):PE X (.Compare a [op] [b] pos) t:=fun pins s σ H Q I hw=>wpAny_Compare1 (h pins s σ H Q I hw) h1
theorem ZgY {op:CmpOp} {t:TE} (h:PC X op a b t) (h1:behindInMarks op b=false:=by first | exact ZiV _ (by decide) (by decide) | rfl):PT X (.Compare a [op] [b] pos) (tB t):=by
  intro pins s σ H Q I hw
  refine wpAny_isTrue_Compare1 (thn (h pins s σ H _ I hw) fun v s1 h1=>thn h1 fun u s2 h2=>thn h2 fun c s3 ⟨x,H1,I1,r1,q1⟩=>?_) h1
  obtain ⟨d,rfl,q⟩:=q1
  cases r1
  exact wpAny_truthy_bool ⟨H1,I1,q⟩
theorem Zbb {e:Expr} {t:TE} (h:PE X e t) (he:∀ whole,isTrue e X.env whole=(do let v ← whole; standAt e.pos; holding [v] (truthy v)):=by intro _; rfl):PT X e (tB t):=by
  intro pins s σ H Q I hw
  refine isTrue_plain (thn (h pins s σ H _ I hw) fun v s1 ⟨x,H1,I1,r1,q1⟩=>?_) (he _)
  obtain ⟨d,rfl,q⟩:=q1
  cases r1
  exact wpAny_truthy_bool ⟨H1,I1,q⟩
variable {tA tB':TT} {rest:List Expr}
def tAnd (t u:TT):TT:=fun σ H Q=>t σ H fun c H1=>if c=true then u σ H1 Q else Q false H1
def tOr (t u:TT):TT:=fun σ H Q=>t σ H fun c H1=>if c=true then Q true H1 else u σ H1 Q
def tNot (t:TT):TT:=fun σ H Q=>t σ H fun c H1=>Q (!c) H1
theorem Zif (ha:PT X a tA):PW X (.BoolOp .And [a] pos) tA:=by
  intro wh pins s σ H Q I h
  refine isTrue_and (thn (ha pins s σ H Q I h) fun c s1 e=>?_)
  cases c with
  | true=>exact isTrue_and_nil e
  | false=>exact e
theorem ZiW (ha:PT X a tA):PW X (.BoolOp .Or [a] pos) tA:=by
  intro wh pins s σ H Q I h
  refine isTrue_or (thn (ha pins s σ H Q I h) fun c s1 e=>?_)
  cases c with
  | false=>exact isTrue_or_nil e
  | true=>exact e
theorem ZkA (ha:PT X a tA) (hb:PW X (.BoolOp .And (b :: rest) pos) tB'):PW X (.BoolOp .And (a :: b :: rest) pos) (tAnd tA tB'):=by
  intro wh pins s σ H Q I h
  refine isTrue_and (thn (ha pins s σ H _ I h) fun c s1 ⟨H1,I1,q1⟩=>?_)
  cases c with
  | true=>exact hb wh pins s1 σ H1 Q I1 q1
  | false=>exact ⟨H1,I1,q1⟩
theorem pw_or (ha:PT X a tA) (hb:PW X (.BoolOp .Or (b :: rest) pos) tB'):PW X (.BoolOp .Or (a :: b :: rest) pos) (tOr tA tB'):=by
  intro wh pins s σ H Q I h
  refine isTrue_or (thn (ha pins s σ H _ I h) fun c s1 ⟨H1,I1,q1⟩=>?_)
  cases c with
  | true=>exact ⟨H1,I1,q1⟩
  | false=>exact hb wh pins s1 σ H1 Q I1 q1
theorem ZeC (ha:PT X a tA):PT X (.UnaryOp .Not a pos) (tNot tA):=by
  intro pins s σ H Q I h
  exact isTrue_not (ha pins s σ H (fun c H1=>Q (!c) H1) I h)
def tAndV (ta tb:TE):TE:=fun σ H Q=>ta σ H fun x H1=>∃ c,x=.bl c∧if c=true then tb σ H1 Q else Q (.bl false) H1
def tOrV (ta tb:TE):TE:=fun σ H Q=>ta σ H fun x H1=>∃ c,x=.bl c∧if c=true then Q (.bl true) H1 else tb σ H1 Q
theorem ZiX {op} {t:TE} (h:PE X a t):PE X (.BoolOp op [a] pos) t:=fun pins s σ H Q I hw=>BoolOp_one (h pins s σ H Q I hw)
theorem ZiY (ha:PE X a ta) (hb:PE X (.BoolOp .And (b :: rest) pos) tb):PE X (.BoolOp .And (a :: b :: rest) pos) (tAndV ta tb):=by
  intro pins s σ H Q I h
  refine BoolOp_and (thn (ha pins s σ H _ I h) fun v s1 ⟨x,H1,I1,r1,q1⟩=>?_)
  obtain ⟨c,rfl,q1⟩:=q1
  cases r1
  refine wpAny_truthy_bool ?_
  cases c with
  | true=>exact hb pins s1 σ H1 Q I1 q1
  | false=>exact ⟨.bl false,H1,I1,rfl,q1⟩
theorem pe_or (ha:PE X a ta) (hb:PE X (.BoolOp .Or (b :: rest) pos) tb):PE X (.BoolOp .Or (a :: b :: rest) pos) (tOrV ta tb):=by
  intro pins s σ H Q I h
  refine BoolOp_or (thn (ha pins s σ H _ I h) fun v s1 ⟨x,H1,I1,r1,q1⟩=>?_)
  obtain ⟨c,rfl,q1⟩:=q1
  cases r1
  refine wpAny_truthy_bool ?_
  cases c with
  | false=>exact hb pins s1 σ H1 Q I1 q1
  | true=>exact ⟨.bl true,H1,I1,rfl,q1⟩
def tIf (t:TT) (ta tb:TE):TE:=fun σ H Q=>t σ H fun c H1=>if c=true then ta σ H1 Q else tb σ H1 Q
theorem ZcN {c:Expr} (hc:PT X c tA) (ha:PE X a ta) (hb:PE X b tb):PE X (.IfExp c a b pos) (tIf tA ta tb):=by
  intro pins s σ H Q I h
  refine wpAny_IfExp (thn (hc pins s σ H _ I h) fun d s1 ⟨H1,I1,q1⟩=>?_)
  cases d with
  | true=>exact ha pins s1 σ H1 Q I1 q1
  | false=>exact hb pins s1 σ H1 Q I1 q1
end
end L2
namespace L2
open PySem PySem.Spec PyProof.Rows
def SqL (K:PySem.W.Frag) (H:Hp) (a:Addr) (xs:List V):Prop :=
  Rd H a (.lst xs) ∨
    ∃ (o:Obj) (its:Array Value) (n:Nat),K.lookup a=some o∧o.cls=.type "list" ∧ o.dict=none∧o.data=.seq its n∧its.size≤sizeLine∧Vals xs its.toList
def SqT (K:PySem.W.Frag) (H:Hp) (a:Addr) (xs:List V):Prop :=
  Rd H a (.tup xs) ∨
    ∃ (o:Obj) (its:Array Value) (n:Nat),K.lookup a=some o∧o.cls=.type "tuple" ∧ o.data=.seq its n∧its.size≤sizeLine∧Vals xs its.toList
def absV:Value→Option V
  | .none=>some .non
  | .bool b=>some (.bl b)
  | .int i _=>some (.int i)
  | .str x _=>some (.str x)
  | .bytes b _=>some (.byt b)
  | .float b _=>some (.flt b)
  | .ref a=>some (.ref a)
  | .type n=>some (.ty n)
  | _=>none
theorem RelV.abs {x:V} {u:Value} (r:RelV x u):absV u=some x:=by
  cases x with
  | non=>cases r; rfl
  | bl _=>cases r; rfl
  | int _=>obtain ⟨t,rfl⟩:=r; rfl
  | str _=>obtain ⟨t,rfl⟩:=r; rfl
  | byt _=>obtain ⟨t,rfl⟩:=r; rfl
  | flt _=>obtain ⟨t,rfl⟩:=r; rfl
  | ref _=>cases r; rfl
  | ty _=>cases r; rfl
theorem RelV.inj {x y:V} {u:Value} (r:RelV x u) (q:RelV y u):x=y:=Option.some.inj (r.abs.symm.trans q.abs)
theorem Vals.inj:∀ {xs ys:List V} {us:List Value},Vals xs us→Vals ys us→xs=ys
  | _,_,_,.nil,.nil=>rfl
  | _,_,_,.cons r t,.cons r' t'=>by rw [r.inj r',Vals.inj t t']
section
variable {X:Cx} {pins:List (Addr×Obj)} {σ:St} {H:Hp} {s:Shared} {a:Addr} {xs ys:List V}
theorem SqL.of {K:PySem.W.Frag} (h:H a=some (.lst xs)):SqL K H a xs:=.inl (.inl h)
theorem SqT.of {K:PySem.W.Frag} (h:H a=some (.tup xs)):SqT K H a xs:=.inl (.inl h)
theorem Inv.list (I:Inv X pins σ H s) (h:SqL X.K H a xs):∃ its:List Value,Vals xs its∧PlainL s.heap a its.toArray∧xs.length≤sizeLine:=by
  rcases h with h | ⟨o,its,n,hk,hc,hd,hs,hz,r⟩
  · obtain ⟨z,its,n,r,e⟩:=h.ok I.hok
    exact ⟨its,r,⟨_,n,e,rfl,rfl,rfl⟩,z⟩
  · refine ⟨its.toList,r,⟨o,n,I.kIn a o hk,hc,hd,by simpa using hs⟩,?_⟩
    have e:=r.length
    simp only [Array.length_toList] at e
    omega
theorem Inv.tuple (I:Inv X pins σ H s) (h:SqT X.K H a xs):∃ its:List Value,Vals xs its∧IsTup s.heap a its.toArray∧xs.length≤sizeLine:=by
  rcases h with h | ⟨o,its,n,hk,hc,hs,hz,r⟩
  · obtain ⟨z,its,r,p⟩:=h.ok I.hok
    exact ⟨its,r,p,z⟩
  · refine ⟨its.toList,r,⟨o,I.kIn a o hk,hc,n,by simpa using hs⟩,?_⟩
    have e:=r.length
    simp only [Array.length_toList] at e
    omega
theorem Inv.list_inj (I:Inv X pins σ H s) (h:SqL X.K H a xs) (h':SqL X.K H a ys):xs=ys:=by
  obtain ⟨its,r,⟨o,n,e,_,_,d⟩,_⟩:=I.list h
  obtain ⟨its',r',⟨o',n',e',_,_,d'⟩,_⟩:=I.list h'
  rw [e] at e'; cases e'
  rw [d] at d'
  injection d' with d1 _
  have:its=its':=by simpa using congrArg Array.toList d1
  subst this
  exact r.inj r'
theorem Inv.tuple_inj (I:Inv X pins σ H s) (h:SqT X.K H a xs) (h':SqT X.K H a ys):xs=ys:=by
  obtain ⟨its,r,⟨o,e,_,n,d⟩,_⟩:=I.tuple h
  obtain ⟨its',r',⟨o',e',_,n',d'⟩,_⟩:=I.tuple h'
  rw [e] at e'; cases e'
  rw [d] at d'
  injection d' with d1 _
  have:its=its':=by simpa using congrArg Array.toList d1
  subst this
  exact r.inj r'
end
abbrev Cx.wish (X:Cx) (E:Value→Shared→Prop):Cx:={ X with xe:=E }
abbrev Cx.nox (X:Cx):Cx:=X.wish fun _ _=>False
theorem Cx.Ok.wish {X:Cx} (ok:X.Ok) (E:Value→Shared→Prop):(X.wish E).Ok :=
  ⟨ok.mod,ok.kind,ok.glob,ok.blt,ok.above,ok.inj,ok.has,ok.cab,ok.hd,ok.frames,ok.stk,ok.exf,ok.bs,ok.bsz,ok.noex,ok.exfs,ok.funs,ok.frf⟩
theorem Cx.Ok.unwish {X:Cx} {E:Value→Shared→Prop} (ok:(X.wish E).Ok):X.Ok :=
  ⟨ok.mod,ok.kind,ok.glob,ok.blt,ok.above,ok.inj,ok.has,ok.cab,ok.hd,ok.frames,ok.stk,ok.exf,ok.bs,ok.bsz,ok.noex,ok.exfs,ok.funs,ok.frf⟩
section
variable {X:Cx} {pins:List (Addr×Obj)} {σ:St} {H:Hp} {s:Shared} {E:Value→Shared→Prop}
theorem Inv.wish (I:Inv X pins σ H s) (E:Value→Shared→Prop):Inv (X.wish E) pins σ H s:=⟨I.ok.wish E,I.os,I.bare,I.base,I.loc,I.cell,I.free,I.freeC,I.pin,I.hok,I.len⟩
theorem Inv.unwish (I:Inv (X.wish E) pins σ H s):Inv X pins σ H s:=⟨I.ok.unwish,I.os,I.bare,I.base,I.loc,I.cell,I.free,I.freeC,I.pin,I.hok,I.len⟩
theorem SP.unwish {D:Ends} {f:Flow} {s':Shared} (h:SP (X.wish E) pins D f s'):SP X pins D f s':=by
  cases f with
  | next=>obtain ⟨σ',H',I,q⟩:=h; exact ⟨σ',H',I.unwish,q⟩
  | brk=>obtain ⟨σ',H',I,q⟩:=h; exact ⟨σ',H',I.unwish,q⟩
  | cont=>obtain ⟨σ',H',I,q⟩:=h; exact ⟨σ',H',I.unwish,q⟩
  | ret u=>obtain ⟨v,σ',H',I,r,q⟩:=h; exact ⟨v,σ',H',I.unwish,r,q⟩
theorem PSs.nox {st:List Stmt} {t:TS} (h:PSs X.nox st t):PSs X st t:=fun pins s σ H D I hw =>
  wpAny_mono (h pins s σ H D (I.wish _) hw) (fun _ _ q=>q.unwish) fun _ _ z=>False.elim z
end
section
variable {X:Cx} {st:Stmt} {rest:List Stmt} {t u:TS} {e:Expr} {te:TE} {pos:Pos}
def tNext:TS:=fun D σ H=>D.nx σ H
def tSeq (t u:TS):TS:=fun D σ H=>t { D with nx:=u D } σ H
theorem Zz:PSs X [] tNext:=fun _ _ σ H _ I h=>wpAny_execs_nil ⟨σ,H,I,h⟩
theorem Zf (h1:PS X st t) (h2:PSs X rest u):PSs X (st :: rest) (tSeq t u):=by
  intro pins s σ H D I h
  refine wpAny_execs_cons (thn (h1 pins s σ H { D with nx:=u D } I h) fun f s1 q=>?_)
  cases f with
  | next =>
    obtain ⟨σ',H',I',q⟩:=q
    exact h2 pins s1 σ' H' D I' q
  | ret v=>exact q
  | brk=>exact q
  | cont=>exact q
theorem Zi (h1:PS X st t):PSs X [st] t:=by
  intro pins s σ H D I h
  refine wpAny_execs_cons (thn (h1 pins s σ H D I h) fun f s1 q=>?_)
  cases f with
  | next=>exact wpAny_execs_nil q
  | ret v=>exact q
  | brk=>exact q
  | cont=>exact q
theorem Inv.quiet {pins:List (Addr×Obj)} {σ:St} {H:Hp} {s:Shared} (I:Inv X pins σ H s):interactive X.env=false:=by simp [interactive,I.ok.kind]
def tDrop (te:TE):TS:=fun D σ H=>te σ H fun _ H1=>D.nx σ H1
theorem Zw (he:PE X e te) (hs:swapsWith e none pos.line X.env=pure false:=by rfl):PS X (.Expr e pos) (tDrop te):=by
  intro pins s σ H D I h
  exact wpAny_Expr_any (thn (he pins s σ H _ I h) fun v s1 ⟨x,H1,I1,r1,q1⟩=>⟨σ,H1,I1,q1⟩) I.quiet hs
def tRet (te:TE):TS:=fun D σ H=>te σ H D.rt
theorem Zu (he:PE X e te):PS X (.Return (some e) pos) (tRet te):=by
  intro pins s σ H D I h
  exact wpAny_Return_some (thn (he pins s σ H _ I h) fun v s1 ⟨x,H1,I1,r1,q1⟩=>⟨x,σ,H1,I1,r1,q1⟩)
def tRetN:TS:=fun D _ H=>D.rt .non H
theorem ZkB:PS X (.Return none pos) tRetN:=fun _ _ σ H _ I h=>wpAny_Return_none ⟨.non,σ,H,I,rfl,h⟩
def tIfS (c:TT) (t u:TS):TS:=fun D σ H=>c σ H fun b H1=>if b=true then t D σ H1 else u D σ H1
theorem ps_if {c:Expr} {a b:List Stmt} {tc:TT} (hc:PT X c tc) (ha:PSs X a t) (hb:PSs X b u):PS X (.If c a b pos) (tIfS tc t u):=by
  intro pins s σ H D I h
  refine wpAny_If (thn (hc pins s σ H _ I h) fun d s1 ⟨H1,I1,q1⟩=>?_)
  cases d with
  | true=>exact ha pins s1 σ H1 D I1 q1
  | false=>exact hb pins s1 σ H1 D I1 q1
end
abbrev TG:=V→St→Hp→(St→Hp→Prop)→Prop
abbrev TGs:=List V→St→Hp→(St→Hp→Prop)→Prop
def PG (X:Cx) (target:Expr) (t:TG):Prop :=
  ∀ (pins:List (Addr×Obj)) (s:Shared) (σ:St) (H:Hp) (v:V) (u:Value) (Q:St→Hp→Prop),Inv X pins σ H s→RelV v u→t v σ H Q →
    wpAny (model X.prog X.w) X.A (assign target X.env u) (fun _ s'=>∃ σ' H',Inv X pins σ' H' s'∧Q σ' H') X.xe s
def PGs (X:Cx) (ts:List Expr) (t:TGs):Prop :=
  ∀ (pins:List (Addr×Obj)) (s:Shared) (σ:St) (H:Hp) (vs:List V) (us:List Value) (Q:St→Hp→Prop),Inv X pins σ H s→Vals vs us→t vs σ H Q →
    wpAny (model X.prog X.w) X.A (assignInOrder ((assignEach ts X.env).map (·.2)) us) (fun _ s'=>∃ σ' H',Inv X pins σ' H' s'∧Q σ' H') X.xe s
abbrev TSet:=V→V→V→Hp→(Hp→Prop)→Prop
def PSet (X:Cx) (t:TSet):Prop :=
  ∀ (pins:List (Addr×Obj)) (s:Shared) (σ:St) (H:Hp) (o i v:V) (ov iv u:Value) (Q:Hp→Prop),Inv X pins σ H s→RelV o ov→RelV i iv→RelV v u→t o i v H Q →
    wpAny (model X.prog X.w) X.A (setItem ov iv u) (fun _ s'=>∃ H',Inv X pins σ H' s'∧Q H') X.xe s
section
variable {X:Cx} {pos:Pos}
def gName (i:Nat):TG:=fun v σ H Q=>Q (σ.set i (some v)) H
theorem ZnB {i:Nat} {x:Str} (hN:X.N.Nodup) (hi:X.N[i]?=some x) (hx:Loc X.env.scope x) (hf:X.fn x=true∨X.env.scope.names.lookup x=some .local:=by first | exact .inl rfl | exact .inr rfl | assumption):PG X (.Name x pos) (gName i):=by
  intro pins s σ H v u Q I r h
  exact wpAny_assign_Name (Zep I hN hi hx r (fun s' I'=>⟨_,H,I',h⟩) hf)
def gNil:TGs:=fun vs σ H Q=>vs=[]∧Q σ H
def gCons (t:TG) (u:TGs):TGs:=fun vs σ H Q=>∃ v r,vs=v :: r∧t v σ H fun σ' H'=>u r σ' H' Q
theorem ZS:PGs X [] gNil:=by
  intro pins s σ H vs us Q I r h
  obtain ⟨e,h⟩:=h
  subst e
  cases r
  exact assignInOrder_nil ⟨σ,H,I,h⟩
theorem Zo {e:Expr} {es:List Expr} {t:TG} {u:TGs} (h1:PG X e t) (h2:PGs X es u)
    (hs:(assignEach (e :: es) X.env).map (·.2)=assign e X.env :: (assignEach es X.env).map (·.2):=by rfl):PGs X (e :: es) (gCons t u):=by
  intro pins s σ H vs us Q I r h
  obtain ⟨v,vr,e1,h⟩:=h
  subst e1
  cases r with
  | cons r rr =>
    rw [hs]
    refine assignInOrder_cons (thn (h1 pins s σ H _ _ _ I r h) fun _ s1 ⟨σ1,H1,I1,q1⟩=>?_)
    exact h2 pins s1 σ1 H1 _ _ Q I1 rr q1
def gTup (K:PySem.W.Frag) (n:Nat) (t:TGs):TG:=fun v σ H Q=>∃ a xs,v=.ref a∧SqT K H a xs∧xs.length=n∧t xs σ H Q
theorem Zov {es:List Expr} {k:Nat} {t:TGs} {n:Nat} (hc:X.calm=true) (h:PGs X es t)
    (hn:(assignEach es X.env).length=n:=by rfl) (hst:(assignEach es X.env).findIdx? (·.1)=none:=by rfl):PG X (.Tuple es k pos) (gTup X.K n t):=by
  intro pins s σ H v u Q I r hw
  obtain ⟨a,xs,e1,hq,hl,hw⟩:=hw
  subst e1
  cases r
  obtain ⟨its,rv,ht,hz⟩:=I.tuple hq
  refine assign_Tuple_tuple (I.ok.hd hc) ht (by simp [hn,← hl,rv.length]) hst fun h' hx=>?_
  have I1:Inv X pins σ H { s with heap:=h' }:=I.kept (t':=s.toks) fun b o e=>hx b o (Nat.ne_of_lt (Heap.lt_size e)) e
  exact h pins _ σ H xs _ Q I1 (by simpa using rv) hw
def gSub (to ti:TE) (t:TSet):TG:=fun v σ H Q=>to σ H fun o H1=>ti σ H1 fun i H2=>t o i v H2 fun H3=>Q σ H3
theorem ZeD {o i:Expr} {to ti:TE} {t:TSet} (ho:PE X o to) (hi:PE X i ti) (hs:PSet X t)
    (ha:∀ v,assign (.Subscript o i pos) X.env v=(do
      let ov ← holding [v] (eval o X.env)
      let iv ← holding [v,ov] (eval i X.env)
      standAt pos
      holding [v,ov,iv] (setItem ov iv v)
      release [v,ov,iv] []):=by intro _; rfl):PG X (.Subscript o i pos) (gSub to ti t):=by
  intro pins s σ H v u Q I r h
  rw [ha]
  refine wpAny_bind (wpAny_holding (thn (ho pins s σ H _ I h) fun ov s1 ⟨x,H1,I1,r1,q1⟩=>?_))
  refine wpAny_bind (wpAny_holding (thn (hi pins s1 σ H1 _ I1 q1) fun iv s2 ⟨y,H2,I2,r2,q2⟩=>?_))
  refine wpAny_bind (wpAny_standAt (wpAny_bind (wpAny_holding (thn (hs pins s2 σ H2 x y v ov iv u _ I2 r1 r2 r q2) fun _ s3 ⟨H3,I3,q3⟩=>?_))))
  exact wpAny_release ⟨σ,H3,I3,q3⟩
def tAsg (te:TE) (g:TG):TS:=fun D σ H=>te σ H fun x H1=>g x σ H1 D.nx
theorem Zbc {tg e:Expr} {te:TE} {g:TG} (he:PE X e te) (hg:PG X tg g) (hs:swapsWithSole [tg] e pos.line X.env=pure false:=by rfl) (hw:swappedStores [tg] e X.env=pure none:=by rfl)
    (h1:(assignEach [tg] X.env).map (·.2)=[assign tg X.env]:=by rfl):PS X (.Assign [tg] e pos) (tAsg te g):=by
  intro pins s σ H D I h
  refine wpAny_Assign_stores (thn (he pins s σ H _ I h) fun v s1 ⟨x,H1,I1,r1,q1⟩=>?_) hs hw
  rw [h1]
  exact thn (hg pins s1 σ H1 x v _ I1 r1 q1) fun _ s2 q=>q
theorem Zow {i:Nat} {x:Str} {e:Expr} {te:TE} {pos':Pos} (hN:X.N.Nodup) (hi:X.N[i]?=some x) (hx:Loc X.env.scope x) (he:PE X e te) (hs:swapsWith e (some (.Name x pos')) pos.line X.env=pure false:=by rfl) (hf:X.fn x=true∨X.env.scope.names.lookup x=some .local:=by first | exact .inl rfl | exact .inr rfl | assumption) :
    PS X (.Assign [.Name x pos'] e pos) (tAsg te (gName i)):=by
  intro pins s σ H D I h
  refine wpAny_Assign_Name (thn (he pins s σ H _ I h) fun v s1 ⟨y,H1,I1,r1,q1⟩=>?_) hs
  exact Zep I1 hN hi hx r1 (fun s2 I2=>⟨_,H1,I2,q1⟩) hf
def tPar (i j:Nat) (ta:TA):TS:=fun D σ H=>ta σ H fun vs H1=>∃ v w,vs=[v,w]∧D.nx ((σ.set i (some v)).set j (some w)) H1
theorem Znh {i j:Nat} {x y:Str} {a b:Expr} {ta:TA} {px py pt:Pos} {kt k2 pt2} (hc:X.calm=true) (hN:X.N.Nodup) (hi:X.N[i]?=some x) (hj:X.N[j]?=some y) (hij:i≠j)
    (hx:X.env.scope.names.lookup x=some .local) (hy:X.env.scope.names.lookup y=some .local) (ha:PA X [a,b] ta)
    (hw:swappedStores [.Tuple [.Name x px,.Name y py] kt pt] (.Tuple [a,b] k2 pt2) X.env=pure (some [x,y]))
    (hs:swapsWithSole [.Tuple [.Name x px,.Name y py] kt pt] (.Tuple [a,b] k2 pt2) pos.line X.env=pure false:=by rfl) :
    PS X (.Assign [.Tuple [.Name x px,.Name y py] kt pt] (.Tuple [a,b] k2 pt2) pos) (tPar i j ta):=by
  intro pins s σ H D I h
  rw [exec_Assign_arm]
  refine wpAny_bind (wpAny_standAt ?_)
  rw [hs]
  refine wpAny_bind (wpAny_pure ?_)
  rw [if_neg (by decide)]
  refine wpAny_bind (Tuple_ (thn (ha _ pins s σ H _ I h) fun us s1 ⟨vs,H1,I1,r1,q1⟩=>?_))
  obtain ⟨v,w,e1,q1⟩:=q1
  subst e1
  obtain ⟨u1,u2,rfl,rv,rw'⟩:∃ u1 u2,us=[u1,u2]∧RelV v u1∧RelV w u2:=by
    cases r1 with
    | cons p q =>
      cases q with
      | cons p' q' =>
        cases q'
        exact ⟨_,_,rfl,p,p'⟩
  refine wpAny_newObj_type ?_ (by show 2≤sizeLine; decide)
  have I2:Inv X pins σ H1 { s1 with heap:=s1.heap.push { cls:=.type "tuple",data:=.seq [u1,u2].toArray } }:=I1.kept (t':=s1.toks) fun b o e=>Heap.get?_push_of_some _ e
  rw [hw]
  refine wpAny_bind (wpAny_pure ?_)
  show wpAny (model X.prog X.w) X.A (do rule "assign.swapped-stores"; let items ← unpackItems (.ref s1.heap.objs.size) 2 none; assignInOrder [fun v=>bindName X.env y v,fun v=>bindName X.env x v] items.reverse; pure Flow.next) _ _ _
  refine wpAny_bind (wpAny_rule (wpAny_bind (unpackItems_tuple (items:=#[u1,u2]) (I.ok.hd hc) (IsTup.new s1.heap _) fun h' hx'=>?_)))
  have I3:=I2.kept (h':=h') (t':=s1.toks) fun b o e=>hx' b o (Nat.ne_of_lt (Heap.lt_size e)) e
  show wpAny _ _ (assignInOrder [fun v=>bindName X.env y v,fun v=>bindName X.env x v] [u2,u1] >>= fun _=>pure Flow.next) _ _ _
  refine wpAny_bind (assignInOrder_cons (wpAny_bindName (Zep I3 hN hj (.inl hy) rw' (fun s2 I4=>?_) (.inr hy))))
  refine assignInOrder_cons (wpAny_bindName (Zep I4 hN hi (.inl hx) rv (fun s3 I5=>assignInOrder_nil (wpAny_pure ?_)) (.inr hx)))
  rw [List.set_comm _ _ (Ne.symm hij)] at I5
  exact ⟨_,H1,I5,q1⟩
end
section
variable {X:Cx} {pos:Pos}
def Zox (c:TT) (tb:TS):TS:=fun D σ H=>∃ W:Nat→St→Hp→Prop,(∃ m,W m σ H)∧∀ m σ H,W m σ H →
  c σ H fun b H1=>if b=true then ∃ N:St→Hp→Prop,(∀ σ' H',N σ' H'→∃ m',m'<m∧W m' σ' H')∧tb { D with nx:=N,ct:=N,bk:=D.nx } σ H1 else D.nx σ H1
theorem Zmp {c:Expr} {body:List Stmt} {tc:TT} {tb:TS} (hp:PassesOwn (model X.prog X.w) X.A X.env X.xe) (hc:PT X c tc) (hb:PSs X body tb):PS X (.While c body [] pos) (Zox tc tb):=by
  intro pins s σ H D I h
  obtain ⟨W,⟨m0,w0⟩,turn⟩:=h
  refine wpAny_While (codeAny_whileLoop (fun n s'=>∃ σ' H',Inv X pins σ' H' s'∧W n σ' H') ?_ m0 ⟨σ,H,I,w0⟩)
  rintro n s1 ⟨σ1,H1,I1,w1⟩
  refine wpAny_passesOwn hp (thn (hc pins s1 σ1 H1 _ I1 (turn n σ1 H1 w1)) fun b s2 ⟨H2,I2,q2⟩=>?_)
  cases b with
  | true =>
    obtain ⟨N,hN,q2⟩:=q2
    rw [if_pos rfl]
    refine wpAny_passesOwn hp (thn (hb pins s2 σ1 H2 _ I2 q2) fun f s3 q3=>?_)
    cases f with
    | next =>
      obtain ⟨σ3,H3,I3,n3⟩:=q3
      obtain ⟨m',hm,w3⟩:=hN σ3 H3 n3
      exact ⟨m',hm,σ3,H3,I3,w3⟩
    | cont =>
      obtain ⟨σ3,H3,I3,n3⟩:=q3
      obtain ⟨m',hm,w3⟩:=hN σ3 H3 n3
      exact ⟨m',hm,σ3,H3,I3,w3⟩
    | brk=>exact q3
    | ret v=>exact q3
  | false =>
    rw [if_neg Bool.false_ne_true]
    exact wpAny_execs_nil ⟨σ1,H2,I2,q2⟩
end
structure It where
  go:Nat→Hp→Prop
  yld:Nat→Hp→V→Hp→Prop
  stop:Nat→Hp→Prop
def FpOk (X:Cx) (pins:List (Addr×Obj)) (H:Hp) (b:Addr):Prop :=
  H b=none∧b≠X.env.locals∧b∉X.fs∧(b∈X.ex∨X.s₀.heap.objs.size≤b)∧(∀ x c,X.env.cells.lookup x=some c→c≠b)∧∀ p∈X.pn++pins,p.1≠b
theorem Inv.fpOk {X:Cx} {pins:List (Addr×Obj)} {σ:St} {H H':Hp} {s:Shared} {b:Addr} (I:Inv X pins σ H s) (hb:s.heap.objs.size≤b) (hn:H' b=none):FpOk X pins H' b:=by
  refine ⟨hn,Nat.ne_of_gt (Nat.lt_of_lt_of_le I.lt hb),I.nofs hb,.inr (Nat.le_trans I.sz hb),fun x c e z=>?_,fun p hp z=>?_⟩
  · obtain ⟨v,q⟩:=I.cell x c e
    exact absurd (Nat.lt_of_lt_of_le q.lt (by rw [z]; exact hb)) (Nat.lt_irrefl _)
  · exact absurd (Nat.lt_of_lt_of_le (Heap.lt_size (I.pin p hp).1) (by rw [z]; exact hb)) (Nat.lt_irrefl _)
structure Turn (P:Program) (w:World) (K:PySem.W.Frag) (tg:Expr) (J:It) (fp:List Addr) (it:Addr) (tn:Nat→Heap→Prop):Prop where
  mem:it∈fp
  obj:∀ i h,tn i h→∀ b∈fp,∃ o,h.get? b=some o∧∀ v,o.data≠.cell v
  keep:∀ i h h',tn i h→(∀ b∈fp,∀ o,h.get? b=some o→h'.get? b=some o)→tn i h'
  item:∀ (X:Cx),X.prog=P→X.w=w→X.K=K→X.calm=true→∀ (i:Nat) (pins:List (Addr×Obj)) (s:Shared) (σ:St) (H:Hp) (E:Value→Shared→Prop),Inv X pins σ H s→(∀ b∈fp,FpOk X pins H b)→tn i s.heap→J.go i H →
    wpAny (model P w) X.A (pyNext (.ref it)) (fun r s1=>∃ u,r=some u ∧
      wpAny (model P w) X.A (letOwnedTupleGo tg (.ref it) u) (fun _ s2=>∃ x H',Inv X pins σ H' s2∧RelV x u∧J.yld i H x H'∧tn (i+1) s2.heap∧∀ b∈fp,H' b=none) E s1) E s
  done:∀ (X:Cx),X.prog=P→X.w=w→X.K=K→X.calm=true→∀ (i:Nat) (pins:List (Addr×Obj)) (s:Shared) (σ:St) (H:Hp) (E:Value→Shared→Prop),Inv X pins σ H s→(∀ b∈fp,FpOk X pins H b)→tn i s.heap→J.stop i H →
    wpAny (model P w) X.A (pyNext (.ref it)) (fun r s1=>r=none∧Inv X pins σ H s1) E s
  self:∀ (A:Around) (i:Nat) (s:Shared) (Q:Value→Shared→Prop) (E:Value→Shared→Prop),tn i s.heap→Q (.ref it) s→wpAny (model P w) A (pyIter (.ref it)) Q E s
abbrev TI:=St→Hp→(It→Hp→Prop)→Prop
def PIE (X:Cx) (pins:List (Addr×Obj)) (σ:St) (tg:Expr) (R:It→Hp→Prop) (itv:Value) (s2:Shared):Prop :=
  ∃ (it:Addr) (fp:List Addr) (tn:Nat→Heap→Prop) (J:It) (H':Hp),itv=.ref it∧Inv X pins σ H' s2∧Turn X.prog X.w X.K tg J fp it tn∧tn 0 s2.heap∧(∀ b∈fp,FpOk X pins H' b)∧R J H'
def PI (X:Cx) (tg iter:Expr) (wi:TI):Prop :=
  ∀ (pins:List (Addr×Obj)) (s:Shared) (σ:St) (H:Hp) (R:It→Hp→Prop),Inv X pins σ H s→wi σ H R →
    wpAny (model X.prog X.w) X.A (eval iter X.env) (fun v s1=>wpAny (model X.prog X.w) X.A (pyIter v) (PIE X pins σ tg R) X.xe s1) X.xe s
theorem go_of {M:Model} {A:Around} {E:Value→Shared→Prop} {s:Shared} {tg:Expr} {it:Addr} {u:Value} {o:Obj} {n:String} {vs:Array Value} {Q:Unit→Shared→Prop} (ho:s.heap.get? it=some o) (hc:o.cls=.type n) (hd:o.data=.fields vs)
    (hn:["enumerate", "zip", "dict_itemiterator", "dict_reverseitemiterator", "odict_iterator", "itertools.zip_longest", "itertools.pairwise"].contains n=false) (hQ:Q () s):wpAny M A (letOwnedTupleGo tg (.ref it) u) Q E s:=by
  unfold letOwnedTupleGo
  cases tg <;> first
    | exact wpAny_pure hQ
    | (cases u <;> first
        | exact wpAny_pure hQ
        | (refine wpAny_bind (wpAny_load ho ?_)
           rw [hc,hd]
           show wpAny M A (if (["enumerate", "zip", "dict_itemiterator", "dict_reverseitemiterator", "odict_iterator", "itertools.zip_longest", "itertools.pairwise"].contains n && vs[0]? == some (rawInt _))=true then _ else _) Q E s
           rw [if_neg (by intro h; rw [hn,Bool.false_and] at h; cases h)]
           exact wpAny_pure hQ))
def Itl (K:PySem.W.Frag) (a:Addr):It :=
  ⟨fun i H=>∃ xs x,SqL K H a xs∧xs[i]?=some x,fun i H x H'=>H'=H∧∀ xs,SqL K H a xs→xs[i]?=some x,fun i H=>∃ xs,SqL K H a xs∧xs.length≤i⟩
def Itt (K:PySem.W.Frag) (a:Addr):It :=
  ⟨fun i H=>∃ xs x,SqT K H a xs∧xs[i]?=some x,fun i H x H'=>H'=H∧∀ xs,SqT K H a xs→xs[i]?=some x,fun i H=>∃ xs,SqT K H a xs∧xs.length≤i⟩
def Itr (lo:Int) (n:Nat):It:=⟨fun i _=>i<n,fun i H x H'=>H'=H∧x=.int (lo+i),fun i _=>n≤i⟩
theorem ZkC {P:Program} {w:World} {K:PySem.W.Frag} {tg:Expr} (a it:Addr):Turn P w K tg (Itl K a) [it] it (fun i h=>h.IsListIter it a i) where
  mem:=by simp
  obj:=fun i h st b hb=>by
    have e:b=it:=by simpa using hb
    subst e
    obtain ⟨o,e,c,d⟩:=st
    exact ⟨o,e,fun v z=>by rw [d] at z; cases z⟩
  keep:=fun i h h' st k=>st.at fun o e=>k it (by simp) o e
  item:=by
    intro X hP hw hK hc i pins s σ H E I hf st hg
    subst hP hw hK
    obtain ⟨xs,x,hq,hx⟩:=hg
    obtain ⟨its,rv,p,hz⟩:=I.list hq
    obtain ⟨u,hu,ru⟩:=rv.get hx
    obtain ⟨f0,f1,f2,f3,f4,f5⟩:=hf it (by simp)
    refine wpAny_pyNext_list_item st p.isList (x:=u) (by simpa using hu) fun h' st' sb=>?_
    have I1:Inv X pins σ H { s with heap:=h' }:=I.turned (t':=s.toks) (fun b o hb e=>(sb.2 b hb).trans e) f0 f1 f3 f4 f5
    obtain ⟨o,e,c,d⟩:=id st'
    exact ⟨u,rfl,go_of (s:={ s with heap:=h' }) e c d (by decide) ⟨x,H,I1,ru,⟨rfl,fun ys hy=>by rw [I.list_inj hy hq]; exact hx⟩,st',fun b hb=>(hf b hb).1⟩⟩
  done:=by
    intro X hP hw hK hc i pins s σ H E I hf st hg
    subst hP hw hK
    obtain ⟨xs,hq,hx⟩:=hg
    obtain ⟨its,rv,p,hz⟩:=I.list hq
    obtain ⟨f0,f1,f2,f3,f4,f5⟩:=hf it (by simp)
    have hl:=rv.length
    exact wpAny_pyNext_list_end (I.ok.hd hc) st p.isList (by simp; omega) fun h' eb=>⟨rfl,I.turned (t':=s.toks) (fun b o hb e=>eb b o hb e) f0 f1 f3 f4 f5⟩
  self:=fun _ _ _ _ _ st h=>wpAny_pyIter_listiter st h
theorem ZjO {P:Program} {w:World} {K:PySem.W.Frag} {tg:Expr} (a it:Addr):Turn P w K tg (Itt K a) [it] it (fun i h=>h.IsTupleIter it a i) where
  mem:=by simp
  obj:=fun i h st b hb=>by
    have e:b=it:=by simpa using hb
    subst e
    obtain ⟨o,e,c,d⟩:=st
    exact ⟨o,e,fun v z=>by rw [d] at z; cases z⟩
  keep:=fun i h h' st k=>st.at fun o e=>k it (by simp) o e
  item:=by
    intro X hP hw hK hc i pins s σ H E I hf st hg
    subst hP hw hK
    obtain ⟨xs,x,hq,hx⟩:=hg
    obtain ⟨its,rv,p,hz⟩:=I.tuple hq
    obtain ⟨u,hu,ru⟩:=rv.get hx
    obtain ⟨f0,f1,f2,f3,f4,f5⟩:=hf it (by simp)
    refine wpAny_pyNext_tuple_item st (show s.heap.IsTuple a its.toArray from p) (x:=u) (by simpa using hu) fun h' st' sb=>?_
    have I1:Inv X pins σ H { s with heap:=h' }:=I.turned (t':=s.toks) (fun b o hb e=>(sb.2 b hb).trans e) f0 f1 f3 f4 f5
    obtain ⟨o,e,c,d⟩:=id st'
    exact ⟨u,rfl,go_of (s:={ s with heap:=h' }) e c d (by decide) ⟨x,H,I1,ru,⟨rfl,fun ys hy=>by rw [I.tuple_inj hy hq]; exact hx⟩,st',fun b hb=>(hf b hb).1⟩⟩
  done:=by
    intro X hP hw hK hc i pins s σ H E I hf st hg
    subst hP hw hK
    obtain ⟨xs,hq,hx⟩:=hg
    obtain ⟨its,rv,p,hz⟩:=I.tuple hq
    obtain ⟨f0,f1,f2,f3,f4,f5⟩:=hf it (by simp)
    have hl:=rv.length
    exact wpAny_pyNext_tuple_end (I.ok.hd hc) st (show s.heap.IsTuple a its.toArray from p) (by simp; omega) fun h' eb=>⟨rfl,I.turned (t':=s.toks) (fun b o hb e=>eb b o hb e) f0 f1 f3 f4 f5⟩
  self:=fun _ _ _ _ _ st h=>wpAny_pyIter_tupleiter st h
theorem ZjP {P:Program} {w:World} {K:PySem.W.Frag} {tg:Expr} (it:Addr) (lo:Int) (n:Nat):Turn P w K tg (Itr lo n) [it] it (fun i h=>IsRangeIter h it (lo+(i:Nat) * 1) ((n:Int) - (i:Nat)) 1) where
  mem:=by simp
  obj:=fun i h st b hb=>by
    have e:b=it:=by simpa using hb
    subst e
    exact ⟨_,st,fun v z=>by
      have z':Data.fields _=Data.cell v:=z
      cases z'⟩
  keep:=fun i h h' st k=>k it (by simp) _ st
  item:=by
    intro X hP hw hK hc i pins s σ H E I hf st hg
    subst hP hw hK
    obtain ⟨f0,f1,f2,f3,f4,f5⟩:=hf it (by simp)
    have W:=Walks.range (prog:=X.prog) (w:=X.w) (I.ok.hd hc) it lo 1 n
    refine W.item i s _ _ hg st fun v h' tk hv st' kk=>?_
    obtain ⟨t,rfl⟩:=hv
    have I1:Inv X pins σ H { s with heap:=h',toks:=tk }:=I.turned (fun b o hb e=>kk b o (by simpa using hb) e) f0 f1 f3 f4 f5
    refine ⟨_,rfl,go_of (s:={ s with heap:=h',toks:=tk }) (n := "range_iterator") st' rfl rfl (by decide) ⟨.int (lo+i),H,I1,⟨t,?_⟩,⟨rfl,rfl⟩,st',fun b hb=>(hf b hb).1⟩⟩
    rw [Int.mul_one]
  done:=by
    intro X hP hw hK hc i pins s σ H E I hf st hg
    subst hP hw hK
    obtain ⟨f0,f1,f2,f3,f4,f5⟩:=hf it (by simp)
    exact wpAny_pyNext_range_end (I.ok.hd hc) st (by have:n≤i:=hg; omega) fun h' eb=>⟨rfl,I.turned (t':=s.toks) (fun b o hb e=>eb b o hb e) f0 f1 f3 f4 f5⟩
  self:=fun _ _ _ _ _ st h=>wpAny_pyIter_rangeiter st h
end L2
namespace L2
open PySem PySem.Spec PyProof.Rows
section
variable {X:Cx} {tg:Expr}
def iList (K:PySem.W.Frag) (tl:TE):TI:=fun σ H R=>tl σ H fun x H1=>∃ a,x=.ref a∧(∃ xs,SqL K H1 a xs)∧R (Itl K a) H1
def iTup (K:PySem.W.Frag) (tl:TE):TI:=fun σ H R=>tl σ H fun x H1=>∃ a,x=.ref a∧(∃ xs,SqT K H1 a xs)∧R (Itt K a) H1
theorem ZnC {l:Expr} {tl:TE} (hl:PE X l tl):PI X tg l (iList X.K tl):=by
  intro pins s σ H R I h
  refine thn (hl pins s σ H _ I h) fun v s1 ⟨x,H1,I1,r1,q1⟩=>?_
  obtain ⟨a,e,⟨xs,hq⟩,q⟩:=q1
  subst e
  cases r1
  obtain ⟨its,rv,p,hz⟩:=I1.list hq
  refine wpAny_pyIter_list p.isList ?_
  refine ⟨s1.heap.objs.size,[s1.heap.objs.size],_,_,H1,rfl,I1.kept (t':=s1.toks) fun b o e=>Heap.get?_push_of_some _ e,ZkC a _,⟨_,Heap.get?_push_size _ rfl,rfl,rfl⟩,fun b hb=>?_,q⟩
  have e:b=s1.heap.objs.size:=by simpa using hb
  subst e
  exact I1.fpOk (Nat.le_refl _) (I1.hok.fresh (Nat.le_refl _))
theorem Zoy {l:Expr} {tl:TE} (hl:PE X l tl):PI X tg l (iTup X.K tl):=by
  intro pins s σ H R I h
  refine thn (hl pins s σ H _ I h) fun v s1 ⟨x,H1,I1,r1,q1⟩=>?_
  obtain ⟨a,e,⟨xs,hq⟩,q⟩:=q1
  subst e
  cases r1
  obtain ⟨its,rv,p,hz⟩:=I1.tuple hq
  refine wpAny_pyIter_tuple (show s1.heap.IsTuple a its.toArray from p) ?_
  refine ⟨s1.heap.objs.size,[s1.heap.objs.size],_,_,H1,rfl,I1.kept (t':=s1.toks) fun b o e=>Heap.get?_push_of_some _ e,ZjO a _,⟨_,Heap.get?_push_size _ rfl,rfl,rfl⟩,fun b hb=>?_,q⟩
  have e:b=s1.heap.objs.size:=by simpa using hb
  subst e
  exact I1.fpOk (Nat.le_refl _) (I1.hok.fresh (Nat.le_refl _))
theorem Zmq {pins:List (Addr×Obj)} {σ:St} {H:Hp} {s:Shared} {R:It→Hp→Prop} {E:Value→Shared→Prop} {lo hi:Int} {t u v:Tok} {tk:Nat} (I:Inv X pins σ H s) (h1 : -(2 ^ 62)≤lo) (h2:lo<2 ^ 62) (h3 : -(2 ^ 62)≤hi) (h4:hi<2 ^ 62)
    (q:R (Itr lo (hi - lo).toNat) H):wpAny (model X.prog X.w) X.A (pyIter (.ref s.heap.objs.size)) (PIE X pins σ tg R) E { s with heap:=s.heap.push { cls:=.type "range",data:=.fields #[.int lo t,.int hi u,.int 1 v] },toks:=tk }:=by
  refine wpAny_pyIter_range (IsRange.new ..) (small_one h1 h2 h3 h4) ?_
  have I1:Inv X pins σ H { s with heap:=s.heap.push { cls:=.type "range",data:=.fields #[.int lo t,.int hi u,.int 1 v] },toks:=tk }:=I.kept fun b o e=>Heap.get?_push_of_some _ e
  refine ⟨(s.heap.push { cls:=.type "range",data:=.fields #[.int lo t,.int hi u,.int 1 v] }).objs.size,[(s.heap.push { cls:=.type "range",data:=.fields #[.int lo t,.int hi u,.int 1 v] }).objs.size],_,_,H,rfl,
    I1.kept (t':=tk) fun b o e=>Heap.get?_push_of_some _ e,ZjP _ lo (hi - lo).toNat,?_,fun b hb=>?_,q⟩
  · have e1:lo+((0:Nat):Int) * 1=lo:=by simp
    have e2:(((hi - lo).toNat:Nat):Int) - ((0:Nat):Int)=Builtin.Range.rangeSize lo hi 1:=by rw [rangeSize_one]; split <;> omega
    show IsRangeIter _ _ (lo+((0:Nat):Int) * 1) ((((hi - lo).toNat:Nat):Int) - ((0:Nat):Int)) 1
    rw [e1,e2]
    exact Heap.get?_push_size _ rfl
  · have e:b=(s.heap.push { cls:=.type "range",data:=.fields #[.int lo t,.int hi u,.int 1 v] }).objs.size:=by simpa using hb
    subst e
    exact I1.fpOk (Nat.le_refl _) (I1.hok.fresh (Nat.le_refl _))
def iRng1 (ta:TA):TI:=fun σ H R=>ta σ H fun vs H1=>∃ j:Int,vs=[.int j] ∧ -(2 ^ 62)≤j∧j<2 ^ 62∧R (Itr 0 j.toNat) H1
theorem Zcb {a:Expr} {ta:TA} {p pos:Pos} (hg:Gl X "range") (hm:X.mg "range" = none) (ha:PA X [a] ta) (hs:starEach [a] X.env=[(false,eval a X.env)]:=by rfl):PI X tg (.Call (.Name "range" p) [a] [] pos) (iRng1 ta):=by
  intro pins s σ H R I h
  refine Call_ (Zca I hg hm boot_range (PyProof.Rows.callWith_type1 (thn (ha pos pins s σ H _ I h) fun us s1 ⟨vs,H1,I1,r1,q1⟩=>?_) hs rfl))
  obtain ⟨j,e,q1,q2,q⟩:=q1
  subst e
  cases r1 with
  | cons r rr =>
    cases rr
    obtain ⟨t,rfl⟩:=r
    exact call_range_1 (Zmq I1 (by omega) (by omega) q1 q2 (by simpa using q))
def tFor (wi:TI) (g:TG) (tb:TS):TS:=fun D σ H=>wi σ H fun J H1=>∃ W:Nat→Nat→St→Hp→Prop,(∃ m,W 0 m σ H1)∧∀ i m σ H,W i m σ H →
  (J.stop i H∧D.nx σ H)∨(J.go i H∧∃ N:St→Hp→Prop,(∀ σ' H',N σ' H'→∃ m',m'<m∧W (i+1) m' σ' H')∧∀ x H',J.yld i H x H'→g x σ H' fun σ2 H2=>tb { D with nx:=N,ct:=N,bk:=D.nx } σ2 H2)
def ZgZ (fp:List Addr) (h:Heap):List (Addr×Obj):=fp.filterMap fun b=>(h.get? b).map fun o=>(b,o)
theorem ZcO {fp:List Addr} {h:Heap} {b:Addr} {o:Obj} (hb:b∈fp) (e:h.get? b=some o):(b,o)∈ZgZ fp h:=List.mem_filterMap.mpr ⟨b,hb,by rw [e]; rfl⟩
theorem ZkD {fp:List Addr} {h:Heap} {p:Addr×Obj} (hp:p∈ZgZ fp h):p.1∈fp∧h.get? p.1=some p.2:=by
  obtain ⟨b,hb,e⟩:=List.mem_filterMap.mp hp
  cases q:h.get? b with
  | none=>rw [q] at e; cases e
  | some o =>
    rw [q] at e
    have e':(b,o)=p:=Option.some.inj e
    subst e'
    exact ⟨hb,q⟩
theorem Inv.pinned {pins:List (Addr×Obj)} {σ:St} {H:Hp} {s:Shared} {fp:List Addr} (I:Inv X pins σ H s) (hf:∀ b∈fp,FpOk X pins H b) (ho:∀ b∈fp,∃ o,s.heap.get? b=some o∧∀ v,o.data≠.cell v):Inv X (pins++ZgZ fp s.heap) σ H s :=
  I.pins_of fun p hp=>(List.mem_append.mp hp).elim (fun z=>I.pin p (List.mem_append_right _ z)) fun z=>by
    obtain ⟨hb,e⟩:=ZkD z
    obtain ⟨f0,f1,f2,_⟩:=hf p.1 hb
    obtain ⟨o,e',d⟩:=ho p.1 hb
    rw [e] at e'; cases e'
    exact ⟨e,f0,f1,f2,d⟩
theorem Inv.unpinned {pins pl:List (Addr×Obj)} {σ:St} {H:Hp} {s:Shared} (I:Inv X (pins++pl) σ H s):Inv X pins σ H s:=I.pins_of fun p hp=>I.pin p (List.mem_append_right _ (List.mem_append_left _ hp))
theorem ZcE {iter:Expr} {body:List Stmt} {wi:TI} {g:TG} {tb:TS} {pos:Pos} (hp:PassesOwn (model X.prog X.w) X.A X.env X.xe) (hc:X.calm=true) (hi:PI X tg iter wi) (hg:PG X tg g) (hb:PSs X body tb)
    (hs:∀ x,foldedSetIterable iter X.env x=pure x:=by intro _; rfl):PS X (.For tg iter body [] pos) (tFor wi g tb):=by
  intro pins s σ H D I h
  refine wpAny_For (thn (hi pins s σ H _ I h) fun v s1 h1=>thn h1 fun itv s2 h2=>?_) hs
  obtain ⟨it,fp,tn,J,H2,e,I2,T,st2,f2,W,⟨m0,w0⟩,turn⟩:=h2
  subst e
  have stat:∀ {H':Hp},(∀ b∈fp,H' b=none)→∀ b∈fp,FpOk X pins H' b:=fun hn b hb=>⟨hn b hb,(f2 b hb).2⟩
  refine codeAny_forLoop_any (fun n s'=>∃ i σ' H',Inv X pins σ' H' s'∧tn i s'.heap∧(∀ b∈fp,H' b=none)∧W i n σ' H') ?_ m0 ⟨0,σ,H2,I2,st2,fun b hb=>(f2 b hb).1,w0⟩
  rintro n s3 ⟨i,σ3,H3,I3,st3,fr3,w3⟩
  rcases turn i n σ3 H3 w3 with ⟨stop,qn⟩ | ⟨go,N,hN,step⟩
  · refine wpAny_passesOwn hp (thn (T.done X rfl rfl rfl hc i pins s3 σ3 H3 X.xe I3 (stat fr3) st3 stop) fun r s4 ⟨hr,I4⟩=>?_)
    subst hr
    exact wpAny_execs_nil ⟨σ3,H3,I4,qn⟩
  · refine wpAny_passesOwn hp (thn (T.item X rfl rfl rfl hc i pins s3 σ3 H3 X.xe I3 (stat fr3) st3 go) fun r s4 ⟨u,hr,h4⟩=>?_)
    subst hr
    refine wpAny_passesOwn hp (thn h4 fun _ s5 ⟨x,H5,I5,r5,y5,st5,fr5⟩=>?_)
    have I5':=I5.pinned (stat fr5) (T.obj _ _ st5)
    refine wpAny_passesOwn hp (thn (hg _ s5 σ3 H5 x u _ I5' r5 (step x H5 y5)) fun _ s6 ⟨σ6,H6,I6,q6⟩=>?_)
    refine wpAny_passesOwn hp (thn (hb _ s6 σ6 H6 _ I6 q6) fun f s7 q7=>?_)
    have again:∀ {σ7:St} {H7:Hp},Inv X (pins++ZgZ fp s5.heap) σ7 H7 s7→N σ7 H7→∃ m,m<n∧∃ i σ' H',Inv X pins σ' H' s7∧tn i s7.heap∧(∀ b∈fp,H' b=none)∧W i m σ' H':=fun {σ7 H7} I7 n7=>by
      obtain ⟨m',hm,w7⟩:=hN σ7 H7 n7
      refine ⟨m',hm,i+1,σ7,H7,I7.unpinned,T.keep _ _ _ st5 fun b hb o e=>(I7.pin (b,o) (List.mem_append_right _ (List.mem_append_right _ (ZcO hb e)))).1,fun b hb=>?_,w7⟩
      obtain ⟨o,e,d⟩:=T.obj _ _ st5 b hb
      exact (I7.pin (b,o) (List.mem_append_right _ (List.mem_append_right _ (ZcO hb e)))).2.1
    cases f with
    | next=>obtain ⟨σ7,H7,I7,n7⟩:=q7; exact again I7 n7
    | cont=>obtain ⟨σ7,H7,I7,n7⟩:=q7; exact again I7 n7
    | brk=>obtain ⟨σ7,H7,I7,q7⟩:=q7; exact ⟨σ7,H7,I7.unpinned,q7⟩
    | ret v=>obtain ⟨x7,σ7,H7,I7,r7,q7⟩:=q7; exact ⟨x7,σ7,H7,I7.unpinned,r7,q7⟩
end
theorem ZiZ {K:PySem.W.Frag} {a:Addr} {xs:List V} {g:TG} {tb:TS} {D:Ends} {σ:St} {H:Hp} (Pv:Nat→St→Hp→Prop) (h0:Pv 0 σ H) (hl:∀ i σ H,i≤xs.length→Pv i σ H→SqL K H a xs)
    (hs:∀ i x σ H,xs[i]?=some x→Pv i σ H→g x σ H fun σ2 H2=>tb { D with nx:=Pv (i+1),ct:=Pv (i+1),bk:=D.nx } σ2 H2) (hd:∀ σ H,Pv xs.length σ H→D.nx σ H) :
    ∃ W:Nat→Nat→St→Hp→Prop,(∃ m,W 0 m σ H)∧∀ i m σ H,W i m σ H →
      ((Itl K a).stop i H∧D.nx σ H)∨((Itl K a).go i H∧∃ N:St→Hp→Prop,(∀ σ' H',N σ' H'→∃ m',m'<m∧W (i+1) m' σ' H')∧∀ x H',(Itl K a).yld i H x H'→g x σ H' fun σ2 H2=>tb { D with nx:=N,ct:=N,bk:=D.nx } σ2 H2):=by
  refine ⟨fun i m σ H=>m=xs.length - i∧i≤xs.length∧Pv i σ H,⟨xs.length,by simp,Nat.zero_le _,h0⟩,?_⟩
  rintro i m σ H ⟨rfl,hi,p⟩
  have q:=hl i σ H hi p
  by_cases hlt:i<xs.length
  · refine .inr ⟨⟨xs,xs[i],q,by simp [hlt]⟩,Pv (i+1),fun σ' H' p'=>⟨xs.length - (i+1),by omega,rfl,hlt,p'⟩,fun x H' y=>?_⟩
    obtain ⟨e,y⟩:=y
    subst e
    exact hs i x σ _ (y xs q) p
  · have e:i=xs.length:=by omega
    subst e
    exact .inl ⟨⟨xs,q,Nat.le_refl _⟩,hd σ H p⟩
theorem Zha {lo:Int} {n:Nat} {g:TG} {tb:TS} {D:Ends} {σ:St} {H:Hp} (Pv:Nat→St→Hp→Prop) (h0:Pv 0 σ H)
    (hs:∀ i σ H,i<n→Pv i σ H→g (.int (lo+i)) σ H fun σ2 H2=>tb { D with nx:=Pv (i+1),ct:=Pv (i+1),bk:=D.nx } σ2 H2) (hd:∀ σ H,Pv n σ H→D.nx σ H) :
    ∃ W:Nat→Nat→St→Hp→Prop,(∃ m,W 0 m σ H)∧∀ i m σ H,W i m σ H →
      ((Itr lo n).stop i H∧D.nx σ H)∨((Itr lo n).go i H∧∃ N:St→Hp→Prop,(∀ σ' H',N σ' H'→∃ m',m'<m∧W (i+1) m' σ' H')∧∀ x H',(Itr lo n).yld i H x H'→g x σ H' fun σ2 H2=>tb { D with nx:=N,ct:=N,bk:=D.nx } σ2 H2):=by
  refine ⟨fun i m σ H=>m=n - i∧i≤n∧Pv i σ H,⟨n,by simp,Nat.zero_le _,h0⟩,?_⟩
  rintro i m σ H ⟨rfl,hi,p⟩
  by_cases hlt:i<n
  · refine .inr ⟨hlt,Pv (i+1),fun σ' H' p'=>⟨n - (i+1),by omega,rfl,hlt,p'⟩,fun x H' y=>?_⟩
    obtain ⟨e,y⟩:=y
    subst e y
    exact hs i σ _ hlt p
  · have e:i=n:=by omega
    subst e
    exact .inl ⟨Nat.le_refl _,hd σ H p⟩
end L2
namespace L2
open PySem PySem.Spec PyProof.Rows
abbrev R2:=V→V→Hp→VK→Prop
def OpR (X:Cx) (f:Value→Value→Sem Value) (r:R2):Prop :=
  ∀ (pins:List (Addr×Obj)) (s:Shared) (σ:St) (H:Hp) (x y:V) (v u:Value) (Q:VK),Inv X pins σ H s→RelV x v→RelV y u→r x y H Q →
    wpAny (model X.prog X.w) X.A (f v u) (EP X pins σ Q) X.xe s
def UnR (X:Cx) (f:Value→Sem Value) (r:V→Hp→VK→Prop):Prop :=
  ∀ (pins:List (Addr×Obj)) (s:Shared) (σ:St) (H:Hp) (x:V) (v:Value) (Q:VK),Inv X pins σ H s→RelV x v→r x H Q →
    wpAny (model X.prog X.w) X.A (f v) (EP X pins σ Q) X.xe s
def CallR (X:Cx) (f:Value) (r:List V→Hp→VK→Prop):Prop :=
  ∀ (pins:List (Addr×Obj)) (s:Shared) (σ:St) (H:Hp) (xs:List V) (us:List Value) (Q:VK),Inv X pins σ H s→Vals xs us→r xs H Q →
    wpAny (model X.prog X.w) X.A (call f us) (EP X pins σ Q) X.xe s
def tOp (r:R2) (ta tb:TE):TE:=fun σ H Q=>ta σ H fun x H1=>tb σ H1 fun y H2=>r x y H2 Q
def tUn (r:V→Hp→VK→Prop) (ta:TE):TE:=fun σ H Q=>ta σ H fun x H1=>r x H1 Q
def rI (C:Int→Int→Prop) (g:Int→Int→V):R2:=fun x y H Q=>∃ i j,x=.int i∧y=.int j∧C i j∧Q (g i j) H
def rI0 (g:Int→Int→V):R2:=fun x y H Q=>∃ i j,x=.int i∧y=.int j∧Q (g i j) H
def rU (g:Int→V):V→Hp→VK→Prop:=fun x H Q=>∃ i,x=.int i∧Q (g i) H
section
variable {X:Cx} {a b c:Expr} {ta tb tc:TE} {pos:Pos}
theorem binT (ha:PE X a ta) (hb:PE X b tb) {pins:List (Addr×Obj)} {s:Shared} {σ:St} {H:Hp} {R:V→V→Hp→Prop} (I:Inv X pins σ H s)
    (h:ta σ H fun x H1=>tb σ H1 fun y H2=>R x y H2) {Q:Value→Shared→Prop} {f:Value→Value→Sem Value}
    (hf:∀ v u s2 x y H2,Inv X pins σ H2 s2→RelV x v→RelV y u→R x y H2→wpAny (model X.prog X.w) X.A (f v u) Q X.xe s2) :
    wpAny (model X.prog X.w) X.A (eval a X.env) (fun v s₁=>wpAny (model X.prog X.w) X.A (eval b X.env) (fun u s₂=>wpAny (model X.prog X.w) X.A (f v u) Q X.xe s₂) X.xe s₁) X.xe s:=by
  refine thn (ha pins s σ H _ I h) fun v s1 ⟨x,H1,I1,r1,q1⟩=>?_
  refine thn (hb pins s1 σ H1 _ I1 q1) fun u s2 ⟨y,H2,I2,r2,q2⟩=>?_
  exact hf v u s2 x y H2 I2 r1 r2 q2
theorem pe_op {op:Operator} {r:R2} (ho:OpR X (binaryOp op) r) (ha:PE X a ta) (hb:PE X b tb):PE X (.BinOp a op b pos) (tOp r ta tb):=by
  intro pins s σ H Q I h
  exact wpAny_BinOp (binT ha hb I h fun v u s2 x y H2 I2 rx ry q=>ho pins s2 σ H2 x y v u Q I2 rx ry q)
theorem pe_un {op:UnaryOp} {r:V→Hp→VK→Prop} (ho:UnR X (unaryOp op) r) (ha:PE X a ta):PE X (.UnaryOp op a pos) (tUn r ta):=by
  intro pins s σ H Q I h
  exact UnaryOp_ (thn (ha pins s σ H _ I h) fun v s1 ⟨x,H1,I1,r1,q1⟩=>ho pins s1 σ H1 x v Q I1 r1 q1)
theorem opI {f:Value→Value→Sem Value} {C:Int→Int→Prop} {g:Int→Int→Int}
    (rule:∀ (i j:Int) (t u:Tok) (s:Shared) (Q:Value→Shared→Prop) (E:Value→Shared→Prop),C i j→Q (.int (g i j) s.toks) { s with toks:=s.toks+1 }→wpAny (model X.prog X.w) X.A (f (.int i t) (.int j u)) Q E s) :
    OpR X f (rI C fun i j=>.int (g i j)):=by
  intro pins s σ H x y v u Q I rx ry h
  obtain ⟨i,j,rfl,rfl,hc,q⟩:=h
  obtain ⟨t,rfl⟩:=rx
  obtain ⟨t',rfl⟩:=ry
  exact rule i j t t' s _ _ hc ⟨.int (g i j),H,I.tok _,⟨_,rfl⟩,q⟩
theorem opI0 {f:Value→Value→Sem Value} {g:Int→Int→Int}
    (rule:∀ (i j:Int) (t u:Tok) (s:Shared) (Q:Value→Shared→Prop) (E:Value→Shared→Prop),Q (.int (g i j) s.toks) { s with toks:=s.toks+1 }→wpAny (model X.prog X.w) X.A (f (.int i t) (.int j u)) Q E s) :
    OpR X f (rI0 fun i j=>.int (g i j)):=by
  intro pins s σ H x y v u Q I rx ry h
  obtain ⟨i,j,rfl,rfl,q⟩:=h
  obtain ⟨t,rfl⟩:=rx
  obtain ⟨t',rfl⟩:=ry
  exact rule i j t t' s _ _ ⟨.int (g i j),H,I.tok _,⟨_,rfl⟩,q⟩
theorem opB0 {f:Value→Value→Sem Value} {g:Int→Int→Bool}
    (rule:∀ (i j:Int) (t u:Tok) (s:Shared) (Q:Value→Shared→Prop) (E:Value→Shared→Prop),Q (.bool (g i j)) s→wpAny (model X.prog X.w) X.A (f (.int i t) (.int j u)) Q E s) :
    OpR X f (rI0 fun i j=>.bl (g i j)):=by
  intro pins s σ H x y v u Q I rx ry h
  obtain ⟨i,j,rfl,rfl,q⟩:=h
  obtain ⟨t,rfl⟩:=rx
  obtain ⟨t',rfl⟩:=ry
  exact rule i j t t' s _ _ ⟨.bl (g i j),H,I,rfl,q⟩
def CDiv (i j:Int):Prop:=0<j∧j<1073741824
def CPow (i j:Int):Prop:=0≤j∧j≤1000000∧i.natAbs<2 ^ 64
def CMul (i j:Int):Prop:=(-(2 ^ 64)<i∧i<2 ^ 64)∨(-(2 ^ 64)<j∧j<2 ^ 64)
theorem CMul.ok {i j:Int} (h:CMul i j):IntMulOk i j:=by
  rcases h with ⟨h1,h2⟩ | ⟨h1,h2⟩
  · exact .of_left (intBits_le_64 h1 h2)
  · exact .of_right (intBits_le_64 h1 h2)
theorem Zaf:OpR X (binaryOp .Add) (rI0 fun i j=>.int (i+j)):=opI0 fun _ _ _ _ _ _ _ q=>add_int q
theorem ZeE:OpR X (binaryOp .Sub) (rI0 fun i j=>.int (i - j)):=opI0 fun _ _ _ _ _ _ _ q=>sub_int q
theorem Zcr:OpR X (binaryOp .Mult) (rI CMul fun i j=>.int (i * j)):=opI fun _ _ _ _ _ _ _ hc q=>mul_int q hc.ok
theorem ZcY:OpR X (binaryOp .FloorDiv) (rI CDiv fun i j=>.int (i / j)):=opI fun i j _ _ _ _ _ hc q=>by
  have h1:(0:Int)<j:=hc.1
  have h2:j<1073741824:=hc.2
  exact floordiv_int (by omega) (by rw [Int.fdiv_eq_ediv_of_nonneg i (by omega)]; exact q) (.inl (PyProof.noPylong_small (by omega)))
theorem Zcm:OpR X (binaryOp .Mod) (rI (fun _ j=>0<j) fun i j=>.int (i % j)):=opI fun i j _ _ _ _ _ hc q=>by
  have h1:(0:Int)<j:=hc
  exact mod_int' (by omega) (by rw [Int.fmod_eq_emod_of_nonneg i (by omega)]; exact q)
theorem Zoz:OpR X (binaryOp .Pow) (rI CPow fun i j=>.int (i ^ j.toNat)):=opI fun _ _ _ _ _ _ _ hc q=>pow_int_small hc.1 hc.2.1 hc.2.2 q
theorem unI {f:Value→Sem Value} {g:Int→Int}
    (rule:∀ (i:Int) (t:Tok) (s:Shared) (Q:Value→Shared→Prop) (E:Value→Shared→Prop),Q (.int (g i) s.toks) { s with toks:=s.toks+1 }→wpAny (model X.prog X.w) X.A (f (.int i t)) Q E s) :
    UnR X f (rU fun i=>.int (g i)):=by
  intro pins s σ H x v Q I rx h
  obtain ⟨i,rfl,q⟩:=h
  obtain ⟨t,rfl⟩:=rx
  exact rule i t s _ _ ⟨.int (g i),H,I.tok _,⟨_,rfl⟩,q⟩
theorem ZeF:UnR X (unaryOp .USub) (rU fun i=>.int (-i)):=unI fun _ _ _ _ _ q=>neg_int q
end
def scal:V→V→Bool
  | .non,.non=>true | .non,.int _=>true | .int _,.non=>true | .non,.bl _=>true | .bl _,.non=>true | .non,.str _=>true | .str _,.non=>true
  | .int _,.int _=>true | .bl _,.bl _=>true | .str _,.str _=>true | .byt _,.byt _=>true
  | .int _,.str _=>true | .str _,.int _=>true | .bl _,.str _=>true | .str _,.bl _=>true
  | _,_=>false
def rEq:R2:=fun x y H Q=>scal x y=true∧Q (.bl (decide (x=y))) H
def rNe:R2:=fun x y H Q=>scal x y=true∧Q (.bl (!decide (x=y))) H
theorem ZkE {i j:Int}:decide (V.int i=V.int j)=(i == j):=by
  rw [Bool.eq_iff_iff]
  simp
theorem Zni {i j:Bool}:decide (V.bl i=V.bl j)=(i == j):=by
  rw [Bool.eq_iff_iff]
  simp
theorem ZkF {i j:Str}:decide (V.str i=V.str j)=(i == j):=by
  rw [Bool.eq_iff_iff]
  simp
theorem ZkG {i j:Array UInt8}:decide (V.byt i=V.byt j)=(i.toList == j.toList):=by
  rw [Bool.eq_iff_iff]
  cases i
  cases j
  simp
section
variable {X:Cx} {a b c:Expr} {ta tb tc:TE} {pos:Pos}
theorem ZR {pins:List (Addr×Obj)} {σ:St} {H:Hp} {s:Shared} {Q:VK} {k k':Bool} (I:Inv X pins σ H s) (q:Q (.bl k) H) (e:k=k'):EP X pins σ Q (.bool k') s:=by
  subst e
  exact ⟨.bl k,H,I,rfl,q⟩
theorem op_eq:OpR X (compareOp .Eq) rEq:=by
  intro pins s σ H x y v u Q I rx ry h
  obtain ⟨hs,q⟩:=h
  cases x with
  | non =>
    cases rx
    cases y with
    | non=>cases ry; exact PySem.EqNone.eq_none_none (ZR I q (by simp))
    | bl j=>cases ry; exact PySem.EqNone.eq_none_bool (ZR I q (by simp))
    | int j=>obtain ⟨t',rfl⟩:=ry; exact PySem.EqNone.eq_none_int (ZR I q (by simp))
    | str j=>obtain ⟨t',rfl⟩:=ry; exact PySem.EqNone.eq_none_str (ZR I q (by simp))
    | _=>exact absurd (show false=true from hs) Bool.false_ne_true
  | bl i =>
    cases rx
    cases y with
    | non=>cases ry; exact PySem.EqNone.eq_bool_none (ZR I q (by simp))
    | bl j=>cases ry; exact eq_bool (ZR I q Zni)
    | str j=>obtain ⟨t',rfl⟩:=ry; exact PySem.EqMixed.eq_bool_str (ZR I q (by simp))
    | _=>exact absurd (show false=true from hs) Bool.false_ne_true
  | int i =>
    obtain ⟨t,rfl⟩:=rx
    cases y with
    | non=>cases ry; exact PySem.EqNone.eq_int_none (ZR I q (by simp))
    | int j=>obtain ⟨t',rfl⟩:=ry; exact eq_int (ZR I q ZkE)
    | str j=>obtain ⟨t',rfl⟩:=ry; exact PySem.EqMixed.eq_int_str (ZR I q (by simp))
    | _=>exact absurd (show false=true from hs) Bool.false_ne_true
  | str i =>
    obtain ⟨t,rfl⟩:=rx
    cases y with
    | non=>cases ry; exact PySem.EqNone.eq_str_none (ZR I q (by simp))
    | bl j=>cases ry; exact PySem.EqMixed.eq_str_bool (ZR I q (by simp))
    | int j=>obtain ⟨t',rfl⟩:=ry; exact PySem.EqMixed.eq_str_int (ZR I q (by simp))
    | str j=>obtain ⟨t',rfl⟩:=ry; exact eq_str (ZR I q ZkF)
    | _=>exact absurd (show false=true from hs) Bool.false_ne_true
  | byt i =>
    obtain ⟨t,rfl⟩:=rx
    cases y with
    | byt j=>obtain ⟨t',rfl⟩:=ry; exact PySem.W.eq_bytes (ZR I q ZkG)
    | _=>exact absurd (show false=true from hs) Bool.false_ne_true
  | _=>cases y <;> exact absurd (show false=true from hs) Bool.false_ne_true
theorem op_ne:OpR X (compareOp .NotEq) rNe:=by
  intro pins s σ H x y v u Q I rx ry h
  obtain ⟨hs,q⟩:=h
  cases x with
  | non =>
    cases rx
    cases y with
    | non=>cases ry; exact PySem.EqNone.ne_none_none (ZR I q (by simp))
    | bl j=>cases ry; exact PySem.EqNone.ne_none_bool (ZR I q (by simp))
    | int j=>obtain ⟨t',rfl⟩:=ry; exact PySem.EqNone.ne_none_int (ZR I q (by simp))
    | str j=>obtain ⟨t',rfl⟩:=ry; exact PySem.EqNone.ne_none_str (ZR I q (by simp))
    | _=>exact absurd (show false=true from hs) Bool.false_ne_true
  | bl i =>
    cases rx
    cases y with
    | non=>cases ry; exact PySem.EqNone.ne_bool_none (ZR I q (by simp))
    | bl j=>cases ry; exact ne_bool (ZR I q (congrArg not Zni))
    | str j=>obtain ⟨t',rfl⟩:=ry; exact PySem.EqMixed.ne_bool_str (ZR I q (by simp))
    | _=>exact absurd (show false=true from hs) Bool.false_ne_true
  | int i =>
    obtain ⟨t,rfl⟩:=rx
    cases y with
    | non=>cases ry; exact PySem.EqNone.ne_int_none (ZR I q (by simp))
    | int j=>obtain ⟨t',rfl⟩:=ry; exact ne_int (ZR I q (congrArg not ZkE))
    | str j=>obtain ⟨t',rfl⟩:=ry; exact PySem.EqMixed.ne_int_str (ZR I q (by simp))
    | _=>exact absurd (show false=true from hs) Bool.false_ne_true
  | str i =>
    obtain ⟨t,rfl⟩:=rx
    cases y with
    | non=>cases ry; exact PySem.EqNone.ne_str_none (ZR I q (by simp))
    | bl j=>cases ry; exact PySem.EqMixed.ne_str_bool (ZR I q (by simp))
    | int j=>obtain ⟨t',rfl⟩:=ry; exact PySem.EqMixed.ne_str_int (ZR I q (by simp))
    | str j=>obtain ⟨t',rfl⟩:=ry; exact ne_str (ZR I q (congrArg not ZkF))
    | _=>exact absurd (show false=true from hs) Bool.false_ne_true
  | byt i =>
    obtain ⟨t,rfl⟩:=rx
    cases y with
    | byt j=>obtain ⟨t',rfl⟩:=ry; exact PySem.W.ne_bytes (ZR I q (congrArg not ZkG))
    | _=>exact absurd (show false=true from hs) Bool.false_ne_true
  | _=>cases y <;> exact absurd (show false=true from hs) Bool.false_ne_true
theorem op_lt:OpR X (compareOp .Lt) (rI0 fun i j=>.bl (decide (i<j))):=opB0 fun _ _ _ _ _ _ _ q=>lt_int q
theorem op_le:OpR X (compareOp .LtE) (rI0 fun i j=>.bl (decide (i≤j))):=opB0 fun _ _ _ _ _ _ _ q=>le_int q
theorem op_gt:OpR X (compareOp .Gt) (rI0 fun i j=>.bl (decide (j<i))):=opB0 fun _ _ _ _ _ _ _ q=>gt_int q
theorem op_ge:OpR X (compareOp .GtE) (rI0 fun i j=>.bl (decide (j≤i))):=opB0 fun _ _ _ _ _ _ _ q=>ge_int q
theorem ZF (b:Expr) {op:CmpOp} (h:op≠.In:=by decide) (h2:op≠.NotIn:=by decide):behindInMarks op b=false:=by
  have e1:(op == CmpOp.In)=false:=by cases op <;> first | rfl | exact absurd rfl h
  have e2:(op == CmpOp.NotIn)=false:=by cases op <;> first | rfl | exact absurd rfl h2
  cases b <;> simp [behindInMarks,e1,e2]
theorem ZbJ {op:CmpOp} {r:R2} (ho:OpR X (compareOp op) r) (ha:PE X a ta) (hb:PE X b tb) (hm:behindInMarks op b=false):PE X (.Compare a [op] [b] pos) (tOp r ta tb):=by
  intro pins s σ H Q I h
  exact wpAny_Compare1 (binT ha hb I h fun v u s2 x y H2 I2 rx ry q=>ho pins s2 σ H2 x y v u Q I2 rx ry q) hm
def tTest (t:TE):TT:=fun σ H Q=>t σ H fun x H'=>∃ k,x=.bl k∧Q k H'
theorem ZJ {op:CmpOp} {r:R2} (ho:OpR X (compareOp op) r) (ha:PE X a ta) (hb:PE X b tb) (hm:behindInMarks op b=false):PT X (.Compare a [op] [b] pos) (tTest (tOp r ta tb)):=by
  intro pins s σ H Q I h
  refine wpAny_isTrue_Compare1 (thn (ha pins s σ H _ I h) fun v s1 ⟨x,H1,I1,r1,q1⟩=>thn (hb pins s1 σ H1 _ I1 q1) fun u s2 ⟨y,H2,I2,r2,q2⟩ =>
    thn (ho pins s2 σ H2 x y v u _ I2 r1 r2 q2) fun c s3 ⟨z,H3,I3,r3,k,e,q3⟩=>?_) hm
  subst e
  cases r3
  exact wpAny_truthy_bool ⟨H3,I3,q3⟩
def ZoA (r r':R2) (ta tb tc:TE):TE:=fun σ H Q=>ta σ H fun x H1=>tb σ H1 fun y H2=>r x y H2 fun z H3=>∃ k,z=.bl k ∧
  (if k=true then tc σ H3 fun w' H4=>r' y w' H4 Q else Q (.bl false) H3)
theorem Zmr {op op':CmpOp} {r r':R2} (ho:OpR X (compareOp op) r) (ho':OpR X (compareOp op') r') (ha:PE X a ta) (hb:PE X b tb) (hc:PE X c tc)
    (hm:lastMarks [op,op'] [b,c]=false:=by with_unfolding_all rfl):PT X (.Compare a [op,op'] [b,c] pos) (tTest (ZoA r r' ta tb tc)):=by
  intro pins s σ H Q I h
  refine isTrue_chain (thn (ha pins s σ H _ I h) fun v s1 ⟨x,H1,I1,r1,q1⟩=>test_link (thn (hb pins s1 σ H1 _ I1 q1) fun u s2 ⟨y,H2,I2,r2,q2⟩ =>
    thn (ho pins s2 σ H2 x y v u _ I2 r1 r2 q2) fun d s3 ⟨z,H3,I3,r3,k,e,q3⟩=>?_)) hm
  subst e
  cases r3
  refine wpAny_truthy_bool ?_
  cases k with
  | false =>
    obtain ⟨k',e',q'⟩:=q3
    cases e'
    exact ite_ff ⟨H3,I3,q'⟩
  | true =>
    refine ite_tt (test_last (thn (hc pins s3 σ H3 _ I3 q3) fun w' s4 ⟨z',H4,I4,r4,q4⟩=>thn (ho' pins s4 σ H4 y z' u w' _ I4 r2 r4 q4) fun d' s5 ⟨z2,H5,I5,r5,k2,e2,q5⟩=>?_))
    subst e2
    cases r5
    exact wpAny_truthy_bool ⟨H5,I5,q5⟩
theorem Zja:(sizeLine:Nat)<2 ^ 63:=by rw [sizeLine_eq]; decide
theorem vals1 {x:V} {us:List Value} (r:Vals [x] us):∃ u,us=[u]∧RelV x u:=by
  cases r with
  | cons r1 r2=>cases r2; exact ⟨_,rfl,r1⟩
theorem vals2 {x y:V} {us:List Value} (r:Vals [x,y] us):∃ u w',us=[u,w']∧RelV x u∧RelV y w':=by
  cases r with
  | cons r1 r2 =>
    cases r2 with
    | cons r3 r4=>cases r4; exact ⟨_,_,rfl,r1,r3⟩
theorem Zjb:CallR X (.builtin "abs") (fun xs H Q=>∃ i,xs=[.int i]∧Q (.int (if i<0 then -i else i)) H):=by
  intro pins s σ H xs us Q I r h
  obtain ⟨i,rfl,q⟩:=h
  obtain ⟨u,rfl,t,rfl⟩:=vals1 r
  exact call_abs_int fun u tk=>⟨.int (if i<0 then -i else i),H,I.tok _,⟨_,rfl⟩,q⟩
theorem Zhb (hc:X.calm=true):CallR X (.builtin "max") (fun xs H Q=>∃ i j,xs=[.int i,.int j]∧Q (.int (if j > i then j else i)) H):=by
  intro pins s σ H xs us Q I r h
  obtain ⟨i,j,rfl,q⟩:=h
  obtain ⟨u,w',rfl,⟨t,rfl⟩,⟨t',rfl⟩⟩:=vals2 r
  refine max_two_ints (I.ok.hd hc) fun h' tk k=>⟨_,H,I.kept k,?_,q⟩
  by_cases hj:j > i
  · rw [if_pos hj,if_pos hj]; exact ⟨_,rfl⟩
  · rw [if_neg hj,if_neg hj]; exact ⟨_,rfl⟩
theorem ZeG:CallR X (.type "int") (fun xs H Q=>(∃ i,xs=[.int i]∧Q (.int i) H)∨∃ k,xs=[.bl k]∧Q (.int (if k then 1 else 0)) H):=by
  intro pins s σ H xs us Q I r h
  rcases h with ⟨i,rfl,q⟩ | ⟨k,rfl,q⟩
  · obtain ⟨u,rfl,t,rfl⟩:=vals1 r
    exact call_int_int ⟨.int i,H,I,⟨_,rfl⟩,q⟩
  · obtain ⟨u,rfl,r1⟩:=vals1 r
    cases r1
    exact call_int_bool ⟨.int (if k then 1 else 0),H,I.tok _,⟨_,rfl⟩,q⟩
theorem Zig:CallR X (.builtin "divmod") (fun xs H Q=>∃ i j,xs=[.int i,.int j]∧CDiv i j∧∀ p,H p=none→Q (.ref p) (upd H p (.tup [.int (i / j),.int (i % j)]))):=by
  intro pins s σ H xs us Q I r h
  obtain ⟨i,j,rfl,⟨h1,h2⟩,q⟩:=h
  obtain ⟨u,w',rfl,⟨t,rfl⟩,⟨t',rfl⟩⟩:=vals2 r
  refine divmod_int (by omega) ?_ (.inl (PyProof.noPylong_small (by omega)))
  rw [Int.fdiv_eq_ediv_of_nonneg i (by omega),Int.fmod_eq_emod_of_nonneg i (by omega)]
  have hn:H s.heap.objs.size=none:=I.hok.fresh (Nat.le_refl _)
  refine ⟨.ref s.heap.objs.size,_,?_,rfl,q _ hn⟩
  refine I.laid (fun b o e=>Heap.get?_push_of_some _ e) (Nat.le_refl _) ⟨by simp only [List.length_cons,List.length_nil]; rw [sizeLine_eq]; decide,[.int (i / j) s.toks,.int (i % j) (s.toks+1)],.cons ⟨_,rfl⟩ (.cons ⟨_,rfl⟩ .nil),?_⟩
  exact ⟨_,Heap.get?_push_size s.heap rfl,rfl,0,rfl⟩
end
end L2
namespace L2
open PySem PySem.Spec PyProof.Rows
structure ObjM (h:Heap) (x dx C:Addr) (mA:Str→Option Value):Prop where
  obj:h.get? x=some (PySem.W.instObj C dx)
  ns:h.Ns1 dx mA
  ne:dx≠x
theorem ZkH {h:Heap} {dx:Addr} {mA:Str→Option Value} (n:h.Ns1 dx mA):∃ od,h.get? dx=some od∧∀ name,PySem.W.lookIn name od=some (mA name):=by
  obtain ⟨o,es,ep,ho,hd,hk,_,hm⟩:=n
  refine ⟨o,ho,fun name=>?_⟩
  have e:=hm name
  unfold nsFind findBy at e
  rw [← Array.find?_toList] at e
  unfold PySem.W.lookIn
  rw [hd]
  dsimp only
  split
  · rename_i y q
    rw [q] at e
    exact congrArg some e
  · rename_i q
    rw [q] at e
    have a:es.toList.any (·.refKey)=false:=by
      rw [List.any_eq_false]
      intro y hy
      obtain ⟨z,t,hkey⟩:=hk y (Array.mem_toList_iff.mp hy)
      simp [DictEntry.refKey,hkey]
    have a':¬ es.toList.any (·.refKey)=true:=by rw [a]; exact Bool.false_ne_true
    rw [if_neg a']
    exact congrArg some e
theorem ObjM.look {h:Heap} {x dx C:Addr} {mA:Str→Option Value} (I:ObjM h x dx C mA):∃ od,PySem.W.InstAt h x (PySem.W.instObj C dx) C (some od)∧∀ name,PySem.W.lookIn name od=some (mA name) :=
  let ⟨od,ho,hl⟩:=ZkH I.ns
  ⟨od,⟨I.obj,rfl,rfl,ho⟩,hl⟩
section
variable {prog:Program} {w:World} {A:Around} {E:Value→Shared→Prop} {s:Shared} {K:PySem.W.Frag} {x dx C f:Addr} {mA:Str→Option Value} {name:Str} {v:Value}
theorem ZnD {expr:Bool} {Q:Value→Shared→Prop} (X:K.In s.heap) (I:ObjM s.heap x dx C mA) (hg:PySem.W.plainGet K C name=true) (hh:PySem.W.hasDictIn K C=true)
    (ha:PySem.W.findIn K (.ref C) name=some none) (hv:mA name=some v) (hv':PySem.W.handedIn v=true) (h:Q v { s with toks:=s.toks+1 }) :
    wpAny (model prog w) A (getAttr (.ref x) name expr) Q E s:=by
  obtain ⟨od,J,hl⟩:=I.look
  exact PySem.W.get_value X J (PySem.W.plainGet_of hg).1 (PySem.W.findObj_own hh ha rfl (by rw [hl,hv])) hv' h
theorem Zms {pl:Sem Bool} {Q:Value×List Value→Shared→Prop} (X:K.In s.heap) (I:ObjM s.heap x dx C mA) (hg:PySem.W.plainGet K C name=true)
    (hf:PySem.W.findIn K (.ref C) name=some (some (.ref f))) (ht:PySem.W.isFn K (.ref f)=true) (hv:mA name=none) (h:Q (.ref f,[.ref x]) s) :
    wpAny (model prog w) A (getMethod (.ref x) name pl) Q E s:=by
  obtain ⟨od,J,hl⟩:=I.look
  exact PySem.W.method_fn X J (PySem.W.plainGet_of hg).1 (PySem.W.plainGet_of hg).2 hf (beq_iff_eq.mp ht) (by show (PySem.W.lookIn name od).map (·.isSome)=some false; rw [hl,hv]; rfl) h
theorem ZnE {ns:List Str} {Q:Unit→Shared→Prop} (X:K.In s.heap) (I:ObjM s.heap x dx C mA)
    (hs:PySem.W.findIn K (.ref C) "__setattr__" = some (some (.builtin "object.__setattr__"))) (hp:PySem.W.plainOver K C=true) (ht:PySem.W.takerIn K C name=some none) (hh:PySem.W.hasDictIn K C=true)
    (hw:PySem.Within mA ns) (hsz:ns.length≤sizeLine)
    (h:∀ h',ObjM h' x dx C (fun y=>if y=name then some v else mA y)→Heap.SameBut dx s.heap h'→Q () { s with heap:=h',toks:=s.toks+2 }) :
    wpAny (model prog w) A (setAttr (.ref x) name v) Q E s:=by
  obtain ⟨od,J,hl⟩:=I.look
  refine PySem.W.set_plain X J hs (PySem.W.osa_open (s:={ s with toks:=s.toks+1 }) (r:=none) X J hp ht fun b=>?_)
  obtain ⟨cd,hc,hd'⟩:=PySem.W.any_some hh
  have hx:s.heap.get? x=some ⟨.ref C,some dx,.plain,#[]⟩:=I.obj
  refine wpAny_bind (wpAny_pure (wpAny_bind (wpAny_bind (wpAny_loadPart hx (wpAny_bind (PySem.W.Looks.here (s:={ s with toks:=s.toks+1 }) (PySem.W.looks_clsIn X hc) ?_))))))
  rw [hd']
  refine wpAny_pure (a:=some dx) (wpAny_bind (wpAny_pure (wpAny_bind ?_)))
  refine wpAny_nsSet1 (s:={ s with toks:=s.toks+1 }) I.ns fun h' hn2 hs2=>?_
  obtain ⟨oD,esD,epD,hoD,hdD,hcD⟩:=hn2.count (PySem.Within.cons name v hw)
  refine wpAny_bind (wpAny_lookBehind hoD (by rw [hdD]; exact pastItsLine_dict (Nat.le_trans hcD (by rw [List.length_cons]; omega))) ?_)
  exact wpAny_pure (h _ ⟨(hs2.2 _ (Ne.symm I.ne)).trans I.obj,hn2,I.ne⟩ hs2)
theorem Zmt {R:Result→Shared→Prop} {vs:List Value} {kw:List (Str×Value)} (X:K.In s.heap) (hm:PySem.W.makesIn K C=true)
    (hi:PySem.W.findIn K (.ref C) "__init__" = some (some (.ref f))) (hf:PySem.W.typeIn K (.ref f)=some (.type "function"))
    (h:codeAny (model prog w) (A.under (.builtin "type.__call__" ⟨.ref C :: vs,kw⟩)) (.call (.ref f) ⟨.ref (s.heap.objs.size+1) :: vs,kw⟩) (PySem.W.InitBack (s.heap.objs.size+1) R)
      { s with heap:=(s.heap.push PySem.W.emptyDict).push (PySem.W.instObj C s.heap.objs.size) }) :
    codeAny (model prog w) A (.call (.ref C) ⟨vs,kw⟩) R s:=by
  obtain ⟨hh,g,d,t,os⟩:=s
  exact PySem.W.make_core (PySem.W.makes_of X hm) (PySem.W.looks_findIn X hi) (fun self=>PySem.W.bind_fn X self hf) (.inl rfl) h
end
def putF (f:Str) (v:V):List (Str×V)→List (Str×V)
  | []=>[(f,v)]
  | (g,x) :: r=>if g=f then (g,v) :: r else (g,x) :: putF f v r
theorem Zg (f g:Str) (v:V):∀ fs:List (Str×V),(putF f v fs).lookup g=if g=f then some v else fs.lookup g
  | []=>by
    show List.lookup g [(f,v)]=_
    by_cases h:g=f
    · have hb:(g == f)=true:=beq_iff_eq.mpr h
      simp only [List.lookup,hb,if_pos h]
    · have hb:(g == f)=false:=beq_eq_false_iff_ne.mpr h
      simp only [List.lookup,hb,if_neg h]
  | (k,x) :: r=>by
    have ih:=Zg f g v r
    rw [show putF f v ((k,x) :: r)=(if k=f then (k,v) :: r else (k,x) :: putF f v r) from rfl]
    by_cases hk:k=f
    · rw [if_pos hk]
      by_cases h:g=k
      · have hb:(g == k)=true:=beq_iff_eq.mpr h
        simp only [List.lookup,hb,if_pos (h.trans hk)]
      · have hb:(g == k)=false:=beq_eq_false_iff_ne.mpr h
        simp only [List.lookup,hb,if_neg (fun e:g=f=>h (e.trans hk.symm))]
    · rw [if_neg hk]
      by_cases h:g=k
      · have hb:(g == k)=true:=beq_iff_eq.mpr h
        simp only [List.lookup,hb,if_neg (fun e:g=f=>hk (h.symm.trans e))]
      · have hb:(g == k)=false:=beq_eq_false_iff_ne.mpr h
        simp only [List.lookup,hb]
        exact ih
theorem ZeH (f:Str) (v:V):∀ fs:List (Str×V),f∈(putF f v fs).map (·.1)∧∀ g,g∈fs.map (·.1)→g∈(putF f v fs).map (·.1)
  | []=>⟨by simp [putF],fun g h=>by simp at h⟩
  | (k,x) :: r=>by
    obtain ⟨i1,i2⟩:=ZeH f v r
    rw [show putF f v ((k,x) :: r)=(if k=f then (k,v) :: r else (k,x) :: putF f v r) from rfl]
    by_cases hk:k=f
    · rw [if_pos hk]
      subst hk
      exact ⟨by simp,fun g h=>by simpa using h⟩
    · rw [if_neg hk]
      refine ⟨?_,fun g h=>?_⟩
      · rw [List.map_cons]
        exact List.mem_cons_of_mem _ i1
      · rw [List.map_cons] at h ⊢
        rcases List.mem_cons.mp h with e | e
        · exact List.mem_cons.mpr (.inl e)
        · exact List.mem_cons_of_mem _ (i2 g e)
theorem ZeI (f:Str) (v:V):∀ fs:List (Str×V),(putF f v fs).length≤fs.length+1
  | []=>by simp [putF]
  | (k,x) :: r=>by
    have ih:=ZeI f v r
    rw [show putF f v ((k,x) :: r)=(if k=f then (k,v) :: r else (k,x) :: putF f v r) from rfl]
    by_cases hk:k=f
    · rw [if_pos hk,List.length_cons,List.length_cons]; omega
    · rw [if_neg hk,List.length_cons,List.length_cons]; omega
theorem RelO.some_of {v:V} {o:Option Value} (r:RelO (some v) o):∃ u,o=some u∧RelV v u:=by
  cases o with
  | none=>exact (show False from r).elim
  | some u=>exact ⟨u,rfl,r⟩
theorem RelO.none_of {o:Option Value} (r:RelO none o):o=none:=by
  cases o with
  | none=>rfl
  | some u=>exact (show False from r).elim
theorem ZkI {v:V} {u:Value} (r:RelV v u):PySem.W.handedIn u=true:=by
  cases v with
  | non=>cases (show u=Value.none from r); rfl
  | bl b=>cases (show u=Value.bool b from r); rfl
  | int i=>obtain ⟨t,e⟩:=(show ∃ t,u=Value.int i t from r); cases e; rfl
  | str x=>obtain ⟨t,e⟩:=(show ∃ t,u=Value.str x t from r); cases e; rfl
  | byt b=>obtain ⟨t,e⟩:=(show ∃ t,u=Value.bytes b t from r); cases e; rfl
  | flt b=>obtain ⟨t,e⟩:=(show ∃ t,u=Value.float b t from r); cases e; rfl
  | ref a=>cases (show u=Value.ref a from r); rfl
  | ty n=>cases (show u=Value.type n from r); rfl
section
variable {P:Program} {w:World} {H H':Hp} {h h':Heap} {a C dx:Addr} {fs fs':List (Str×V)}
theorem ZfZ (hok:HOk P w H h) (e:H a=some (.ins C dx fs)):∃ mA,ObjM h a dx C mA∧(∀ f,RelO (fs.lookup f) (mA f))∧PySem.Within mA (fs.map (·.1))∧fs.length≤1000∧H dx=some (.own a):=by
  obtain ⟨d,z,ne,ob,mA,n,r,q⟩:=(show ObjOk P w H h a (.ins C dx fs) from hok a _ e)
  exact ⟨mA,⟨ob,n,ne⟩,r,q,z,d⟩
end
structure Cls (K:PySem.W.Frag) (C:Addr):Prop where
  pg:PySem.W.plainGet K C Str.empty=true
  hd:PySem.W.hasDictIn K C=true
  po:PySem.W.plainOver K C=true
  sa:PySem.W.findIn K (.ref C) "__setattr__" = some (some (.builtin "object.__setattr__"))
theorem Cls.get {K:PySem.W.Frag} {C:Addr} (c:Cls K C) (f:Str):PySem.W.plainGet K C f=true:=c.pg
def NoAttr (K:PySem.W.Frag) (C:Addr) (f:Str):Prop:=PySem.W.findIn K (.ref C) f=some none
theorem NoAttr.taker {K:PySem.W.Frag} {C:Addr} {f:Str} (n:NoAttr K C f):PySem.W.takerIn K C f=some none:=by
  unfold PySem.W.takerIn
  rw [show PySem.W.findIn K (.ref C) f=some none from n]
  rfl
structure Meth (K:PySem.W.Frag) (C:Addr) (m:Str) (f:Addr):Prop where
  at_:PySem.W.findIn K (.ref C) m=some (some (.ref f))
  fn:PySem.W.isFn K (.ref f)=true
  kp:PySem.W.keepIn K (.ref f)=true
section
variable {X:Cx} {pins:List (Addr×Obj)} {σ:St} {H:Hp} {s:Shared} {a C dx:Addr} {fs:List (Str×V)} {f:Str} {v:V} {A:Around} {E:Value→Shared→Prop}
theorem ZjQ {b:Bool} {Q:Value→Shared→Prop} (I:Inv X pins σ H s) (e:H a=some (.ins C dx fs)) (c:Cls X.K C) (n:NoAttr X.K C f) (l:fs.lookup f=some v)
    (h:∀ u s',Inv X pins σ H s'→RelV v u→Q u s'):wpAny (model X.prog X.w) A (getAttr (.ref a) f b) Q E s:=by
  obtain ⟨mA,O,r,_,_,_⟩:=ZfZ I.hok e
  obtain ⟨u,hu,ru⟩:=RelO.some_of (v:=v) (o:=mA f) (by rw [← l]; exact r f)
  exact ZnD I.kIn O (c.get f) c.hd n hu (ZkI ru) (h u _ (I.tok _) ru)
theorem ZfJ {m:Str} {g:Addr} {pl:Sem Bool} {Q:Value×List Value→Shared→Prop} (I:Inv X pins σ H s) (e:H a=some (.ins C dx fs)) (c:Cls X.K C) (k:Meth X.K C m g) (l:fs.lookup m=none)
    (h:Q (.ref g,[.ref a]) s):wpAny (model X.prog X.w) A (getMethod (.ref a) m pl) Q E s:=by
  obtain ⟨mA,O,r,_,_,_⟩:=ZfZ I.hok e
  have hn:mA m=none:=RelO.none_of (by rw [← l]; exact r m)
  exact Zms I.kIn O (c.get m) k.at_ k.fn hn h
theorem ZjR {y:V} {u:Value} {Q:Unit→Shared→Prop} (I:Inv X pins σ H s) (e:H a=some (.ins C dx fs)) (c:Cls X.K C) (n:NoAttr X.K C f) (hl:fs.length<1000) (ry:RelV y u)
    (h:∀ s',Inv X pins σ (upd H a (.ins C dx (putF f y fs))) s'→Q () s'):wpAny (model X.prog X.w) A (setAttr (.ref a) f u) Q E s:=by
  obtain ⟨mA,O,r,wi,_,ho⟩:=ZfZ I.hok e
  have hz:(fs.map (·.1)).length≤sizeLine:=by rw [List.length_map,sizeLine_eq]; omega
  refine ZnE I.kIn O c.sa c.po n.taker c.hd wi hz fun h' O' sb=>h _ ?_
  have hd:∃ o,h'.get? dx=some o:=let ⟨o,_,_,e',_⟩:=O'.ns; ⟨o,e'⟩
  refine I.write (x:=a) (e:=dx) (by rw [e]; exact True.intro) (.inr ho) (fun b q hb z=>(sb.2 b hb).trans z) hd ?_
  refine ⟨by rw [Zb O.ne]; exact ho,?_,O.ne,O'.obj,_,O'.ns,fun g=>?_,fun g hg=>?_⟩
  · have:=ZeI f y fs; omega
  · show RelO ((putF f y fs).lookup g) (if g=f then some u else mA g)
    rw [Zg]
    by_cases q:g=f
    · rw [if_pos q,if_pos q]; exact ry
    · rw [if_neg q,if_neg q]; exact r g
  · by_cases q:g=f
    · rw [q]; exact (ZeH f y fs).1
    · refine (ZeH f y fs).2 g (wi g fun z=>hg ?_)
      show (if g=f then some u else mA g)=none
      rw [if_neg q]; exact z
theorem Inv.made (I:Inv X pins σ H s):Inv X pins σ (upd (upd H s.heap.objs.size (.own (s.heap.objs.size+1))) (s.heap.objs.size+1) (.ins C s.heap.objs.size []))
    { s with heap:=(s.heap.push PySem.W.emptyDict).push (PySem.W.instObj C s.heap.objs.size) }:=by
  have e1:(s.heap.push PySem.W.emptyDict).get? s.heap.objs.size=some PySem.W.emptyDict:=Heap.get?_push_size s.heap rfl
  have e2:((s.heap.push PySem.W.emptyDict).push (PySem.W.instObj C s.heap.objs.size)).get? (s.heap.objs.size+1)=some (PySem.W.instObj C s.heap.objs.size):=by
    have:=Heap.get?_push_size (s.heap.push PySem.W.emptyDict) (o:=PySem.W.instObj C s.heap.objs.size) rfl
    rwa [Heap.size_push] at this
  have e3:(s.heap.push PySem.W.emptyDict).Ns s.heap.objs.size (fun _=>none):=⟨PySem.W.emptyDict,#[],_,e1,rfl,(fun e he=>absurd he (by simp)),fun _=>rfl⟩
  have I1:=I.laid (a:=s.heap.objs.size) (o:=.own (s.heap.objs.size+1)) (h':=s.heap.push PySem.W.emptyDict) (t':=s.toks) (fun b u q=>Heap.get?_push_of_some _ q) (Nat.le_refl _) ⟨_,e1⟩
  refine I1.laid (a:=s.heap.objs.size+1) (o:=.ins C s.heap.objs.size []) (t':=s.toks) (fun b u q=>Heap.get?_push_of_some _ q) (Nat.le_of_eq (Heap.size_push _ _)) ?_
  have ne:s.heap.objs.size≠s.heap.objs.size+1:=Nat.ne_of_lt (Nat.lt_succ_self _)
  refine ⟨by rw [Zb ne,Za],Nat.zero_le _,ne,e2,fun _=>none,(Heap.Ns1.of_empty e3).at fun o q=>Heap.get?_push_of_some _ q,fun _=>True.intro,fun y hy=>absurd rfl hy⟩
theorem ZnF {prog:Program} {w:World} {env:Env} {e:Expr} {f:Str} {pos:Pos} {s:Shared} {Q:Value→Shared→Prop} (hb:attributeBase e f env (eval e env)=eval e env)
    (h:wpAny (model prog w) A (eval e env) (fun o s₁=>wpAny (model prog w) A (getAttr o f true) Q E s₁) E s):wpAny (model prog w) A (eval (.Attribute e f pos) env) Q E s :=
  Attribute_any_ h (by rw [arm_eval_Attribute,hb])
end
def tFld (K:PySem.W.Frag) (ta:TE) (f:Str):TE:=fun σ H Q=>ta σ H fun x H1=>∃ a C dx fs v,x=.ref a∧H1 a=some (.ins C dx fs)∧Cls K C∧NoAttr K C f∧fs.lookup f=some v∧Q v H1
def sFld (K:PySem.W.Frag) (ta tv:TE) (f:Str):TS:=fun D σ H=>tv σ H fun y H1=>ta σ H1 fun x H2=>∃ a C dx fs,x=.ref a∧H2 a=some (.ins C dx fs)∧Cls K C∧NoAttr K C f∧fs.length<1000 ∧
  D.nx σ (upd H2 a (.ins C dx (putF f y fs)))
def InOp (X:Cx) (op:Operator) (rd:V→V→Hp→VK→Prop):Prop :=
  ∀ (pins:List (Addr×Obj)) (s:Shared) (σ:St) (H:Hp) (x y:V) (u v:Value) (Q:VK),Inv X pins σ H s→RelV x u→RelV y v→rd x y H Q→wpAny (model X.prog X.w) X.A (inplaceOp op u v) (EP X pins σ Q) X.xe s
section
variable {X:Cx} {o e value:Expr} {f:Str} {pos pos' tpos:Pos} {ta tv:TE}
theorem ZoB (he:PE X e ta) (hb:attributeBase e f X.env (eval e X.env)=eval e X.env):PE X (.Attribute e f pos) (tFld X.K ta f):=by
  intro pins s σ H Q I h
  refine ZnF hb (thn (he pins s σ H _ I h) fun u s1 ⟨x,H1,I1,rx,a,C,dx,fs,v,ex,ea,c,n,l,q⟩=>?_)
  subst ex
  obtain rfl:u=Value.ref a:=rx
  exact ZjQ I1 ea c n l fun u' s2 I2 ru=>⟨v,H1,I2,ru,q⟩
theorem Zbm (ha:PE X o ta) (hv:PE X value tv) (hs:swapsWith value (some (.Attribute o f pos')) pos.line X.env=pure false):PS X (.Assign [.Attribute o f pos'] value pos) (sFld X.K ta tv f):=by
  intro pins s σ H D I h
  refine plainObj_wpAny_Assign_Attribute (thn (hv pins s σ H _ I h) fun u s1 ⟨y,H1,I1,ry,q⟩=>thn (ha pins s1 σ H1 _ I1 q) fun ov s2 ⟨x,H2,I2,rx,a,C,dx,fs,ex,ea,c,n,l,q2⟩=>?_) hs
  subst ex
  obtain rfl:ov=Value.ref a:=rx
  exact ZjR I2 ea c n l ry fun s3 I3=>⟨σ,_,I3,q2⟩
def rAdd:V→V→Hp→VK→Prop:=fun x y H Q=>∃ i j,x=.int i∧y=.int j∧Q (.int (i+j)) H
theorem ZoC:InOp X .Add rAdd:=by
  rintro pins s σ H x y u v Q I rx ry ⟨i,j,rfl,rfl,q⟩
  obtain ⟨t,rfl⟩:=(show ∃ t,u=Value.int i t from rx)
  obtain ⟨t',rfl⟩:=(show ∃ t',v=Value.int j t' from ry)
  exact PyProof.Rows.iadd_int ⟨.int (i+j),H,I.tok _,⟨_,rfl⟩,q⟩
end
section
variable {X:Cx} {pins:List (Addr×Obj)} {σ:St} {H:Hp} {s:Shared} {A:Around} {E:Value→Shared→Prop} {Q:Value→Shared→Prop} {c:Value} {b:Bool}
inductive TyOf (K:PySem.W.Frag) (H:Hp):V→Value→Prop where
  | non:TyOf K H .non (.type "NoneType")
  | bl (x:Bool):TyOf K H (.bl x) (.type "bool")
  | int (i:Int):TyOf K H (.int i) (.type "int")
  | str (x:Str):TyOf K H (.str x) (.type "str")
  | flt (x:UInt64):TyOf K H (.flt x) (.type "float")
  | lst {a:Addr} {xs:List V} (e:H a=some (.lst xs)):TyOf K H (.ref a) (.type "list")
  | frz {a:Addr} {o:Obj} {xs:List V} (e:H a=some (.frz o (.lst xs))):TyOf K H (.ref a) (.type "list")
  | tup {a:Addr} {xs:List V} (e:H a=some (.tup xs)):TyOf K H (.ref a) (.type "tuple")
  | dK {a:Addr} {kvs:List (Key×V)} (e:H a=some (.dK kvs)):TyOf K H (.ref a) (.type "dict")
  | dT {a:Addr} {kvs:List (List Key×V)} (e:H a=some (.dT kvs)):TyOf K H (.ref a) (.type "dict")
  | ins {a C dx:Addr} {fs:List (Str×V)} (e:H a=some (.ins C dx fs)) (cl:Cls K C) (ha:PySem.W.findIn K (.ref C) "__class__" = some (some (.builtin "object.__class__")))
      (hn:PySem.W.specialIn K (.builtin "object.__class__") "__get__" = some (some (.builtin "getset_descriptor.__get__"))) (htk:PySem.W.takesIn K (.builtin "object.__class__")=some true)
      (hm:PySem.W.mroIn K C (.type "object")=some true):TyOf K H (.ref a) (.ref C)
theorem ZkJ {x:V} {u t:Value} (I:Inv X pins σ H s) (rx:RelV x u) (ty:TyOf X.K H x t) (e:PySem.W.kitOne X.K t c=some b) (h:∀ tk,Q (.bool b) { s with toks:=tk }) :
    wpAny (model X.prog X.w) A (call (.builtin "isinstance") [u,c]) Q E s:=by
  cases ty with
  | non=>cases (show u=Value.none from rx); exact PySem.W.kia_one PySem.W.kitx_none I.kIn True.intro e (fun z=>nomatch z) h
  | bl y=>cases (show u=Value.bool y from rx); exact PySem.W.kia_one PySem.W.kitx_bool I.kIn True.intro e (fun z=>nomatch z) h
  | int i=>obtain ⟨t,q⟩:=(show ∃ t,u=Value.int i t from rx); cases q; exact PySem.W.kia_one PySem.W.kitx_int I.kIn True.intro e (fun z=>nomatch z) h
  | str y=>obtain ⟨t,q⟩:=(show ∃ t,u=Value.str y t from rx); cases q; exact PySem.W.kia_one PySem.W.kitx_str I.kIn True.intro e (fun z=>nomatch z) h
  | flt y=>obtain ⟨t,q⟩:=(show ∃ t,u=Value.float y t from rx); cases q; exact PySem.W.kia_one PySem.W.kitx_float I.kIn True.intro e (fun z=>nomatch z) h
  | @lst a xs ea =>
    cases (show u=Value.ref a from rx)
    obtain ⟨_,_,n,_,h1⟩:=(show ObjOk X.prog X.w H s.heap a (.lst xs) from I.hok a _ ea)
    exact PySem.W.kia_one PySem.W.kitx_list I.kIn ⟨_,h1,rfl⟩ e (fun z=>nomatch z) h
  | @frz a ob xs ea =>
    cases (show u=Value.ref a from rx)
    obtain ⟨_,_,_,n,_,h1⟩:=(show ObjOk X.prog X.w H s.heap a (.frz ob (.lst xs)) from I.hok a _ ea)
    exact PySem.W.kia_one PySem.W.kitx_list I.kIn ⟨_,h1,rfl⟩ e (fun z=>nomatch z) h
  | @tup a xs ea =>
    cases (show u=Value.ref a from rx)
    obtain ⟨_,_,_,p⟩:=(show ObjOk X.prog X.w H s.heap a (.tup xs) from I.hok a _ ea)
    obtain ⟨o,h1,h2,_⟩:=p
    exact PySem.W.kia_one PySem.W.kitx_tuple I.kIn ⟨o,h1,h2⟩ e (fun z=>nomatch z) h
  | @dK a kvs ea =>
    cases (show u=Value.ref a from rx)
    obtain ⟨_,_,vs,_,p⟩:=(show ObjOk X.prog X.w H s.heap a (.dK kvs) from I.hok a _ ea)
    obtain ⟨o,es,ep,h1,h2,_⟩:=p
    exact PySem.W.kia_one PySem.W.kitx_dict I.kIn ⟨o,h1,h2.1⟩ e (fun z=>nomatch z) h
  | @dT a kvs ea =>
    cases (show u=Value.ref a from rx)
    obtain ⟨_,_,xs,_,o,es,ep,h1,h2,_⟩:=(show ObjOk X.prog X.w H s.heap a (.dT kvs) from I.hok a _ ea)
    exact PySem.W.kia_one PySem.W.kitx_dict I.kIn ⟨o,h1,h2.1⟩ e (fun z=>nomatch z) h
  | @ins a C dx fs ea cl ha hn htk hm =>
    cases (show u=Value.ref a from rx)
    obtain ⟨mA,O,_⟩:=ZfZ I.hok ea
    obtain ⟨od,J,_⟩:=O.look
    exact PySem.W.kia_one (PySem.W.kitx_own (cl.get _) cl.hd ha hn htk hm) I.kIn J e (fun z=>nomatch z) h
end
end L2
namespace L2
open PySem PySem.Spec PyProof.Rows
structure Room (k:Nat) (A:Around):Prop where
  hd:A.handled=none
  dp:A.depth+3 * k+5<recursionLimit
  un:A.units+16 * k+200<cLine
theorem Room.mono {j k:Nat} {A:Around} (r:Room k A) (h:j≤k):Room j A:=⟨r.hd,by have:=r.dp; omega,by have:=r.un; omega⟩
theorem Room.deeper {k:Nat} {A:Around} (r:Room (k+1) A) (env:Env):Room k (A.deeper env) :=
  ⟨r.hd,by have:=r.dp; show A.depth+1+3 * k+5<_; omega,by have:=r.un; show A.units+3+16 * k+200<_; omega⟩
theorem ZjS {A:Around} {C:Addr} {us:List Value} {kw:List (Str×Value)}:(A.under (.builtin "type.__call__" ⟨.ref C :: us,kw⟩)).depth=A.depth+1:=by
  first | rfl | simp [Around.under,Code.weight,Code.isCreation,Code.isGuard,Code.isCaller,Code.frames,Code.isFrame,guardIds]
theorem ZjT {A:Around} {C:Addr} {us:List Value} {kw:List (Str×Value)}:(A.under (.builtin "type.__call__" ⟨.ref C :: us,kw⟩)).units=A.units+1:=by
  first | rfl | simp [Around.under,Code.cUnits,Code.frames,Code.isFrame]
theorem Room.make {k:Nat} {A:Around} (r:Room (k+1) A) (C:Addr) (us:List Value) (kw:List (Str×Value)):Room k (A.under (.builtin "type.__call__" ⟨.ref C :: us,kw⟩)) :=
  ⟨r.hd,by have:=r.dp; rw [ZjS]; omega,by have:=r.un; rw [ZjT]; omega⟩
theorem Room.depth {k:Nat} {A:Around} (r:Room k A):A.depth<recursionLimit:=by have:=r.dp; omega
theorem Room.units {k:Nat} {A:Around} (r:Room k A):A.units+64<cLine:=by have:=r.un; omega
def tNil:TA:=fun _ H Q=>Q [] H
def tCons (ta:TE) (tr:TA):TA:=fun σ H Q=>ta σ H fun x H1=>tr σ H1 fun xs H2=>Q (x :: xs) H2
section
variable {X:Cx} {e:Expr} {es:List Expr} {te:TE} {t:TA} {pos:Pos}
theorem Ze:PA X [] tNil:=fun _ _ _ _ H Q I h=>Calls.spliced_nil ⟨[],H,I,.nil,h⟩
theorem ZnG (ha:PE X e te) (hr:PA X es t) (hs:starEach (e :: es) X.env=(false,eval e X.env) :: starEach es X.env:=by rfl):PA X (e :: es) (tCons te t):=by
  intro pos pins s σ H Q I h
  rw [hs]
  show wpAny _ _ (spliced ((false,eval e X.env) :: backTo pos (starEach es X.env))) _ _ s
  refine Calls.spliced_cons (thn (ha pins s σ H _ I h) fun u s1 ⟨x,H1,I1,r1,q1⟩=>?_)
  exact thn (hr pos pins s1 σ H1 _ I1 q1) fun us s2 ⟨xs,H2,I2,r2,q2⟩=>⟨x :: xs,H2,I2,.cons r1 r2,q2⟩
def tTup (t:TA):TE:=fun σ H Q=>t σ H fun xs H1=>xs.length≤sizeLine∧∀ p,H1 p=none→Q (.ref p) (upd H1 p (.tup xs))
def tLst (t:TA):TE:=fun σ H Q=>t σ H fun xs H1=>xs.length≤sizeLine∧∀ p,H1 p=none→Q (.ref p) (upd H1 p (.lst xs))
theorem Zbd {x1} (h:PA X es t):PE X (.Tuple es x1 pos) (tTup t):=by
  intro pins s σ H Q I hq
  refine wpAny_Tuple_spliced (thn (h pos pins s σ H _ I hq) fun us s1 ⟨xs,H1,I1,r,z,q⟩=>⟨by rw [← r.length]; exact z,?_⟩)
  have hf:H1 s1.heap.objs.size=none:=I1.hok.fresh (Nat.le_refl _)
  refine ⟨.ref s1.heap.objs.size,upd H1 s1.heap.objs.size (.tup xs),I1.laid (t':=s1.toks) (fun b u e=>Heap.get?_push_of_some _ e) (Nat.le_refl _) ?_,rfl,q _ hf⟩
  exact ⟨z,us,r,⟨_,Heap.get?_push_size _ rfl,rfl,_,rfl⟩⟩
theorem ZbM (h:PA X es t):PE X (.List es pos) (tLst t):=by
  intro pins s σ H Q I hq
  refine wpAny_List_spliced (thn (h pos pins s σ H _ I hq) fun us s1 ⟨xs,H1,I1,r,z,q⟩=>⟨by rw [← r.length]; exact z,?_⟩)
  have hf:H1 s1.heap.objs.size=none:=I1.hok.fresh (Nat.le_refl _)
  refine ⟨.ref s1.heap.objs.size,upd H1 s1.heap.objs.size (.lst xs),I1.laid (t':=s1.toks) (fun b u e=>Heap.get?_push_of_some _ e) (Nat.le_refl _) ?_,rfl,q _ hf⟩
  exact ⟨z,us,0,r,Heap.get?_push_size _ rfl⟩
end
abbrev Sp:=List V→Hp→VK→XK→Prop
abbrev CXT:=List Env→Hp→Shared→XK→Value→Shared→Prop
structure Env0 (P:Program) (w:World) (K:PySem.W.Frag) (mg:Str→Option Value) (base:Heap) (A:Around) (outer:List Env) (s:Shared) (H:Hp):Prop where
  frames:A.frames=some outer
  mod:Mod K mg base
  bs:∀ b o,base.get? b=some o→s.heap.get? b=some o∧H b=none
  bsz:base.objs.size≤s.heap.objs.size
  funs:s.heap.FunFrames base outer
  frf:∀ b∈frs outer,H b=none
  hok:HOk P w H s.heap
  bare:AllBare s.gens
def CE (outer:List Env) (P:Program) (w:World) (H:Hp) (s:Shared) (Q:VK) (u:Value) (s':Shared):Prop :=
  ∃ v H',s'.os=s.os∧AllBare s'.gens∧Un (frs outer) [] H H' s.heap s'.heap∧HOk P w H' s'.heap∧RelV v u∧Q v H'
def CR (CX:CXT) (outer:List Env) (P:Program) (w:World) (H:Hp) (s:Shared) (Q:VK) (E:XK) (r:Result) (s':Shared):Prop :=
  match r with
  | .ok (.ret u)=>CE outer P w H s Q u s'
  | .ok _=>False
  | .error e=>CX outer H s E e s'
structure FnOk (P:Program) (w:World) (K:PySem.W.Frag) (mg:Str→Option Value) (base:Heap) (CX:CXT) (k:Nat) (f:Addr) (fd:FuncData) (ps:List Str) (sp:Sp):Prop where
  len:∀ vs H Q E,sp vs H Q E→vs.length=ps.length
  run:∀ (A:Around) (outer:List Env) (s:Shared) (H:Hp) (args:Args) (us:List Value) (vs:List V) (Q:VK) (E:XK),Room k A→Env0 P w K mg base A outer s H→BindsTo s fd args (ps.zip us)→Vals vs us→sp vs H Q E →
    codeAny (model P w) A (.call (.ref f) args) (CR CX outer P w H s Q E) s
theorem Env0.make {P:Program} {w:World} {K:PySem.W.Frag} {mg:Str→Option Value} {base:Heap} {A:Around} {outer:List Env} {s:Shared} {H:Hp} (e:Env0 P w K mg base A outer s H) (C:Addr) (us:List Value) (kw:List (Str×Value)) :
    Env0 P w K mg base (A.under (.builtin "type.__call__" ⟨.ref C :: us,kw⟩)) outer s H:=⟨by first | exact e.frames | (simpa [Around.under,Code.envs,Code.isFrame,pushEnvs] using e.frames),e.mod,e.bs,e.bsz,e.funs,e.frf,e.hok,e.bare⟩
section
variable {X:Cx} {pins:List (Addr×Obj)} {σ:St} {H:Hp} {s s':Shared}
theorem Inv.env0 (I:Inv X pins σ H s):Env0 X.prog X.w X.K X.mg X.base X.A X.stack s H :=
  ⟨I.ok.frames,I.ok.mod,I.bs,Nat.le_trans I.ok.bsz I.sz,I.stack,I.stkFree,I.hok,I.bare⟩
theorem Inv.after {Q:VK} {u:Value} (I:Inv X pins σ H s) (h:CE X.stack X.prog X.w H s Q u s'):EP X pins σ Q u s':=by
  obtain ⟨v,H',os,bare,un,hok,r,q⟩:=h
  obtain ⟨hh,g,d,t,os'⟩:=s'
  obtain rfl:os'=s.os:=os
  exact ⟨v,H',I.call (h':=hh) (g':=g) (d':=d) (t':=t) (ch:=[]) un hok bare (fun b z=>absurd z (by simp)),r,q⟩
end
def tCall (sp:Sp) (dvs:List V) (E:XK) (t:TA):TE:=fun σ H Q=>t σ H fun vs H1=>sp (vs++dvs) H1 Q E
def tMeth (C:Addr) (m:Str) (sp:Sp) (dvs:List V) (E:XK) (ta:TE) (t:TA):TE:=fun σ H Q=>ta σ H fun x H1=>∃ a dx fs,x=.ref a∧H1 a=some (.ins C dx fs)∧fs.lookup m=none ∧
  t σ H1 fun vs H2=>sp (x :: (vs++dvs)) H2 Q E
def tMake (C:Addr) (sp:Sp) (dvs:List V) (E:XK) (t:TA):TE:=fun σ H Q=>t σ H fun vs H1=>∀ x dx,H1 x=none→H1 dx=none→dx≠x →
  sp (.ref x :: (vs++dvs)) (upd (upd H1 dx (.own x)) x (.ins C dx [])) (fun v H2=>v=.non∧Q (.ref x) H2) E
def Binds (K:PySem.W.Frag) (fd:FuncData) (ps:List Str) (ds:List Value):Prop :=
  ∀ (s:Shared) (us:List Value),K.In s.heap→(us++ds).length=ps.length→BindsTo s fd ⟨us,[]⟩ (ps.zip (us++ds))
theorem Binds.all {K:PySem.W.Frag} {fd:FuncData} {ps:List Str} (h:∀ us:List Value,us.length=ps.length→bindArgs fd ⟨us,[]⟩=pure (ps.zip us)):Binds K fd ps []:=fun s us _ hl=>by
  rw [List.append_nil] at hl ⊢
  exact .of_eq (h us hl)
def ZeJ (CX:CXT) (X:Cx) (E:XK):Prop:=∀ (pins:List (Addr×Obj)) (σ:St) (H:Hp) (s:Shared) (e:Value) (s':Shared),Inv X pins σ H s→CX X.stack H s E e s'→X.xe e s'
section
variable {X:Cx} {CX:CXT} {k:Nat} {f C:Addr} {fd:FuncData} {ps:List Str} {sp:Sp} {dvs:List V} {ds:List Value} {E:XK} {x m:Str} {p pos apos:Pos} {e o:Expr} {es:List Expr} {ta:TE} {t:TA}
theorem Zjc {pins:List (Addr×Obj)} {σ:St} {H:Hp} {s:Shared} {Q:VK} {us:List Value} {vs:List V} (F:FnOk X.prog X.w X.K X.mg X.base CX k f fd ps sp) (hr:Room k X.A) (hb:Binds X.K fd ps ds) (hd:Vals dvs ds) (hx:ZeJ CX X E)
    (I:Inv X pins σ H s) (r:Vals vs us) (h:sp (vs++dvs) H Q E):wpAny (model X.prog X.w) X.A (call (.ref f) us) (EP X pins σ Q) X.xe s:=by
  have r2:Vals (vs++dvs) (us++ds):=r.append hd
  have hl:(us++ds).length=ps.length:=by rw [← r2.length]; exact F.len _ _ _ _ h
  refine wpAny_call (codeAny_mono (F.run X.A X.stack s H ⟨us,[]⟩ (us++ds) (vs++dvs) Q E hr I.env0 (hb s us I.kIn hl) r2 h) fun r s' hq=>?_)
  cases r with
  | error e=>exact hx pins σ H s e s' I hq
  | ok fl =>
    cases fl with
    | ret u=>exact I.after hq
    | next=>exact False.elim hq
    | brk=>exact False.elim hq
    | cont=>exact False.elim hq
theorem ZnH (F:FnOk X.prog X.w X.K X.mg X.base CX k f fd ps sp) (hr:Room k X.A) (hg:Gl X x) (hm:X.mg x=some (.ref f)) (hk:PySem.W.keepIn X.K (.ref f)=true) (hb:Binds X.K fd ps ds) (hd:Vals dvs ds) (hx:ZeJ CX X E)
    (ha:PA X (e :: es) t) (hdb:(x == ("__debug__" : Str))=false:=by decide) (he:starEach (e :: es) X.env=(false,eval e X.env) :: starEach es X.env:=by rfl) (hpl:(backTo pos (starEach es X.env)).any (·.1)=false:=by rfl) :
    PE X (.Call (.Name x p) (e :: es) [] pos) (tCall sp dvs E t):=by
  intro pins s σ H Q I h
  refine wpAny_Call_Name_kw (Zie I hg hm ?_ hdb)
  refine PySem.W.callWith_K (h₀:=X.base) I.ok.mod.kin hk (thn (ha pos pins s σ H _ I h) fun us s1 ⟨vs,H1,I1,r,q⟩=>⟨I1.kIn,?_⟩) he hpl
  exact Zjc F hr hb hd hx I1 r q
theorem ZnI {pl:Sem Bool} (he:PE X o ta) (c:Cls X.K C) (hm:Meth X.K C m f) (F:FnOk X.prog X.w X.K X.mg X.base CX k f fd ps sp) (hr:Room k X.A) (hb:Binds X.K fd ps ds) (hd:Vals dvs ds) (hx:ZeJ CX X E) (ha:PA X (e :: es) t)
    (hst:starEach (e :: es) X.env=(false,eval e X.env) :: starEach es X.env:=by rfl) (hpl:(backTo pos (starEach es X.env)).any (·.1)=false:=by rfl)
    (ht:eval (.Call (.Attribute o m apos) (e :: es) [] pos) X.env=(do
      let ov ← eval o X.env
      standAt apos.atName
      let (f,first) ← holding [ov] (getMethod ov m pl)
      callWith pos f first (backTo pos (starEach (e :: es) X.env)) (backToKw pos (keywordEach [] X.env))):=by rfl) :
    PE X (.Call (.Attribute o m apos) (e :: es) [] pos) (tMeth C m sp dvs E ta t):=by
  intro pins s σ H Q I h
  refine PySem.W.methodCall_KW (pl:=pl) (thn (he pins s σ H _ I h) fun u s1 ⟨x,H1,I1,rx,a,dx,fs,ex,ea,l,q⟩=>?_) ht
  subst ex
  obtain rfl:u=Value.ref a:=rx
  refine ZfJ I1 ea c hm l ?_
  refine PySem.W.callWith_K (first:=[.ref a]) (h₀:=X.base) I.ok.mod.kin hm.kp (thn (ha pos pins s1 σ H1 _ I1 q) fun us s2 ⟨vs,H2,I2,r,q2⟩=>⟨I2.kIn,?_⟩) hst hpl
  exact Zjc (us:=.ref a :: us) (vs:=.ref a :: vs) F hr hb hd hx I2 (.cons rfl r) q2
theorem Zmu {pl:Sem Bool} (he:PE X o ta) (c:Cls X.K C) (hm:Meth X.K C m f) (F:FnOk X.prog X.w X.K X.mg X.base CX k f fd ps sp) (hr:Room k X.A) (hb:Binds X.K fd ps ds) (hd:Vals dvs ds) (hx:ZeJ CX X E)
    (ht:eval (.Call (.Attribute o m apos) [] [] pos) X.env=(do
      let ov ← eval o X.env
      standAt apos.atName
      let (f,first) ← holding [ov] (getMethod ov m pl)
      callWith pos f first (backTo pos (starEach [] X.env)) (backToKw pos (keywordEach [] X.env))):=by rfl) :
    PE X (.Call (.Attribute o m apos) [] [] pos) (tMeth C m sp dvs E ta tNil):=by
  intro pins s σ H Q I h
  refine PySem.W.methodCall_KW (pl:=pl) (thn (he pins s σ H _ I h) fun u s1 ⟨x,H1,I1,rx,a,dx,fs,ex,ea,l,q⟩=>?_) ht
  subst ex
  obtain rfl:u=Value.ref a:=rx
  refine ZfJ I1 ea c hm l ?_
  exact PySem.W.callWith_K0 (first:=[.ref a]) I1.kIn hm.kp (Zjc (us:=[.ref a]) (vs:=[.ref a]) F hr hb hd hx I1 (.cons rfl .nil) q)
structure Mk (K:PySem.W.Frag) (C f:Addr):Prop where
  makes:PySem.W.makesIn K C=true
  init:PySem.W.findIn K (.ref C) "__init__" = some (some (.ref f))
  fn:PySem.W.isFn K (.ref f)=true
  kp:PySem.W.keepIn K (.ref C)=true
theorem Zmv {pins:List (Addr×Obj)} {σ:St} {H:Hp} {s:Shared} {Q:VK} {us:List Value} {vs:List V} (M:Mk X.K C f) (F:FnOk X.prog X.w X.K X.mg X.base CX k f fd ps sp) (hr:Room (k+1) X.A) (hb:Binds X.K fd ps ds) (hd:Vals dvs ds)
    (hx:ZeJ CX X E) (I:Inv X pins σ H s) (r:Vals vs us)
    (h:∀ x dx,H x=none→H dx=none→dx≠x→sp (.ref x :: (vs++dvs)) (upd (upd H dx (.own x)) x (.ins C dx [])) (fun v H2=>v=.non∧Q (.ref x) H2) E) :
    wpAny (model X.prog X.w) X.A (call (.ref C) us) (EP X pins σ Q) X.xe s:=by
  have hq:=h (s.heap.objs.size+1) s.heap.objs.size (I.hok.fresh (Nat.le_succ _)) (I.hok.fresh (Nat.le_refl _)) (Nat.ne_of_lt (Nat.lt_succ_self _))
  have I2:=Inv.made (C:=C) I
  have r2:Vals (V.ref (s.heap.objs.size+1) :: (vs++dvs)) (Value.ref (s.heap.objs.size+1) :: (us++ds)):=.cons rfl (r.append hd)
  have hl:(Value.ref (s.heap.objs.size+1) :: us++ds).length=ps.length:=by
    have e:=r2.length
    rw [F.len _ _ _ _ hq] at e
    exact e.symm
  refine wpAny_call (Zmt (f:=f) I.kIn M.makes M.init (beq_iff_eq.mp M.fn) (codeAny_mono (F.run _ X.stack _ _ ⟨Value.ref (s.heap.objs.size+1) :: us,[]⟩ (Value.ref (s.heap.objs.size+1) :: (us++ds)) _ _ E (hr.make C us [])
    (I2.env0.make C us []) (hb _ (Value.ref (s.heap.objs.size+1) :: us) I2.kIn hl) r2 hq) fun r s' hq'=>?_))
  cases r with
  | error e=>exact hx pins σ _ _ e s' I2 hq'
  | ok fl =>
    cases fl with
    | ret u =>
      obtain ⟨v,H',I3,rv,ev,q3⟩:=I2.after hq'
      subst ev
      exact ⟨rv,⟨V.ref (s.heap.objs.size+1),H',I3,rfl,q3⟩⟩
    | next=>exact False.elim hq'
    | brk=>exact False.elim hq'
    | cont=>exact False.elim hq'
theorem ZnJ (M:Mk X.K C f) (F:FnOk X.prog X.w X.K X.mg X.base CX k f fd ps sp) (hr:Room (k+1) X.A) (hg:Gl X x) (hm:X.mg x=some (.ref C)) (hb:Binds X.K fd ps ds) (hd:Vals dvs ds) (hx:ZeJ CX X E)
    (ha:PA X (e :: es) t) (hdb:(x == ("__debug__" : Str))=false:=by decide) (he:starEach (e :: es) X.env=(false,eval e X.env) :: starEach es X.env:=by rfl) (hpl:(backTo pos (starEach es X.env)).any (·.1)=false:=by rfl) :
    PE X (.Call (.Name x p) (e :: es) [] pos) (tMake C sp dvs E t):=by
  intro pins s σ H Q I h
  refine wpAny_Call_Name_kw (Zie I hg hm ?_ hdb)
  refine PySem.W.callWith_K (h₀:=X.base) I.ok.mod.kin M.kp (thn (ha pos pins s σ H _ I h) fun us s1 ⟨vs,H1,I1,r,q⟩=>⟨I1.kIn,?_⟩) he hpl
  exact Zmv M F hr hb hd hx I1 r q
end
structure FnScope (N P:List Str) (sc:Scope):Prop where
  kind:sc.kind=.function
  co:sc.isCoroutine=false
  gen:sc.isGenerator=false
  nd:N.Nodup
  pre:N.take P.length=P
  par:∀ x∈P,sc.names.lookup x=some .local∨sc.names.lookup x=some .cell
  nofree:∀ y∈sc.names,y.2≠.free
theorem Zhc {kindOf:Str→Option NameKind} {x:Str}:∀ {binds:List (Str×Value)} {m:Str→Option Value},(∀ v,(x,v)∉binds)→bindL kindOf binds m x=m x
  | [],_,_=>rfl
  | (n,v) :: r,m,h=>by
    unfold bindL
    rw [Zhc fun w hw=>h w (List.mem_cons_of_mem _ hw)]
    split
    · have:x≠n:=by rintro rfl; exact h v List.mem_cons_self
      simp [this]
    · rfl
theorem Zhd {kindOf:Str→Option NameKind} {x:Str}:∀ {binds:List (Str×Value)} {m:Str→Option Value},(∀ v,(x,v)∉binds)→bindC kindOf binds m x=m x
  | [],_,_=>rfl
  | (n,v) :: r,m,h=>by
    unfold bindC
    rw [Zhd fun w hw=>h w (List.mem_cons_of_mem _ hw)]
    split
    · rfl
    · have:x≠n:=by rintro rfl; exact h v List.mem_cons_self
      simp [this]
theorem Zhe {kindOf:Str→Option NameKind} {x:Str} {v:Value}:∀ {P:List Str} {vs:List Value} {i:Nat} {m:Str→Option Value},P.Nodup→P[i]?=some x→vs[i]?=some v→kindOf x=some .local →
    bindL kindOf (P.zip vs) m x=some v
  | [],_,_,_,_,h,_,_=>by simp at h
  | _ :: _,[],_,_,_,_,h,_=>by simp at h
  | p :: P,w :: vs,0,m,nd,h1,h2,hk=>by
    simp at h1 h2; subst h1; subst h2
    show bindL kindOf ((p,w) :: P.zip vs) m p=_
    unfold bindL
    rw [Zhc fun v hv=>(List.nodup_cons.mp nd).1 (List.of_mem_zip hv).1,if_pos hk]
    simp
  | p :: P,w :: vs,i+1,m,nd,h1,h2,hk=>by
    show bindL kindOf ((p,w) :: P.zip vs) m x=_
    unfold bindL
    exact Zhe (i:=i) (List.nodup_cons.mp nd).2 (by simpa using h1) (by simpa using h2) hk
theorem Zhf {kindOf:Str→Option NameKind} {x:Str} {v:Value}:∀ {P:List Str} {vs:List Value} {i:Nat} {m:Str→Option Value},P.Nodup→P[i]?=some x→vs[i]?=some v→kindOf x≠some .local →
    bindC kindOf (P.zip vs) m x=some v
  | [],_,_,_,_,h,_,_=>by simp at h
  | _ :: _,[],_,_,_,_,h,_=>by simp at h
  | p :: P,w :: vs,0,m,nd,h1,h2,hk=>by
    simp at h1 h2; subst h1; subst h2
    show bindC kindOf ((p,w) :: P.zip vs) m p=_
    unfold bindC
    rw [Zhd fun v hv=>(List.nodup_cons.mp nd).1 (List.of_mem_zip hv).1,if_neg hk]
    simp
  | p :: P,w :: vs,i+1,m,nd,h1,h2,hk=>by
    show bindC kindOf ((p,w) :: P.zip vs) m x=_
    unfold bindC
    exact Zhf (i:=i) (List.nodup_cons.mp nd).2 (by simpa using h1) (by simpa using h2) hk
def start (N:List Str) (vs:List V):St:=vs.map some++List.replicate (N.length - vs.length) none
def cxOf (CX:CXT) (P:Program) (w:World) (K:PySem.W.Frag) (mg:Str→Option Value) (base:Heap) (N:List Str) (qual:Str) (scope:Scope) (f:Addr) (cd:Value) (A:Around) (outer:List Env) (s:Shared) (H:Hp) (E:XK):Cx where
  prog:=P
  w:=w
  K:=K
  mg:=mg
  base:=base
  A:=A.deeper (envOfC qual scope s.heap.objs.size f cd)
  N:=N
  s₀:=s
  H₀:=H
  env:=envOfC qual scope s.heap.objs.size f cd
  outer:=outer
  stack:=envOfC qual scope s.heap.objs.size f cd :: outer
  ex:=[]
  calm:=true
  fn:=fun _=>true
  pn:=[]
  xe:=fun e s'=>wpAny (model P w) (A.deeper (envOfC qual scope s.heap.objs.size f cd)) (leaving (envOfC qual scope s.heap.objs.size f cd) e) (fun _ s''=>CX outer H s E e s'') (fun e' s''=>CX outer H s E e' s'') s'
theorem Zjd {sc:Scope} {n:Nat} {x:Str} (h:sc.names.lookup x=some .cell):∃ c,(cellsFrom n sc.names []).lookup x=some c:=by
  have q:=PySem.W.cellsFrom_some sc.names n [] (.inl h)
  exact Option.isSome_iff_exists.mp q
theorem ZkK {CX:CXT} {P:Program} {w:World} {K:PySem.W.Frag} {mg:Str→Option Value} {base:Heap} {N ps:List Str} {qual:Str} {scope:Scope} {f:Addr} {cd:Value} {A:Around} {outer:List Env} {s s1:Shared} {H:Hp} {E:XK} {us:List Value} {vs:List V}
    (S:FnScope N ps scope) (hd:A.handled=none) (e0:Env0 P w K mg base A outer s H) (hl:vs.length=ps.length) (r:Vals vs us)
    (x:InCallC s s.heap.objs.size (bindL (envOfC qual scope s.heap.objs.size f cd).kindOf (ps.zip us) fun _=>none) (cellsFrom (s.heap.objs.size+1) scope.names []) (bindC (envOfC qual scope s.heap.objs.size f cd).kindOf (ps.zip us) fun _=>none) s1) :
    Inv (cxOf CX P w K mg base N qual scope f cd A outer s H E) [] (start N vs) H s1:=by
  have hpl:ps.length≤N.length:=by have:=congrArg List.length S.pre; rw [List.length_take] at this; omega
  obtain ⟨h1,tk,rfl,hk⟩:=x.done
  have noA:∀ b:Addr,b∉(cxOf CX P w K mg base N qual scope f cd A outer s H E).ex:=fun b z=>absurd (show b∈([]:List Addr) from z) (by simp)
  refine ⟨⟨e0.mod,S.kind,rfl,rfl,Nat.le_refl _,fun y z c h1 h2=>?_,fun y hy=>?_,fun y c _ h=>?_,fun _=>hd,Around.frames_deeper e0.frames,.inr ⟨rfl,rfl⟩,fun b z=>absurd z (noA b),e0.bs,e0.bsz,fun b _ _=>noA b,fun b z=>absurd z (noA b),e0.funs,e0.frf⟩,
    rfl,e0.bare,Un.kept hk,⟨_,x.toInCall.ns,fun i y v h1 h2 h3=>?_⟩,fun y c h=>⟨_,x.cell y c h⟩,e0.hok.fresh (Nat.le_refl _),fun y c h=>?_,fun p hp=>absurd (show p∈([]:List (Addr×Obj)) from hp) (by simp),e0.hok.kept hk,?_⟩
  · exact name_of_addr x.apart (PySem.mem_of_lookup h1) (PySem.mem_of_lookup h2)
  · have hy:scope.names.lookup y=some .cell∨scope.names.lookup y=some .free:=hy
    rcases hy with hy | hy
    · exact Zjd hy
    · exact absurd rfl (S.nofree _ (PySem.mem_of_lookup hy))
  · exact Nat.le_of_lt (x.above y c (PySem.mem_of_lookup h))
  · have hi:i<vs.length:=by
      unfold start at h2
      by_cases hi:i<vs.length
      · exact hi
      · rw [List.getElem?_append_right (by simpa using hi)] at h2
        rw [List.getElem?_replicate] at h2
        split at h2 <;> cases h2
    have ha:vs[i]?=some v:=by
      unfold start at h2
      rw [List.getElem?_append_left (by simpa using hi),List.getElem?_map] at h2
      cases e:vs[i]? with
      | none=>rw [e] at h2; cases h2
      | some a=>rw [e] at h2; cases h2; rfl
    obtain ⟨u,hu,rv⟩:=r.get ha
    have hp:ps[i]?=some y:=by
      rw [← S.pre,List.getElem?_take_of_lt (by omega)]; exact h1
    have ndP:ps.Nodup:=by rw [← S.pre]; exact S.nd.sublist (List.take_sublist _ _)
    refine ⟨u,rv,?_⟩
    rcases S.par y (List.mem_of_getElem? hp) with k | k
    · exact .inl ⟨k,Zhe ndP hp hu k⟩
    · obtain ⟨c,e⟩:=Zjd (n:=s.heap.objs.size+1) k
      refine .inr ⟨.inl k,c,e,?_⟩
      have q:=x.cell y c e
      rw [Zhf ndP hp hu (by show scope.names.lookup y≠_; rw [k]; decide)] at q
      exact q
  · exact e0.hok.fresh (Nat.le_of_lt (x.above y c (PySem.mem_of_lookup h)))
  · unfold start
    show _=N.length
    rw [List.length_append,List.length_map,List.length_replicate]
    omega
theorem fn_of {CX:CXT} {P:Program} {w:World} {K:PySem.W.Frag} {mg:Str→Option Value} {base:Heap} {k:Nat} {f:Addr} {name qual:Str} {params:Arguments} {body:List Stmt} {scope:Scope} {dV kV doc pm cdv ct oc:Value} {an od:Option Addr}
    {osl:Array (Option Value)} {N ps:List Str} {sp:Sp} (lk:K.lookup f=some ⟨oc,od,.func (PySem.W.fnOf name qual params body scope dV kV doc pm an cdv ct),osl⟩) (hcd:PySem.W.codeIn K cdv qual=true) (S:FnScope N ps scope)
    (len:∀ vs H Q E,sp vs H Q E→vs.length=ps.length)
    (hbody:∀ (A:Around) (outer:List Env) (s:Shared) (H:Hp) (vs:List V) (Q:VK) (E:XK),Room k (A.deeper (envOfC qual scope s.heap.objs.size f cdv))→sp vs H Q E →
      ∃ t,PSs (cxOf CX P w K mg base N qual scope f cdv A outer s H E) body t∧t { nx:=fun _ H'=>Q .non H',rt:=Q } (start N vs) H) :
    FnOk P w K mg base CX (k+1) f (PySem.W.fnOf name qual params body scope dV kV doc pm an cdv ct) ps sp:=by
  refine ⟨len,fun A outer s H args us vs Q E hr e0 hb r hsp=>?_⟩
  have hl:=len _ _ _ _ hsp
  have KX:K.In s.heap:=e0.mod.kin.keeps fun b o e=>(e0.bs b o e).1
  have lim:s.heap.NoLimit:=e0.mod.nolimit.keeps fun b o e=>(e0.bs b o e).1
  have hkind:∀ y∈ps.zip us,scope.names.lookup y.1=some .local∨(scope.names.lookup y.1=some .cell∧((cellsFrom (s.heap.objs.size+1) scope.names []).lookup y.1).isSome=true):=fun ⟨n,v⟩ hy=>by
    rcases S.par n (List.of_mem_zip hy).1 with q | q
    · exact .inl q
    · exact .inr ⟨q,PySem.W.cellsFrom_some _ _ _ (.inl q)⟩
  refine codeAny_call_function hr.depth (KX _ _ lk) rfl S.co S.gen rfl (PySem.W.codeRec_of KX hcd) (hb _ _ _ _ ?_)
  refine wpAny_newFunctionEnv_cells S.kind hkind fun env he s1 x=>?_
  subst he
  refine ⟨lim.keeps x.toInCall.keep,codeAny_func ?_⟩
  obtain ⟨t,ht,hq⟩:=hbody A outer s H vs Q E (hr.deeper _) hsp
  have I:Inv (cxOf CX P w K mg base N qual scope f cdv A outer s H E) [] (start N vs) H s1:=ZkK S hr.hd e0 hl r x
  refine wpAny_mono (ht [] s1 (start N vs) H _ I hq) (fun fl s' hs=>?_) fun e s' hs=>hs
  have fin:∀ {σ':St} {H':Hp} {v:V} {u:Value},Inv (cxOf CX P w K mg base N qual scope f cdv A outer s H E) [] σ' H' s'→RelV v u→Q v H'→CE outer P w H s Q u s' :=
    fun {σ' H' v u} J rv q=>⟨v,H',J.os,J.bare,J.base,J.hok,rv,q⟩
  cases fl with
  | ret u =>
    obtain ⟨v,σ',H',J,rv,q⟩:=hs
    exact fin J rv q
  | next =>
    obtain ⟨σ',H',J,q⟩:=hs
    exact fin (v:=V.non) (u:=Value.none) J rfl q
  | brk =>
    obtain ⟨_,_,_,q⟩:=hs
    exact False.elim q
  | cont =>
    obtain ⟨_,_,_,q⟩:=hs
    exact False.elim q
end L2
namespace L2
open PySem PySem.Spec PyProof.Rows
section
variable {X:Cx} {x:Str} {p pos:Pos} {e:Expr} {es:List Expr} {t:TA} {id T:String} {r:List V→Hp→VK→Prop}
def tCB (r:List V→Hp→VK→Prop) (t:TA):TE:=fun σ H Q=>t σ H fun vs H1=>r vs H1 Q
theorem Zmw (hc:CallR X (.builtin id) r) (hg:Gl X x) (hm:X.mg x=none) (hv:bootBuiltins x=some (.builtin id)) (ha:PA X (e :: es) t) (hn:x ≠ "__name__" := by decide) (hdb:(x == ("__debug__" : Str))=false:=by decide)
    (he:starEach (e :: es) X.env=(false,eval e X.env) :: starEach es X.env:=by rfl) (hpl:(backTo pos (starEach es X.env)).any (·.1)=false:=by rfl):PE X (.Call (.Name x p) (e :: es) [] pos) (tCB r t):=by
  intro pins s σ H Q I h
  refine wpAny_Call_Name_kw (Zca I hg hm hv ?_ hn hdb)
  exact PyProof.Rows.callWith_builtin1 (thn (ha pos pins s σ H _ I h) fun us s1 ⟨vs,H1,I1,r1,q1⟩=>hc pins s1 σ H1 vs us Q I1 r1 q1) he hpl
theorem ZkL (hc:CallR X (.type T) r) (hg:Gl X x) (hm:X.mg x=none) (hv:bootBuiltins x=some (.type T)) (ha:PA X (e :: es) t) (hn:x ≠ "__name__" := by decide) (hdb:(x == ("__debug__" : Str))=false:=by decide)
    (he:starEach (e :: es) X.env=(false,eval e X.env) :: starEach es X.env:=by rfl) (hpl:(backTo pos (starEach es X.env)).any (·.1)=false:=by rfl):PE X (.Call (.Name x p) (e :: es) [] pos) (tCB r t):=by
  intro pins s σ H Q I h
  refine wpAny_Call_Name_kw (Zca I hg hm hv ?_ hn hdb)
  exact PyProof.Rows.callWith_type1 (thn (ha pos pins s σ H _ I h) fun us s1 ⟨vs,H1,I1,r1,q1⟩=>hc pins s1 σ H1 vs us Q I1 r1 q1) he hpl
theorem ZjU (hc:CallR X (.type T) r) (hg:Gl X x) (hm:X.mg x=none) (hv:bootBuiltins x=some (.type T)) (hn:x ≠ "__name__" := by decide) (hdb:(x == ("__debug__" : Str))=false:=by decide) :
    PE X (.Call (.Name x p) [] [] pos) (tCB r tNil):=by
  intro pins s σ H Q I h
  refine wpAny_Call_Name_kw (Zca I hg hm hv ?_ hn hdb)
  exact PyProof.Rows.callWith_type0 (hc pins s σ H [] [] Q I .nil h)
end
end L2
namespace HT
open PySem PyProof.Rows
section
open PySem.SeqAt
open PySem.AutoSeq1 (wpAny_loadPart')
open PySem.MeetsSeq PySem.MeetsSeq2 PySem.MeetsSeq3
end
section
variable {prog:Program} {w:World} {A:Around} {E:Value→Shared→Prop} {s:Shared}
def sIx (n d:Nat):Option Int→Nat
  | none=>d
  | some v=>if v<0 then (v+(n:Int)).toNat else min v.toNat n
theorem sIx_none (n d:Nat):sIx n d none=d:=rfl
theorem sIx_nat (n d k:Nat):sIx n d (some (k:Int))=min k n:=by
  show (if (k:Int)<0 then ((k:Int)+(n:Int)).toNat else min (k:Int).toNat n)=min k n
  rw [if_neg (by omega),Int.toNat_natCast]
end
end HT
namespace L2
open PySem PySem.Spec PyProof.Rows
abbrev TO:=St→Hp→(Option Int→Hp→Prop)→Prop
def PO (X:Cx) (e:Option Expr) (t:TO):Prop :=
  ∀ (pins:List (Addr×Obj)) (s:Shared) (σ:St) (H:Hp) (Q:Option Int→Hp→Prop),Inv X pins σ H s→t σ H Q →
    wpAny (model X.prog X.w) X.A (evalPart e X.env) (fun u s'=>∃ o H',Inv X pins σ H' s'∧IsPart u o∧Q o H') X.xe s
def ZnK:TO:=fun _ H Q=>Q none H
def tPart (t:TE):TO:=fun σ H Q=>t σ H fun x H1=>∃ i,x=.int i∧Q (some i) H1
theorem ZfK {ns:List Int}:∀ {us:List Value},Vals (ns.map V.int) us→IntsAre us ns:=by
  induction ns with
  | nil=>intro us r; rw [List.map_nil] at r; cases r; exact .nil
  | cons n ns ih =>
    intro us r
    rw [List.map_cons] at r
    cases r with
    | cons r1 r2 =>
      obtain ⟨t,e⟩:=r1
      subst e
      exact .cons n t (ih r2)
section
variable {X:Cx} {e:Expr} {te:TE} {lo hi:Option Expr} {tl th:TO} {pos p2:Pos}
theorem ZnL:PO X none ZnK:=by
  intro pins s σ H Q I h
  rw [evalPart_none]
  exact wpAny_pure ⟨none,H,I,.none,h⟩
theorem Zih (h:PE X e te):PO X (some e) (tPart te):=by
  intro pins s σ H Q I hw
  rw [evalPart_some]
  refine thn (h pins s σ H _ I hw) fun u s1 ⟨x,H1,I1,r1,q1⟩=>?_
  obtain ⟨i,rfl,q⟩:=q1
  obtain ⟨t,rfl⟩:=r1
  exact ⟨some i,H1,I1,.int i t,q⟩
def SlR (X:Cx) (r:V→Option Int→Option Int→Hp→VK→Prop):Prop :=
  ∀ (pins:List (Addr×Obj)) (s:Shared) (σ:St) (H:Hp) (x:V) (v vl vu:Value) (lo hi:Option Int) (sl:Addr) (Q:VK),Inv X pins σ H s→RelV x v→s.heap.IsSliceOf sl vl vu .none→IsPart vl lo→IsPart vu hi→r x lo hi H Q →
    ∃ T id,typeLookup (.type T) "__getitem__" = pure (some (.builtin id))∧s.TypeIs v T∧wpAny (model X.prog X.w) X.A (getItem v (.ref sl)) (EP X pins σ Q) X.xe s
def tSl (r:V→Option Int→Option Int→Hp→VK→Prop) (te:TE) (tl th:TO):TE:=fun σ H Q=>te σ H fun x H1=>tl σ H1 fun l H2=>th σ H2 fun u H3=>r x l u H3 Q
theorem Zje {r:V→Option Int→Option Int→Hp→VK→Prop} (hr:SlR X r) (he:PE X e te) (hl:PO X lo tl) (hu:PO X hi th):PE X (.Subscript e (.Slice lo hi none p2) pos) (tSl r te tl th):=by
  intro pins s σ H Q I h
  refine Subscript_ (thn (he pins s σ H _ I h) fun v s1 ⟨x,H1,I1,r1,q1⟩=>?_)
  refine wpAny_Slice (thn (hl pins s1 σ H1 _ I1 q1) fun vl s2 ⟨l,H2,I2,pl,q2⟩=>thn (hu pins s2 σ H2 _ I2 q2) fun vu s3 ⟨u,H3,I3,pu,q3⟩=>?_)
  rw [evalPart_none]
  refine wpAny_pure ?_
  have I4:Inv X pins σ H3 { s3 with heap:=s3.heap.push { cls:=.type "slice",data:=.fields #[vl,vu,.none] } }:=I3.kept (t':=s3.toks) fun b ob q=>Heap.get?_push_of_some _ q
  obtain ⟨T,id,hT,ht,hg⟩:=hr pins { s3 with heap:=s3.heap.push { cls:=.type "slice",data:=.fields #[vl,vu,.none] } } σ H3 x v vl vu l u s3.heap.objs.size Q I4 r1 (Heap.IsSliceOf.new ..) pl pu q3
  show wpAny (model X.prog X.w) X.A (subscriptTail e (.Slice lo hi none p2) v (.ref s3.heap.objs.size)) (EP X pins σ Q) X.xe { s3 with heap:=s3.heap.push { cls:=.type "slice",data:=.fields #[vl,vu,.none] } }
  exact tail_any (ops:=[.ref s3.heap.objs.size,v]) ht hT hg (by with_unfolding_all rfl)
def cutV (xs:List V) (lo hi:Option Int):List V:=(xs.drop (HT.sIx xs.length 0 lo)).take (HT.sIx xs.length xs.length hi - HT.sIx xs.length 0 lo)
theorem Zii (xs:List V) (lo hi:Option Int):(cutV xs lo hi).length≤xs.length:=by
  unfold cutV
  rw [List.length_take,List.length_drop]
  omega
end
end L2
namespace L2
open PySem PySem.Spec PyProof.Rows
def ixN (n:Nat) (i:Int):Option Nat:=if 0≤i then (if i<n then some i.toNat else none) else if -(n:Int)≤i then some (i+n).toNat else none
def atI {α:Type} (xs:List α) (i:Int):Option α:=(ixN xs.length i).bind fun j=>xs[j]?
theorem ZkM {n:Nat} {i:Int} {j:Nat} (h:ixN n i=some j):seqIndex? i n=some j∧j<n ∧ -(n:Int)≤i∧i<n:=by
  unfold ixN at h
  by_cases h0:0≤i
  · rw [if_pos h0] at h
    by_cases h1:i<n
    · rw [if_pos h1] at h
      have e:i.toNat=j:=Option.some.inj h
      exact ⟨by rw [seqIndex_of h0 h1,e],by omega,by omega,h1⟩
    · rw [if_neg h1] at h; cases h
  · rw [if_neg h0] at h
    by_cases h1 : -(n:Int)≤i
    · rw [if_pos h1] at h
      have e:(i+n).toNat=j:=Option.some.inj h
      exact ⟨by rw [seqIndex_neg (by omega) h1,e],by omega,h1,by omega⟩
    · rw [if_neg h1] at h; cases h
theorem ZkN {α:Type} {xs:List α} {i:Int} {v:α} (h:atI xs i=some v):∃ j,seqIndex? i xs.length=some j∧xs[j]?=some v∧j<xs.length ∧ -(xs.length:Int)≤i∧i<xs.length:=by
  unfold atI at h
  cases e:ixN xs.length i with
  | none=>rw [e] at h; cases h
  | some j =>
    rw [e] at h
    obtain ⟨h1,h2,h3,h4⟩:=ZkM e
    exact ⟨j,h1,h,h2,h3,h4⟩
theorem ZaQ {α:Type} {xs:List α} {j:Nat} {v:α} (h:xs[j]?=some v):atI xs (j:Int)=some v:=by
  have hj:j<xs.length:=(List.getElem?_eq_some_iff.mp h).1
  have e:ixN xs.length (j:Int)=some j:=by
    unfold ixN
    rw [if_pos (by omega),if_pos (by omega)]; simp
  unfold atI; rw [e]; exact h
def ZnM (b:Expr):Prop:=∀ o i,subscripted b false o i=operate [o,i] (getItem o i)
def IxR (X:Cx) (r:R2):Prop :=
  ∀ (value slice:Expr) (pins:List (Addr×Obj)) (s:Shared) (σ:St) (H:Hp) (x y:V) (v u:Value) (Q:VK),Inv X pins σ H s→RelV x v→RelV y u→r x y H Q →
    subscripted slice false v u=operate [v,u] (getItem v u)→wpAny (model X.prog X.w) X.A (subscriptTail value slice v u) (EP X pins σ Q) X.xe s
def MtR (X:Cx) (id:String) (r:V→List V→Hp→VK→Prop):Prop :=
  ∀ (pins:List (Addr×Obj)) (s:Shared) (σ:St) (H:Hp) (x:V) (xs:List V) (v:Value) (us:List Value) (Q:VK),Inv X pins σ H s→RelV x v→Vals xs us→r x xs H Q →
    wpAny (model X.prog X.w) X.A (call (.builtin id) (v :: us)) (EP X pins σ Q) X.xe s
section
variable {X:Cx} {a b:Expr} {ta tb:TE} {pos:Pos}
theorem pe_ix {r:R2} (hr:IxR X r) (ha:PE X a ta) (hb:PE X b tb) (hs:ZnM b):PE X (.Subscript a b pos) (tOp r ta tb):=by
  intro pins s σ H Q I h
  exact Subscript_ (binT ha hb I h fun v u s2 x y H2 I2 rx ry q=>hr a b pins s2 σ H2 x y v u Q I2 rx ry q (hs _ _))
def rIxL (K:PySem.W.Frag):R2:=fun x y H Q=>∃ p xs i v,x=.ref p∧y=.int i∧SqL K H p xs∧atI xs i=some v∧Q v H
def rIxT (K:PySem.W.Frag):R2:=fun x y H Q=>∃ p xs i v,x=.ref p∧y=.int i∧SqT K H p xs∧atI xs i=some v∧Q v H
theorem ZnN:IxR X (rIxL X.K):=by
  intro value slice pins s σ H x y v u Q I rx ry h hs
  obtain ⟨p,xs,i,z,rfl,rfl,hq,he,q⟩:=h
  cases rx
  obtain ⟨t,rfl⟩:=ry
  obtain ⟨its,r,pl,hz⟩:=I.list hq
  obtain ⟨j,h1,h2,h3,h4,h5⟩:=ZkN he
  obtain ⟨w,ew,rw'⟩:=r.get h2
  have hl:=r.length
  have hn:=Zja
  have fin:EP X pins σ Q w s:=⟨z,H,I,rw',q⟩
  by_cases h0:0≤i
  · have hj:i.toNat=j:=by
      rw [seqIndex_of h0 h5] at h1
      exact Option.some.inj h1
    exact item_listR pl.isList h0 (by omega) (by rw [hj]; simpa using ew) fin hs
  · have hj:(i+(its.toArray.size:Int)).toNat=j:=by
      rw [seqIndex_neg (by omega) h4] at h1
      rw [List.size_toArray,← hl]
      exact Option.some.inj h1
    exact subscriptTail_builtinR (x:=w) pl.isList.typeIs slot_list_getitem.lookup
      (wpAny_getItem_list_neg (Q:=fun r s'=>r=w∧EP X pins σ Q r s') pl.isList (by omega) (by rw [List.size_toArray] <;> omega) (by omega) (by rw [hj]; simpa using ew) ⟨rfl,fin⟩) hs
theorem ZoD:IxR X (rIxT X.K):=by
  intro value slice pins s σ H x y v u Q I rx ry h hs
  obtain ⟨p,xs,i,z,rfl,rfl,hq,he,q⟩:=h
  cases rx
  obtain ⟨t,rfl⟩:=ry
  obtain ⟨its,r,pl,hz⟩:=I.tuple hq
  obtain ⟨j,h1,h2,h3,h4,h5⟩:=ZkN he
  obtain ⟨w,ew,rw'⟩:=r.get h2
  have hl:=r.length
  have hn:=Zja
  have fin:EP X pins σ Q w s:=⟨z,H,I,rw',q⟩
  exact subscriptTail_builtinR (x:=w) pl.typeIs slot_tuple_getitem.lookup
    (getItem_tuple (j:=j) (Q:=fun r s'=>r=w∧EP X pins σ Q r s') pl (by omega) (by omega) (by rw [List.size_toArray,← hl]; exact h1) (by simpa using ew) ⟨rfl,fin⟩) hs
theorem ZjV (its:List Value) (n j:Nat) (u:Value):Obj.mapSeq (·.setIfInBounds j u) { cls:=.type "list",data:=.seq its.toArray n }={ cls:=.type "list",data:=.seq (its.set j u).toArray n }:=by
  simp [Obj.mapSeq]
theorem Inv.lst {pins:List (Addr×Obj)} {σ:St} {H:Hp} {s:Shared} {p:Addr} {xs:List V} (I:Inv X pins σ H s) (h:H p=some (.lst xs)) :
    ∃ (its:List Value) (n:Nat),Vals xs its∧s.heap.get? p=some { cls:=.type "list",data:=.seq its.toArray n }∧xs.length≤sizeLine:=by
  obtain ⟨z,its,n,r,e⟩:=I.hok p _ h
  exact ⟨its,n,r,e,z⟩
theorem Inv.lstUpd {pins:List (Addr×Obj)} {σ:St} {H:Hp} {s:Shared} {p:Addr} {xs ys:List V} {its its':List Value} {n n':Nat} {f:Obj→Obj} (I:Inv X pins σ H s) (h:H p=some (.lst xs))
    (ho:s.heap.get? p=some { cls:=.type "list",data:=.seq its.toArray n }) (hf:f { cls:=.type "list",data:=.seq its.toArray n }={ cls:=.type "list",data:=.seq its'.toArray n' }) (r:Vals ys its') (hz:ys.length≤sizeLine) (t:Nat) :
    Inv X pins σ (upd H p (.lst ys)) { s with heap:=s.heap.update p f,toks:=t }:=by
  have e:(s.heap.update p f).get? p=some { cls:=.type "list",data:=.seq its'.toArray n' }:=by
    rw [Heap.get?_update_self f ho (by rw [hf] <;> rfl),hf]
  refine I.write (x:=p) (e:=p) (by rw [h]; trivial) (.inl rfl) (fun b u hb q=>(Heap.get?_update_other _ _ (Ne.symm hb)).trans q) ⟨_,e⟩ ?_
  exact ⟨hz,its',n',r,e⟩
def rSetL:V→V→V→Hp→(Hp→Prop)→Prop:=fun o i v H Q=>∃ p xs k j,o=.ref p∧i=.int k∧H p=some (.lst xs)∧ixN xs.length k=some j∧Q (upd H p (.lst (xs.set j v)))
theorem ZcA:PSet X rSetL:=by
  intro pins s σ H o i v ov iv u Q I ro ri rv h
  obtain ⟨p,xs,k,j,rfl,rfl,hp,hj,q⟩:=h
  cases ro
  obtain ⟨t,rfl⟩:=ri
  obtain ⟨its,n,r,ho,hz⟩:=I.lst hp
  obtain ⟨h1,h2,h3,h4⟩:=ZkM hj
  have hl:=r.length
  have hn:=Zja
  have I':Inv X pins σ (upd H p (.lst (xs.set j v))) { s with heap:=s.heap.update p (Obj.mapSeq (·.setIfInBounds j u)) } :=
    I.lstUpd hp ho (ZjV its n j u) (r.set rv j) (by rw [List.length_set]; exact hz) s.toks
  by_cases h0:0≤k
  · have hk:k.toNat=j:=by
      rw [seqIndex_of h0 h4] at h1
      exact Option.some.inj h1
    exact PySem.W.ki_setAt ho h0 (by omega) (by rw [List.size_toArray,← hl]; exact h4) (by rw [hk]; exact ⟨_,I',q⟩)
  · have hk:(k+(its.toArray.size:Int)).toNat=j:=by
      rw [seqIndex_neg (by omega) h3] at h1
      rw [List.size_toArray,← hl]
      exact Option.some.inj h1
    exact PySem.W.ki_setBack ho (by omega) (by rw [List.size_toArray,← hl]; exact h3) (by omega) (by rw [hk]; exact ⟨_,I',q⟩)
theorem Zhg (lo hi:Option Int) (n:Nat):(sliceBounds lo hi none n).1=((HT.sIx n 0 lo:Nat):Int)∧(sliceBounds lo hi none n).2.1=((HT.sIx n n hi:Nat):Int)∧(sliceBounds lo hi none n).2.2=1:=by
  refine ⟨?_,?_,rfl⟩
  · cases lo with
    | none=>simp [sliceBounds,HT.sIx]
    | some i =>
      simp only [sliceBounds,HT.sIx,Option.getD_none,show (1:Int) > 0 by decide,if_true]
      by_cases h:i<0
      · simp only [h,if_true] <;> omega
      · simp only [h,if_false] <;> omega
  · cases hi with
    | none=>simp [sliceBounds,HT.sIx]
    | some i =>
      simp only [sliceBounds,HT.sIx,Option.getD_none,show (1:Int) > 0 by decide,if_true]
      by_cases h:i<0
      · simp only [h,if_true] <;> omega
      · simp only [h,if_false] <;> omega
theorem Zga (its:List Value) (lo hi:Option Int):slicePick its.toArray lo hi none=((its.drop (HT.sIx its.length 0 lo)).take (HT.sIx its.length its.length hi - HT.sIx its.length 0 lo)).toArray:=by
  obtain ⟨h1,h2,h3⟩:=Zhg lo hi its.toArray.size
  unfold slicePick
  rw [h1,h2,h3]
  simp only [sliceRange_one,pick_run,List.size_toArray] <;> rfl
def rSlL (K:PySem.W.Frag):V→Option Int→Option Int→Hp→VK→Prop:=fun x lo hi H Q=>∃ a xs,x=.ref a∧SqL K H a xs∧∀ p,H p=none→Q (.ref p) (upd H p (.lst (cutV xs lo hi)))
theorem ZnO:SlR X (rSlL X.K):=by
  intro pins s σ H x v vl vu lo hi sl Q I rx hs pl pu h
  obtain ⟨a,xs,rfl,hx,q⟩:=h
  cases rx
  obtain ⟨its,r,ht,hz⟩:=I.list hx
  have hlen:=r.length
  refine ⟨"list",_,slot_list_getitem.lookup,ht.isList.typeIs,?_⟩
  refine wpAny_getItem_list_slice ht.isList hs pl pu .none (by simp) ?_ (by rw [List.size_toArray] <;> omega)
  rw [Zga,← hlen]
  refine ⟨.ref s.heap.objs.size,_,I.laid (t':=s.toks) (o:=.lst (cutV xs lo hi)) (fun b ob q=>Heap.get?_push_of_some _ q) (Nat.le_refl _) ?_,rfl,q _ (I.hok.fresh (Nat.le_refl _))⟩
  exact ⟨Nat.le_trans (Zii xs lo hi) hz,_,0,(r.drop (HT.sIx xs.length 0 lo)).take (HT.sIx xs.length xs.length hi - HT.sIx xs.length 0 lo),Heap.get?_push_size _ rfl⟩
def flatV:V→Bool
  | .non=>true
  | .bl _=>true
  | .int _=>true
  | .str _=>true
  | _=>false
def eqV:V→V→Bool
  | .non,.non=>true
  | .bl a,.bl b=>a == b
  | .bl a,.int b=>(if a then 1 else 0) == b
  | .int a,.bl b=>a == (if b then 1 else 0)
  | .int a,.int b=>a == b
  | .str a,.str b=>a == b
  | _,_=>false
theorem ZkO {A:Around} {s:Shared} {y x:V} {u v:Value} (ry:RelV y u) (rx:RelV x v) (fy:flatV y=true) (fx:flatV x=true):SeqAt.EqAt A s u v (eqV y x):=by
  cases y with
  | non =>
    cases ry
    cases x with
    | non=>cases rx; exact SeqAt.EqAt.same _
    | bl b=>cases rx; exact SeqAt.EqAt.none_bool b
    | int b=>obtain ⟨t,rfl⟩:=rx; exact SeqAt.EqAt.none_int b t
    | str b=>obtain ⟨t,rfl⟩:=rx; exact SeqAt.EqAt.none_str b t
    | _=>exact absurd (show false=true from fx) Bool.false_ne_true
  | bl a =>
    cases ry
    cases x with
    | non=>cases rx; exact SeqAt.EqAt.bool_none a
    | bl b=>cases rx; exact SeqAt.EqAt.bool_bool a b
    | int b=>obtain ⟨t,rfl⟩:=rx; exact SeqAt.EqAt.bool_int a b t
    | str b=>obtain ⟨t,rfl⟩:=rx; exact SeqAt.EqAt.bool_str a b t
    | _=>exact absurd (show false=true from fx) Bool.false_ne_true
  | int a =>
    obtain ⟨t',rfl⟩:=ry
    cases x with
    | non=>cases rx; exact SeqAt.EqAt.int_none a t'
    | bl b=>cases rx; exact SeqAt.EqAt.int_bool a t' b
    | int b=>obtain ⟨t,rfl⟩:=rx; exact SeqAt.EqAt.int_int a t' b t
    | str b=>obtain ⟨t,rfl⟩:=rx; exact SeqAt.EqAt.int_str a t' b t
    | _=>exact absurd (show false=true from fx) Bool.false_ne_true
  | str a =>
    obtain ⟨t',rfl⟩:=ry
    cases x with
    | non=>cases rx; exact SeqAt.EqAt.str_none a t'
    | bl b=>cases rx; exact SeqAt.EqAt.str_bool a t' b
    | int b=>obtain ⟨t,rfl⟩:=rx; exact SeqAt.EqAt.str_int a t' b t
    | str b=>obtain ⟨t,rfl⟩:=rx; exact SeqAt.EqAt.str_str a t' b t
    | _=>exact absurd (show false=true from fx) Bool.false_ne_true
  | _=>exact absurd (show false=true from fy) Bool.false_ne_true
def eqU (x:V) (u:Value):Bool:=match u with
  | .none=>eqV .non x
  | .bool b=>eqV (.bl b) x
  | .int i _=>eqV (.int i) x
  | .str z _=>eqV (.str z) x
  | _=>false
theorem Znj {x y:V} {u:Value} (r:RelV y u) (f:flatV y=true):eqU x u=eqV y x:=by
  cases y with
  | non=>cases r; rfl
  | bl b=>cases r; rfl
  | int i=>obtain ⟨t,rfl⟩:=r; rfl
  | str z=>obtain ⟨t,rfl⟩:=r; rfl
  | _=>exact absurd (show false=true from f) Bool.false_ne_true
theorem Zij {x:V}:∀ {xs:List V} {us:List Value},Vals xs us→xs.all flatV=true→us.any (eqU x)=xs.any fun y=>eqV y x
  | _,_,.nil,_=>rfl
  | y :: xs,u :: us,.cons r t,f=>by
    rw [List.all_cons,Bool.and_eq_true] at f
    rw [List.any_cons,List.any_cons,Znj r f.1,Zij t f.2]
theorem Zgb {A:Around} {s:Shared} {x:V} {v:Value} (rx:RelV x v) (fx:flatV x=true):∀ {xs:List V} {us:List Value},Vals xs us→xs.all flatV=true→∀ u∈us,SeqAt.EqAt A s u v (eqU x u)
  | _,_,.nil,_=>fun u hu=>by cases hu
  | y :: xs,u :: us,.cons r t,f=>fun u' hu=>by
    rw [List.all_cons,Bool.and_eq_true] at f
    rcases List.mem_cons.mp hu with rfl | hu
    · rw [Znj r f.1]; exact ZkO r rx f.1 fx
    · exact Zgb rx fx t f.2 u' hu
def inV (x:V) (xs:List V):Bool:=xs.any fun y=>eqV y x
def rIn (K:PySem.W.Frag) (neg:Bool):R2:=fun x y H Q=>∃ p xs,y=.ref p∧(SqL K H p xs∨SqT K H p xs)∧flatV x=true∧xs.all flatV=true∧Q (.bl (if neg then !inV x xs else inV x xs)) H
theorem Zhh:OpR X (compareOp .NotIn) (rIn X.K true):=by
  intro pins s σ H x y v u Q I rx ry h
  obtain ⟨p,xs,rfl,hq,fx,fs,q⟩:=h
  cases ry
  rcases hq with hq | hq
  · obtain ⟨its,r,pl,hz⟩:=I.list hq
    refine SeqAt.notIn_listAt (eqU x) pl.isList (fun w hw=>Zgb rx fx r fs w (by simpa using hw)) ⟨.bl _,H,I,rfl,?_⟩
    rw [show its.toArray.any (eqU x)=its.any (eqU x) by simp,Zij r fs]
    exact q
  · obtain ⟨its,r,pl,hz⟩:=I.tuple hq
    refine SeqAt.notIn_tupleAt (eqU x) pl (fun w hw=>Zgb rx fx r fs w (by simpa using hw)) ⟨.bl _,H,I,rfl,?_⟩
    rw [show its.toArray.any (eqU x)=its.any (eqU x) by simp,Zij r fs]
    exact q
theorem Zhi:CallR X (.builtin "len") (fun xs H Q=>∃ p ys,xs=[.ref p]∧(SqL X.K H p ys∨SqT X.K H p ys)∧Q (.int ys.length) H):=by
  intro pins s σ H xs us Q I r h
  obtain ⟨p,ys,rfl,hq,q⟩:=h
  obtain ⟨u,rfl,rx⟩:=vals1 r
  cases rx
  have hn:=Zja
  rcases hq with hq | hq
  · obtain ⟨its,r',pl,hz⟩:=I.list hq
    have hlen:=r'.length
    exact Calls.call_len_list pl.isList (by simp only [List.size_toArray] <;> omega) ⟨.int ys.length,H,I.tok _,⟨s.toks+1,by rw [List.size_toArray,hlen]⟩,q⟩
  · obtain ⟨its,r',pl,hz⟩:=I.tuple hq
    have hlen:=r'.length
    exact len_tuple pl (by simp only [List.size_toArray] <;> omega) ⟨.int ys.length,H,I.tok _,⟨s.toks+1,by rw [List.size_toArray,hlen]⟩,q⟩
theorem Zhj:CallR X (.type "list") (fun xs H Q=>∃ p ys,xs=[.ref p]∧(SqL X.K H p ys∨SqT X.K H p ys)∧∀ l,H l=none→Q (.ref l) (upd H l (.lst ys))):=by
  intro pins s σ H xs us Q I r h
  obtain ⟨p,ys,rfl,hq,q⟩:=h
  obtain ⟨u,rfl,rx⟩:=vals1 r
  cases rx
  have fin:∀ (its:List Value),Vals ys its→ys.length≤sizeLine→∀ (h':Heap) (c':Nat),(∀ b o',s.heap.get? b=some o'→h'.get? b=some o') →
      h'.get? s.heap.objs.size=some { cls:=.type "list",dict:=none,data:=.seq its.toArray c',slots:=#[] }→EP X pins σ Q (.ref s.heap.objs.size) { s with heap:=h' }:=fun its r' hz h' c' kp e =>
    ⟨.ref s.heap.objs.size,_,I.laid (t':=s.toks) kp (Nat.le_refl _) (show ObjOk X.prog X.w _ h' _ (.lst ys) from ⟨hz,its,c',r',e⟩),rfl,q _ (I.hok.fresh (Nat.le_refl _))⟩
  rcases hq with hq | hq
  · obtain ⟨its,r',pl,hz⟩:=I.list hq
    have hlen:=r'.length
    obtain ⟨o,ho,hc,n,hd⟩:=pl.isList
    exact call_list_seq p (.inl rfl) ho hc hd (fun h' c' kp e=>fin its r' hz h' c' kp e) (by simp only [List.size_toArray] <;> omega)
  · obtain ⟨its,r',pl,hz⟩:=I.tuple hq
    have hlen:=r'.length
    obtain ⟨o,ho,hc,n,hd⟩:=pl
    exact call_list_seq p (.inr rfl) ho hc hd (fun h' c' kp e=>fin its r' hz h' c' kp e) (by simp only [List.size_toArray] <;> omega)
theorem Zgc:CallR X (.type "tuple") (fun xs H Q=>∃ p ys,xs=[.ref p]∧((SqL X.K H p ys∧∀ l,H l=none→Q (.ref l) (upd H l (.tup ys)))∨(SqT X.K H p ys∧Q (.ref p) H))):=by
  intro pins s σ H xs us Q I r h
  obtain ⟨p,ys,rfl,h⟩:=h
  obtain ⟨u,rfl,rx⟩:=vals1 r
  cases rx
  rcases h with ⟨hq,q⟩ | ⟨hq,q⟩
  · obtain ⟨its,r',pl,hz⟩:=I.list hq
    have hlen:=r'.length
    refine call_tuple_list pl.isList (fun h' kp=>?_) (by simp only [List.size_toArray] <;> omega)
    have I1:Inv X pins σ H { s with heap:=h' }:=I.kept (t':=s.toks) kp
    have I2:Inv X pins σ (upd H h'.objs.size (.tup ys)) { s with heap:=h'.push { cls:=.type "tuple",data:=.seq its.toArray } } :=
      I1.laid (t':=s.toks) (fun b o e=>Heap.get?_push_of_some _ e) (Nat.le_refl _) (show ObjOk X.prog X.w _ _ _ (.tup ys) from ⟨hz,its,r',IsTup.new _ _⟩)
    exact ⟨.ref h'.objs.size,_,I2,rfl,q _ (I1.hok.fresh (Nat.le_refl _))⟩
  · obtain ⟨its,r',pl,hz⟩:=I.tuple hq
    exact call_tuple_same pl ⟨.ref p,H,I,rfl,q⟩
def tyV (K:PySem.W.Frag) (T:String) (x:V) (H:Hp):Prop:=match x with
  | .str _=>T = "str"
  | .int _=>T = "int"
  | .ref p=>(T = "list" ∧ ∃ xs,SqL K H p xs)∨(T = "tuple" ∧ ∃ o,K.lookup p=some o∧o.cls=.type "tuple" ∧ o.dict=none) ∨
      (T = "dict" ∧ ((∃ kvs,H p=some (.dK kvs))∨∃ kvs,H p=some (.dT kvs)))∨(T = "set" ∧ ∃ S n,H p=some (.set S n))
  | _=>False
theorem ZoE {pins:List (Addr×Obj)} {σ:St} {H:Hp} {s:Shared} {T:String} {x:V} {v:Value} (I:Inv X pins σ H s) (r:RelV x v) (ty:tyV X.K T x H) :
    s.TypeIs v T∧∀ a,v=.ref a→∃ ob,s.heap.get? a=some ob∧ob.dict=none:=by
  cases x with
  | str z =>
    obtain ⟨t,rfl⟩:=r
    cases (show T = "str" from ty)
    exact ⟨typeIs_str s z t,fun _ e=>nomatch e⟩
  | int i =>
    obtain ⟨t,rfl⟩:=r
    cases (show T = "int" from ty)
    exact ⟨typeIs_int s i t,fun _ e=>nomatch e⟩
  | ref p =>
    cases r
    rcases ty with ⟨rfl,xs,hq⟩ | ⟨rfl,o,hk,hc,hd⟩ | ⟨rfl,hk⟩ | ⟨rfl,S,n,hk⟩
    · obtain ⟨its,_,pl,_⟩:=I.list hq
      refine ⟨pl.isList.typeIs,fun a e=>?_⟩
      cases e
      obtain ⟨o,n,e,c,hd,_⟩:=pl
      exact ⟨o,e,hd⟩
    · refine ⟨⟨o,I.kIn p o hk,hc⟩,fun a e=>?_⟩
      cases e
      exact ⟨o,I.kIn _ o hk,hd⟩
    · have z:∃ o,s.heap.get? p=some o∧o.ExactDict:=by
        rcases hk with ⟨kvs,hk⟩ | ⟨kvs,hk⟩
        · obtain ⟨_,_,_,_,o,_,_,e,ex,_⟩:=I.hok p _ hk
          exact ⟨o,e,ex⟩
        · obtain ⟨_,_,_,_,o,_,_,e,ex,_⟩:=I.hok p _ hk
          exact ⟨o,e,ex⟩
      obtain ⟨o,e,ex⟩:=z
      refine ⟨⟨o,e,ex.1⟩,fun a e2=>?_⟩
      cases e2
      exact ⟨o,e,ex.2.1⟩
    · obtain ⟨o,_,_,_,e,ex,_⟩:=I.hok p _ hk
      refine ⟨⟨o,e,ex.1⟩,fun a e2=>?_⟩
      cases e2
      exact ⟨o,e,ex.2.1⟩
  | _=>exact False.elim ty
def tBM (K:PySem.W.Frag) (T:String) (r:V→List V→Hp→VK→Prop) (to:TE) (t:TA):TE:=fun σ H Q=>to σ H fun x H1=>tyV K T x H1∧t σ H1 fun xs H2=>r x xs H2 Q
variable {o e:Expr} {es:List Expr} {to:TE} {t:TA} {name:Str} {apos cpos:Pos} {T id:String} {r:V→List V→Hp→VK→Prop}
theorem pe_bm (pa:PlainAttrs T) (slot:Slot T name id) (hty:typeOf (.builtin id)=pure (.type "method_descriptor")) (hm:MtR X id r) (ho:PE X o to) (ha:PA X (e :: es) t)
    (hbase:attributeBase o name X.env (eval o X.env)=eval o X.env:=by rfl)
    (hfew:((backTo cpos (starEach (e :: es) X.env)).all (fun x=>!x.1) && (backToKw cpos (keywordEach [] X.env)).all (fun x=>x.1.isSome)
      && decide ((e :: es).length+([]:List Keyword).length+(if ([]:List Keyword).isEmpty then 0 else 1)<30))=true:=by rfl)
    (hline:(apos.endLine == cpos.line)=true:=by rfl) (hs:starEach (e :: es) X.env=(false,eval e X.env) :: starEach es X.env:=by rfl) (hplain:(backTo cpos (starEach es X.env)).any (·.1)=false:=by rfl) :
    PE X (.Call (.Attribute o name apos) (e :: es) [] cpos) (tBM X.K T r to t):=by
  intro pins s σ H Q I h
  refine wpAny_Call_method_late hbase hfew hline rfl (thn (ho pins s σ H _ I h) fun v s1 ⟨x,H1,I1,r1,ty,q1⟩=>?_)
  obtain ⟨h1,h2⟩:=ZoE I1 r1 ty
  refine ⟨T,id,pa,slot,hty,h1,h2,?_⟩
  have hA:=ha cpos pins s1 σ H1 _ I1 q1
  rw [hs] at hA ⊢
  refine Calls.callWith_builtin (by show (false || (backTo cpos (starEach es X.env)).any (·.1))=false; rw [hplain] <;> rfl) (Calls.evalArgs_plain ?_)
  exact thn hA fun us s2 ⟨vs,H2,I2,r2,q2⟩=>hm pins s2 σ H2 x vs v us Q I2 r1 r2 q2
/- xs.append(e),list.index on a module's tuple .. are MtR facts of 06m -/
end
end L2
namespace L2
open PySem PySem.Spec PyProof.Rows
def MtM (X:Cx) (id:String) (r:V→List V→Hp→VK→Prop):Prop :=
  ∀ (pins:List (Addr×Obj)) (s:Shared) (σ:St) (H:Hp) (x:V) (xs:List V) (v:Value) (us:List Value) (Q:VK),Inv X pins σ H s→RelV x v→Vals xs us→r x xs H Q →
    wpAny (model X.prog X.w) X.A (call (.builtin id) (v :: us)) (EP X pins σ Q) X.xe s
theorem Vals.one:∀ {x:V} {us:List Value},Vals [x] us→∃ u,us=[u]∧RelV x u
  | _,_,.cons r .nil=>⟨_,rfl,r⟩
theorem Vals.rep {xs:List V} {us:List Value} (h:Vals xs us):∀ k:Nat,Vals (List.replicate k xs).flatten (List.replicate k us).flatten
  | 0=>.nil
  | k+1=>by
    rw [List.replicate_succ,List.replicate_succ,List.flatten_cons,List.flatten_cons]
    exact Vals.append h (Vals.rep h k)
theorem Zhk (its:List Value):∀ (k:Nat) (acc:List Value),
    List.foldl (fun x1 x2=>x1++x2) acc.toArray (List.replicate k its.toArray)=(acc++(List.replicate k its).flatten).toArray
  | 0,acc=>by simp
  | k+1,acc=>by
    have e:acc.toArray++its.toArray=(acc++its).toArray:=by simp
    have e2:(acc++its)++(List.replicate k its).flatten=acc++(List.replicate (k+1) its).flatten:=by
      rw [List.replicate_succ,List.flatten_cons,List.append_assoc]
    rw [← e2,← Zhk its k (acc++its),← e,List.replicate_succ,List.foldl_cons]
section
variable {X:Cx} {pins:List (Addr×Obj)} {σ:St} {H:Hp} {s:Shared} {l b:Addr} {xs ys zs:List V}
theorem Inv.lset {its its':List Value} {n:Nat} {f:Array Value→Array Value} {t':Nat} (I:Inv X pins σ H s) (hH:H l=some (.lst xs))
    (e:s.heap.get? l=some { cls:=.type "list",data:=.seq its.toArray n }) (hf:f its.toArray=its'.toArray) (hv:Vals ys its') (hz:ys.length≤sizeLine) :
    Inv X pins σ (upd H l (.lst ys)) { s with heap:=s.heap.update l (Obj.mapSeq f),toks:=t' }:=by
  have q:=PySem.IsL.update e f
  rw [hf] at q
  refine I.write (x:=l) (e:=l) (by rw [hH]; exact trivial) (.inl rfl) (fun b' u hb hu=>(Heap.get?_update_other s.heap (Obj.mapSeq f) (Ne.symm hb)).trans hu) ⟨_,q⟩ ?_
  exact ⟨hz,its',_,hv,q⟩
theorem Inv.lnew {its:List Value} {t':Nat} (I:Inv X pins σ H s) (hv:Vals ys its) (hz:ys.length≤sizeLine) :
    Inv X pins σ (upd H s.heap.objs.size (.lst ys)) { s with heap:=s.heap.push { cls:=.type "list",data:=.seq its.toArray },toks:=t' } :=
  I.laid (fun _ _ q=>Heap.get?_push_of_some _ q) (Nat.le_refl _) ⟨hz,its,0,hv,Heap.get?_push_size _ rfl⟩
theorem Inv.fresh (I:Inv X pins σ H s):H s.heap.objs.size=none:=I.hok.fresh (Nat.le_refl _)
theorem Inv.lstM (I:Inv X pins σ H s) (hH:H l=some (.lst xs)):xs.length≤sizeLine∧∃ (its:List Value) (n:Nat),Vals xs its∧xs.length=its.length∧s.heap.get? l=some { cls:=.type "list",data:=.seq its.toArray n }:=by
  obtain ⟨z,its,n,r,e⟩:=I.hok l _ hH
  exact ⟨z,its,n,r,r.length,e⟩
theorem Zmx {n:Nat} (h:n≤sizeLine):Builtin.List.listTooLong n=false:=by
  unfold Builtin.List.listTooLong
  exact decide_eq_false (by omega)
end
section
variable {X:Cx}
def ZnP:V→List V→Hp→VK→Prop:=fun x vs H Q=>∃ l xs y,x=.ref l∧vs=[y]∧H l=some (.lst xs)∧xs.length<sizeLine∧Q .non (upd H l (.lst (xs++[y])))
theorem ZbC:MtM X "list.append" ZnP:=by
  intro pins s σ H x vs v us Q I rx rv h
  obtain ⟨l,xs,y,rfl,rfl,hH,hz,q⟩:=h
  cases rx
  obtain ⟨u,rfl,ru⟩:=rv.one
  obtain ⟨z,its,n,r,hl,e⟩:=I.lstM hH
  refine call_meets F.slot_list_append ⟨_,e,rfl⟩ F.entry_list_append (F.args_list_append_2 _ _) (PySem.list_append l its.toArray n u (by rw [List.size_toArray]; omega)) ⟨e,?_⟩
  refine ⟨.non,_,I.lset (its':=its++[u]) hH e (by simp) (r.append (.cons ru .nil)) ?_,rfl,q⟩
  rw [List.length_append,List.length_singleton]
  omega
def rRep:R2:=fun x y H Q=>∃ l k xs,x=.ref l∧y=.int k∧H l=some (.lst xs) ∧ -(2 ^ 63)≤k∧k<2 ^ 63∧xs.length * k.toNat≤sizeLine ∧
  ∀ p,H p=none→Q (.ref p) (upd H p (.lst (List.replicate k.toNat xs).flatten))
theorem ZnQ {α:Type} (xs:List α) (k:Nat):(List.replicate k xs).flatten.length=k * xs.length:=by
  induction k with
  | zero=>simp
  | succ k ih=>rw [List.replicate_succ,List.flatten_cons,List.length_append,ih,Nat.succ_mul,Nat.add_comm]
theorem ZoF:OpR X (binaryOp .Mult) rRep:=by
  intro pins s σ H x y v u Q I rx ry h
  obtain ⟨l,k,xs,rfl,rfl,hH,h1,h2,hz,q⟩:=h
  cases rx
  obtain ⟨t,rfl⟩:=ry
  obtain ⟨z,its,n,r,hl,e⟩:=I.lstM hH
  have hlen:its.toArray.size * k.toNat≤sizeLine:=by rw [List.size_toArray,← hl]; exact hz
  have hcap:¬ its.toArray.size * k.toNat > (2 ^ 63 - 1) / 8:=by
    have:(sizeLine:Nat)≤(2 ^ 63 - 1) / 8:=by decide
    omega
  have hfit:¬ (!Builtin.List.listFitsIndex k)=true:=by
    rw [fitsIndex_both h1 h2]
    exact Bool.false_ne_true
  have hlong:¬ Builtin.List.listTooLong (its.toArray.size * k.toNat)=true:=by
    rw [Zmx hlen]
    exact Bool.false_ne_true
  have hnew:List.foldl (fun x1 x2=>x1++x2) #[] (List.replicate (if its.toArray.isEmpty=true then 0 else k.toNat) its.toArray)=(List.replicate k.toNat its).flatten.toArray:=by
    have f0:∀ m:Nat,List.foldl (fun x1 x2=>x1++x2) #[] (List.replicate m its.toArray)=(List.replicate m its).flatten.toArray:=fun m=>by
      have:=Zhk its m []
      rw [List.nil_append] at this
      exact this
    rw [f0]
    cases its with
    | nil=>simp
    | cons a r'=>rw [if_neg (by simp)]
  refine wpAny_binaryOp_repeat_ref (T := "list") (U := "int") (by decide) ⟨_,e,rfl⟩ (fun s'=>typeIs_int s' k t) noFill_list_mul F.fills_int_mul F.slot_int_rmul repeat_list F.slot_int_index.lookup
    (call_meets F.slot_int_rmul (typeIs_int s k t) F.entry_int_rmul (F.args_int_rmul_2 _ _) (int___rmul___int_list k t l its.toArray n)
      ⟨e,rfl,⟨_,e,rfl⟩,call_meets F.slot_list_mul ⟨_,e,rfl⟩ F.entry_list_mul (F.args_list_mul_2 _ _) (AutoListH.list___mul___list_int_3 l its.toArray n k t hfit hcap hlong) ⟨e,?_⟩⟩)
  rw [hnew]
  exact ⟨.ref _,_,I.lnew (t':=s.toks) (r.rep k.toNat) (by rw [ZnQ,Nat.mul_comm]; exact hz),rfl,q _ I.fresh⟩
end
end L2
namespace Att
open PySem PySem.W PySem.Calls PyProof.Rows
theorem ZeK {P:Params} {h:Heap}:∀ (ns:List Int) (vs:List Value),WellAll P h vs (ns.map WData.int)→IntsAre vs ns:=by
  intro ns
  induction ns with
  | nil =>
    intro vs w
    rw [List.map_nil] at w
    cases w
    exact .nil
  | cons n ns ih =>
    intro vs w
    rw [List.map_cons] at w
    cases w with
    | cons a b =>
      cases a
      exact .cons _ _ (ih _ b)
theorem ZkP {l:OpenLaw} {n:Nat} (hn:l.most=some n) {P:Params} {h:Heap} {args:List WData} {vals:List Value}
    (hpre:l.row.toRowW.claim.pre args=true) (hwl:WellAll P h vals args) :
    ∃ a vs ns,vals=[Value.ref a]∧args=[WData.list (ns.map WData.int)]∧h.get? a=some { cls:=.type "list",data:=.seq vs.toArray }∧IntsAre vs ns∧ns.length≤n:=by
  have hsh:WShape.hasAll [] args [.list .int]=true:=(pre_splitW hpre).1
  have hc:l.pre.holds [] { args:=args }=true:=(pre_splitW hpre).2
  obtain ⟨d,r,rfl,h1,h2⟩:=hasAllW_cons hsh
  obtain rfl:=hasAllW_nil h2
  obtain ⟨xs,rfl,h3⟩:=hasW_list h1
  obtain ⟨ns,rfl⟩:=items_int h3
  have hlen:ns.length≤n:=by
    unfold OpenLaw.pre at hc
    have h4:(WTm.not (.lt (.lit (.int (n:Int))) (.len (.arg 0)))).holds [] { args:=[.list (ns.map .int)] }=true:=by
      have h4:=(holds_andW hc).1
      rw [hn] at h4
      exact h4
    have h5:=condW_of h4 (w_not (w_lt w_lit (w_len_list (w_arg rfl))))
    rw [List.length_map] at h5
    refine Nat.le_of_not_lt fun q=>?_
    have q':(n:Int)<((ns.length:Nat):Int):=by omega
    first
      | (rw [decide_eq_true q'] at h5; exact absurd h5 (by decide))
      | (simp at h5; omega)
  cases hwl with
  | cons w1 w2 =>
    cases w2
    cases w1 with
    | list ho hall=>exact ⟨_,_,ns,rfl,rfl,ho,ZeK ns _ hall,hlen⟩
theorem ZkQ (l:OpenLaw) (args:List WData):l.row.toRowW.claim.post args (.bool true) args=true :=
  postW_of (r:=l.row.toRowW) (X:=(true == true))
    (show WShape.has [] (.bool true) .bool=true by first | rfl | decide | simp [WShape.has,WShape.arms,WShape.armsAll])
    (show (WTm.eq .res (.lit (.bool true))).value [] { args:=args,res:=some (.bool true),after:=args }=some (.bool (true == true)) from w_eq_bool (w_res rfl) w_lit) rfl
theorem attach_call {l:OpenLaw} {n:Nat} {q:Program} {loose:List Str} {XP:(Str→Option Value)→Heap→Prop} {YP:World→Heap→Prop} {d:DefRec}
    (hn:l.most=some n) (hdf:d.params.defaults=[])
    (call:∀ (w:World) (s₀ s₁:Shared) (mg mb:Str→Option Value) (fa:Addr) (o:Obj) (pm cd doc:Value) (a:Addr) (vs:List Value) (ns:List Int),
      Ground q loose [] XP w s₀ mg mb s₁.heap→YP w s₁.heap →
      s₁.heap.get? fa=some o→o.data=.func (docDef d.name d.params d.body d.scope pm cd doc)→s₁.heap.CodeRec cd d.name→mg d.name=some (.ref fa) →
      s₁.heap.get? a=some { cls:=.type "list",data:=.seq vs.toArray }→IntsAre vs ns→ns.length≤n→s₁.gens=#[] →
      codeAny (model l.prog w) callerA (.call (.ref fa) ⟨[.ref a],[]⟩) (fun r s'=>r=.ok (.ret (.bool true))∧OldK s₁.heap s'.heap∧s'.os=s₁.os∧AllBare s'.gens) s₁) :
    WalkO q loose XP YP l.row.toRowW d [] (fun f vs=>PySem.call f vs):=by
  intro w s₀ s₁ mg mb G Y fa o pm cd doc dV kV ho hd hcd hD hmg hg args vals as hpre hlay hrd hwl hlo
  obtain rfl:dV=.none:=Dflts.none hD hdf
  obtain rfl:kV=.none:=Dflts.noKw hD
  obtain ⟨a,vs,ns,rfl,rfl,hobj,hints,hlen⟩:=ZkP hn hpre hwl
  refine enter_call (codeAny_mono (call w s₀ s₁ mg mb fa o pm cd doc a vs ns G Y ho (fd_plain hd) hcd hmg hobj hints hlen hg) fun r s' hq=>?_)
  obtain ⟨rfl,h2,h3,h4⟩:=hq
  exact ⟨.inl ⟨.bool true,.bool true,[],rfl,fun _=>rfl,.bool true,ZkQ l _,fun _=>⟨List.Pairwise.nil,fun _ hm=>(nomatch hm)⟩⟩,h2,h3,h4⟩
end Att
namespace L2
open PySem PySem.Spec PyProof.Rows
theorem Zhl:∀ {vs:List Value} {ns:List Int},IntsAre vs ns→Vals (ns.map V.int) vs
  | _,_,.nil=>.nil
  | _,_,.cons n t h=>.cons ⟨t,rfl⟩ (Zhl h)
end L2
namespace L2
open PySem PySem.Spec PyProof.Rows
end L2
namespace L2
open PySem PySem.Spec PyProof.Rows
def Zx (s:Stmt) (j:Nat):Stmt:=match s with
  | .ClassDef _ _ _ body _ _ _ _ _ _ _=>body.getD j (.Pass ⟨0,0,0,0⟩)
  | _=>.Pass ⟨0,0,0,0⟩
def Zm (s:Stmt):Arguments:=match s with
  | .FunctionDef _ a _ _ _ _ _ _ _ _=>a
  | _=>{ posonlyargs:=[],args:=[],vararg:=none,kwonlyargs:=[],kw_defaults:=[],kwarg:=none,defaults:=[] }
def Zl (s:Stmt):List Stmt:=match s with
  | .FunctionDef _ _ b _ _ _ _ _ _ _=>b
  | _=>[]
def Zc (s:Stmt):Scope:=match s with
  | .FunctionDef _ _ _ _ _ _ sc _ _ _=>sc
  | _=>{ kind:=.function,names:=[],isGenerator:=false,isCoroutine:=false }
abbrev CX0:CXT:=fun _ _ _ _ _ _=>False
abbrev E0:XK:=fun _ _ _=>False
theorem pass0 {X:Cx}:ZeJ CX0 X E0:=fun _ _ _ _ _ _ _ h=>h.elim
structure Fun (K:PySem.W.Frag) (x qual:Str) (st:Stmt) (f:Addr) (fd:FuncData):Prop where
  ex:∃ (oc:Value) (od:Option Addr) (kV doc pm:Value) (an:Option Addr) (cdv ct:Value) (osl:Array (Option Value)),
    fd=PySem.W.fnOf x qual (Zm st) (Zl st) (Zc st) .none kV doc pm an cdv ct∧K.lookup f=some ⟨oc,od,.func fd,osl⟩∧PySem.W.codeIn K cdv qual=true
  kp:PySem.W.keepIn K (.ref f)=true
section
variable {P:Program} {w:World} {K:PySem.W.Frag} {mg:Str→Option Value} {base:Heap}
theorem Fun.ok {x qual:Str} {st:Stmt} {f:Addr} {fd:FuncData} {N ps:List Str} {k:Nat} {sp:Sp} (F:Fun K x qual st f fd) (S:FnScope N ps (Zc st)) (len:∀ vs H Q E,sp vs H Q E→vs.length=ps.length)
    (hbody:∀ (cdv:Value) (A:Around) (outer:List Env) (s:Shared) (H:Hp) (vs:List V) (Q:VK) (E:XK),Room k (A.deeper (envOfC qual (Zc st) s.heap.objs.size f cdv))→sp vs H Q E →
      ∃ t,PSs (cxOf CX0 P w K mg base N qual (Zc st) f cdv A outer s H E).nox (Zl st) t∧t { nx:=fun _ H'=>Q .non H',rt:=Q } (start N vs) H):FnOk P w K mg base CX0 (k+1) f fd ps sp:=by
  obtain ⟨oc,od,kV,doc,pm,an,cdv,ct,osl,rfl,lk,hcd⟩:=F.ex
  refine fn_of lk hcd S len fun A outer s H vs Q E hr hsp=>?_
  obtain ⟨t,h,q⟩:=hbody cdv A outer s H vs Q E hr hsp
  exact ⟨t,h.nox,q⟩
theorem Fun.binds {x qual:Str} {st:Stmt} {f:Addr} {fd:FuncData} {ps:List Str} (F:Fun K x qual st f fd)
    (h:∀ (kV doc pm:Value) (an:Option Addr) (cdv ct:Value) (us:List Value),us.length=ps.length→bindArgs (PySem.W.fnOf x qual (Zm st) (Zl st) (Zc st) .none kV doc pm an cdv ct) ⟨us,[]⟩=pure (ps.zip us)):Binds K fd ps []:=by
  obtain ⟨oc,od,kV,doc,pm,an,cdv,ct,osl,rfl,lk,hcd⟩:=F.ex
  exact .all (h kV doc pm an cdv ct)
theorem Zs {x qual:Str} {st:Stmt} {f:Addr} {oc:Value} {od an:Option Addr} {osl:Array (Option Value)} {kV doc pm cdv ct:Value} (l:K.lookup f=some ⟨oc,od,.func (PySem.W.fnOf x qual (Zm st) (Zl st) (Zc st) .none kV doc pm an cdv ct),osl⟩)
    (c:PySem.W.codeIn K cdv qual=true) (k:PySem.W.keepIn K (.ref f)=true):Fun K x qual st f (PySem.W.fnOf x qual (Zm st) (Zl st) (Zc st) .none kV doc pm an cdv ct):=⟨⟨oc,od,kV,doc,pm,an,cdv,ct,osl,rfl,l,c⟩,k⟩
end
theorem hu_of {A:Around} {k:Nat} (hr:Room k A):A.units+1<cLine:=Nat.lt_of_le_of_lt (Nat.add_le_add_left (by decide:1≤64) _) hr.units
theorem Zv {n:Nat} (h:n≤1000):n<sizeLine:=Nat.lt_of_le_of_lt h (by decide)
section
variable {X:Cx}
theorem pv (i:Nat) {x:Str} {pos:Pos} (hN:X.N[i]?=some x:=by rfl) (hv:Vis X.env.scope x:=by first | exact Or.inl rfl | exact Or.inr (Or.inl rfl) | exact Or.inr (Or.inr rfl)) (hd:(x == ("__debug__" : Str))=false:=by decide)
    (hcd:(x == ("__classdict__" : Str))=false:=by decide):PE X (.Name x pos) (tVar i):=Zot hN hv hd hcd
end
def Same (H H':Hp):Prop:=∀ b o,H b=some o→H' b=some o
theorem Same.refl (H:Hp):Same H H:=fun _ _ h=>h
theorem Same.trans {H H1 H2:Hp} (a:Same H H1) (b:Same H1 H2):Same H H2:=fun c o h=>b c o (a c o h)
theorem Same.free {H H':Hp} (e:Same H H') {l:Addr} (h:H' l=Option.none):H l=Option.none:=by
  cases q:H l with
  | none=>rfl
  | some o =>
    rw [e l o q] at h
    cases h
theorem Same.seq {K:PySem.W.Frag} {H H':Hp} {a:Addr} {xs:List V} (e:Same H H') (h:SqL K H a xs):SqL K H' a xs:=by
  rcases h with (h | ⟨o,h⟩) | h
  · exact .inl (.inl (e _ _ h))
  · exact .inl (.inr ⟨o,e _ _ h⟩)
  · exact .inr h
end L2
set_option Elab.async false
set_option linter.all false
set_option maxRecDepth 100000
set_option maxHeartbeats 4000000
namespace L2
open PySem PySem.Spec PyProof.Rows
def cxIn (X:Cx) (N:List Str) (scope:Scope) (cl:List (Str×Addr)) (C:Addr) (s0:Shared) (H0:Hp) (fp:List Addr) (pins:List (Addr×Obj)):Cx :=
  { X with N:=N,s₀:=s0,H₀:=H0,env:=compEnvC scope cl C X.env,outer:=X.stack,stack:=X.stack,ex:=fp,fn:=fun x=>scope.names.lookup x == some .cell,pn:=X.pn++pins,xe:=fun _ _=>False }
theorem Zcc {env:Env}:∀ (names:List (Str×NameKind)) (acc:List (Str×Addr)),(∀ p∈names,p.2=.free→∃ c,env.cells.lookup p.1=some c)→(∀ x c,acc.lookup x=some c→env.cells.lookup x=some c) →
    ∃ cl,(forIn names acc fun (x:Str×NameKind) cs=>(match x with | (name,kind)=>if (kind == NameKind.free)=true then do let a ← cellOf env name; pure (ForInStep.yield ((name,a) :: cs)) else pure (ForInStep.yield cs):Sem (ForInStep (List (Str×Addr)))))=(pure cl:Sem (List (Str×Addr))) ∧
      (∀ x c,cl.lookup x=some c→env.cells.lookup x=some c)∧(∀ x c,acc.lookup x=some c→cl.lookup x=some c)∧∀ p∈names,p.2=.free→∃ c,cl.lookup p.1=some c
  | [],acc,_,h=>⟨acc,rfl,h,fun _ _ e=>e,fun _ z=>nomatch z⟩
  | (n,k) :: r,acc,h,ha=>by
    by_cases hk:k=.free
    · subst hk
      obtain ⟨c,hc⟩:=h (n,.free) List.mem_cons_self rfl
      have ha':∀ x d,((n,c) :: acc).lookup x=some d→env.cells.lookup x=some d:=fun x d e=>by
        rw [List.lookup_cons] at e
        cases q:x == n with
        | true =>
          rw [q] at e
          have hxn:x=n:=by simpa using q
          subst hxn
          cases e
          exact hc
        | false =>
          rw [q] at e
          exact ha x d e
      obtain ⟨cl,e1,e2,e3,e4⟩:=Zcc r ((n,c) :: acc) (fun p hp=>h p (List.mem_cons_of_mem _ hp)) ha'
      have top:∃ d,cl.lookup n=some d:=⟨c,e3 n c (by rw [List.lookup_cons]; simp)⟩
      refine ⟨cl,?_,e2,fun x d e=>?_,fun p hp hf=>?_⟩
      · rw [List.forIn_cons]
        simp only [cellOf,hc,beq_self_eq_true,if_true]
        exact e1
      · cases q:x == n with
        | true =>
          have hxn:x=n:=by simpa using q
          subst hxn
          have z:=ha x d e
          rw [hc] at z; cases z
          exact e3 x c (by rw [List.lookup_cons]; simp)
        | false=>exact e3 x d (by rw [List.lookup_cons,q]; exact e)
      · rcases List.mem_cons.mp hp with rfl | hp
        · exact top
        · exact e4 p hp hf
    · obtain ⟨cl,e1,e2,e3,e4⟩:=Zcc r acc (fun p hp=>h p (List.mem_cons_of_mem _ hp)) ha
      have hb:(k == NameKind.free)=false:=by simpa using hk
      refine ⟨cl,?_,e2,e3,fun p hp hf=>?_⟩
      · rw [List.forIn_cons]
        simp only [hb,Bool.false_eq_true,if_false]
        exact e1
      · rcases List.mem_cons.mp hp with rfl | hp
        · exact absurd hf hk
        · exact e4 p hp hf
theorem ZeL {α:Type} (f:Str→α→α) (x:Str):∀ l:List (Str×α),(l.map fun p=>(p.1,f p.1 p.2)).lookup x=(l.lookup x).map (f x)
  | []=>rfl
  | (n,k) :: r=>by
    have ih:=ZeL f x r
    rw [List.map_cons,List.lookup_cons,List.lookup_cons]
    cases q:x == n with
    | true =>
      have e:x=n:=by simpa using q
      subst e
      rfl
    | false=>exact ih
def ZeM (env:Env) (n:Str) (k:NameKind):NameKind:=if (k == NameKind.free && env.scope.kind == .function && env.kindOf n == some .cell)=true then .cell else k
theorem ZdY (scope:Scope) (env:Env) (x:Str):(relabel scope env).names.lookup x=(scope.names.lookup x).map (ZeM env x):=by
  rw [← ZeL (ZeM env) x scope.names]
  show (scope.names.map _).lookup x=_
  congr 1
  refine List.map_congr_left fun p _=>?_
  show (if _ then _ else _)=_
  unfold ZeM
  split <;> rfl
theorem ZdZ (env:Env) (n:Str) (k:NameKind):ZeM env n k=k∨(k=.free∧ZeM env n k=.cell):=by
  unfold ZeM
  by_cases h:(k == NameKind.free && env.scope.kind == .function && env.kindOf n == some .cell)=true
  · refine .inr ⟨?_,if_pos h⟩
    rw [Bool.and_eq_true,Bool.and_eq_true] at h
    exact beq_iff_eq.mp h.1.1
  · exact .inl (if_neg h)
theorem ZcZ {scope:Scope} {env:Env} {x:Str} {k:NameKind} (h:scope.names.lookup x=some k) :
    (relabel scope env).names.lookup x=some k∨(k=.free∧(relabel scope env).names.lookup x=some .cell):=by
  rw [ZdY,h]
  rcases ZdZ env x k with q | ⟨q,q'⟩
  · exact .inl (congrArg some q)
  · exact .inr ⟨q,congrArg some q'⟩
theorem Zhm {scope:Scope} {env:Env} {x:Str} {k:NameKind} (h:(relabel scope env).names.lookup x=some k):∃ k',scope.names.lookup x=some k'∧(k'=k∨k'=.free):=by
  rw [ZdY] at h
  cases q:scope.names.lookup x with
  | none=>rw [q] at h; cases h
  | some k' =>
    rw [q] at h
    have h':ZeM env x k'=k:=Option.some.inj h
    rcases ZdZ env x k' with z | ⟨z,_⟩
    · exact ⟨k',rfl,.inl (z.symm.trans h')⟩
    · exact ⟨k',rfl,.inr z⟩
theorem ZaG {α:Type} {x:Str}:∀ {l:List (Str×α)} {k:α},l.lookup x=some k→(x,k)∈l
  | [],_,h=>by simp at h
  | (n,k) :: r,k',h=>by
    rw [List.lookup_cons] at h
    cases hx:x == n with
    | true =>
      rw [hx] at h; cases h
      have:x=n:=by simpa using hx
      subst this
      exact List.mem_cons_self
    | false =>
      rw [hx] at h
      exact List.mem_cons_of_mem _ (ZaG h)
theorem ZkR {prog:Program} {w:World} {A:Around} {s:Shared} {elt target iter:PySem.Expr} {ifs:List PySem.Expr} {scope:Scope} {pos:Pos} {it acc:Value} {env:Env} {R:Result→Shared→Prop} (I:Nat→Shared→Prop)
    (turn:∀ n s,I n s→wpAny (model prog w) A (pyNext it) (fun r s1=>match r with
      | none=>R (.ok .next) s1
      | some v=>wpAny (model prog w) A (letOwnedTupleGo target it v) (fun _ s0=>wpAny (model prog w) A (assign target env v) (fun _ s2 =>
          wpAny (model prog w) A (forIn ifs true fun c r=>if r=true then do let ok ← isTrue c env (eval c env); pure (ForInStep.yield ok) else pure (ForInStep.yield r)) (fun ok s3 =>
            if ok=true then wpAny (model prog w) A (eval elt env) (fun x s4 =>
              wpAny (model prog w) A (call (.builtin "list.append") [acc,x]) (fun _ s5=>∃ m,m<n∧I m s5) (fun _ _=>False) s4) (fun _ _=>False) s3
            else ∃ m,m<n∧I m s3) (fun _ _=>False) s2) (fun _ _=>False) s0) (fun _ _=>False) s1) (fun _ _=>False) s)
    (n:Nat) (h:I n s):codeAny (model prog w) A (.compLoop (.ListComp elt [⟨target,iter,ifs,0⟩] scope pos) 0 it acc env) R s:=by
  have body:∀ n s,I n s→wpAny (model prog w) A (compTurn (.ListComp elt [⟨target,iter,ifs,0⟩] scope pos) 0 it acc env)
      (fun fin s'=>match fin with | .done f=>R (.ok f) s' | .again c=>c=.compLoop (.ListComp elt [⟨target,iter,ifs,0⟩] scope pos) 0 it acc env∧∃ m,m<n∧I m s') (fun _ _=>False) s:=fun n s hI=>by
    rw [compTurn_list]
    refine wpAny_bind (wpAny_standAt (wpAny_bind (thn (turn n s hI) fun r s1 h1=>?_)))
    cases r with
    | none=>exact wpAny_pure h1
    | some v =>
      refine wpAny_bind (thn h1 fun _ s0 h0=>wpAny_bind (thn h0 fun _ s2 h2=>wpAny_bind (thn h2 fun ok s3 h3=>?_)))
      cases ok with
      | true=>exact wpAny_bind (wpAny_bind (thn h3 fun x s4 h4=>wpAny_bind (thn h4 fun _ s5 h5=>wpAny_pure (wpAny_pure ⟨rfl,h5⟩))))
      | false=>exact wpAny_pure ⟨rfl,h3⟩
  exact codeAny_loop rfl I (fun n s hI=>wpAny_noted (wpAny_mono (body n s hI) (fun _ _ q=>q) fun _ _ q=>q.elim)) n h
def tComp (own:Nat) (js:List Nat) (wi:TI) (g:TG) (tc:TT) (te:TE):TE:=fun σ H Q=>wi σ H fun J H1=>∀ l,H1 l=none →
  ∃ W:Nat→Nat→List V→St→Hp→Prop,(∃ m,W 0 m [] (List.replicate own none++js.map fun j=>(σ[j]?).join) (upd H1 l (.lst [])))∧∀ i m ys σ' H',W i m ys σ' H' →
    (J.stop i H'∧Q (.ref l) H')∨(J.go i H'∧∀ x H2,J.yld i H' x H2→g x σ' H2 fun σ2 H3=>tc σ2 H3 fun b H4 =>
      if b=true then te σ2 H4 fun y H5=>H5 l=some (.lst ys)∧ys.length<sizeLine∧∃ m',m'<m∧W (i+1) m' (ys++[y]) σ2 (upd H5 l (.lst (ys++[y])))
      else ∃ m',m'<m∧W (i+1) m' ys σ2 H4)
def tTrue:TT:=fun _ H Q=>Q true H
structure CompOk (X:Cx) (scope:Scope) (N:List Str) (own:Nat) (js:List Nat):Prop where
  kind:scope.kind=.function
  cell:∀ y∈scope.names,y.2=.cell→scope.names.lookup y.1=some .cell
  names:∀ y∈scope.names,y.2=.local→scope.names.lookup y.1=some .local
  free:∀ y∈scope.names,y.2=.free→X.env.kindOf y.1=some .cell∨X.env.kindOf y.1=some .free
  len:N.length=own+js.length
  js:∀ k j,js[k]?=some j→N[own+k]?=X.N[j]?
  jf:∀ k x,N[own+k]?=some x→scope.names.lookup x=some .free
theorem Un.but {fs ex:List Addr} {H H':Hp} {h h1 h2:Heap} {C:Addr} (u:Un fs ex H H' h h1) (hc:h.objs.size≤C) (sb:∀ b o,b≠C→h1.get? b=some o→h2.get? b=some o):Un fs ex H H' h h2:=by
  have ne:∀ b o,h.get? b=some o→b≠C:=fun b o e=>Nat.ne_of_lt (Nat.lt_of_lt_of_le (Heap.lt_size e) hc)
  refine ⟨fun b o q n hb hx=>sb b o (ne b o q) (u.keep b o q n hb hx),fun b o q n hb hx=>?_,u.free,fun b o q hx=>?_,u.tups,u.frzs,u.tbls⟩
  · obtain ⟨sl,e⟩:=u.slot b o q n hb hx
    exact ⟨sl,sb b _ (ne b o q) e⟩
  · obtain ⟨o',e⟩:=u.there b o q hx
    exact ⟨o',sb b o' (ne b o q) e⟩
theorem ZeN:∀ (names:List (Str×NameKind)) (n:Nat) (acc:List (Str×Addr)),cellsFrom n names acc=cellsFrom n names []++acc
  | [],_,_=>rfl
  | (x,k) :: r,n,acc=>by
    unfold cellsFrom
    by_cases hk:(k == NameKind.cell)=true
    · rw [if_pos hk,if_pos hk,ZeN r (n+1) ((x,n) :: acc),ZeN r (n+1) [(x,n)],List.append_assoc]
      rfl
    · rw [if_neg hk,if_neg hk]
      exact ZeN r n acc
theorem Zik:∀ (names:List (Str×NameKind)) (n:Nat) (x:Str) (c:Addr),(x,c)∈cellsFrom n names []→(x,NameKind.cell)∈names
  | [],_,_,_,h=>nomatch h
  | (y,k) :: r,n,x,c,h=>by
    unfold cellsFrom at h
    by_cases hk:(k == NameKind.cell)=true
    · rw [if_pos hk,ZeN] at h
      rcases List.mem_append.mp h with q | q
      · exact List.mem_cons_of_mem _ (Zik r _ x c q)
      · have e:(x,c)=(y,n):=by simpa using q
        cases e
        have hk':k=.cell:=by simpa using hk
        subst hk'
        exact List.mem_cons_self
    · rw [if_neg hk] at h
      exact List.mem_cons_of_mem _ (Zik r _ x c h)
theorem Zdm {α:Type}:∀ {l:List (Str×α)} {x:Str} {c:α},(x,c)∈l→∃ d,l.lookup x=some d
  | (y,v) :: r,x,c,h=>by
    rw [List.lookup_cons]
    cases q:x == y with
    | true=>exact ⟨v,rfl⟩
    | false =>
      rcases List.mem_cons.mp h with e | e
      · cases e; simp at q
      · exact Zdm e
theorem ZkS:∀ (names:List (Str×NameKind)) (n:Nat) (x:Str),(x,NameKind.cell)∈names→∃ c,(x,c)∈cellsFrom n names []
  | [],_,_,h=>nomatch h
  | (y,k) :: r,n,x,h=>by
    unfold cellsFrom
    rcases List.mem_cons.mp h with e | e
    · cases e
      rw [if_pos (show (NameKind.cell == NameKind.cell)=true from rfl),ZeN]
      exact ⟨n,List.mem_append_right _ (by simp)⟩
    · by_cases hk:(k == NameKind.cell)=true
      · rw [if_pos hk,ZeN]
        obtain ⟨c,q⟩:=ZkS r (n+1) x e
        exact ⟨c,List.mem_append_left _ q⟩
      · rw [if_neg hk]
        exact ZkS r n x e
theorem ZfL {α:Type}:∀ (l m:List (Str×α)) (x:Str),(l++m).lookup x=match l.lookup x with | some c=>some c | none=>m.lookup x
  | [],m,x=>rfl
  | (y,v) :: r,m,x=>by
    rw [List.cons_append,List.lookup_cons,List.lookup_cons]
    cases x == y with
    | true=>rfl
    | false=>exact ZfL r m x
theorem Zhn {M:Model} {A:Around} {E:Value→Shared→Prop} {s:Shared} {scope:Scope} {globals:Addr} {cl:List (Str×Addr)} {qual:Str} {env:Env} {Q:Env→Shared→Prop}
    (h:Q (newEnv scope s.heap.objs.size globals (cellsFrom (s.heap.objs.size+1) scope.names cl) qual none .none (some env) builtinsNs) { s with heap:=pushCells (s.heap.push { cls:=.type "dict",data:=.dict #[] }) scope.names }) :
    wpAny M A (newFunctionEnv scope globals cl [] qual none .none (some env)) Q E s:=by
  simp only [newFunctionEnv,Option.isSome_some,if_true]
  refine wpAny_bind (wpAny_alloc (wpAny_bind (wpAny_layCells _ (fun name kind cells=>by cases hkc:kind == NameKind.cell <;> simp [hkc]) _ _ _ _ ?_)))
  rw [show ({ s with heap:=s.heap.push { cls:=.type "dict",data:=.dict #[] } }:Shared).heap.objs.size=s.heap.objs.size+1 from Heap.size_push ..]
  rw [List.forIn_nil]
  exact wpAny_bind (wpAny_pure (wpAny_pure h))
structure CellsIn (X:Cx) (scope:Scope) (cl':List (Str×Addr)) (n:Nat) (h':Heap):Prop where
  k1:∀ x c,cl'.lookup x=some c→X.env.cells.lookup x=some c∨(n<c∧h'.IsCell c none∧(x,NameKind.cell)∈scope.names)
  k2:∀ x,scope.names.lookup x=some .free→∃ c,cl'.lookup x=some c∧X.env.cells.lookup x=some c
  k3:∀ p∈scope.names,p.2=.cell∨p.2=.free→∃ c,cl'.lookup p.1=some c
  k4:∀ x y c,cl'.lookup x=some c→cl'.lookup y=some c→x=y
  k5:∀ x c,scope.names.lookup x=some .cell→cl'.lookup x=some c→n<c
section
variable {X:Cx} {scope:Scope} {N:List Str} {own:Nat} {js:List Nat}
theorem ZjW {cl:List (Str×Addr)} {n:Nat} {h0:Heap} (c:CompOk X scope N own js) (cl1:∀ x c,cl.lookup x=some c→X.env.cells.lookup x=some c) (cl2:∀ p∈scope.names,p.2=.free→∃ c,cl.lookup p.1=some c)
    (inj:∀ x y c,X.env.cells.lookup x=some c→X.env.cells.lookup y=some c→x=y) (lt:∀ x c,X.env.cells.lookup x=some c→c<n) (hn:h0.objs.size=n+1):CellsIn X scope (cellsFrom (n+1) scope.names cl) n (pushCells h0 scope.names):=by
  have ok:=cellsFrom_ok scope.names h0 (n+1) [] ⟨fun _ _ hm=>(nomatch hm),List.Pairwise.nil⟩ (by rw [hn]; exact Nat.le_refl _)
  rw [hn] at ok
  have two:∀ x,(cellsFrom (n+1) scope.names cl).lookup x=match (cellsFrom (n+1) scope.names []).lookup x with | some c=>some c | none=>cl.lookup x:=fun x=>by
    rw [ZeN,ZfL]
    cases (cellsFrom (n+1) scope.names []).lookup x <;> rfl
  have own':∀ x d,(cellsFrom (n+1) scope.names []).lookup x=some d→(pushCells h0 scope.names).IsCell d none∧n<d∧(x,NameKind.cell)∈scope.names:=fun x d e =>
    ⟨(ok.empty x d (mem_of_lookup e)).1,(ok.empty x d (mem_of_lookup e)).2,Zik _ _ x d (mem_of_lookup e)⟩
  have part:∀ x d,(cellsFrom (n+1) scope.names cl).lookup x=some d→(cellsFrom (n+1) scope.names []).lookup x=some d∨((cellsFrom (n+1) scope.names []).lookup x=none∧cl.lookup x=some d):=fun x d e=>by
    rw [two] at e
    cases q:(cellsFrom (n+1) scope.names []).lookup x with
    | some d'=>rw [q] at e; exact .inl e
    | none=>rw [q] at e; exact .inr ⟨rfl,e⟩
  have has:∀ x,(x,NameKind.cell)∈scope.names→∃ d,(cellsFrom (n+1) scope.names []).lookup x=some d:=fun x m=>by
    obtain ⟨d,q⟩:=ZkS scope.names (n+1) x m
    exact Zdm q
  refine ⟨fun x d e=>?_,fun x e=>?_,fun p hp hk=>?_,fun x y d e1 e2=>?_,fun x d e1 e2=>?_⟩
  · rcases part x d e with q | ⟨_,q⟩
    · exact .inr ⟨(own' x d q).2.1,(own' x d q).1,(own' x d q).2.2⟩
    · exact .inl (cl1 x d q)
  · obtain ⟨d,q⟩:=cl2 _ (ZaG e) rfl
    have no:(cellsFrom (n+1) scope.names []).lookup x=none:=by
      cases z:(cellsFrom (n+1) scope.names []).lookup x with
      | none=>rfl
      | some d' =>
        have y:=c.cell _ (own' x d' z).2.2 rfl
        rw [show scope.names.lookup x=_ from e] at y
        cases y
    exact ⟨d,by rw [two,no]; exact q,cl1 x d q⟩
  · rw [two]
    cases z:(cellsFrom (n+1) scope.names []).lookup p.1 with
    | some d'=>exact ⟨d',rfl⟩
    | none =>
      rcases hk with hk | hk
      · obtain ⟨d,q⟩:=has p.1 (by rw [← hk]; exact hp)
        rw [z] at q; cases q
      · exact cl2 p hp hk
  · rcases part x d e1 with q1 | ⟨_,q1⟩
    · rcases part y d e2 with q2 | ⟨_,q2⟩
      · exact name_of_addr ok.apart (mem_of_lookup q1) (mem_of_lookup q2)
      · exact absurd (Nat.lt_trans (own' x d q1).2.1 (lt y d (cl1 y d q2))) (Nat.lt_irrefl _)
    · rcases part y d e2 with q2 | ⟨_,q2⟩
      · exact absurd (Nat.lt_trans (own' y d q2).2.1 (lt x d (cl1 x d q1))) (Nat.lt_irrefl _)
      · exact inj x y d (cl1 x d q1) (cl1 y d q2)
  · obtain ⟨d',q⟩:=has x (ZaG e1)
    rw [two,q] at e2
    cases e2
    exact (own' x d q).2.1
theorem ZjX {pins:List (Addr×Obj)} {σ:St} {H:Hp} {s:Shared} {cl:List (Str×Addr)} {fp:List Addr} {h':Heap} {t':Nat} (c:CompOk X scope N own js) (I:Inv X pins σ H s) (hf:∀ b∈fp,FpOk X pins H b)
    (fo:∀ b∈fp,b<s.heap.objs.size)
    (ci:CellsIn X scope cl s.heap.objs.size h')
    (hn:h'.Ns s.heap.objs.size (fun _=>none)) (hk:∀ b o,s.heap.get? b=some o→h'.get? b=some o) :
    Inv (cxIn X N scope cl s.heap.objs.size s H fp pins) [] (List.replicate own none++js.map fun j=>(σ[j]?).join) H { s with heap:=h',toks:=t' }:=by
  have cne:∀ x c,cl.lookup x=some c→c≠s.heap.objs.size:=fun x c e=>by
    rcases ci.k1 x c e with q | ⟨q,_⟩
    · obtain ⟨v,q⟩:=I.cell x c q
      exact Nat.ne_of_lt q.lt
    · exact Nat.ne_of_gt q
  have ok:(cxIn X N scope cl s.heap.objs.size s H fp pins).Ok:=by
    refine ⟨I.ok.mod,c.kind,I.ok.glob,I.ok.blt,Nat.le_refl _,ci.k4,fun x hx=>?_,fun x d z e=>Nat.le_of_lt (ci.k5 x d (beq_iff_eq.mp (show (scope.names.lookup x == some .cell)=true from z)) e),I.ok.hd,I.ok.frames,.inl rfl,fun b hb=>⟨Nat.ne_of_lt (fo b hb),fun x d e=>(ci.k1 x d e).elim (fun q=>(hf b hb).2.2.2.2.1 x d q) fun q=>Nat.ne_of_gt (Nat.lt_trans (fo b hb) q.1)⟩,I.bs,
      Nat.le_trans I.ok.bsz I.sz,fun b o e hb=>?_,fun b hb z=>?_,I.stack,I.stkFree⟩
    · have back:∀ k,(relabel scope X.env).names.lookup x=some k→k=.cell∨k=.free→∃ k',(x,k')∈scope.names∧(k'=NameKind.cell∨k'=NameKind.free):=fun k e hk=>by
        obtain ⟨k',e',z⟩:=Zhm e
        refine ⟨k',ZaG e',?_⟩
        rcases z with z | z
        · subst z; exact hk
        · exact .inr z
      obtain ⟨k',m,hk'⟩:∃ k',(x,k')∈scope.names∧(k'=NameKind.cell∨k'=NameKind.free):=by
        rcases hx with hx | hx
        · exact back _ hx (.inl rfl)
        · exact back _ hx (.inr rfl)
      exact ci.k3 _ m hk'
    · rcases (hf b hb).2.2.2.1 with z | z
      · exact I.ok.noex b o e z
      · exact absurd (Nat.lt_of_lt_of_le (Nat.lt_of_lt_of_le (Heap.lt_size e) I.ok.bsz) z) (Nat.lt_irrefl _)
    · rcases List.mem_cons.mp (I.stkSub b z) with q | q
      · exact (hf b hb).2.1 q
      · exact (hf b hb).2.2.1 q
  refine ⟨ok,rfl,I.bare,Un.kept hk,⟨_,hn,fun i x v e1 e2 e3=>?_⟩,fun x d e=>?_,I.hok.fresh (Nat.le_refl _),fun x d e=>(ci.k1 x d e).elim (fun q=>I.freeC x d q) fun q=>I.hok.fresh (Nat.le_of_lt q.1),fun p hp=>?_,I.hok.kept hk,?_⟩
  · -- a name with a value is one that the block closes over
    have hi:own≤i:=by
      by_cases hi:i<own
      · rw [List.getElem?_append_left (by simpa using hi),List.getElem?_replicate] at e2
        split at e2 <;> cases e2
      · omega
    obtain ⟨k,rfl⟩:∃ k,i=own+k:=⟨i - own,by omega⟩
    rw [List.getElem?_append_right (by simp),List.length_replicate,Nat.add_sub_cancel_left,List.getElem?_map] at e2
    cases q:js[k]? with
    | none=>rw [q] at e2; cases e2
    | some j =>
      rw [q] at e2
      have e2':(σ[j]?).join=some v:=by simpa using e2
      have e4:σ[j]?=some (some v):=by
        cases z:σ[j]? with
        | none=>rw [z] at e2'; cases e2'
        | some o=>rw [z] at e2'; rw [show o=some v from e2']
      have e1':N[own+k]?=some x:=e1
      have hXN:X.N[j]?=some x:=(c.js k j q).symm.trans e1'
      have hfr:=c.jf k x e1'
      have hmem:=ZaG hfr
      have hk2:=c.free _ hmem rfl
      have vis:Vis X.env.scope x:=by
        rcases hk2 with z | z
        · exact .inr (.inl z)
        · exact .inr (.inr z)
      obtain ⟨m,_,hl⟩:=I.loc
      obtain ⟨u,r,l⟩:=hl j x v hXN e4 vis
      refine ⟨u,r,?_⟩
      rcases l with ⟨z,_⟩ | ⟨_,d,e,⟨od,ho,hd⟩⟩
      · rcases hk2 with y | y
        · rw [show X.env.kindOf x=_ from z] at y; cases y
        · rw [show X.env.kindOf x=_ from z] at y; cases y
      · obtain ⟨d',e',z'⟩:=ci.k2 x hfr
        have:d'=d:=by have z:=z'; rw [e] at z; exact (Option.some.inj z).symm
        subst this
        refine .inr ⟨?_,d',e',⟨od,hk _ _ ho,hd⟩⟩
        rcases ZcZ (scope:=scope) (env:=X.env) hfr with z | ⟨_,z⟩
        · exact .inr z
        · exact .inl z
  · rcases ci.k1 x d e with q | ⟨_,q,_⟩
    · obtain ⟨v,⟨o,ho,hd⟩⟩:=I.cell x d q
      exact ⟨v,o,hk _ _ ho,hd⟩
    · exact ⟨none,q⟩
  · have hp':p∈X.pn++pins:=by
      have z:p∈(X.pn++pins)++[]:=hp
      rwa [List.append_nil] at z
    obtain ⟨a1,a2,a3,a4,a5⟩:=I.pin p hp'
    refine ⟨hk _ _ a1,a2,Nat.ne_of_lt (Heap.lt_size a1),fun z=>?_,a5⟩
    rcases List.mem_cons.mp (I.stkSub p.1 z) with q | q
    · exact a3 q
    · exact a4 q
  · show _=N.length
    rw [c.len]; simp
theorem ZfM {pins:List (Addr×Obj)} {σ:St} {H:Hp} {s:Shared} {elt target iter:PySem.Expr} {ifs:List PySem.Expr} {pos:Pos} {it:Addr} {fp:List Addr} {tn:Nat→Heap→Prop} {J:It} {cl:List (Str×Addr)} {g:TG} {tc:TT} {te:TE} {E:Value→Shared→Prop} {Q:VK}
    {RR:Value→Addr→Result→Shared→Prop}
    (c:CompOk X scope N own js) (hc:X.calm=true) (I:Inv X pins σ H s) (T:Turn X.prog X.w X.K target J fp it tn) (st:tn 0 s.heap) (hf:∀ b∈fp,FpOk X pins H b)
    (cl1:∀ x c,cl.lookup x=some c→X.env.cells.lookup x=some c) (cl2:∀ p∈scope.names,p.2=.free→∃ c,cl.lookup p.1=some c)
    (hg:∀ cl C s0 H0 fp pins,PG (cxIn X N scope cl C s0 H0 fp pins) target g)
    (ht:∀ cl C s0 H0 fp pins pins' s σ H Q,Inv (cxIn X N scope cl C s0 H0 fp pins) pins' σ H s→tc σ H Q→wpAny (model X.prog X.w) X.A (forIn ifs true fun c r=>if r=true then do let ok ← isTrue c (compEnvC scope cl C X.env) (eval c (compEnvC scope cl C X.env)); pure (ForInStep.yield ok) else pure (ForInStep.yield r))
      (TP (cxIn X N scope cl C s0 H0 fp pins) pins' σ Q) (fun _ _=>False) s)
    (he:∀ cl C s0 H0 fp pins,PE (cxIn X N scope cl C s0 H0 fp pins) elt te)
    (h:∀ l,H l=none→∃ W:Nat→Nat→List V→St→Hp→Prop,(∃ m,W 0 m [] (List.replicate own none++js.map fun j=>(σ[j]?).join) (upd H l (.lst [])))∧∀ i m ys σ' H',W i m ys σ' H' →
      (J.stop i H'∧Q (.ref l) H')∨(J.go i H'∧∀ x H2,J.yld i H' x H2→g x σ' H2 fun σ2 H3=>tc σ2 H3 fun b H4 =>
        if b=true then te σ2 H4 fun y H5=>H5 l=some (.lst ys)∧ys.length<sizeLine∧∃ m',m'<m∧W (i+1) m' (ys++[y]) σ2 (upd H5 l (.lst (ys++[y])))
        else ∃ m',m'<m∧W (i+1) m' ys σ2 H4))
    (hRR:∀ l C H' s' m',s.heap.objs.size≤C→s'.heap.Ns C m'→H' C=none→C≠X.env.locals→C∉X.fs→(∀ h2,Heap.SameBut C s'.heap h2→Inv X pins σ H' { s' with heap:=h2 })→Q (.ref l) H'→RR (.ref l) C (.ok .next) s') :
    wpAny (model X.prog X.w) X.A (newList []) (fun acc s3=>wpAny (model X.prog X.w) X.A (newFunctionEnv scope X.env.globals cl [] X.env.qual none .none (some X.env)) (fun cenv s4 =>
      codeAny (model X.prog X.w) X.A (.compStart (.ListComp elt [⟨target,iter,ifs,0⟩] scope pos) 0 (.ref it) acc { cenv with scope:=relabel scope X.env }) (RR acc cenv.locals) s4) E s3) E s:=by
  have I2:Inv X pins σ (upd H s.heap.objs.size (.lst [])) { s with heap:=s.heap.push { cls:=.type "list",dict:=none,data:=.seq ([]:List Value).toArray },toks:=s.toks }:=I.lnew (ys:=[]) .nil (Nat.zero_le _)
  obtain ⟨W,⟨m0,w0⟩,turn⟩:=h s.heap.objs.size I.fresh
  refine wpAny_newObj_type (Zhn ?_)
  dsimp only
  generalize hS:({ s with heap:=s.heap.push { cls:=.type "list",dict:=none,data:=.seq ([]:List Value).toArray },toks:=s.toks }:Shared)=s2 at I2
  have e2:s2.heap=s.heap.push { cls:=.type "list",dict:=none,data:=.seq ([]:List Value).toArray }:=by rw [← hS]
  have sz2:s2.heap.objs.size=s.heap.objs.size+1:=by rw [e2,Heap.size_push]
  rw [← e2]
  have ci:=ZjW (h0:=s2.heap.push { cls:=.type "dict",data:=.dict #[] }) (n:=s2.heap.objs.size) c cl1 cl2 I2.ok.inj (fun x d e=>by obtain ⟨v,q⟩:=I2.cell x d e; exact q.lt) (Heap.size_push ..)
  have hns1':(pushCells (s2.heap.push { cls:=.type "dict",data:=.dict #[] }) scope.names).Ns s2.heap.objs.size (fun _=>none):=(Heap.Ns.new s2.heap (.type "dict")).keeps (pushCells_keeps _ _)
  have old:∀ b o,s2.heap.get? b=some o→(pushCells (s2.heap.push { cls:=.type "dict",data:=.dict #[] }) scope.names).get? b=some o:=fun b o e=>pushCells_keeps _ _ b o (Heap.get?_push_of_some _ e)
  generalize pushCells (s2.heap.push { cls:=.type "dict",data:=.dict #[] }) scope.names=h1 at ci hns1' old ⊢
  generalize hcl:cellsFrom (s2.heap.objs.size+1) scope.names cl=cl' at ci ⊢
  have lt1:∀ b,b∈fp→b<s.heap.objs.size:=fun b hb=>by
    obtain ⟨o,e,_⟩:=T.obj 0 _ st b hb
    exact Heap.lt_size e
  have hf2:∀ b∈fp,FpOk X pins (upd H s.heap.objs.size (.lst [])) b:=fun b hb=>⟨by rw [Zb (Nat.ne_of_lt (lt1 b hb))]; exact (hf b hb).1,(hf b hb).2⟩
  have lt2:∀ b∈fp,b<s2.heap.objs.size:=fun b hb=>by rw [sz2]; exact Nat.lt_succ_of_lt (lt1 b hb)
  have st2:tn 0 s2.heap:=T.keep 0 _ _ st fun b _ o e=>by rw [e2]; exact Heap.get?_push_of_some _ e
  have I4:=ZjX (t':=s.toks) c I2 hf2 lt2 ci hns1' old
  have st4:tn 0 h1:=T.keep 0 _ _ st2 fun b _ o e=>old b o e
  have es:({ s2 with heap:=h1,toks:=s.toks }:Shared)={ s with heap:=h1,toks:=s.toks }:=by rw [← hS]
  rw [es] at I4
  generalize hs4:({ s with heap:=h1,toks:=s.toks }:Shared)=s4 at I4
  have st4':tn 0 s4.heap:=by rw [← hs4]; exact st4
  have loop:codeAny (model X.prog X.w) X.A (.compLoop (.ListComp elt [⟨target,iter,ifs,0⟩] scope pos) 0 (.ref it) (.ref s.heap.objs.size) (compEnvC scope cl' s2.heap.objs.size X.env)) (RR (.ref s.heap.objs.size) s2.heap.objs.size) s4:=by
    refine ZkR (fun n s'=>∃ i ys σ' H',Inv (cxIn X N scope cl' s2.heap.objs.size s2 (upd H s.heap.objs.size (.lst [])) fp pins) [] σ' H' s'∧tn i s'.heap∧(∀ b∈fp,H' b=none)∧W i n ys σ' H') ?_ m0
      ⟨0,[],_,_,I4,st4',fun b hb=>(hf2 b hb).1,w0⟩
    rintro n s5 ⟨i,ys,σ5,H5,I5,st5,fr5,w5⟩
    have stat:∀ {H':Hp} {s':Shared} {σ':St},Inv (cxIn X N scope cl' s2.heap.objs.size s2 (upd H s.heap.objs.size (.lst [])) fp pins) [] σ' H' s'→(∀ b∈fp,H' b=none)→∀ b∈fp,FpOk (cxIn X N scope cl' s2.heap.objs.size s2 (upd H s.heap.objs.size (.lst [])) fp pins) [] H' b:=fun J' hn b hb =>
      ⟨hn b hb,(J'.ok.exf b hb).1,J'.ok.exfs b hb,.inl hb,(J'.ok.exf b hb).2,fun p hp z=>by
        have hp':p∈X.pn++pins:=by
          have q:p∈(X.pn++pins)++[]:=hp
          rwa [List.append_nil] at q
        exact (hf b hb).2.2.2.2.2 p hp' z⟩
    rcases turn i n ys σ5 H5 w5 with ⟨stop,q⟩ | ⟨go,step⟩
    · refine wpAny_mono (T.done (cxIn X N scope cl' s2.heap.objs.size s2 (upd H s.heap.objs.size (.lst [])) fp pins) rfl rfl rfl hc i [] s5 σ5 H5 (fun _ _=>False) I5 (stat I5 fr5) st5 stop) (fun r s6 ⟨hr,I6⟩=>?_) fun _ _ z=>z
      subst hr
      obtain ⟨m',hn',_⟩:=I6.loc
      have hC:s.heap.objs.size≤s2.heap.objs.size:=by rw [sz2]; exact Nat.le_succ _
      refine hRR _ _ H5 s6 m' hC hn' I6.free ?_ ?_ (fun h2 sb=>?_) q
      · exact Nat.ne_of_gt I2.lt
      · exact I2.nofs (Nat.le_refl _)
      · have u:Un (frs X.stack) fp (upd H s.heap.objs.size (.lst [])) H5 s2.heap h2:=I6.base.but (Nat.le_refl _) sb.extBut
        have z6:H5 s2.heap.objs.size=none:=I6.free
        have hok:HOk X.prog X.w H5 h2:=fun b ob e=>(I6.hok b ob e).stay (fun d w' hd z=>sb.extBut d w' (by
          rintro rfl
          rcases hd with rfl | hd
          · rw [z6] at e; cases e
          · rw [z6] at hd; cases hd) z) (fun _ z=>z) fun _ _ z=>z
        have J:=I2.call' (s':={ s6 with heap:=h2 }) (ch:=fp) (by show s6.os=s2.os; exact I6.os) u hok I6.bare fun b hb=>⟨(hf b hb).2.2.2.1,(hf b hb).2.1,(hf b hb).2.2.2.2.1,(hf b hb).2.2.2.2.2⟩
        exact J
    · refine wpAny_mono (T.item (cxIn X N scope cl' s2.heap.objs.size s2 (upd H s.heap.objs.size (.lst [])) fp pins) rfl rfl rfl hc i [] s5 σ5 H5 (fun _ _=>False) I5 (stat I5 fr5) st5 go) (fun r s6 ⟨u,hr,h6⟩=>?_) fun _ _ z=>z
      subst hr
      refine wpAny_mono h6 (fun _ s7 ⟨x,H7,I7,r7,y7,st7,fr7⟩=>?_) fun _ _ z=>z
      have I7':=I7.pinned (stat I7 fr7) (T.obj _ _ st7)
      refine wpAny_mono (hg _ _ _ _ _ _ _ s7 σ5 H7 x u _ I7' r7 (step x H7 y7)) (fun _ s8 ⟨σ8,H8,I8,q8⟩=>?_) fun _ _ z=>z
      refine wpAny_mono (ht _ _ _ _ _ _ _ s8 σ8 H8 _ I8 q8) (fun b s9 ⟨H9,I9,q9⟩=>?_) fun _ _ z=>z
      have fin:∀ {s':Shared} {H':Hp} {m':Nat} {ys':List V},Inv (cxIn X N scope cl' s2.heap.objs.size s2 (upd H s.heap.objs.size (.lst [])) fp pins) ([]++ZgZ fp s7.heap) σ8 H' s'→m'<n→W (i+1) m' ys' σ8 H' →
          ∃ m,m<n∧∃ i ys σ' H',Inv (cxIn X N scope cl' s2.heap.objs.size s2 (upd H s.heap.objs.size (.lst [])) fp pins) [] σ' H' s'∧tn i s'.heap∧(∀ b∈fp,H' b=none)∧W i m ys σ' H':=fun {s' H' m' ys'} J' hm w'=>by
        refine ⟨m',hm,i+1,ys',σ8,H',J'.unpinned,T.keep _ _ _ st7 fun b hb o e=>(J'.pin (b,o) (List.mem_append_right _ (List.mem_append_right _ (ZcO hb e)))).1,fun b hb=>?_,w'⟩
        obtain ⟨o,e,d⟩:=T.obj _ _ st7 b hb
        exact (J'.pin (b,o) (List.mem_append_right _ (List.mem_append_right _ (ZcO hb e)))).2.1
      cases b with
      | false =>
        rw [if_neg Bool.false_ne_true] at q9 ⊢
        obtain ⟨m',hm,w'⟩:=q9
        exact fin I9 hm w'
      | true =>
        rw [if_pos rfl] at q9 ⊢
        refine wpAny_mono (he _ _ _ _ _ _ _ s9 σ8 H9 _ I9 q9) (fun y s10 ⟨z,H10,I10,r10,el,ez,m',hm,w'⟩=>?_) fun _ _ z=>z
        refine wpAny_mono (ZbC (X:=cxIn X N scope cl' s2.heap.objs.size s2 (upd H s.heap.objs.size (.lst [])) fp pins) _ s10 σ8 H10 (.ref s.heap.objs.size) [z] _ [y] (fun _ H'=>H'=upd H10 s.heap.objs.size (.lst (ys++[z]))) I10 rfl (.cons r10 .nil) ⟨_,_,_,rfl,rfl,el,ez,rfl⟩) (fun _ s11 ⟨_,H11,I11,_,e11⟩=>?_) fun _ _ z=>z
        subst e11
        exact fin I11 hm w'
  have fin:codeAny (model X.prog X.w) X.A (.compStart (.ListComp elt [⟨target,iter,ifs,0⟩] scope pos) 0 (.ref it) (.ref s.heap.objs.size) (compEnvC scope cl' s2.heap.objs.size X.env)) (RR (.ref s.heap.objs.size) s2.heap.objs.size) s4 :=
    codeAny_compStart_list loop (T.self X.A 0 s4 _ _ st4' loop)
  exact fin
theorem Zjf {elt target iter:PySem.Expr} {ifs:List PySem.Expr} {pos:Pos} {wi:TI} {g:TG} {tc:TT} {te:TE} (c:CompOk X scope N own js) (hc:X.calm=true) (hi:PI X target iter wi)
    (hg:∀ cl C s0 H0 fp pins,PG (cxIn X N scope cl C s0 H0 fp pins) target g)
    (ht:∀ cl C s0 H0 fp pins pins' s σ H Q,Inv (cxIn X N scope cl C s0 H0 fp pins) pins' σ H s→tc σ H Q→wpAny (model X.prog X.w) X.A (forIn ifs true fun c r=>if r=true then do let ok ← isTrue c (compEnvC scope cl C X.env) (eval c (compEnvC scope cl C X.env)); pure (ForInStep.yield ok) else pure (ForInStep.yield r))
      (TP (cxIn X N scope cl C s0 H0 fp pins) pins' σ Q) (fun _ _=>False) s)
    (he:∀ cl C s0 H0 fp pins,PE (cxIn X N scope cl C s0 H0 fp pins) elt te)
    (hs:∀ x,foldedSetIterable iter X.env x=pure x:=by intro _; rfl):PE X (.ListComp elt [⟨target,iter,ifs,0⟩] scope pos) (tComp own js wi g tc te):=by
  intro pins s σ H Q I h
  obtain ⟨cl,e1,cl1,_,cl2⟩:=Zcc (env:=X.env) scope.names [] (fun p hp hf=>I.ok.has _ (c.free p hp hf)) (fun x d e=>by simp at e)
  have hclos:closureFor scope X.env=pure cl:=by
    unfold closureFor
    refine (congrArg (fun z=>z >>= fun cs=>pure cs) e1).trans ?_
    rfl
  rw [eval_ListComp]
  refine wpAny_comprehension_free (use:=none) rfl hs hclos c.kind c.names (wpAny_mono (hi pins s σ H _ I h) (fun x s1 h1=>wpAny_mono h1 (fun itv s2 h2=>?_) fun _ _ e=>e) fun _ _ e=>e)
  obtain ⟨it,fp,tn,J,H2,e,I2,T,st2,f2,q⟩:=h2
  subst e
  refine ZfM (Q:=Q) (RR:=fun acc C=>compPost (model X.prog X.w) X.A X.xe none (EP X pins σ Q) acc C) c hc I2 T st2 f2 cl1 cl2 hg ht he q ?_
  intro l C H' s' m' hC hn hf hL hfs hI hq
  exact ⟨m',hn,fun h2 sb=>⟨.ref l,H',hI h2 sb,rfl,hq⟩⟩
theorem Zjg {elt target iter:PySem.Expr} {ifs:List PySem.Expr} {pos pos' spos:Pos} {y:Str} {k:Nat} {wi:TI} {g:TG} {tc:TT} {te:TE} (c:CompOk X scope N own js) (hc:X.calm=true) (hN:X.N.Nodup) (hk:X.N[k]?=some y) (hy:X.env.scope.names.lookup y=some .local) (hi:PI X target iter wi)
    (hg:∀ cl C s0 H0 fp pins,PG (cxIn X N scope cl C s0 H0 fp pins) target g)
    (ht:∀ cl C s0 H0 fp pins pins' s σ H Q,Inv (cxIn X N scope cl C s0 H0 fp pins) pins' σ H s→tc σ H Q→wpAny (model X.prog X.w) X.A (forIn ifs true fun c r=>if r=true then do let ok ← isTrue c (compEnvC scope cl C X.env) (eval c (compEnvC scope cl C X.env)); pure (ForInStep.yield ok) else pure (ForInStep.yield r))
      (TP (cxIn X N scope cl C s0 H0 fp pins) pins' σ Q) (fun _ _=>False) s)
    (he:∀ cl C s0 H0 fp pins,PE (cxIn X N scope cl C s0 H0 fp pins) elt te)
    (hs:∀ x,foldedSetIterable iter X.env x=pure x:=by intro _; rfl)
    (hsw:swapsWith (.ListComp elt [⟨target,iter,ifs,0⟩] scope pos) (some (.Name y pos')) spos.line X.env=pure true:=by rfl):PS X (.Assign [.Name y pos'] (.ListComp elt [⟨target,iter,ifs,0⟩] scope pos) spos) (tAsg (tComp own js wi g tc te) (gName k)):=by
  intro pins s σ H D I h
  obtain ⟨cl,e1,cl1,_,cl2⟩:=Zcc (env:=X.env) scope.names [] (fun p hp hf=>I.ok.has _ (c.free p hp hf)) (fun x d e=>by simp at e)
  have hclos:closureFor scope X.env=pure cl:=by
    unfold closureFor
    refine (congrArg (fun z=>z >>= fun cs=>pure cs) e1).trans ?_
    rfl
  rw [exec_Assign_Name_used _ _ _ _ hsw]
  refine wpAny_bind (wpAny_standAt (wpAny_bind ?_))
  show wpAny _ X.A (do let _ ← comprehension (.ListComp elt [⟨target,iter,ifs,0⟩] scope pos) scope X.env _ (newList []) false (eval iter X.env) (some (assign (.Name y pos') X.env))) _ _ s
  refine wpAny_bind (wpAny_mono (wpAny_comprehension_free (use:=some (assign (.Name y pos') X.env)) (Q:=fun _ s'=>SP X pins D .next s') rfl hs hclos c.kind c.names
    (wpAny_mono (hi pins s σ H _ I h) (fun xv s1 h1=>wpAny_mono h1 (fun it s2 h2=>?_) fun _ _ e=>e) fun _ _ e=>e)) (fun _ s' hq=>wpAny_pure (wpAny_pure hq)) fun _ _ e=>e)
  obtain ⟨it,fp,tn,J,H2,e,I2,T,st2,f2,q⟩:=h2
  subst e
  refine ZfM (Q:=fun x H1=>gName k x σ H1 D.nx) (RR:=fun acc C=>compPost (model X.prog X.w) X.A X.xe (some (assign (.Name y pos') X.env)) (fun _ s'=>SP X pins D .next s') acc C) c hc I2 T st2 f2 cl1 cl2 hg ht he q ?_
  intro l C H' s' m' hC hn hf hL hfs hI hq
  have J0:=hI s'.heap (Heap.SameBut.refl ..)
  show wpAny _ X.A (assign (.Name y pos') X.env (.ref l)) _ _ _
  have J1:Inv X pins σ H' s':=J0
  refine wpAny_assign_Name (ZgX (v:=.ref l) J1 hN hk (.inl hy) rfl (fun s'' I'' hsb=>?_) (.inr hy))
  obtain ⟨a,sb,ha⟩:=hsb
  have hne:C≠a:=by
    rcases ha with rfl | ha
    · exact hL
    · rintro rfl
      obtain ⟨v,⟨o,ho,hd⟩⟩:=J1.cell y C ha
      obtain ⟨o',es,ep,ho',hd',_⟩:=hn
      rw [ho] at ho'; cases ho'
      rw [hd] at hd'; cases hd'
  refine ⟨m',hn.sameBut sb hne,fun h2 sb2=>?_⟩
  have hok:HOk X.prog X.w H' h2:=fun b ob e=>(I''.hok b ob e).stay (fun d w' hd z=>sb2.extBut d w' (by
    rintro rfl
    rcases hd with rfl | hd
    · rw [hf] at e; cases e
    · rw [hf] at hd; cases hd) z) (fun _ z=>z) fun _ _ z=>z
  have cne:∀ x d,X.env.cells.lookup x=some d→d≠C:=fun x d e z=>by
    subst z
    obtain ⟨v,⟨o,ho,hd⟩⟩:=J1.cell x d e
    obtain ⟨o',es,ep,ho',hd',_⟩:=hn
    rw [ho] at ho'; cases ho'
    rw [hd] at hd'; cases hd'
  have hpn:∀ p∈X.pn++pins,p.1≠C:=fun p hp z=>by
    have a1:=(I2.pin p hp).1
    exact absurd (Nat.lt_of_lt_of_le (Heap.lt_size a1) (by rw [z]; exact hC)) (Nat.lt_irrefl _)
  have fin:Inv X pins (σ.set k (some (.ref l))) H' { s'' with heap:=h2 }:=I''.turned (t':=s''.toks) (it:=C) (fun b o hb e=>sb2.extBut b o hb e) hf hL (.inr (Nat.le_trans I2.sz hC)) cne hpn
  exact ⟨_,H',fin,hq⟩
theorem Zbz {elt target iter:PySem.Expr} {pos:Pos} {wi:TI} {g:TG} {te:TE} (c:CompOk X scope N own js) (hc:X.calm=true) (hi:PI X target iter wi)
    (hg:∀ cl C s0 H0 fp pins,PG (cxIn X N scope cl C s0 H0 fp pins) target g) (he:∀ cl C s0 H0 fp pins,PE (cxIn X N scope cl C s0 H0 fp pins) elt te)
    (hs:∀ x,foldedSetIterable iter X.env x=pure x:=by intro _; rfl):PE X (.ListComp elt [⟨target,iter,[],0⟩] scope pos) (tComp own js wi g tTrue te) :=
  Zjf c hc hi hg (fun cl C s0 H0 fp pins pins' s σ H Q I h=>wpAny_tests_nil ⟨H,I,h⟩) he hs
theorem Zjh {elt target iter tst:PySem.Expr} {pos:Pos} {wi:TI} {g:TG} {tc:TT} {te:TE} (c:CompOk X scope N own js) (hc:X.calm=true) (hi:PI X target iter wi)
    (hg:∀ cl C s0 H0 fp pins,PG (cxIn X N scope cl C s0 H0 fp pins) target g) (ht:∀ cl C s0 H0 fp pins,PT (cxIn X N scope cl C s0 H0 fp pins) tst tc) (he:∀ cl C s0 H0 fp pins,PE (cxIn X N scope cl C s0 H0 fp pins) elt te)
    (hs:∀ x,foldedSetIterable iter X.env x=pure x:=by intro _; rfl):PE X (.ListComp elt [⟨target,iter,[tst],0⟩] scope pos) (tComp own js wi g tc te) :=
  Zjf c hc hi hg (fun cl C s0 H0 fp pins pins' s σ H Q I h=>wpAny_tests_one (ht cl C s0 H0 fp pins pins' s σ H Q I h)) he hs
theorem Zgd {elt target iter:PySem.Expr} {pos pos' spos:Pos} {y:Str} (k:Nat) {wi:TI} {g:TG} {te:TE} (c:CompOk X scope N own js) (hc:X.calm=true) (hN:X.N.Nodup) (hk:X.N[k]?=some y) (hy:X.env.scope.names.lookup y=some .local) (hi:PI X target iter wi)
    (hg:∀ cl C s0 H0 fp pins,PG (cxIn X N scope cl C s0 H0 fp pins) target g) (he:∀ cl C s0 H0 fp pins,PE (cxIn X N scope cl C s0 H0 fp pins) elt te)
    (hs:∀ x,foldedSetIterable iter X.env x=pure x:=by intro _; rfl)
    (hsw:swapsWith (.ListComp elt [⟨target,iter,[],0⟩] scope pos) (some (.Name y pos')) spos.line X.env=pure true:=by rfl):PS X (.Assign [.Name y pos'] (.ListComp elt [⟨target,iter,[],0⟩] scope pos) spos) (tAsg (tComp own js wi g tTrue te) (gName k)) :=
  Zjg c hc hN hk hy hi hg (fun cl C s0 H0 fp pins pins' s σ H Q I h=>wpAny_tests_nil ⟨H,I,h⟩) he hs hsw
theorem Zmy {elt target iter tst:PySem.Expr} {pos pos' spos:Pos} {y:Str} (k:Nat) {wi:TI} {g:TG} {tc:TT} {te:TE} (c:CompOk X scope N own js) (hc:X.calm=true) (hN:X.N.Nodup) (hk:X.N[k]?=some y) (hy:X.env.scope.names.lookup y=some .local) (hi:PI X target iter wi)
    (hg:∀ cl C s0 H0 fp pins,PG (cxIn X N scope cl C s0 H0 fp pins) target g) (ht:∀ cl C s0 H0 fp pins,PT (cxIn X N scope cl C s0 H0 fp pins) tst tc) (he:∀ cl C s0 H0 fp pins,PE (cxIn X N scope cl C s0 H0 fp pins) elt te)
    (hs:∀ x,foldedSetIterable iter X.env x=pure x:=by intro _; rfl)
    (hsw:swapsWith (.ListComp elt [⟨target,iter,[tst],0⟩] scope pos) (some (.Name y pos')) spos.line X.env=pure true:=by rfl):PS X (.Assign [.Name y pos'] (.ListComp elt [⟨target,iter,[tst],0⟩] scope pos) spos) (tAsg (tComp own js wi g tc te) (gName k)) :=
  Zjg c hc hN hk hy hi hg (fun cl C s0 H0 fp pins pins' s σ H Q I h=>wpAny_tests_one (ht cl C s0 H0 fp pins pins' s σ H Q I h)) he hs hsw
end
end L2
set_option Elab.async false
set_option linter.all false
set_option maxRecDepth 100000
set_option maxHeartbeats 4000000
namespace L2
open PySem PySem.Spec PyProof.Rows
section
variable {X:Cx} {pins:List (Addr×Obj)} {σ:St} {H:Hp} {s:Shared}
theorem HOk.offCh {P:Program} {w:World} {h h':Heap} {ch:List Addr} (hok:HOk P w H h) (hn:∀ b∈ch,H b=none) (k:∀ b o,b∉ch→h.get? b=some o→h'.get? b=some o):HOk P w H h':=fun b ob e =>
  (hok b ob e).stay (fun d u hd z=>k d u (fun m=>by
    rcases hd with rfl | hd
    · rw [hn _ m] at e; cases e
    · rw [hn _ m] at hd; cases hd) z) (fun _ z=>z) fun _ _ z=>z
theorem Inv.turnedCh {ch:List Addr} {h':Heap} {t':Nat} (I:Inv X pins σ H s) (hch:∀ b∈ch,FpOk X pins H b) (k:∀ b o,b∉ch→s.heap.get? b=some o→h'.get? b=some o) :
    Inv X pins σ H { s with heap:=h',toks:=t' }:=by
  have u:Un (frs X.stack) ch H H s.heap h':=⟨fun b o q _ _ hx=>k b o hx q,fun b o q _ _ hx=>⟨o.slots,k b o hx q⟩,fun _ _ _ n _=>n,fun b o q hx=>⟨o,k b o hx q⟩,fun _ _ q=>q,fun _ _ _ q=>q,fun _ _ _ q=>q⟩
  exact I.call (g':=s.gens) (d':=s.drawn) (t':=t') u (I.hok.offCh (fun b hb=>(hch b hb).1) k) I.bare fun b hb=>⟨(hch b hb).2.2.2.1,(hch b hb).2.1,(hch b hb).2.2.2.2.1,(hch b hb).2.2.2.2.2⟩
theorem Inv.laidCh {ch:List Addr} {h':Heap} {t':Nat} {o:HO} (I:Inv X pins σ H s) (hch:∀ b∈ch,FpOk X pins H b) (k:∀ b o,b∉ch→s.heap.get? b=some o→h'.get? b=some o)
    (new:ObjOk X.prog X.w (upd H s.heap.objs.size o) h' s.heap.objs.size o):Inv X pins σ (upd H s.heap.objs.size o) { s with heap:=h',toks:=t' }:=by
  have fr:H s.heap.objs.size=none:=I.hok.fresh (Nat.le_refl _)
  have ne:∀ b ob,s.heap.get? b=some ob→b≠s.heap.objs.size:=fun b ob e=>Nat.ne_of_lt (Heap.lt_size e)
  have nt:∀ b ob,H b=some ob→b≠s.heap.objs.size:=fun b ob e=>Zd e fr
  have u:Un (frs X.stack) ch H (upd H s.heap.objs.size o) s.heap h':=⟨fun b o q _ _ hx=>k b o hx q,fun b o q _ _ hx=>⟨o.slots,k b o hx q⟩,fun b ob q n _=>by rw [Zb (ne b ob q)]; exact n,fun b o q hx=>⟨o,k b o hx q⟩,
    fun b xs q=>by rw [Zb (nt b _ q)]; exact q,fun b ob xs q=>by rw [Zb (nt b _ q)]; exact q,fun b _ _ q=>by rw [Zb (nt b _ q)]; exact q⟩
  have hok:HOk X.prog X.w (upd H s.heap.objs.size o) h':=fun b ob e=>by
    by_cases hb:b=s.heap.objs.size
    · subst hb
      rw [Za] at e; cases e
      exact new
    · rw [Zb hb] at e
      refine (I.hok b ob e).stay (fun d u hd z=>k d u (fun m=>?_) z) (fun d z=>by rw [Zb (nt d _ z)]; exact z) (fun d xs z=>by rw [Zb (nt d _ z)]; exact z) fun d oz z=>by rw [Zb (nt d _ z)]; exact z
      have hn:=(hch d m).1
      rcases hd with rfl | hd
      · rw [hn] at e; cases e
      · rw [hn] at hd; cases hd
  exact I.call (g':=s.gens) (d':=s.drawn) (t':=t') u hok I.bare fun b hb=>⟨(hch b hb).2.2.2.1,(hch b hb).2.1,(hch b hb).2.2.2.2.1,(hch b hb).2.2.2.2.2⟩
end
theorem nne {a b:Nat} (h:a<b∨b<a):@Ne Addr a b:=fun e=>by
  have e':a=b:=e
  omega
theorem ZeO (n l1 l2:Nat) (h1:l1<n) (h2:l2<n):ZipApart (n+4) (n+2) (n+3) n (n+1) l1 l2 :=
  ⟨nne (by omega),nne (by omega),nne (by omega),nne (by omega),nne (by omega),nne (by omega),nne (by omega),nne (by omega),nne (by omega),nne (by omega),nne (by omega),nne (by omega),nne (by omega),nne (by omega),nne (by omega),nne (by omega),nne (by omega),nne (by omega)⟩
def Itz (K:PySem.W.Frag) (a b:Addr):It :=
  ⟨fun i H=>∃ xs ys x y,SqL K H a xs∧SqL K H b ys∧xs[i]?=some x∧ys[i]?=some y,
   fun i H v H'=>∃ t x y,H t=none∧v=.ref t∧H'=upd H t (.tup [x,y])∧(∀ xs,SqL K H a xs→xs[i]?=some x)∧∀ ys,SqL K H b ys→ys[i]?=some y,
   fun i H=>∃ xs ys,SqL K H a xs∧SqL K H b ys∧(xs.length≤i∨ys.length≤i)⟩
theorem Zeq {h:Heap} {it l:Addr} {i:Nat} (x:h.IsListIter it l i):∃ o,h.get? it=some o∧∀ v,o.data≠.cell v:=by
  obtain ⟨o,e,c,d⟩:=x
  exact ⟨o,e,fun v z=>by rw [d] at z; cases z⟩
theorem Zji {P:Program} {w:World} {K:PySem.W.Frag} {elts:List PySem.Expr} {x1} {pos:Pos} (z TI TO i1 i2 a b:Addr) (D:ZipApart z TI TO i1 i2 a b) :
    Turn P w K (.Tuple elts x1 pos) (Itz K a b) [z,TI,TO,i1,i2] z (fun i h=>IsZip h z TI TO .none∧IsPair h TI (.ref i1) (.ref i2)∧(∃ u v,IsPair h TO u v)∧h.IsListIter i1 a i∧h.IsListIter i2 b i) where
  mem:=by simp
  obj:=fun i h st c hc=>by
    obtain ⟨hz,hTI,⟨u,v,hTO⟩,h1,h2⟩:=st
    simp only [List.mem_cons,List.not_mem_nil,or_false] at hc
    rcases hc with rfl | rfl | rfl | rfl | rfl
    · exact ⟨_,hz,fun v e=>by cases e⟩
    · exact ⟨_,hTI,fun v e=>by cases e⟩
    · exact ⟨_,hTO,fun v e=>by cases e⟩
    · exact Zeq h1
    · exact Zeq h2
  keep:=fun i h h' st k=>by
    obtain ⟨hz,hTI,⟨u,v,hTO⟩,h1,h2⟩:=st
    exact ⟨k z (by simp) _ hz,k TI (by simp) _ hTI,⟨u,v,k TO (by simp) _ hTO⟩,h1.at fun o e=>k i1 (by simp) o e,h2.at fun o e=>k i2 (by simp) o e⟩
  item:=by
    intro X hP hw hK hc i pins s σ H E I hf st hg
    subst hP hw hK
    obtain ⟨xs,ys,x,y,hqa,hqb,hx,hy⟩:=hg
    obtain ⟨hz,hTI,⟨u0,v0,hTO⟩,h1,h2⟩:=st
    obtain ⟨itsa,ra,pa,za⟩:=I.list hqa
    obtain ⟨itsb,rb,pb,zb⟩:=I.list hqb
    obtain ⟨ux,hux,rux⟩:=ra.get hx
    obtain ⟨uy,huy,ruy⟩:=rb.get hy
    refine wpAny_pyNext_zip_item D hz hTI hTO h1 h2 pa.isList pb.isList (x:=ux) (y:=uy) (by simpa using hux) (by simpa using huy) fun h' a1 a2 a3 a4 a5 a6 a7=>?_
    refine ⟨.ref s.heap.objs.size,rfl,?_⟩
    refine wpAny_letOwnedTupleGo_zip a1 fun h2' hz' hs'=>?_
    have hzlt:z<s.heap.objs.size:=Heap.lt_size hz
    have kk:∀ c o,c∉[z,TI,TO,i1,i2]→s.heap.get? c=some o→h2'.get? c=some o:=fun c o hc e=>by
      simp only [List.mem_cons,List.not_mem_nil,or_false,not_or] at hc
      exact hs'.extBut c o hc.1 (a7 c o hc.1 hc.2.2.1 hc.2.2.2.1 hc.2.2.2.2 e)
    have tp:h2'.get? s.heap.objs.size=some { cls:=.type "tuple",data:=.seq #[ux,uy] }:=hs'.extBut _ _ (Nat.ne_of_gt hzlt) a5
    have I1:Inv X pins σ (upd H s.heap.objs.size (.tup [x,y])) { s with heap:=h2',toks:=s.toks } :=
      I.laidCh hf kk ⟨by show 2≤sizeLine; decide,[ux,uy],.cons rux (.cons ruy .nil),⟨_,tp,rfl,_,rfl⟩⟩
    have TIk:h2'.get? TI=s.heap.get? TI:=by
      rw [hTI]
      exact hs'.extBut _ _ D.TIz (a7 _ _ D.TIz D.TITO D.TIi1 D.TIi2 hTI)
    refine ⟨.ref s.heap.objs.size,_,I1,rfl,⟨s.heap.objs.size,x,y,I.hok.fresh (Nat.le_refl _),rfl,rfl,fun xs' h=>by rw [I.list_inj h hqa]; exact hx,fun ys' h=>by rw [I.list_inj h hqb]; exact hy⟩,⟨hz',?_,⟨ux,uy,hs'.extBut _ _ D.TOz a2⟩,a3.at fun o e=>hs'.extBut _ o D.i1z e,a4.at fun o e=>hs'.extBut _ o D.i2z e⟩,fun c hc=>?_⟩
    · show h2'.get? TI=_
      rw [TIk]; exact hTI
    · have hc':=hc
      have hlt:c<s.heap.objs.size:=by
        simp only [List.mem_cons,List.not_mem_nil,or_false] at hc'
        rcases hc' with rfl | rfl | rfl | rfl | rfl
        · exact hzlt
        · exact Heap.lt_size hTI
        · exact Heap.lt_size hTO
        · obtain ⟨o,e,_⟩:=Zeq h1; exact Heap.lt_size e
        · obtain ⟨o,e,_⟩:=Zeq h2; exact Heap.lt_size e
      rw [Zb (Nat.ne_of_lt hlt)]
      exact (hf c hc).1
  done:=by
    intro X hP hw hK hc i pins s σ H E I hf st hg
    subst hP hw hK
    obtain ⟨xs,ys,hqa,hqb,hend⟩:=hg
    obtain ⟨hz,hTI,⟨u0,v0,hTO⟩,h1,h2⟩:=st
    obtain ⟨itsa,ra,pa,za⟩:=I.list hqa
    obtain ⟨itsb,rb,pb,zb⟩:=I.list hqb
    have la:=ra.length
    have lb:=rb.length
    refine wpAny_pyNext_zip_end (I.ok.hd hc) D hz hTI hTO h1 h2 pa.isList pb.isList ?_ fun h' hk=>⟨rfl,?_⟩
    · rcases hend with q | q
      · exact .inl (by simp; omega)
      · exact .inr (by simp; omega)
    · refine I.turnedCh (t':=s.toks) hf fun c o hc e=>?_
      simp only [List.mem_cons,List.not_mem_nil,or_false,not_or] at hc
      exact hk c o hc.1 hc.2.2.1 hc.2.2.2.1 hc.2.2.2.2 e
  self:=fun _ _ _ _ _ st h=>wpAny_pyIter_zip st.1 h
def iZip (K:PySem.W.Frag) (ta:TA):TI:=fun σ H R=>ta σ H fun vs H1=>∃ a b,vs=[.ref a,.ref b]∧(∃ xs,SqL K H1 a xs)∧(∃ ys,SqL K H1 b ys)∧R (Itz K a b) H1
section
variable {X:Cx}
theorem Zjj:bootBuiltins "zip" = some (.type "zip"):=by first | rfl | decide +kernel | kernel_rfl
theorem ZcU:bootBuiltins "enumerate" = some (.type "enumerate"):=by first | rfl | decide +kernel | kernel_rfl
theorem ZkT {elts:List PySem.Expr} {x1} {tpos:Pos} {a b:PySem.Expr} {ta:TA} {p pos:Pos} (hg:Gl X "zip") (hm:X.mg "zip" = none) (ha:PA X [a,b] ta) (hs:starEach [a,b] X.env=[(false,eval a X.env),(false,eval b X.env)]:=by rfl) (hs2:starEach [b] X.env=[(false,eval b X.env)]:=by rfl) :
    PI X (.Tuple elts x1 tpos) (.Call (.Name "zip" p) [a,b] [] pos) (iZip X.K ta):=by
  intro pins s σ H R I h
  refine Call_ (Zca I hg hm Zjj (PyProof.Rows.callWith_type1 (thn (ha pos pins s σ H _ I h) fun us s1 ⟨vs,H1,I1,r1,q1⟩=>?_) (by rw [hs,hs2]) (by rw [hs2]; rfl)))
  obtain ⟨l1,l2,e,⟨xs,hqa⟩,⟨ys,hqb⟩,q⟩:=q1
  subst e
  obtain ⟨v1,v2,rfl,r,r'⟩:=vals2 r1
  cases r
  cases r'
  obtain ⟨itsa,ra,pa,za⟩:=I1.list hqa
  obtain ⟨itsb,rb,pb,zb⟩:=I1.list hqb
  have lt1:l1<s1.heap.objs.size:=by obtain ⟨o,e,_⟩:=pa.isList; exact Heap.lt_size e
  have lt2:l2<s1.heap.objs.size:=by obtain ⟨o,e,_⟩:=pb.isList; exact Heap.lt_size e
  refine call_zip_2 pa.isList pb.isList fun h' g5 g3 g4 g1 g2 hsz kp=>wpAny_pyIter_zip g5 ?_
  refine ⟨_,[_,_,_,_,_],_,_,H1,rfl,I1.kept (t':=s1.toks) kp,Zji _ _ _ _ _ l1 l2 (ZeO s1.heap.objs.size l1 l2 lt1 lt2),⟨g5,g3,⟨_,_,g4⟩,g1,g2⟩,fun c hc=>?_,q⟩
  have hc':s1.heap.objs.size≤c:=by
    simp only [List.mem_cons,List.not_mem_nil,or_false] at hc
    rcases hc with rfl | rfl | rfl | rfl | rfl <;> first | exact Nat.le_refl _ | exact Nat.le_add_right _ _
  exact I1.fpOk hc' (I1.hok.fresh hc')
def Ite (K:PySem.W.Frag) (a:Addr):It :=
  ⟨fun i H=>∃ xs x,SqL K H a xs∧xs[i]?=some x,
   fun i H v H'=>∃ t x,H t=none∧v=.ref t∧H'=upd H t (.tup [.int i,x])∧∀ xs,SqL K H a xs→xs[i]?=some x,
   fun i H=>∃ xs,SqL K H a xs∧xs.length=i⟩
theorem ZkU {P:Program} {w:World} {K:PySem.W.Frag} {elts:List PySem.Expr} {x1} {pos:Pos} (e it a:Addr) (hei:e≠it) (hae:a≠e) (hai:a≠it) :
    Turn P w K (.Tuple elts x1 pos) (Ite K a) [e,it] e (fun i h=>(∃ old,IsEnum h e it i old)∧h.IsListIter it a i) where
  mem:=by simp
  obj:=fun i h st c hc=>by
    obtain ⟨⟨old,he⟩,h1⟩:=st
    simp only [List.mem_cons,List.not_mem_nil,or_false] at hc
    rcases hc with rfl | rfl
    · exact ⟨_,he,fun v z=>by cases z⟩
    · obtain ⟨o,q,c,d⟩:=h1; exact ⟨o,q,fun v z=>by rw [d] at z; cases z⟩
  keep:=fun i h h' st k=>by
    obtain ⟨⟨old,he⟩,h1⟩:=st
    exact ⟨⟨old,k e (by simp) _ he⟩,h1.at fun o q=>k it (by simp) o q⟩
  item:=by
    intro X hP hw hK hc i pins s σ H E I hf st hg
    subst hP hw hK
    obtain ⟨xs,x,hq,hx⟩:=hg
    obtain ⟨⟨old,he⟩,h1⟩:=st
    obtain ⟨its,rv,p,hz⟩:=I.list hq
    obtain ⟨u,hu,ru⟩:=rv.get hx
    have hlt:i<its.toArray.size:=by
      have:=(List.getElem?_eq_some_iff.mp hu).1
      simpa using this
    refine wpAny_pyNext_enum_itemD (Draws.list (A:=X.A.in1) (show X.A.in1.handled=none from I.ok.hd hc) it a hai its.toArray) he ⟨h1,p.isList⟩ hlt hei (by simp [hei,Ne.symm hae]) fun v h' tk hP ho hs' hT hsz hk=>?_
    have hP':v=u:=by
      have z:its[i]?=some v:=by simpa using hP
      rw [hu] at z; exact (Option.some.inj z).symm
    subst hP'
    refine ⟨.ref s.heap.objs.size,rfl,?_⟩
    refine wpAny_letOwnedTupleGo_enum ho fun h2 he2 sb2=>?_
    have helt:e<s.heap.objs.size:=Heap.lt_size he
    have kk:∀ c o,c∉[e,it]→s.heap.get? c=some o→h2.get? c=some o:=fun c o hc q=>by
      simp only [List.mem_cons,List.not_mem_nil,or_false,not_or] at hc
      exact (sb2.2 c hc.1).trans (hk c o hc.1 hc.2 q)
    have tp:h2.get? s.heap.objs.size=some { cls:=.type "tuple",data:=.seq #[.int i tk,v] }:=(sb2.2 _ (Nat.ne_of_gt helt)).trans hT
    have I1:Inv X pins σ (upd H s.heap.objs.size (.tup [.int i,x])) { s with heap:=h2,toks:=tk+1 } :=
      I.laidCh hf kk ⟨by show 2≤sizeLine; decide,[.int i tk,v],.cons ⟨tk,rfl⟩ (.cons ru .nil),⟨_,tp,rfl,_,rfl⟩⟩
    refine ⟨.ref s.heap.objs.size,_,I1,rfl,⟨s.heap.objs.size,x,I.hok.fresh (Nat.le_refl _),rfl,rfl,fun ys hy=>by rw [I.list_inj hy hq]; exact hx⟩,⟨⟨v,by simpa using he2⟩,hs'.1.at fun o q=>(sb2.2 _ (Ne.symm hei)).trans q⟩,fun c hc=>?_⟩
    have hlt':c<s.heap.objs.size:=by
      simp only [List.mem_cons,List.not_mem_nil,or_false] at hc
      rcases hc with rfl | rfl
      · exact helt
      · obtain ⟨o,q,_⟩:=h1; exact Heap.lt_size q
    rw [Zb (Nat.ne_of_lt hlt')]
    exact (hf c hc).1
  done:=by
    intro X hP hw hK hc i pins s σ H E I hf st hg
    subst hP hw hK
    obtain ⟨xs,hq,hx⟩:=hg
    obtain ⟨⟨old,he⟩,h1⟩:=st
    obtain ⟨its,rv,p,hz⟩:=I.list hq
    have hl:=rv.length
    have ei:i=its.toArray.size:=by simp; omega
    subst ei
    refine wpAny_pyNext_enum_endD (Draws.list (A:=X.A.in1) (show X.A.in1.handled=none from I.ok.hd hc) it a hai its.toArray) he ⟨h1,p.isList⟩ fun h' hx'=>⟨rfl,?_⟩
    refine I.turnedCh (t':=s.toks) hf fun c o hc q=>?_
    simp only [List.mem_cons,List.not_mem_nil,or_false,not_or] at hc
    exact hx' c o hc.2 q
  self:=fun _ _ _ _ _ st h=>by
    obtain ⟨⟨old,he⟩,_⟩:=st
    exact wpAny_pyIter_enum he h
def iEnum (K:PySem.W.Frag) (ta:TA):TI:=fun σ H R=>ta σ H fun vs H1=>∃ a,vs=[.ref a]∧(∃ xs,SqL K H1 a xs)∧R (Ite K a) H1
theorem ZkV {elts:List PySem.Expr} {x1} {tpos:Pos} {a:PySem.Expr} {ta:TA} {p pos:Pos} (hg:Gl X "enumerate") (hm:X.mg "enumerate" = none) (ha:PA X [a] ta) (hs:starEach [a] X.env=[(false,eval a X.env)]:=by rfl) :
    PI X (.Tuple elts x1 tpos) (.Call (.Name "enumerate" p) [a] [] pos) (iEnum X.K ta):=by
  intro pins s σ H R I h
  refine Call_ (Zca I hg hm ZcU (PyProof.Rows.callWith_type1 (thn (ha pos pins s σ H _ I h) fun us s1 ⟨vs,H1,I1,r1,q1⟩=>?_) hs rfl))
  obtain ⟨l,e,⟨xs,hq⟩,q⟩:=q1
  subst e
  cases r1 with
  | cons r rr =>
    cases rr
    cases r
    obtain ⟨its,rv,pl,hz⟩:=I1.list hq
    have lt1:l<s1.heap.objs.size:=by obtain ⟨o,e,_⟩:=pl.isList; exact Heap.lt_size e
    refine call_enumerate_list pl.isList fun h' he hi hsz hk=>?_
    refine wpAny_pyIter_enum he ?_
    refine ⟨s1.heap.objs.size+1,[s1.heap.objs.size+1,s1.heap.objs.size],_,_,H1,rfl,I1.kept (t':=s1.toks) hk,ZkU (s1.heap.objs.size+1) s1.heap.objs.size l (Nat.succ_ne_self _) (nne (.inl (Nat.lt_succ_of_lt lt1))) (Nat.ne_of_lt lt1),⟨⟨_,he⟩,hi⟩,fun c hc=>?_,q⟩
    have hc':s1.heap.objs.size≤c:=by
      simp only [List.mem_cons,List.not_mem_nil,or_false] at hc
      rcases hc with rfl | rfl <;> omega
    exact I1.fpOk hc' (I1.hok.fresh hc')
end
end L2
set_option Elab.async false
set_option linter.all false
set_option maxRecDepth 100000
set_option maxHeartbeats 4000000
namespace L2
open PySem PySem.Spec PyProof.Rows
def tyN (H:Hp):V→Option String
  | .non=>some "NoneType"
  | .bl _=>some "bool"
  | .int _=>some "int"
  | .str _=>some "str"
  | .ref a=>match H a with
    | some (.lst _)=>some "list"
    | some (.frz _ (.lst _))=>some "list"
    | some (.tup _)=>some "tuple"
    | some (.dK _)=>some "dict"
    | some (.dT _)=>some "dict"
    | _=>none
  | _=>none
theorem Znk {K:PySem.W.Frag} {H:Hp} {x:V} {t:String} (h:tyN H x=some t):TyOf K H x (.type t):=by
  cases x with
  | non=>cases h; exact .non
  | bl b=>cases h; exact .bl b
  | int i=>cases h; exact .int i
  | str z=>cases h; exact .str z
  | ref a =>
    simp only [tyN] at h
    split at h
    · rename_i e; cases h; exact .lst e
    · rename_i e; cases h; exact .frz e
    · rename_i e; cases h; exact .tup e
    · rename_i e; cases h; exact .dK e
    · rename_i e; cases h; exact .dT e
    · cases h
  | _=>cases h
def subT (t c:String):Bool:=t == c || (t == "bool" && c == "int")
def Zjk:List String:=["NoneType", "bool", "int", "str", "list", "tuple", "dict"]
def ZeP:List String:=["bool", "int", "str", "list", "tuple", "dict"]
theorem ZeQ (K:PySem.W.Frag):∀ t∈Zjk,∀ c∈ZeP,PySem.W.kitOne K (.type t) (.type c)=some (subT t c):=by
  intro t ht c hc
  simp only [Zjk,List.mem_cons,List.not_mem_nil,or_false] at ht
  simp only [ZeP,List.mem_cons,List.not_mem_nil,or_false] at hc
  rcases ht with rfl | rfl | rfl | rfl | rfl | rfl | rfl <;> rcases hc with rfl | rfl | rfl | rfl | rfl | rfl <;> rfl
theorem Zho {H:Hp} {x:V} {t:String} (h:tyN H x=some t):t∈Zjk:=by
  cases x with
  | non=>cases h; decide
  | bl b=>cases h; decide
  | int i=>cases h; decide
  | str z=>cases h; decide
  | ref a =>
    simp only [tyN] at h
    split at h <;> first | (cases h; decide) | cases h
  | _=>cases h
section
variable {X:Cx}
def rIsi:List V→Hp→VK→Prop:=fun xs H Q=>∃ x t c,xs=[x,.ty c]∧tyN H x=some t∧c∈ZeP∧Q (.bl (subT t c)) H
theorem Zcn:CallR X (.builtin "isinstance") rIsi:=by
  intro pins s σ H xs us Q I r h
  obtain ⟨x,t,c,rfl,ht,hc,q⟩:=h
  obtain ⟨u,w',rfl,rx,rc⟩:=vals2 r
  cases rc
  exact ZkJ I rx (Znk ht) (ZeQ X.K t (Zho ht) c hc) fun tk=>⟨.bl _,H,I.tok tk,rfl,q⟩
def rIsi2:List V→Hp→VK→Prop:=fun xs H Q=>∃ x t c d p,xs=[x,.ref p]∧H p=some (.tup [.ty c,.ty d])∧tyN H x=some t∧c∈ZeP∧d∈ZeP∧Q (.bl (subT t c || subT t d)) H
theorem Zmz (K:PySem.W.Frag) {t c d:String} (ht:t∈Zjk) (hc:c∈ZeP) (hd:d∈ZeP):PySem.W.kitAny K (.type t) [.type c,.type d]=some (subT t c || subT t d):=by
  unfold PySem.W.kitAny
  rw [ZeQ K t ht c hc]
  cases subT t c with
  | true=>rfl
  | false =>
    show PySem.W.kitAny K (.type t) [.type d]=some (subT t d)
    unfold PySem.W.kitAny
    rw [ZeQ K t ht d hd]
    cases subT t d <;> rfl
theorem Zhp:CallR X (.builtin "isinstance") rIsi2:=by
  intro pins s σ H xs us Q I r h
  obtain ⟨x,t,c,d,p,rfl,hp,ht,hc,hd,q⟩:=h
  obtain ⟨u,w',rfl,rx,rc⟩:=vals2 r
  cases rc
  obtain ⟨_,its,rv,⟨o,ho,hcl,n,hdt⟩⟩:=(show ObjOk X.prog X.w H s.heap p (.tup [.ty c,.ty d]) from I.hok p _ hp)
  obtain ⟨u1,u2,rfl,r1,r2⟩:=vals2 rv
  cases r1
  cases r2
  have e:=Zmz X.K (Zho ht) hc hd
  have fin:∀ tk,EP X pins σ Q (.bool (subT t c || subT t d)) { s with toks:=tk }:=fun tk=>⟨.bl _,H,I.tok tk,rfl,q⟩
  have htp:s.heap.get? p=some ⟨.type "tuple",o.dict,.seq [Value.type c,Value.type d].toArray n,o.slots⟩:=by
    rw [ho]
    obtain ⟨oc,od,odt,osl⟩:=o
    cases hcl; cases hdt
    rfl
  have ty:=Znk (K:=X.K) ht
  generalize hT:Value.type t=T at ty e
  cases ty with
  | non=>cases (show u=Value.none from rx); exact PySem.W.kia_tup PySem.W.kitx_none I.kIn True.intro htp e (fun z=>nomatch z) fin
  | bl y=>cases (show u=Value.bool y from rx); exact PySem.W.kia_tup PySem.W.kitx_bool I.kIn True.intro htp e (fun z=>nomatch z) fin
  | int i=>obtain ⟨t,q⟩:=(show ∃ t,u=Value.int i t from rx); cases q; exact PySem.W.kia_tup PySem.W.kitx_int I.kIn True.intro htp e (fun z=>nomatch z) fin
  | str y=>obtain ⟨t,q⟩:=(show ∃ t,u=Value.str y t from rx); cases q; exact PySem.W.kia_tup PySem.W.kitx_str I.kIn True.intro htp e (fun z=>nomatch z) fin
  | flt y=>obtain ⟨t,q⟩:=(show ∃ t,u=Value.float y t from rx); cases q; exact PySem.W.kia_tup PySem.W.kitx_float I.kIn True.intro htp e (fun z=>nomatch z) fin
  | @lst a xs ea =>
    cases (show u=Value.ref a from rx)
    obtain ⟨_,_,n,_,h1⟩:=(show ObjOk X.prog X.w H s.heap a (.lst xs) from I.hok a _ ea)
    exact PySem.W.kia_tup PySem.W.kitx_list I.kIn ⟨_,h1,rfl⟩ htp e (fun z=>nomatch z) fin
  | @frz a ob xs ea =>
    cases (show u=Value.ref a from rx)
    obtain ⟨_,_,_,n,_,h1⟩:=(show ObjOk X.prog X.w H s.heap a (.frz ob (.lst xs)) from I.hok a _ ea)
    exact PySem.W.kia_tup PySem.W.kitx_list I.kIn ⟨_,h1,rfl⟩ htp e (fun z=>nomatch z) fin
  | @tup a xs ea =>
    cases (show u=Value.ref a from rx)
    obtain ⟨_,_,_,p⟩:=(show ObjOk X.prog X.w H s.heap a (.tup xs) from I.hok a _ ea)
    obtain ⟨o,h1,h2,_⟩:=p
    exact PySem.W.kia_tup PySem.W.kitx_tuple I.kIn ⟨o,h1,h2⟩ htp e (fun z=>nomatch z) fin
  | @dK a kvs ea =>
    cases (show u=Value.ref a from rx)
    obtain ⟨_,_,vs,_,p⟩:=(show ObjOk X.prog X.w H s.heap a (.dK kvs) from I.hok a _ ea)
    obtain ⟨o,es,ep,h1,h2,_⟩:=p
    exact PySem.W.kia_tup PySem.W.kitx_dict I.kIn ⟨o,h1,h2.1⟩ htp e (fun z=>nomatch z) fin
  | @dT a kvs ea =>
    cases (show u=Value.ref a from rx)
    obtain ⟨_,_,xs,_,o,es,ep,h1,h2,_⟩:=(show ObjOk X.prog X.w H s.heap a (.dT kvs) from I.hok a _ ea)
    exact PySem.W.kia_tup PySem.W.kitx_dict I.kIn ⟨o,h1,h2.1⟩ htp e (fun z=>nomatch z) fin
  | ins e'=>cases hT
theorem ZbA:bootBuiltins "isinstance" = some (.builtin "isinstance"):=by first | rfl | decide +kernel | kernel_rfl
theorem ZmA:bootBuiltins "all" = some (.builtin "all"):=by first | rfl | decide +kernel | kernel_rfl
theorem Zjl:bootBuiltins "max" = some (.builtin "max"):=by first | rfl | decide +kernel | kernel_rfl
theorem Zjm:bootBuiltins "abs" = some (.builtin "abs"):=by first | rfl | decide +kernel | kernel_rfl
theorem Zil:bootBuiltins "divmod" = some (.builtin "divmod"):=by first | rfl | decide +kernel | kernel_rfl
theorem Zdn:bootBuiltins "int" = some (.type "int"):=by first | rfl | decide +kernel | kernel_rfl
theorem ZfN:bootBuiltins "bool" = some (.type "bool"):=by first | rfl | decide +kernel | kernel_rfl
theorem ZeR:bootBuiltins "str" = some (.type "str"):=by first | rfl | decide +kernel | kernel_rfl
theorem ZG:bootBuiltins "list" = some (.type "list"):=by first | rfl | decide +kernel | kernel_rfl
theorem ZcB:bootBuiltins "tuple" = some (.type "tuple"):=by first | rfl | decide +kernel | kernel_rfl
theorem Zhq:∀ {bs:List Bool} {its:List Value},Vals (bs.map V.bl) its→its=bs.map Value.bool
  | [],_,.nil=>rfl
  | b :: bs,_,.cons r t=>by rw [Zhq t]; cases r; rfl
theorem ZjY {bs:List Bool} (f:Nat→Bool) (hf:∀ i b,bs[i]?=some b→f i=b):(List.range bs.length).map f=bs:=by
  apply List.ext_getElem?
  intro i
  rw [List.getElem?_map]
  by_cases h:i<bs.length
  · rw [List.getElem?_range h,List.getElem?_eq_getElem h]
    simp only [Option.map_some]
    rw [hf i _ (List.getElem?_eq_getElem h)]
  · rw [List.getElem?_eq_none (by simpa using h),List.getElem?_eq_none (by omega)]; rfl
theorem ZkW (hc:X.calm=true):CallR X (.builtin "all") (fun xs H Q=>∃ (p:Addr) (bs:List Bool),xs=[.ref p]∧SqL X.K H p (bs.map V.bl)∧Q (.bl (bs.all id)) H):=by
  intro pins s σ H xs us Q I r h
  obtain ⟨p,bs,rfl,hq,q⟩:=h
  obtain ⟨u,rfl,rx⟩:=vals1 r
  cases rx
  obtain ⟨its,rv,pl,hz⟩:=I.list hq
  have e:=Zhq rv
  subst e
  refine call_all_walk (wpAny_pyIter_list pl.isList ?_)
  refine ⟨s.heap.objs.size,_,[s.heap.objs.size],_,_,_,fun i=>bs.getD i true,rfl,Walks.list (A:=X.A.in1) (show X.A.in1.handled=none from I.ok.hd hc) s.heap.objs.size p ?_ (bs.map Value.bool).toArray,⟨⟨_,Heap.get?_push_size _ rfl,rfl,rfl⟩,pl.isList.at fun o e=>Heap.get?_push_of_some _ e⟩,?_,?_⟩
  · obtain ⟨o,e,_⟩:=pl.isList; exact Nat.ne_of_lt (Heap.lt_size e)
  · intro i v s' Q' E' hP hQ
    have hP':(bs.map Value.bool)[i]?=some v:=by simpa using hP
    rw [List.getElem?_map] at hP'
    cases z:bs[i]? with
    | none=>rw [z] at hP'; cases hP'
    | some b =>
      rw [z] at hP'
      cases hP'
      have:bs.getD i true=b:=by rw [List.getD_eq_getElem?_getD,z]; rfl
      have hQ':Q' (bs.getD i true) s':=hQ
      rw [this] at hQ'
      exact wpAny_truthy_bool hQ'
  · intro h' tk hk
    refine ⟨.bl (bs.all id),H,I.kept (t':=tk) (fun b o e=>hk b o (by simpa using Nat.ne_of_lt (Heap.lt_size e)) (Heap.get?_push_of_some _ e)),?_,q⟩
    have z:(List.range bs.length).map (fun i=>bs.getD i true)=bs:=ZjY _ fun i b e=>by rw [List.getD_eq_getElem?_getD,e]; rfl
    have z2:(List.range bs.length).all (fun i=>bs.getD i true)=bs.all id:=by
      conv=>rhs; rw [← z]
      rw [List.all_map]; rfl
    show Value.bool _=Value.bool _
    have z3:(bs.map Value.bool).toArray.size=bs.length:=by simp
    rw [z3,z2]
theorem Znl (lo:Int) (n:Nat):∀ {acc:Array Value},ItemsOf (fun i v=>∃ t,v=.int (lo+i * 1) t) acc n→Vals ((List.range n).map fun i=>V.int (lo+(i:Nat))) acc.toList:=by
  intro acc h
  obtain ⟨hs,hi⟩:=h
  have gen:∀ (l:List Value) (k:Nat) (xs:List V),xs.length=l.length→(∀ (j:Nat) (v:Value) (x:V),l[j]?=some v→xs[j]?=some x→RelV x v)→Vals xs l:=by
    intro l
    induction l with
    | nil=>intro k xs hl _; cases xs with | nil=>exact .nil | cons _ _=>simp at hl
    | cons u l ih =>
      intro k xs hl hr
      cases xs with
      | nil=>simp at hl
      | cons x xs=>exact .cons (hr 0 u x rfl rfl) (ih k xs (by simpa using hl) fun j v y e1 e2=>hr (j+1) v y (by simpa using e1) (by simpa using e2))
  refine gen _ 0 _ (by simp [hs]) fun j v x e1 e2=>?_
  have e1':acc[j]?=some v:=by simpa using e1
  obtain ⟨t,rfl⟩:=hi j v e1'
  have hj:j<n:=by rw [← hs]; exact (Array.getElem?_eq_some_iff.mp e1').1
  rw [List.getElem?_map,List.getElem?_range hj] at e2
  cases e2
  exact ⟨t,by simp⟩
def ZjZ (ta:TA):TE:=fun σ H Q=>ta σ H fun vs H1=>∃ i j:Int,vs=[.int i,.int j]∧(-(2 ^ 62)≤i∧i<2 ^ 62 ∧ -(2 ^ 62)≤j∧j<2 ^ 62)∧(j - i).toNat≤sizeLine ∧
  ∀ p,H1 p=none→Q (.ref p) (upd H1 p (.lst ((List.range (j - i).toNat).map fun k=>V.int (i+(k:Nat)))))
theorem Zhr {a b:PySem.Expr} {ta:TA} {p q pos pos2:Pos} (hc:X.calm=true) (hg1:Gl X "list") (hm1:X.mg "list" = none) (hg:Gl X "range") (hm:X.mg "range" = none) (ha:PA X [a,b] ta)
    (hs:starEach [a,b] X.env=[(false,eval a X.env),(false,eval b X.env)]:=by rfl) (hs2:starEach [b] X.env=[(false,eval b X.env)]:=by rfl)
    (hs3:starEach [PySem.Expr.Call (.Name "range" p) [a,b] [] pos] X.env=[(false,eval (PySem.Expr.Call (.Name "range" p) [a,b] [] pos) X.env)]:=by rfl) :
    PE X (.Call (.Name "list" q) [.Call (.Name "range" p) [a,b] [] pos] [] pos2) (ZjZ ta):=by
  intro pins s σ H Q I h
  refine Call_ (Zca I hg1 hm1 ZG (PyProof.Rows.callWith_type1 (Q:=EP X pins σ Q) ?_ hs3 rfl))
  rw [hs3]
  refine Calls.spliced_cons (Call_ (Zca I hg hm boot_range (PyProof.Rows.callWith_type1 (thn (ha pos pins s σ H _ I h) fun us s1 ⟨vs,H1,I1,r1,q1⟩=>?_) (by rw [hs,hs2]) (by rw [hs2]; rfl))))
  obtain ⟨i,j,e,⟨q1,q2,q3,q4⟩,hz,q⟩:=q1
  subst e
  cases r1 with
  | cons r rr =>
    cases rr with
    | cons r' rr =>
      cases rr
      obtain ⟨t,rfl⟩:=r
      obtain ⟨t',rfl⟩:=r'
      refine call_range_2 (Calls.spliced_nil ?_)
      have I2:Inv X pins σ H1 { s1 with heap:=s1.heap.push { cls:=.type "range",data:=.fields #[.int i t,.int j t',.int 1 s1.toks] },toks:=s1.toks+1 }:=I1.kept fun b o e=>Heap.get?_push_of_some _ e
      have hsz:sizeLine=16777216:=sizeLine_eq
      refine call_list_range (n:=(j - i).toNat) (I.ok.hd hc) (IsRange.new ..) (small_one q1 q2 q3 q4) (by rw [rangeSize_one]; split <;> omega) (by omega) fun h' tk acc' c' hk hS hit=>?_
      refine ⟨.ref _,_,I2.laid (o:=.lst ((List.range (j - i).toNat).map fun k=>V.int (i+(k:Nat)))) hk (Nat.le_refl _) ⟨by simpa using hz,acc'.toList,c',Znl i _ hit,by simpa using hS⟩,rfl,q _ (I2.hok.fresh (Nat.le_refl _))⟩
end
end L2
set_option Elab.async false
set_option linter.all false
set_option maxRecDepth 100000
set_option maxHeartbeats 4000000
namespace L2
open PySem PySem.Spec PyProof.Rows
structure Def (P:Program) (w:World) (K:PySem.W.Frag) (mg:Str→Option Value) (base:Heap) (x:Str) (k:Nat) (ps:List Str) (sp:Sp):Prop where
  ex:∃ (f:Addr) (fd:FuncData),FnOk P w K mg base CX0 k f fd ps sp∧mg x=some (.ref f)∧PySem.W.keepIn K (.ref f)=true∧Binds K fd ps []
section
variable {X:Cx} {x:Str} {p pos:Pos} {e:PySem.Expr} {es:List PySem.Expr} {t:TA} {k:Nat} {ps:List Str} {sp:Sp}
theorem ZoG (D:Def X.prog X.w X.K X.mg X.base x k ps sp) (hr:Room k X.A) (hg:Gl X x) (ha:PA X (e :: es) t)
    (he:starEach (e :: es) X.env=(false,eval e X.env) :: starEach es X.env:=by rfl) (hpl:(backTo pos (starEach es X.env)).any (·.1)=false:=by rfl) (hd:(x == ("__debug__" : Str))=false:=by decide) :
    PE X (.Call (.Name x p) (e :: es) [] pos) (tCall sp [] E0 t):=by
  obtain ⟨f,fd,F,hm,hk,hb⟩:=D.ex
  exact ZnH F hr hg hm hk hb .nil pass0 ha (hdb:=hd) (he:=he) (hpl:=hpl)
end
theorem ZT {X:Cx} {K:PySem.W.Frag} {es:List PySem.Expr} {k:Nat} {t:TGs} {n:Nat} {pos:Pos} (hK:X.K=K) (hc:X.calm=true) (h:PGs X es t)
    (hn:(assignEach es X.env).length=n:=by rfl) (hst:(assignEach es X.env).findIdx? (·.1)=none:=by rfl):PG X (.Tuple es k pos) (gTup K n t):=by
  subst hK
  exact Zov hc h hn hst
def compB (osc:Scope) (oN:List Str) (scope:Scope) (N:List Str) (own:Nat) (js:List Nat):Bool :=
  scope.kind == .function && scope.names.all (fun y=>y.2 != .cell || scope.names.lookup y.1 == some .cell) && scope.names.all (fun y=>y.2 != .local || scope.names.lookup y.1 == some .local) &&
  scope.names.all (fun y=>y.2 != .free || (osc.names.lookup y.1 == some .cell || osc.names.lookup y.1 == some .free)) && N.length == own+js.length &&
  (js.map fun j=>oN[j]?) == (N.drop own).map some && (N.drop own).all fun x=>scope.names.lookup x == some .free
theorem ZK {X:Cx} {osc:Scope} {oN:List Str} {scope:Scope} {N:List Str} {own:Nat} {js:List Nat} (h:compB osc oN scope N own js=true) (hs:X.env.scope=osc) (hN:X.N=oN):CompOk X scope N own js:=by
  unfold compB at h
  simp only [Bool.and_eq_true,List.all_eq_true,Bool.or_eq_true,beq_iff_eq,bne_iff_ne,ne_eq] at h
  obtain ⟨⟨⟨⟨⟨⟨h1,h2⟩,h3⟩,h4⟩,h5⟩,h6⟩,h7⟩:=h
  refine ⟨h1,fun y hy hl=>?_,fun y hy hl=>?_,fun y hy hf=>?_,h5,fun k j e=>?_,fun k x e=>?_⟩
  · rcases h2 y hy with q | q
    · exact absurd hl q
    · exact q
  · rcases h3 y hy with q | q
    · exact absurd hl q
    · exact q
  · rcases h4 y hy with q | q
    · exact absurd hf q
    · show X.env.scope.names.lookup y.1=_∨X.env.scope.names.lookup y.1=_
      rw [hs]; exact q
  · rw [hN]
    have z:=congrArg (fun l=>l[k]?) h6
    simp only [List.getElem?_map,e,Option.map_some,List.getElem?_drop] at z
    cases q:N[own+k]? with
    | none=>rw [q] at z; cases z
    | some y=>rw [q] at z; exact (Option.some.inj z).symm
  · refine h7 x ?_
    exact List.mem_of_getElem? (i:=k) (by rw [List.getElem?_drop]; exact e)
def SB (b:Addr) (H H':Hp):Prop:=∀ a o,a≠b→H a=some o→H' a=some o
theorem SB.trans {b:Addr} {H H1 H2:Hp} (x:SB b H H1) (y:SB b H1 H2):SB b H H2:=fun a o n h=>y a o n (x a o n h)
theorem Same.sb {H H':Hp} (x:Same H H') (b:Addr):SB b H H':=fun a o _ h=>x a o h
theorem Zdo (b:Addr) (H:Hp) (o:HO):SB b H (upd H b o):=fun a u n h=>by rw [Zb n]; exact h
theorem Zh {H:Hp} {p:Addr} (h:H p=none) (o:HO):Same H (upd H p o):=fun b u q=>by rw [Zb (Zd q h)]; exact q
def CNx (n:Nat) (l:Addr) (Pv:Nat→List V→St→Hp→Prop) (i:Nat) (ys:List V) (σ:St) (y:V) (H:Hp):Prop :=
  H l=some (.lst ys)∧ys.length<sizeLine∧∃ m',m'<n - i∧(m'=n - (i+1)∧i+1≤n∧(ys++[y]).length≤i+1∧Pv (i+1) (ys++[y]) σ (upd H l (.lst (ys++[y]))))
def CNo (n:Nat) (Pv:Nat→List V→St→Hp→Prop) (i:Nat) (ys:List V) (σ:St) (H:Hp):Prop:=∃ m',m'<n - i∧(m'=n - (i+1)∧i+1≤n∧ys.length≤i+1∧Pv (i+1) ys σ H)
theorem CNx.of {n:Nat} {l:Addr} {Pv:Nat→List V→St→Hp→Prop} {i:Nat} {ys:List V} {σ:St} {y:V} {H:Hp} (hn:n≤sizeLine) (hi:i<n) (hy:ys.length≤i) (h1:H l=some (.lst ys)) (h2:Pv (i+1) (ys++[y]) σ (upd H l (.lst (ys++[y])))):CNx n l Pv i ys σ y H :=
  ⟨h1,by omega,n - (i+1),by omega,rfl,hi,by rw [List.length_append,List.length_singleton]; omega,h2⟩
theorem CNo.of {n:Nat} {Pv:Nat→List V→St→Hp→Prop} {i:Nat} {ys:List V} {σ:St} {H:Hp} (hi:i<n) (hy:ys.length≤i) (h2:Pv (i+1) ys σ H):CNo n Pv i ys σ H :=
  ⟨n - (i+1),by omega,rfl,hi,by omega,h2⟩
theorem Zcs {lo:Int} {n:Nat} {l:Addr} {g:TG} {tc:TT} {te:TE} {σ0:St} {H0:Hp} {Qf:Hp→Prop} (Pv:Nat→List V→St→Hp→Prop) (h0:Pv 0 [] σ0 H0)
    (hs:∀ i ys σ' H',i<n→ys.length≤i→Pv i ys σ' H'→g (.int (lo+i)) σ' H' fun σ2 H3=>tc σ2 H3 fun b H4=>if b=true then te σ2 H4 fun y H5=>CNx n l Pv i ys σ2 y H5 else CNo n Pv i ys σ2 H4)
    (hd:∀ ys σ' H',ys.length≤n→Pv n ys σ' H'→Qf H') :
    ∃ W:Nat→Nat→List V→St→Hp→Prop,(∃ m,W 0 m [] σ0 H0)∧∀ i m ys σ' H',W i m ys σ' H' →
    ((Itr lo n).stop i H'∧Qf H')∨((Itr lo n).go i H'∧∀ x H2,(Itr lo n).yld i H' x H2→g x σ' H2 fun σ2 H3=>tc σ2 H3 fun b H4 =>
      if b=true then te σ2 H4 fun y H5=>H5 l=some (.lst ys)∧ys.length<sizeLine∧∃ m',m'<m∧W (i+1) m' (ys++[y]) σ2 (upd H5 l (.lst (ys++[y])))
      else ∃ m',m'<m∧W (i+1) m' ys σ2 H4):=by
  refine ⟨fun i m ys σ' H'=>m=n - i∧i≤n∧ys.length≤i∧Pv i ys σ' H',⟨n,rfl,Nat.zero_le _,Nat.le_refl _,h0⟩,?_⟩
  rintro i m ys σ' H' ⟨rfl,hi,hy,p⟩
  by_cases hlt:i<n
  · refine .inr ⟨hlt,fun x H2 q=>?_⟩
    obtain ⟨rfl,rfl⟩:=q
    exact hs i ys σ' _ hlt hy p
  · have e:i=n:=by omega
    subst e
    exact .inl ⟨Nat.le_refl _,hd ys σ' H' hy p⟩
theorem Zct {K:PySem.W.Frag} {a:Addr} {xs:List V} {l:Addr} {g:TG} {tc:TT} {te:TE} {σ0:St} {H0:Hp} {Qf:Hp→Prop} (Pv:Nat→List V→St→Hp→Prop) (h0:Pv 0 [] σ0 H0)
    (hl:∀ i ys σ' H',i≤xs.length→Pv i ys σ' H'→SqL K H' a xs)
    (hs:∀ i x ys σ' H',i<xs.length→xs[i]?=some x→ys.length≤i→Pv i ys σ' H'→g x σ' H' fun σ2 H3=>tc σ2 H3 fun b H4=>if b=true then te σ2 H4 fun y H5=>CNx xs.length l Pv i ys σ2 y H5 else CNo xs.length Pv i ys σ2 H4)
    (hd:∀ ys σ' H',ys.length≤xs.length→Pv xs.length ys σ' H'→Qf H') :
    ∃ W:Nat→Nat→List V→St→Hp→Prop,(∃ m,W 0 m [] σ0 H0)∧∀ i m ys σ' H',W i m ys σ' H' →
    ((Itl K a).stop i H'∧Qf H')∨((Itl K a).go i H'∧∀ x H2,(Itl K a).yld i H' x H2→g x σ' H2 fun σ2 H3=>tc σ2 H3 fun b H4 =>
      if b=true then te σ2 H4 fun y H5=>H5 l=some (.lst ys)∧ys.length<sizeLine∧∃ m',m'<m∧W (i+1) m' (ys++[y]) σ2 (upd H5 l (.lst (ys++[y])))
      else ∃ m',m'<m∧W (i+1) m' ys σ2 H4):=by
  refine ⟨fun i m ys σ' H'=>m=xs.length - i∧i≤xs.length∧ys.length≤i∧Pv i ys σ' H',⟨xs.length,rfl,Nat.zero_le _,Nat.le_refl _,h0⟩,?_⟩
  rintro i m ys σ' H' ⟨rfl,hi,hy,p⟩
  have q:=hl i ys σ' H' hi p
  by_cases hlt:i<xs.length
  · refine .inr ⟨⟨xs,xs[i],q,by simp [hlt]⟩,fun x H2 z=>?_⟩
    obtain ⟨rfl,z⟩:=z
    exact hs i x ys σ' _ hlt (z xs q) hy p
  · have e:i=xs.length:=by omega
    subst e
    exact .inl ⟨⟨xs,q,Nat.le_refl _⟩,hd ys σ' H' hy p⟩
theorem Zge {K:PySem.W.Frag} {a b:Addr} {xs zs:List V} {l:Addr} {g:TG} {tc:TT} {te:TE} {σ0:St} {H0:Hp} {Qf:Hp→Prop} (hlen:xs.length=zs.length) (Pv:Nat→List V→St→Hp→Prop) (h0:Pv 0 [] σ0 H0)
    (hl:∀ i ys σ' H',i≤xs.length→Pv i ys σ' H'→SqL K H' a xs∧SqL K H' b zs)
    (hs:∀ i x z t ys σ' H',i<xs.length→xs[i]?=some x→zs[i]?=some z→ys.length≤i→Pv i ys σ' H'→H' t=none→g (.ref t) σ' (upd H' t (.tup [x,z])) fun σ2 H3=>tc σ2 H3 fun b H4=>if b=true then te σ2 H4 fun y H5=>CNx xs.length l Pv i ys σ2 y H5 else CNo xs.length Pv i ys σ2 H4)
    (hd:∀ ys σ' H',ys.length≤xs.length→Pv xs.length ys σ' H'→Qf H') :
    ∃ W:Nat→Nat→List V→St→Hp→Prop,(∃ m,W 0 m [] σ0 H0)∧∀ i m ys σ' H',W i m ys σ' H' →
    ((Itz K a b).stop i H'∧Qf H')∨((Itz K a b).go i H'∧∀ x H2,(Itz K a b).yld i H' x H2→g x σ' H2 fun σ2 H3=>tc σ2 H3 fun b H4 =>
      if b=true then te σ2 H4 fun y H5=>H5 l=some (.lst ys)∧ys.length<sizeLine∧∃ m',m'<m∧W (i+1) m' (ys++[y]) σ2 (upd H5 l (.lst (ys++[y])))
      else ∃ m',m'<m∧W (i+1) m' ys σ2 H4):=by
  refine ⟨fun i m ys σ' H'=>m=xs.length - i∧i≤xs.length∧ys.length≤i∧Pv i ys σ' H',⟨xs.length,rfl,Nat.zero_le _,Nat.le_refl _,h0⟩,?_⟩
  rintro i m ys σ' H' ⟨rfl,hi,hy,p⟩
  have q:=hl i ys σ' H' hi p
  by_cases hlt:i<xs.length
  · have hz:i<zs.length:=by omega
    refine .inr ⟨⟨xs,zs,xs[i],zs[i],q.1,q.2,by simp [hlt],by simp [hz]⟩,fun x H2 z=>?_⟩
    obtain ⟨t,u,v,ht,rfl,rfl,z1,z2⟩:=z
    exact hs i u v t ys σ' _ hlt (z1 xs q.1) (z2 zs q.2) hy p ht
  · have e:i=xs.length:=by omega
    subst e
    exact .inl ⟨⟨xs,zs,q.1,q.2,.inl (Nat.le_refl _)⟩,hd ys σ' H' hy p⟩
theorem Zjn {K:PySem.W.Frag} {a:Addr} {xs:List V} {g:TG} {tb:TS} {D:Ends} {σ:St} {H:Hp} (Pv:Nat→St→Hp→Prop) (h0:Pv 0 σ H) (hl:∀ i σ H,i≤xs.length→Pv i σ H→SqL K H a xs)
    (hs:∀ i x t σ H,xs[i]?=some x→Pv i σ H→H t=none→g (.ref t) σ (upd H t (.tup [.int i,x])) fun σ2 H2=>tb { D with nx:=Pv (i+1),ct:=Pv (i+1),bk:=D.nx } σ2 H2) (hd:∀ σ H,Pv xs.length σ H→D.nx σ H) :
    ∃ W:Nat→Nat→St→Hp→Prop,(∃ m,W 0 m σ H)∧∀ i m σ H,W i m σ H →
      ((Ite K a).stop i H∧D.nx σ H)∨((Ite K a).go i H∧∃ N:St→Hp→Prop,(∀ σ' H',N σ' H'→∃ m',m'<m∧W (i+1) m' σ' H')∧∀ x H',(Ite K a).yld i H x H'→g x σ H' fun σ2 H2=>tb { D with nx:=N,ct:=N,bk:=D.nx } σ2 H2):=by
  refine ⟨fun i m σ H=>m=xs.length - i∧i≤xs.length∧Pv i σ H,⟨xs.length,by simp,Nat.zero_le _,h0⟩,?_⟩
  rintro i m σ H ⟨rfl,hi,p⟩
  have q:=hl i σ H hi p
  by_cases hlt:i<xs.length
  · refine .inr ⟨⟨xs,xs[i],q,by simp [hlt]⟩,Pv (i+1),fun σ' H' p'=>⟨xs.length - (i+1),by omega,rfl,hlt,p'⟩,fun x H' y=>?_⟩
    obtain ⟨t,u,ht,rfl,rfl,y⟩:=y
    exact hs i u t σ _ (y xs q) p ht
  · have e:i=xs.length:=by omega
    subst e
    exact .inl ⟨⟨xs,q,rfl⟩,hd σ H p⟩
theorem atI0 {α:Type} {x:α} {xs:List α}:atI (x :: xs) 0=some x:=ZaQ (j:=0) rfl
theorem atI1 {α:Type} {x y:α} {xs:List α}:atI (x :: y :: xs) 1=some y:=ZaQ (j:=1) rfl
theorem atI2 {α:Type} {x y z:α} {xs:List α}:atI (x :: y :: z :: xs) 2=some z:=ZaQ (j:=2) rfl
theorem atI3 {α:Type} {x y z u:α} {xs:List α}:atI (x :: y :: z :: u :: xs) 3=some u:=ZaQ (j:=3) rfl
theorem Zbn {p A B:Prop} [Decidable p] (h1:p→A) (h2:¬ p→B):if decide p=true then A else B:=by
  by_cases h:p
  · rw [if_pos (decide_eq_true h)]; exact h1 h
  · rw [if_neg (by rw [decide_eq_false h]; exact Bool.false_ne_true)]; exact h2 h
end L2
set_option Elab.async false
set_option linter.all false
set_option maxRecDepth 100000
set_option maxHeartbeats 4000000
namespace HT
open PySem PySem.Spec PyProof.Rows
end HT
namespace L2
open PySem PySem.Spec PyProof.Rows
def NS:PySem.Expr→Prop
  | .Starred _ _=>False
  | _=>True
theorem Zcq {e:PySem.Expr} {es:List PySem.Expr} {env:Env} (h:NS e):starEach (e :: es) env=(false,eval e env) :: starEach es env:=by
  cases e <;> first | rfl | exact h.elim
def NSs:List PySem.Expr→Prop
  | []=>True
  | e :: es=>NS e∧NSs es
theorem Zda {pos:Pos} {env:Env}:∀ {es:List PySem.Expr},NSs es→(backTo pos (starEach es env)).any (·.1)=false
  | [],_=>rfl
  | e :: es,h=>by
    rw [Zcq h.1]
    have ih:=Zda (pos:=pos) (env:=env) h.2
    simp only [backTo] at ih ⊢
    simpa using ih
section
variable {X:Cx} {x:Str} {p pos:Pos} {e:PySem.Expr} {es:List PySem.Expr} {te:TE} {t:TA} {k:Nat} {ps:List Str} {sp:Sp} {id T:String} {r:List V→Hp→VK→Prop}
theorem pc (ha:PE X e te) (hr:PA X es t) (hn:NS e:=by exact True.intro):PA X (e :: es) (tCons te t):=ZnG ha hr (Zcq hn)
theorem Zp (D:Def X.prog X.w X.K X.mg X.base x k ps sp) (hr:Room k X.A) (hg:Gl X x) (ha:PA X (e :: es) t) (hn:NSs (e :: es):=by repeat' (first | exact True.intro | refine ⟨?_,?_⟩)) (hd:(x == ("__debug__" : Str))=false:=by decide) :
    PE X (.Call (.Name x p) (e :: es) [] pos) (tCall sp [] E0 t):=ZoG D hr hg ha (Zcq hn.1) (Zda hn.2) hd
theorem Zq (hc:CallR X (.builtin id) r) (hg:Gl X x) (hm:X.mg x=none) (hv:bootBuiltins x=some (.builtin id)) (ha:PA X (e :: es) t) (hnn:NSs (e :: es):=by repeat' (first | exact True.intro | refine ⟨?_,?_⟩)) (hn:x ≠ "__name__" := by decide) (hdb:(x == ("__debug__" : Str))=false:=by decide) :
    PE X (.Call (.Name x p) (e :: es) [] pos) (tCB r t):=Zmw hc hg hm hv ha hn hdb (Zcq hnn.1) (Zda hnn.2)
theorem ZN (hc:CallR X (.type T) r) (hg:Gl X x) (hm:X.mg x=none) (hv:bootBuiltins x=some (.type T)) (ha:PA X (e :: es) t) (hnn:NSs (e :: es):=by repeat' (first | exact True.intro | refine ⟨?_,?_⟩)) (hn:x ≠ "__name__" := by decide) (hdb:(x == ("__debug__" : Str))=false:=by decide) :
    PE X (.Call (.Name x p) (e :: es) [] pos) (tCB r t):=ZkL hc hg hm hv ha hn hdb (Zcq hnn.1) (Zda hnn.2)
end
end L2
set_option Elab.async false
set_option linter.all false
set_option maxRecDepth 100000
set_option maxHeartbeats 4000000
namespace L2
open PySem PySem.Spec PyProof.Rows
theorem Zjo {K:PySem.W.Frag} {a:Addr} {xs:List V} {l:Addr} {g:TG} {tc:TT} {te:TE} {σ0:St} {H0:Hp} {Qf:Hp→Prop} (Pv:Nat→List V→St→Hp→Prop) (h0:Pv 0 [] σ0 H0)
    (hl:∀ i ys σ' H',i≤xs.length→Pv i ys σ' H'→SqT K H' a xs)
    (hs:∀ i x ys σ' H',i<xs.length→xs[i]?=some x→ys.length≤i→Pv i ys σ' H'→g x σ' H' fun σ2 H3=>tc σ2 H3 fun b H4=>if b=true then te σ2 H4 fun y H5=>CNx xs.length l Pv i ys σ2 y H5 else CNo xs.length Pv i ys σ2 H4)
    (hd:∀ ys σ' H',ys.length≤xs.length→Pv xs.length ys σ' H'→Qf H') :
    ∃ W:Nat→Nat→List V→St→Hp→Prop,(∃ m,W 0 m [] σ0 H0)∧∀ i m ys σ' H',W i m ys σ' H' →
    ((Itt K a).stop i H'∧Qf H')∨((Itt K a).go i H'∧∀ x H2,(Itt K a).yld i H' x H2→g x σ' H2 fun σ2 H3=>tc σ2 H3 fun b H4 =>
      if b=true then te σ2 H4 fun y H5=>H5 l=some (.lst ys)∧ys.length<sizeLine∧∃ m',m'<m∧W (i+1) m' (ys++[y]) σ2 (upd H5 l (.lst (ys++[y])))
      else ∃ m',m'<m∧W (i+1) m' ys σ2 H4):=by
  refine ⟨fun i m ys σ' H'=>m=xs.length - i∧i≤xs.length∧ys.length≤i∧Pv i ys σ' H',⟨xs.length,rfl,Nat.zero_le _,Nat.le_refl _,h0⟩,?_⟩
  rintro i m ys σ' H' ⟨rfl,hi,hy,p⟩
  have q:=hl i ys σ' H' hi p
  by_cases hlt:i<xs.length
  · refine .inr ⟨⟨xs,xs[i],q,by simp [hlt]⟩,fun x H2 z=>?_⟩
    obtain ⟨rfl,z⟩:=z
    exact hs i x ys σ' _ hlt (z xs q) hy p
  · have e:i=xs.length:=by omega
    subst e
    exact .inl ⟨⟨xs,q,Nat.le_refl _⟩,hd ys σ' H' hy p⟩
end L2
set_option Elab.async false
set_option linter.all false
set_option maxRecDepth 100000
set_option maxHeartbeats 4000000
namespace L2
open PySem PySem.Spec PyProof.Rows
section
variable {X:Cx} {K:PySem.W.Frag}
theorem Zt (hK:X.K=K):IxR X (rIxL K):=hK ▸ ZnN
theorem ZbK (hK:X.K=K):IxR X (rIxT K):=hK ▸ ZoD
theorem Zjp (hK:X.K=K):SlR X (rSlL K):=hK ▸ ZnO
theorem Zdp (hK:X.K=K):OpR X (compareOp .NotIn) (rIn K true):=hK ▸ Zhh
theorem Zy (hK:X.K=K):CallR X (.builtin "len") (fun xs H Q=>∃ p ys,xs=[.ref p]∧(SqL K H p ys∨SqT K H p ys)∧Q (.int ys.length) H):=hK ▸ Zhi
theorem ZZ (hK:X.K=K):CallR X (.type "list") (fun xs H Q=>∃ p ys,xs=[.ref p]∧(SqL K H p ys∨SqT K H p ys)∧∀ l,H l=none→Q (.ref l) (upd H l (.lst ys))):=hK ▸ Zhj
theorem ZcV (hK:X.K=K):CallR X (.type "tuple") (fun xs H Q=>∃ p ys,xs=[.ref p]∧((SqL K H p ys∧∀ l,H l=none→Q (.ref l) (upd H l (.tup ys)))∨(SqT K H p ys∧Q (.ref p) H))):=hK ▸ Zgc
end
end L2
set_option Elab.async false
set_option linter.all false
set_option maxRecDepth 100000
set_option maxHeartbeats 4000000
namespace L2
open PySem PySem.Spec PyProof.Rows
end L2
set_option Elab.async false
set_option linter.all false
set_option maxRecDepth 100000
set_option maxHeartbeats 4000000
namespace HT
open PySem PyProof.Rows
section
open PySem.SeqAt
open PySem.AutoSeq1 (wpAny_loadPart')
open PySem.MeetsSeq PySem.MeetsSeq2 PySem.MeetsSeq3
end
end HT
namespace L2
open PySem PySem.Spec PyProof.Rows
theorem Znm {h:Heap} {a:Addr} {us:Array Value} (x:IsTup h a us):a<h.objs.size:=by
  obtain ⟨o,ho,_⟩:=x
  exact Heap.lt_size ho
end L2
namespace L2
open PySem PySem.Spec PyProof.Rows
section
variable {X:Cx}
def ZnR:V→List V→Hp→VK→Prop:=fun x vs H Q=>∃ (l:Addr) (ns:List Int) (k:Int),x=.ref l∧vs=[.int k]∧H l=some (.lst (ns.map V.int))∧k∈ns∧Q .non (upd H l (.lst ((ns.erase k).map V.int)))
theorem Zjq (k:Int):∀ (ns:List Int),k∈ns→∃ j,ns[j]?=some k∧(∀ m z,m<j→ns[m]?=some z→z≠k)∧ns.erase k=ns.eraseIdx j
  | [],h=>nomatch h
  | x :: ns,h=>by
    by_cases hx:x=k
    · subst hx
      exact ⟨0,rfl,fun m z hm=>absurd hm (Nat.not_lt_zero _),by rw [List.erase_cons_head,List.eraseIdx_cons_zero]⟩
    · have hm:k∈ns:=by
        rcases List.mem_cons.mp h with e | e
        · exact absurd e.symm hx
        · exact e
      obtain ⟨j,h1,h2,h3⟩:=Zjq k ns hm
      refine ⟨j+1,by simpa using h1,fun m z hm hz=>?_,?_⟩
      · cases m with
        | zero =>
          have e:x=z:=by simpa using hz
          rw [← e]; exact hx
        | succ m=>exact h2 m z (by omega) (by simpa using hz)
      · rw [List.erase_cons_tail (by simpa using hx),h3,List.eraseIdx_cons_succ]
theorem Zka {xs:List V} {us:List Value}:∀ (j:Nat),Vals xs us→Vals (xs.eraseIdx j) (us.eraseIdx j):=by
  intro j r
  induction r generalizing j with
  | nil=>exact .nil
  | cons h t ih =>
    cases j with
    | zero=>exact t
    | succ j=>exact .cons h (ih j)
theorem Zhs:MtM X "list.remove" ZnR:=by
  intro pins s σ H x vs v us Q I rx rv h
  obtain ⟨l,ns,k,rfl,rfl,hH,hk,q⟩:=h
  cases rx
  obtain ⟨u,rfl,ru⟩:=rv.one
  obtain ⟨tk,rfl⟩:=ru
  obtain ⟨z,its,n,r,hl,e⟩:=I.lstM hH
  rw [List.length_map] at hl z
  obtain ⟨j,h1,h2,h3⟩:=Zjq k ns hk
  have get:∀ (m:Nat) (hm:m<its.toArray.size),∃ (i:Int) (t:Tok),ns[m]?=some i∧its.toArray[m]=.int i t:=fun m hm=>by
    have hm':m<ns.length:=by rw [hl]; simpa using hm
    obtain ⟨w,hw,rw'⟩:=r.get (i:=m) (x:=.int ns[m]) (by rw [List.getElem?_map,List.getElem?_eq_getElem hm']; rfl)
    obtain ⟨t,rfl⟩:=rw'
    refine ⟨ns[m],t,List.getElem?_eq_getElem hm',?_⟩
    have:its[m]?=some its[m]:=List.getElem?_eq_getElem (by simpa using hm)
    rw [hw] at this
    simpa using (Option.some.inj this).symm
  have hj:j<its.toArray.size:=by
    have:=(List.getElem?_eq_some_iff.mp h1).1
    rw [hl] at this; simpa using this
  refine call_meets F.slot_list_remove ⟨_,e,rfl⟩ F.entry_list_remove (F.args_list_remove_2 _ _) (MeetsSeq.list_remove l its.toArray n (.int k tk) (fun y=>match y with | .int i _=>i == k | _=>false) (fun y hy=>?_) j hj ?_ (fun m hm hmj=>?_) (by rw [List.size_toArray,← hl]; exact z)) ⟨e,?_⟩
  · obtain ⟨m,hm,rfl⟩:=Array.getElem_of_mem hy
    obtain ⟨i,t,_,e2⟩:=get m hm
    rw [e2]
    exact MeetsSeq.EqGives.int i k t tk
  · obtain ⟨i,t,e1,e2⟩:=get j hj
    rw [h1] at e1; cases e1
    rw [e2]
    simp
  · obtain ⟨i,t,e1,e2⟩:=get m hm
    rw [e2]
    simpa using h2 m i hmj e1
  · refine ⟨.non,_,I.lset (its':=its.eraseIdx j) (ys:=(ns.erase k).map V.int) hH e ?_ ?_ ?_,rfl,q⟩
    · rw [List.eraseIdxIfInBounds_toArray]
    · rw [h3]
      have em:∀ (xs:List Int) (i:Nat),(xs.eraseIdx i).map V.int=(xs.map V.int).eraseIdx i:=fun xs=>by
        induction xs with
        | nil=>intro i; rfl
        | cons y xs ih=>intro i; cases i with
          | zero=>rfl
          | succ i=>rw [List.eraseIdx_cons_succ,List.map_cons,List.map_cons,List.eraseIdx_cons_succ,ih]
      rw [em]
      exact Zka j r
    · rw [List.length_map]
      exact Nat.le_trans List.length_erase_le z
end
end L2
set_option Elab.async false
set_option linter.all false
set_option maxRecDepth 100000
set_option maxHeartbeats 4000000
namespace L2
open PySem PySem.Spec PyProof.Rows
section
variable {κ:Type} [DecidableEq κ]
def valV (kvs:List (κ×V)) (k:κ):Option V:=(kvs.find? fun kv=>decide (kv.1=k)).map (·.2)
def putK (kvs:List (κ×V)) (k:κ) (v:V):List (κ×V) :=
  if (kvs.any fun kv=>decide (kv.1=k))=true then kvs.map (fun kv=>if kv.1=k then (kv.1,v) else kv) else kvs++[(k,v)]
def dropK (kvs:List (κ×V)) (k:κ):List (κ×V):=kvs.filter fun kv=>decide (kv.1≠k)
theorem ZaH {p:κ×V} {r:List (κ×V)} {k:κ} (e:p.1=k):valV (p :: r) k=some p.2:=by simp [valV,List.find?_cons,e]
theorem Zaz {p:κ×V} {r:List (κ×V)} {k:κ} (e:¬ p.1=k):valV (p :: r) k=valV r k:=by simp [valV,List.find?_cons,e]
theorem Zdq (k:κ):∀ kvs:List (κ×V),(kvs.any fun kv=>decide (kv.1=k))=(valV kvs k).isSome
  | []=>rfl
  | p :: r=>by
    rw [List.any_cons]
    by_cases e:p.1=k
    · simp only [ZaH e,decide_eq_true e,Bool.true_or,Option.isSome_some]
    · rw [Zaz e,decide_eq_false e,Bool.false_or]; exact Zdq k r
theorem Zjr (k j:κ) (y:V):∀ kvs:List (κ×V),valV (kvs.map fun kv=>if kv.1=k then (kv.1,y) else kv) j=(valV kvs j).map fun x=>if j=k then y else x
  | []=>rfl
  | p :: r=>by
    have ih:=Zjr k j y r
    rw [List.map_cons]
    by_cases h:p.1=k
    · rw [if_pos h]
      by_cases e:p.1=j
      · rw [ZaH (p:=(p.1,y)) e,ZaH e,Option.map_some,if_pos (e.symm.trans h)]
      · rw [Zaz (p:=(p.1,y)) e,Zaz e,ih]
    · rw [if_neg h]
      by_cases e:p.1=j
      · rw [ZaH (p:=p) e,ZaH e,Option.map_some,if_neg (fun z=>h (e.trans z))]
      · rw [Zaz (p:=p) e,Zaz e,ih]
theorem Zht (k j:κ) (y:V):∀ kvs:List (κ×V),valV kvs k=none→valV (kvs++[(k,y)]) j=if j=k then some y else valV kvs j
  | [],_=>by
    by_cases e:k=j
    · rw [if_pos e.symm]; exact ZaH (p:=(k,y)) e
    · rw [if_neg (fun z=>e z.symm)]; exact Zaz (p:=(k,y)) e
  | p :: r,hn=>by
    rw [List.cons_append]
    have hk:¬ p.1=k:=fun z=>by rw [ZaH z] at hn; cases hn
    rw [Zaz hk] at hn
    have ih:=Zht k j y r hn
    by_cases e:p.1=j
    · rw [ZaH e,ZaH e,if_neg (fun z=>hk (e.trans z))]
    · rw [Zaz e,Zaz e,ih]
theorem Zer (kvs:List (κ×V)) (k j:κ) (y:V):valV (putK kvs k y) j=if j=k then some y else valV kvs j:=by
  unfold putK
  by_cases a:(kvs.any fun kv=>decide (kv.1=k))=true
  · rw [if_pos a,Zjr]
    rw [Zdq] at a
    by_cases e:j=k
    · obtain ⟨x,hx⟩:=Option.isSome_iff_exists.mp a
      rw [if_pos e,e,hx,Option.map_some,if_pos rfl]
    · rw [if_neg e]
      cases valV kvs j with
      | none=>rfl
      | some x=>rw [Option.map_some,if_neg e]
  · rw [if_neg a]
    refine Zht k j y kvs ?_
    rw [Zdq] at a
    cases q:valV kvs k with
    | none=>rfl
    | some x=>rw [q] at a; exact (a rfl).elim
theorem ZcC (kvs:List (κ×V)) (k:κ) (v:V):(putK kvs k v).length≤kvs.length+1:=by
  unfold putK
  split
  · rw [List.length_map]; omega
  · rw [List.length_append,List.length_cons,List.length_nil]; omega
theorem RelO.isSome_eq {o:Option V} {u:Option Value} (r:RelO o u):o.isSome=u.isSome:=by
  cases o with
  | none=>cases u with
    | none=>rfl
    | some _=>exact (show False from r).elim
  | some _=>cases u with
    | none=>exact (show False from r).elim
    | some _=>rfl
theorem RelO.getD {o:Option V} {u:Option Value} {d:V} {d':Value} (r:RelO o u) (rd:RelV d d'):RelV (o.getD d) (u.getD d'):=by
  cases o with
  | none=>cases u with
    | none=>exact rd
    | some _=>exact (show False from r).elim
  | some _=>cases u with
    | none=>exact (show False from r).elim
    | some _=>exact r
theorem KV.val {kvs:List (κ×V)} {vs:List (κ×Value)} (r:KV kvs vs) (k:κ):RelO (valV kvs k) (valueAt vs k):=by
  unfold KV at r
  induction r with
  | nil=>exact True.intro
  | @cons p q ps qs h t ih =>
    obtain ⟨h1,h2⟩:=h
    by_cases e:p.1=k
    · have e':q.1=k:=h1.symm.trans e
      have b:valueAt (q :: qs) k=some q.2:=by simp [valueAt,List.find?_cons,e']
      rw [ZaH e,b]; exact h2
    · have e':¬ q.1=k:=fun z=>e (h1.trans z)
      have b:valueAt (q :: qs) k=valueAt qs k:=by simp [valueAt,List.find?_cons,e']
      rw [Zaz e,b]; exact ih
theorem KV.any {kvs:List (κ×V)} {vs:List (κ×Value)} (r:KV kvs vs) (k:κ):(kvs.any fun kv=>decide (kv.1=k))=vs.any fun kv=>decide (kv.1=k):=by
  unfold KV at r
  induction r with
  | nil=>rfl
  | cons h t ih=>rw [List.any_cons,List.any_cons,ih,h.1]
theorem KV.repl {kvs:List (κ×V)} {vs:List (κ×Value)} (r:KV kvs vs) (k:κ) {y:V} {u:Value} (ry:RelV y u) :
    KV (kvs.map fun kv=>if kv.1=k then (kv.1,y) else kv) (vs.map fun kv=>if kv.1=k then (kv.1,u) else kv):=by
  unfold KV at r ⊢
  induction r with
  | nil=>exact .nil
  | @cons p q ps qs h t ih =>
    rw [List.map_cons,List.map_cons]
    refine .cons ?_ ih
    obtain ⟨h1,h2⟩:=h
    by_cases e:p.1=k
    · rw [if_pos e,if_pos (h1.symm.trans e)]; exact ⟨h1,ry⟩
    · rw [if_neg e,if_neg (fun z=>e (h1.trans z))]; exact ⟨h1,h2⟩
theorem KV.put {kvs:List (κ×V)} {vs:List (κ×Value)} (r:KV kvs vs) (k:κ) {y:V} {u:Value} (ry:RelV y u):KV (putK kvs k y) (stored vs k u):=by
  unfold putK stored
  rw [r.any k]
  by_cases e:(vs.any fun kv=>decide (kv.1=k))=true
  · rw [if_pos e,if_pos e]; exact r.repl k ry
  · rw [if_neg e,if_neg e]; exact Paired.snoc r ⟨rfl,ry⟩
theorem KV.drop {kvs:List (κ×V)} {vs:List (κ×Value)} (r:KV kvs vs) (k:κ):KV (dropK kvs k) (without vs k):=by
  unfold KV at r ⊢
  unfold dropK without
  induction r with
  | nil=>exact .nil
  | @cons p q ps qs h t ih =>
    obtain ⟨h1,h2⟩:=h
    rw [List.filter_cons,List.filter_cons]
    by_cases e:p.1=k
    · have a:¬ decide (p.1≠k)=true:=by simp [e]
      have b:¬ decide (q.1≠k)=true:=by simp [h1.symm.trans e]
      rw [if_neg a,if_neg b]; exact ih
    · have e':¬ q.1=k:=fun z=>e (h1.trans z)
      have a:decide (p.1≠k)=true:=by simp [e]
      have b:decide (q.1≠k)=true:=by simp [e']
      rw [if_pos a,if_pos b]; exact .cons ⟨h1,h2⟩ ih
theorem KV.length {kvs:List (κ×V)} {vs:List (κ×Value)} (r:KV kvs vs):kvs.length=vs.length:=Paired.length r
theorem ZmB (kvs:List (κ×V)) (k:κ):(dropK kvs k).length≤kvs.length:=List.length_filter_le _ _
end
theorem kV_is {P:Program} {w:World} {k:Key} {u:Value} (r:RelV (kV k) u):(ZaA P w).is k u=true:=by
  cases k with
  | inl i=>obtain ⟨t,e⟩:=(show ∃ t,u=Value.int i t from r); subst e; exact Zic P w i t
  | inr x=>obtain ⟨t,e⟩:=(show ∃ t,u=Value.str x t from r); subst e; exact Zid P w x t
theorem Zhu {P:Program} {w:World}:∀ {ks:List Key} {us:List Value},Vals (ks.map kV) us→ItemsAre (ZaA P w) ks us
  | [],_,r=>by rw [List.map_nil] at r; cases r; exact .nil
  | k :: ks,_,r=>by
    rw [List.map_cons] at r
    cases r with
    | cons h t=>exact .cons (kV_is h) (Zhu t)
abbrev KT (H:Hp):List (List Key×V)→List (List Key×Addr×Value)→Prop:=Paired fun p q=>p.1=q.1∧H q.2.1=some (.tup (p.1.map kV))∧RelV p.2 q.2.2
theorem KT.val {H:Hp} {kvs:List (List Key×V)} {xs:List (List Key×Addr×Value)} (r:KT H kvs xs) (k:List Key):RelO (valV kvs k) ((atKey xs k).map (·.2)):=by
  induction r with
  | nil=>exact True.intro
  | @cons p q ps qs h t ih =>
    obtain ⟨h1,_,h2⟩:=h
    by_cases e:p.1=k
    · have e':q.1=k:=h1.symm.trans e
      have b:atKey (q :: qs) k=some q.2:=by simp [atKey,List.find?_cons,e']
      rw [ZaH e,b]; exact h2
    · have e':¬ q.1=k:=fun z=>e (h1.trans z)
      have b:atKey (q :: qs) k=atKey qs k:=by simp [atKey,List.find?_cons,e']
      rw [Zaz e,b]; exact ih
theorem KT.repl {H:Hp} {kvs:List (List Key×V)} {xs:List (List Key×Addr×Value)} (r:KT H kvs xs) (k:List Key) {y:V} {u:Value} (ry:RelV y u) :
    KT H (kvs.map fun kv=>if kv.1=k then (kv.1,y) else kv) (xs.map (putAt k u)):=by
  induction r with
  | nil=>exact .nil
  | @cons p q ps qs h t ih =>
    rw [List.map_cons,List.map_cons]
    refine .cons ?_ ih
    obtain ⟨h1,h2,h3⟩:=h
    unfold putAt
    by_cases e:p.1=k
    · rw [if_pos e,if_pos (h1.symm.trans e)]; exact ⟨h1,h2,ry⟩
    · rw [if_neg e,if_neg (fun z=>e (h1.trans z))]; exact ⟨h1,h2,h3⟩
theorem KT.put {H:Hp} {kvs:List (List Key×V)} {xs:List (List Key×Addr×Value)} (r:KT H kvs xs) (k:List Key) {b:Addr} {y:V} {u:Value} (hb:H b=some (.tup (k.map kV))) (ry:RelV y u) :
    KT H (putK kvs k y) (storedH xs k b u):=by
  have e:(kvs.any fun kv=>decide (kv.1=k))=(atKey xs k).isSome:=by
    rw [Zdq,(r.val k).isSome_eq,Option.isSome_map]
  unfold putK storedH
  rw [e]
  by_cases q:(atKey xs k).isSome=true
  · rw [if_pos q,if_pos q]; exact r.repl k ry
  · rw [if_neg q,if_neg q]; exact Paired.snoc r ⟨rfl,hb,ry⟩
theorem KT.keeps {H H':Hp} {kvs:List (List Key×V)} {xs:List (List Key×Addr×Value)} (r:KT H kvs xs) (ht:∀ b ys,H b=some (.tup ys)→H' b=some (.tup ys)):KT H' kvs xs :=
  Paired.mapP r fun _ _ z=>⟨z.1,ht _ _ z.2.1,z.2.2⟩
section
variable {P:Program} {w:World} {H:Hp} {h:Heap} {a:Addr}
theorem rd_of {u:HO} (ok:HOk P w H h) (e:Rd H a u):ObjOk P w H h a u:=e.ok ok
theorem dk_rd {kvs:List (Key×V)} (ok:HOk P w H h) (e:Rd H a (.dK kvs)):kvs.length≤sizeLine∧(a == sysModules)=false∧∃ vs,KV kvs vs∧h.DictOf (ZaA P w) a vs :=
  show ObjOk P w H h a (.dK kvs) from rd_of ok e
theorem dk_of {kvs:List (Key×V)} (ok:HOk P w H h) (e:H a=some (.dK kvs)):kvs.length≤sizeLine∧(a == sysModules)=false∧∃ vs,KV kvs vs∧h.DictOf (ZaA P w) a vs:=dk_rd ok (.inl e)
theorem Zhv {ks:List Key} (ok:HOk P w H h) (e:H a=some (.tup (ks.map kV))):(tupleKind (ZaA P w)).is h ks a:=by
  obtain ⟨_,its,r,o,h1,h2,n,h3⟩:=(show ObjOk P w H h a (.tup (ks.map kV)) from ok a _ e)
  exact ⟨o,its.toArray,n,h1,h2,h3,by simpa using Zhu r⟩
theorem dt_rd {kvs:List (List Key×V)} (ok:HOk P w H h) (e:Rd H a (.dT kvs)):kvs.length≤sizeLine∧(a == sysModules)=false ∧
    ∃ xs,KT H kvs xs∧h.DictOfH (tupleKind (ZaA P w)) a xs:=by
  obtain ⟨z,y,xs,r,o,es,ep,h1,h2,h3,h4,h5⟩:=(show ObjOk P w H h a (.dT kvs) from rd_of ok e)
  refine ⟨z,y,xs,r,o,es,ep,h1,h2,h3,h4,fun x hx=>?_,h5⟩
  have all:∀ {l:List (List Key×V)} {m:List (List Key×Addr×Value)},KT H l m→∀ x∈m,(tupleKind (ZaA P w)).is h x.1 x.2.1:=by
    intro l m q
    induction q with
    | nil=>intro x hx; exact nomatch hx
    | @cons p q ps qs hq t ih =>
      intro x hx
      rcases List.mem_cons.mp hx with e | hx
      · subst e
        exact Zhv ok (by rw [← hq.1]; exact hq.2.1)
      · exact ih x hx
  exact all r x hx
theorem dt_of {kvs:List (List Key×V)} (ok:HOk P w H h) (e:H a=some (.dT kvs)):kvs.length≤sizeLine∧(a == sysModules)=false ∧
    ∃ xs,KT H kvs xs∧h.DictOfH (tupleKind (ZaA P w)) a xs:=dt_rd ok (.inl e)
end
def DGet (H:Hp) (a:Addr) (y:V) (r:Option V):Prop :=
  (∃ kvs k,Rd H a (.dK kvs)∧y=kV k∧r=valV kvs k)∨∃ kvs k b,Rd H a (.dT kvs)∧y=.ref b∧H b=some (.tup (k.map kV))∧r=valV kvs k
def DPut (H:Hp) (a:Addr) (y v:V) (H':Hp):Prop :=
  (∃ kvs k,H a=some (.dK kvs)∧y=kV k∧kvs.length<sizeLine∧H'=upd H a (.dK (putK kvs k v))) ∨
  ∃ kvs k b,H a=some (.dT kvs)∧y=.ref b∧H b=some (.tup (k.map kV))∧kvs.length<sizeLine∧H'=upd H a (.dT (putK kvs k v))
theorem DGet.k {H:Hp} {a:Addr} {kvs:List (Key×V)} {k:Key} (e:H a=some (.dK kvs)):DGet H a (kV k) (valV kvs k):=.inl ⟨kvs,k,.inl e,rfl,rfl⟩
theorem DPut.k {H:Hp} {a:Addr} {kvs:List (Key×V)} {k:Key} {v:V} (e:H a=some (.dK kvs)) (hl:kvs.length<sizeLine):DPut H a (kV k) v (upd H a (.dK (putK kvs k v))):=.inl ⟨kvs,k,e,rfl,hl,rfl⟩
section
variable {X:Cx} {pins:List (Addr×Obj)} {σ:St} {H:Hp} {s:Shared} {a:Addr} {y v:V} {u r:Value} {o:Option V} {A:Around} {E:Value→Shared→Prop}
theorem Inv.big (I:Inv X pins σ H s):sysModules<s.heap.objs.size:=by
  have h:mainGlobals<s.heap.objs.size:=(I.mod.glob.keeps I.bk).lt
  exact Nat.lt_trans (by decide) h
theorem Zhw {Q:Value→Shared→Prop} (hu:A.units+1<cLine) (I:Inv X pins σ H s) (g:DGet H a y (some v)) (ry:RelV y u) (h:∀ w' s',Inv X pins σ H s'→RelV v w'→Q w' s') :
    wpAny (model X.prog X.w) A (getItem (.ref a) u) Q E s:=by
  rcases g with ⟨kvs,k,e,ey,l⟩ | ⟨kvs,k,b,e,ey,eb,l⟩
  · subst ey
    obtain ⟨z,hd,vs,rel,dd⟩:=dk_rd I.hok e
    obtain ⟨w',hw,rw'⟩:=RelO.some_of (v:=v) (o:=valueAt vs k) (by rw [l]; exact rel.val k)
    exact wpAny_getItem_of (kV_is ry) dd.mapOf hw (h w' _ (I.tok _) rw')
  · subst ey
    cases (show u=Value.ref b from ry)
    obtain ⟨z,hd,xs,rel,dd⟩:=dt_rd I.hok e
    obtain ⟨w',hw,rw'⟩:=RelO.some_of (v:=v) (o:=(atKey xs k).map (·.2)) (by rw [l]; exact rel.val k)
    obtain ⟨p,hp,hp2⟩:=Option.map_eq_some_iff.mp hw
    refine wpAny_getItem_heap (tupleKind_room_in1 hu) (Zhv I.hok eb) dd hp ?_
    rw [hp2]
    exact h w' _ (I.tok _) rw'
theorem d_in {Q:Value→Shared→Prop} (hu:A.units+1<cLine) (I:Inv X pins σ H s) (g:DGet H a y o) (ry:RelV y u) (h:∀ s',Inv X pins σ H s'→Q (.bool o.isSome) s') :
    wpAny (model X.prog X.w) A (compareOp .In u (.ref a)) Q E s:=by
  rcases g with ⟨kvs,k,e,ey,l⟩ | ⟨kvs,k,b,e,ey,eb,l⟩
  · subst ey
    obtain ⟨z,hd,vs,rel,dd⟩:=dk_rd I.hok e
    refine wpAny_in_of (kV_is ry) hd dd.mapOf ?_
    rw [← (rel.val k).isSome_eq,← l]
    exact h _ (I.tok _)
  · subst ey
    cases (show u=Value.ref b from ry)
    obtain ⟨z,hd,xs,rel,dd⟩:=dt_rd I.hok e
    refine wpAny_in_heap (tupleKind_room_in1 hu) (Zhv I.hok eb) hd dd ?_
    have q:=(rel.val k).isSome_eq
    rw [Option.isSome_map] at q
    rw [← q,← l]
    exact h _ (I.tok _)
theorem Zim {h':Heap} {t':Nat} {ob:HO} (I:Inv X pins σ H s) (mu:Mut (H a)) (hs:Heap.SameBut a s.heap h') (he:∃ q,h'.get? a=some q) (new:ObjOk X.prog X.w (upd H a ob) h' a ob) :
    Inv X pins σ (upd H a ob) { s with heap:=h',toks:=t' } :=
  I.write (x:=a) (e:=a) mu (.inl rfl) (fun b q hb z=>(hs.2 b hb).trans z) he new
theorem Znn {P:Program} {w:World} {H':Hp} {h':Heap} {kvs:List (Key×V)} {vs:List (Key×Value)} (z:kvs.length≤sizeLine) (hd:(a == sysModules)=false) (rel:KV kvs vs) (dd:h'.DictOf (ZaA P w) a vs) :
    ObjOk P w H' h' a (.dK kvs):=⟨z,hd,vs,rel,dd⟩
theorem Zhx {H':Hp} {Q:Unit→Shared→Prop} (hu:A.units+1<cLine) (I:Inv X pins σ H s) (g:DPut H a y v H') (ry:RelV y u) (rv:RelV v r) (h:∀ s',Inv X pins σ H' s'→Q () s') :
    wpAny (model X.prog X.w) A (setItem (.ref a) u r) Q E s:=by
  rcases g with ⟨kvs,k,e,ey,l,eH⟩ | ⟨kvs,k,b,e,ey,eb,l,eH⟩
  · subst ey eH
    obtain ⟨z,hd,vs,rel,dd⟩:=dk_of I.hok e
    have hz:vs.length≤sizeLine:=by rw [← rel.length]; exact z
    have hl:(putK kvs k v).length≤sizeLine:=by have:=ZcC kvs k v; omega
    refine wpAny_setItem_pairs (hsz:=hz) (kV_is ry) dd fun h' dd' hs=>h _ ?_
    have he:∃ q,h'.get? a=some q:=let ⟨q,_,_,hq,_⟩:=dd'; ⟨q,hq⟩
    exact Zim I (by rw [e]; exact True.intro) hs he (Znn hl hd (rel.put k rv) dd')
  · subst ey eH
    cases (show u=Value.ref b from ry)
    obtain ⟨z,hd,xs,rel,dd⟩:=dt_of I.hok e
    have hz:xs.length≤sizeLine:=by rw [← Paired.length rel]; exact z
    have hl:(putK kvs k v).length≤sizeLine:=by have:=ZcC kvs k v; omega
    refine wpAny_setItem_heap (hsz:=hz) (tupleKind_room_in1 hu) (Zhv I.hok eb) dd fun h' dd' hs=>h _ ?_
    obtain ⟨q,es,ep,hq,h2,h3,h4,_,h5⟩:=dd'
    refine Zim I (by rw [e]; exact True.intro) hs ⟨q,hq⟩ ⟨hl,hd,_,(rel.put k eb rv).keeps fun c ys ec=>?_,q,es,ep,hq,h2,h3,h4,h5⟩
    rw [Zb (ne_of ec e (fun z=>nomatch z))]
    exact ec
end
section
variable {X:Cx} {pins:List (Addr×Obj)} {σ:St} {H:Hp} {s:Shared} {a:Addr} {kvs:List (Key×V)} {k:Key} {u:Value} {A:Around} {E:Value→Shared→Prop}
theorem d_pop {v:V} {more:List Value} {Q:Value→Shared→Prop} (I:Inv X pins σ H s) (e:H a=some (.dK kvs)) (ry:RelV (kV k) u) (l:valV kvs k=some v) (hm:more=[]∨∃ x,more=[x])
    (h:∀ w' s',Inv X pins σ (upd H a (.dK (dropK kvs k))) s'→RelV v w'→Q w' s'):wpAny (model X.prog X.w) A (call (.builtin "dict.pop") (.ref a :: u :: more)) Q E s:=by
  obtain ⟨z,hd,vs,rel,dd⟩:=dk_of I.hok e
  obtain ⟨w',hw,rw'⟩:=RelO.some_of (v:=v) (o:=valueAt vs k) (by rw [← l]; exact rel.val k)
  have hp:(keyPart u).isSome=true:=by
    cases k with
    | inl i=>obtain ⟨t,q⟩:=(show ∃ t,u=Value.int i t from ry); subst q; rfl
    | inr x=>obtain ⟨t,q⟩:=(show ∃ t,u=Value.str x t from ry); subst q; rfl
  have ha:argsOk "dict.pop" ⟨.ref a :: u :: more,[]⟩:=by
    rcases hm with q | ⟨x,q⟩
    · subst q; exact PySem.F.args_dict_pop_2 _ _
    · subst q; exact PySem.F.args_dict_pop_3 _ _ _
  refine call_meetsIn PySem.F.slot_dict_pop dd.typeIs PySem.F.entry_dict_pop ha (meets_dict_pop_there (ZaA X.prog X.w) a (kV_is ry) more hm hp)
    ⟨vs,w',dd,by rw [← rel.length]; exact z,hw,fun h' dd' hs=>h w' _ ?_ rw'⟩
  have he:∃ q,h'.get? a=some q:=let ⟨q,_,_,hq,_⟩:=dd'; ⟨q,hq⟩
  exact Zim I (by rw [e]; exact True.intro) hs he (Znn (Nat.le_trans (ZmB kvs k) z) hd (rel.drop k) dd')
theorem ZoH {r:Value} {Q:Value→Shared→Prop} (I:Inv X pins σ H s) (e:H a=some (.dK kvs)) (ry:RelV (kV k) u) (l:valV kvs k=none) (h:∀ s',Inv X pins σ H s'→Q r s') :
    wpAny (model X.prog X.w) A (call (.builtin "dict.pop") [.ref a,u,r]) Q E s:=by
  obtain ⟨z,hd,vs,rel,dd⟩:=dk_of I.hok e
  have hn:valueAt vs k=none:=RelO.none_of (by rw [← l]; exact rel.val k)
  have hp:(keyPart u).isSome=true:=by
    cases k with
    | inl i=>obtain ⟨t,q⟩:=(show ∃ t,u=Value.int i t from ry); subst q; rfl
    | inr x=>obtain ⟨t,q⟩:=(show ∃ t,u=Value.str x t from ry); subst q; rfl
  exact call_meetsIn PySem.F.slot_dict_pop dd.typeIs PySem.F.entry_dict_pop (PySem.F.args_dict_pop_3 _ _ _) (meets_dict_pop_default (ZaA X.prog X.w) a (kV_is ry) hd hp r) ⟨vs,dd,hn,h _ (I.tok _)⟩
end
def NoSl (i:Expr):Prop:=∀ ov iv,subscripted i false ov iv=operate [ov,iv] (getItem ov iv)
theorem ZnS {prog:Program} {w:World} {A:Around} {E:Value→Shared→Prop} {s:Shared} {env:Env} {value slice:Expr} {pos:Pos} {T id:String} {Q:Value→Shared→Prop}
    (hl:typeLookup (.type T) "__getitem__" = pure (some (.builtin id))) (hs:NoSl slice)
    (h:wpAny (model prog w) A (eval value env) (fun o s₁=>wpAny (model prog w) A (eval slice env) (fun i s₂=>s₂.TypeIs o T∧wpAny (model prog w) A (getItem o i) Q E s₂) E s₁) E s) :
    wpAny (model prog w) A (eval (.Subscript value slice pos) env) Q E s:=by
  refine Subscript_ (wpAny_mono h (fun o s₁ h₁=>wpAny_mono h₁ (fun i s₂ h₂=>?_) fun _ _ x=>x) fun _ _ x=>x)
  obtain ⟨hT,h₂⟩:=h₂
  unfold subscriptTail
  refine wpAny_bind ?_
  rw [getitemInPython_of_ne hT.not_modules]
  refine wpAny_bind (wpAny_specialOf hT hl ?_)
  have fin:wpAny (model prog w) A (subscripted slice false o i) (fun r s₃=>wpAny (model prog w) A (letTemporaryGo value o r >>= fun _=>pure r) Q E s₃) E s₂:=by
    rw [hs o i]
    exact wpAny_operating (wpAny_mono h₂ (fun r s₃ h₃=>wpAny_bind (wpAny_letTemporaryGo (wpAny_pure h₃))) fun _ _ x=>x)
  first
    | exact wpAny_pure (wpAny_bind fin)
    | exact wpAny_bind (wpAny_pure (wpAny_bind fin))
    | exact wpAny_bind fin
theorem Zin {X:Cx} {pins:List (Addr×Obj)} {σ:St} {H:Hp} {s:Shared} {a:Addr} {y:V} {o:Option V} (I:Inv X pins σ H s) (g:DGet H a y o):s.TypeIs (.ref a) "dict" := by
  rcases g with ⟨kvs,k,e,_,_⟩ | ⟨kvs,k,b,e,_,_,_⟩
  · obtain ⟨_,_,vs,_,dd⟩:=dk_rd I.hok e
    exact dd.typeIs
  · obtain ⟨_,_,xs,_,dd⟩:=dt_rd I.hok e
    exact dd.typeIs
def tDGet (td ty:TE):TE:=fun σ H Q=>td σ H fun x H1=>ty σ H1 fun y H2=>∃ a v,x=.ref a∧DGet H2 a y (some v)∧Q v H2
def tDIn (ty td:TE):TE:=fun σ H Q=>ty σ H fun y H1=>td σ H1 fun x H2=>∃ a o,x=.ref a∧DGet H2 a y o∧Q (.bl o.isSome) H2
def sDPut (td ty tv:TE):TS:=fun D σ H=>tv σ H fun v H1=>td σ H1 fun x H2=>ty σ H2 fun y H3=>∃ a H4,x=.ref a∧DPut H3 a y v H4∧D.nx σ H4
def sDAug (td ty tv:TE) (rd:V→V→Hp→VK→Prop):TS:=fun D σ H=>td σ H fun x H1=>ty σ H1 fun y H2=>∃ a v,x=.ref a∧DGet H2 a y (some v) ∧
  tv σ H2 fun y2 H3=>rd v y2 H3 fun z H4=>∃ H5,DPut H4 a y z H5∧D.nx σ H5
section
variable {X:Cx} {o i e value:Expr} {pos pos' tpos:Pos} {td ty tv:TE}
theorem ZkX (hu:X.A.units+1<cLine) (ho:PE X o td) (hi:PE X i ty) (hs:NoSl i):PE X (.Subscript o i pos) (tDGet td ty):=by
  intro pins s σ H Q I h
  refine ZnS PySem.F.slot_dict_getitem.lookup hs (thn (ho pins s σ H _ I h) fun u s1 ⟨x,H1,I1,rx,q1⟩=>thn (hi pins s1 σ H1 _ I1 q1) fun iv s2 ⟨y,H2,I2,ry,a,v,ex,g,q2⟩=>?_)
  subst ex
  obtain rfl:u=Value.ref a:=rx
  exact ⟨Zin I2 g,Zhw hu I2 g ry fun w' s3 I3 rw'=>⟨v,H2,I3,rw',q2⟩⟩
theorem ZoI (hu:X.A.units+1<cLine) (hi:PE X i ty) (ho:PE X o td):PC X .In i o (tDIn ty td):=by
  intro pins s σ H Q I h
  refine thn (hi pins s σ H _ I h) fun iv s1 ⟨y,H1,I1,ry,q1⟩=>thn (ho pins s1 σ H1 _ I1 q1) fun u s2 ⟨x,H2,I2,rx,a,ov,ex,g,q2⟩=>?_
  subst ex
  obtain rfl:u=Value.ref a:=rx
  exact d_in hu I2 g ry fun s3 I3=>⟨.bl ov.isSome,H2,I3,rfl,q2⟩
theorem ZkY (hu:X.A.units+1<cLine) (ho:PE X o td) (hi:PE X i ty) (hv:PE X value tv) (hs:swapsWith value (some (.Subscript o i pos')) pos.line X.env=pure false) :
    PS X (.Assign [.Subscript o i pos'] value pos) (sDPut td ty tv):=by
  intro pins s σ H D I h
  refine wpAny_Assign_Subscript (thn (hv pins s σ H _ I h) fun r s1 ⟨v,H1,I1,rv,q1⟩=>thn (ho pins s1 σ H1 _ I1 q1) fun u s2 ⟨x,H2,I2,rx,q2⟩=>thn (hi pins s2 σ H2 _ I2 q2) fun iv s3 ⟨y,H3,I3,ry,a,H4,ex,g,q3⟩=>?_) hs
  subst ex
  obtain rfl:u=Value.ref a:=rx
  exact Zhx hu I3 g ry rv fun s4 I4=>⟨σ,H4,I4,q3⟩
theorem ZnT {op:Operator} {rd:V→V→Hp→VK→Prop} (hu:X.A.units+1<cLine) (ho:PE X o td) (hi:PE X i ty) (hv:PE X value tv) (hop:InOp X op rd)
    (ha:∀ ov iv new,augStore i ov iv new=(do holding [new,ov,iv] (setItem ov iv new); release [new,ov,iv] []; pure .next)):PS X (.AugAssign (.Subscript o i tpos) op value pos) (sDAug td ty tv rd):=by
  intro pins s σ H D I h
  refine wpAny_AugAssign_SubscriptAny (thn (ho pins s σ H _ I h) fun u s1 ⟨x,H1,I1,rx,q1⟩=>thn (hi pins s1 σ H1 _ I1 q1) fun iv s2 ⟨y,H2,I2,ry,a,v,ex,g,q2⟩=>?_) ha
  subst ex
  obtain rfl:u=Value.ref a:=rx
  refine Zhw hu I2 g ry fun w' s3 I3 rw'=>thn (hv pins s3 σ H2 _ I3 q2) fun w2 s4 ⟨y2,H3,I4,ry2,q3⟩=>thn (hop pins s4 σ H3 v y2 w' w2 _ I4 rw' ry2 q3) fun w3 s5 ⟨z,H4,I5,rz,H5,g5,q4⟩=>?_
  exact Zhx hu I5 g5 ry rz fun s6 I6=>⟨σ,H5,I6,q4⟩
end
theorem ZmC {P:Program} {w:World} {H:Hp} (h:Heap) (hb:sysModules<h.objs.size):ObjOk P w H (h.push { cls:=.type "dict",data:=.dict #[] }) h.objs.size (.dK []) :=
  ⟨Nat.zero_le _,beq_eq_false_iff_ne.mpr (Ne.symm (Nat.ne_of_lt hb)),[],.nil,Heap.DictOf.new h⟩
def ZoJ:TE:=fun _ H Q=>∀ p,H p=none→Q (.ref p) (upd H p (.dK []))
section
variable {X:Cx} {pos:Pos}
theorem Zes:PE X (.Dict [] [] pos) ZoJ:=fun pins s σ H Q I h =>
  wpAny_Dict_empty ⟨.ref s.heap.objs.size,_,I.laid (a:=s.heap.objs.size) (o:=.dK []) (t':=s.toks) (fun _ _ q=>Heap.get?_push_of_some _ q) (Nat.le_refl _) (ZmC s.heap I.big),rfl,h _ (I.hok.fresh (Nat.le_refl _))⟩
end
structure M1 (X:Cx) (o:Expr) (m:Str) (apos:Pos) (e:Expr) (cpos:Pos):Prop where
  base:attributeBase o m X.env (eval o X.env)=eval o X.env
  few:((backTo cpos (starEach [e] X.env)).all (fun x=>!x.1) && (backToKw cpos (keywordEach [] X.env)).all (fun x=>x.1.isSome)
    && decide (([e]:List Expr).length+([]:List Keyword).length+(if ([]:List Keyword).isEmpty then 0 else 1)<30))=true
  line:(apos.endLine == cpos.line)=true
  trees:backTo cpos (starEach [e] X.env)=[(false,eval e X.env)]
structure M2 (X:Cx) (o:Expr) (m:Str) (apos:Pos) (e f:Expr) (cpos:Pos):Prop where
  base:attributeBase o m X.env (eval o X.env)=eval o X.env
  few:((backTo cpos (starEach [e,f] X.env)).all (fun x=>!x.1) && (backToKw cpos (keywordEach [] X.env)).all (fun x=>x.1.isSome)
    && decide (([e,f]:List Expr).length+([]:List Keyword).length+(if ([]:List Keyword).isEmpty then 0 else 1)<30))=true
  line:(apos.endLine == cpos.line)=true
  trees:backTo cpos (starEach [e,f] X.env)=[(false,eval e X.env),(false,eval f X.env)]
def IsD (H:Hp) (a:Addr):Prop:=(∃ kvs,Rd H a (.dK kvs))∨∃ kvs,Rd H a (.dT kvs)
theorem ZkZ {X:Cx} {pins:List (Addr×Obj)} {σ:St} {H:Hp} {s:Shared} {a:Addr} (I:Inv X pins σ H s) (d:IsD H a) :
    s.TypeIs (.ref a) "dict" ∧ (∀ b,Value.ref a=.ref b→∃ ob,s.heap.get? b=some ob∧ob.dict=none)∧(a == sysModules)=false:=by
  rcases d with ⟨kvs,e⟩ | ⟨kvs,e⟩
  · obtain ⟨_,hd,vs,_,dd⟩:=dk_rd I.hok e
    refine ⟨dd.typeIs,fun b q=>?_,hd⟩
    cases q
    obtain ⟨ob,_,_,h1,h2,_⟩:=dd
    exact ⟨ob,h1,h2.2.1⟩
  · obtain ⟨_,hd,xs,_,dd⟩:=dt_rd I.hok e
    refine ⟨dd.typeIs,fun b q=>?_,hd⟩
    cases q
    obtain ⟨ob,_,_,h1,h2,_⟩:=dd
    exact ⟨ob,h1,h2.2.1⟩
section
variable {X:Cx} {pins:List (Addr×Obj)} {σ:St} {H:Hp} {s:Shared} {a:Addr} {y d:V} {u r:Value} {o:Option V} {A:Around} {E:Value→Shared→Prop}
theorem ZoK {Q:Value→Shared→Prop} (hu:A.units+1<cLine) (I:Inv X pins σ H s) (g:DGet H a y o) (ry:RelV y u) (rd:RelV d r) (h:∀ w' s',Inv X pins σ H s'→RelV (o.getD d) w'→Q w' s') :
    wpAny (model X.prog X.w) A (call (.builtin "dict.get") [.ref a,u,r]) Q E s:=by
  rcases g with ⟨kvs,k,e,ey,l⟩ | ⟨kvs,k,b,e,ey,eb,l⟩
  · subst ey
    obtain ⟨z,hd,vs,rel,dd⟩:=dk_rd I.hok e
    refine call_meetsIn PySem.F.slot_dict_get dd.typeIs PySem.F.entry_dict_get (PySem.F.args_dict_get_3 _ _ _) (meets_dict_get_default (ZaA X.prog X.w) a (kV_is ry) hd r) ⟨_,dd.mapOf,h _ _ (I.tok _) ?_⟩
    rw [l]
    exact (rel.val k).getD rd
  · subst ey
    cases (show u=Value.ref b from ry)
    obtain ⟨z,hd,xs,rel,dd⟩:=dt_rd I.hok e
    refine call_meetsIn PySem.F.slot_dict_get dd.typeIs PySem.F.entry_dict_get (PySem.F.args_dict_get_3 _ _ _) (meetsH_dict_get_default (tupleKind (ZaA X.prog X.w)) a b hd r) ⟨tupleKind_room_in1 hu,k,xs,Zhv I.hok eb,dd,h _ _ (I.tok _) ?_⟩
    rw [l]
    exact (rel.val k).getD rd
end
def ZoL (td ty tx:TE):TE:=fun σ H Q=>td σ H fun x H1=>∃ a,x=.ref a∧IsD H1 a∧ty σ H1 fun y H2=>tx σ H2 fun z H3=>∃ o,DGet H3 a y o∧Q (o.getD z) H3
def ZoM (td ty:TE):TE:=fun σ H Q=>td σ H fun x H1=>∃ a,x=.ref a∧IsD H1 a∧ty σ H1 fun y H2=>∃ kvs k v,H2 a=some (.dK kvs)∧y=kV k∧valV kvs k=some v∧Q v (upd H2 a (.dK (dropK kvs k)))
def ZoN (td ty tx:TE):TE:=fun σ H Q=>td σ H fun x H1=>∃ a,x=.ref a∧IsD H1 a∧ty σ H1 fun y H2=>tx σ H2 fun z H3=>∃ kvs k,H3 a=some (.dK kvs)∧y=kV k ∧
  (∀ v,valV kvs k=some v→Q v (upd H3 a (.dK (dropK kvs k))))∧(valV kvs k=none→Q z H3)
section
variable {X:Cx} {o e f:Expr} {apos cpos:Pos} {td ty tx:TE}
theorem ZmD (hu:X.A.units+1<cLine) (ho:PE X o td) (he:PE X e ty) (hf:PE X f tx) (m:M2 X o "get" apos e f cpos):PE X (.Call (.Attribute o "get" apos) [e,f] [] cpos) (ZoL td ty tx):=by
  intro pins s σ H Q I h
  refine wpAny_Call_method m.base m.few m.line PySem.F.plainAttrs_dict PySem.F.slot_dict_get PySem.F.type_dict_get (thn (ho pins s σ H _ I h) fun u s1 ⟨x,H1,I1,rx,a,ex,d,q1⟩=>?_)
  subst ex
  obtain rfl:u=Value.ref a:=rx
  obtain ⟨t1,t2,_⟩:=ZkZ I1 d
  refine ⟨t1,t2,?_⟩
  rw [m.trees]
  refine Calls.callWith_builtin rfl (Calls.evalArgs_plain (Calls.spliced_cons (thn (he pins s1 σ H1 _ I1 q1) fun iv s2 ⟨y,H2,I2,ry,q2⟩ =>
    Calls.spliced_cons (thn (hf pins s2 σ H2 _ I2 q2) fun fv s3 ⟨z,H3,I3,rz,ov,g,q3⟩=>Calls.spliced_nil ?_))))
  exact ZoK hu I3 g ry rz fun w' s4 I4 rw'=>⟨_,H3,I4,rw',q3⟩
theorem Zjs (ho:PE X o td) (he:PE X e ty) (m:M1 X o "pop" apos e cpos):PE X (.Call (.Attribute o "pop" apos) [e] [] cpos) (ZoM td ty):=by
  intro pins s σ H Q I h
  refine wpAny_Call_method m.base m.few m.line PySem.F.plainAttrs_dict PySem.F.slot_dict_pop PySem.F.type_dict_pop (thn (ho pins s σ H _ I h) fun u s1 ⟨x,H1,I1,rx,a,ex,d,q1⟩=>?_)
  subst ex
  obtain rfl:u=Value.ref a:=rx
  obtain ⟨t1,t2,_⟩:=ZkZ I1 d
  refine ⟨t1,t2,?_⟩
  rw [m.trees]
  refine Calls.callWith_builtin rfl (Calls.evalArgs_plain (Calls.spliced_cons (thn (he pins s1 σ H1 _ I1 q1) fun iv s2 ⟨y,H2,I2,ry,kvs,k,v,ea,ey,l,q2⟩=>Calls.spliced_nil ?_)))
  subst ey
  exact d_pop I2 ea ry l (.inl rfl) fun w' s3 I3 rw'=>⟨v,_,I3,rw',q2⟩
theorem ZmE (ho:PE X o td) (he:PE X e ty) (hf:PE X f tx) (m:M2 X o "pop" apos e f cpos):PE X (.Call (.Attribute o "pop" apos) [e,f] [] cpos) (ZoN td ty tx):=by
  intro pins s σ H Q I h
  refine wpAny_Call_method m.base m.few m.line PySem.F.plainAttrs_dict PySem.F.slot_dict_pop PySem.F.type_dict_pop (thn (ho pins s σ H _ I h) fun u s1 ⟨x,H1,I1,rx,a,ex,d,q1⟩=>?_)
  subst ex
  obtain rfl:u=Value.ref a:=rx
  obtain ⟨t1,t2,_⟩:=ZkZ I1 d
  refine ⟨t1,t2,?_⟩
  rw [m.trees]
  refine Calls.callWith_builtin rfl (Calls.evalArgs_plain (Calls.spliced_cons (thn (he pins s1 σ H1 _ I1 q1) fun iv s2 ⟨y,H2,I2,ry,q2⟩ =>
    Calls.spliced_cons (thn (hf pins s2 σ H2 _ I2 q2) fun fv s3 ⟨z,H3,I3,rz,kvs,k,ea,ey,q3,q4⟩=>Calls.spliced_nil ?_))))
  subst ey
  cases l:valV kvs k with
  | some v=>exact d_pop I3 ea ry l (.inr ⟨fv,rfl⟩) fun w' s4 I4 rw'=>⟨v,_,I4,rw',q3 v l⟩
  | none=>exact ZoH I3 ea ry l fun s4 I4=>⟨z,H3,I4,rz,q4 l⟩
end
end L2
namespace L2
open PySem PySem.Spec PyProof.Rows
section
variable {κ:Type} [DecidableEq κ]
theorem ZdL:∀ {l:List κ} {k:κ},l.Nodup→¬ k∈l→(l++[k]).Nodup
  | [],k,_,_=>by simp
  | a :: r,k,h,hk=>by
    obtain ⟨h1,h2⟩:=List.nodup_cons.mp h
    show (a :: (r++[k])).Nodup
    refine List.nodup_cons.mpr ⟨fun m=>?_,ZdL h2 fun m=>hk (List.mem_cons.mpr (Or.inr m))⟩
    rcases List.mem_append.mp m with q | q
    · exact h1 q
    · exact hk (List.mem_cons.mpr (Or.inl (List.mem_singleton.mp q).symm))
theorem Zla {p:κ×V} {r:List (κ×V)} {k:κ} (e:p.1=k):dropK (p :: r) k=dropK r k:=by
  unfold dropK
  rw [List.filter_cons,if_neg (by simp [e])]
theorem Zlb {p:κ×V} {r:List (κ×V)} {k:κ} (e:¬ p.1=k):dropK (p :: r) k=p :: dropK r k:=by
  unfold dropK
  rw [List.filter_cons,if_pos (by simp [e])]
end
end L2
set_option Elab.async false
set_option linter.all false
set_option maxRecDepth 100000
set_option maxHeartbeats 4000000
namespace L2
open PySem PySem.Spec PyProof.Rows
end L2
set_option Elab.async false
set_option linter.all false
set_option maxRecDepth 100000
set_option maxHeartbeats 4000000
namespace L2
open PySem PySem.Spec PyProof.Rows
structure Src (P0:Program) (w0:World) (it l:Addr) (its:Array Value) (pos:Nat→Heap→Prop) (sq:Heap→Prop):Prop where
  item:∀ {A0:Around} {E0:Value→Shared→Prop} {t:Shared} {i:Nat} {x:Value} {Q0:Value→Shared→Prop},pos i t.heap→sq t.heap→its[i]?=some x→(∀ g,pos (i+1) g→Heap.SameBut it t.heap g→Q0 x { t with heap:=g })→wpAny (model P0 w0) A0 (Builtin.SmallTypes.nextOf (.ref it)) Q0 E0 t
  stop:∀ {A0:Around} {E0:Value→Shared→Prop} {t:Shared} {i:Nat} {Q0:Value→Shared→Prop},A0.handled=none→pos i t.heap→sq t.heap→its[i]?=none→(∀ g e,Heap.ExtBut it t.heap g→(∃ o,g.get? e=some o∧o.cls=.type "StopIteration")→E0 (.ref e) { t with heap:=g })→wpAny (model P0 w0) A0 (Builtin.SmallTypes.nextOf (.ref it)) Q0 E0 t
  pmove:∀ {i:Nat} {g g':Heap},pos i g→(∀ o,g.get? it=some o→g'.get? it=some o)→pos i g'
  smove:∀ {g g':Heap},sq g→(∀ o,g.get? l=some o→g'.get? l=some o)→sq g'
  obj:∀ {i:Nat} {g:Heap},pos i g→∃ o,g.get? it=some o∧∀ v,o.data≠.cell v
section
variable {P0:Program} {w0:World} {A0:Around} {E0:Value→Shared→Prop} {t:Shared}
theorem Zea {it a:Addr} {i:Nat} {its:Array Value} {x:Value} {Q0:Value→Shared→Prop} (st:t.heap.IsTupleIter it a i) (tp:t.heap.IsTuple a its) (hx:its[i]?=some x)
    (k:∀ g,g.IsTupleIter it a (i+1)→Heap.SameBut it t.heap g→Q0 x { t with heap:=g }):wpAny (model P0 w0) A0 (Builtin.SmallTypes.nextOf (.ref it)) Q0 E0 t:=by
  obtain ⟨oi,gi,ci,di⟩:=id st
  obtain ⟨oa,ga,_,n,da⟩:=tp
  unfold Builtin.SmallTypes.nextOf
  refine wpAny_bind (wpAny_callSpecial?_slot (name:=Str.ofString "__next__") st.typeIs F.slot_tuple_iterator_next (wpAny_call_entry F.slot_tuple_iterator_next st.typeIs F.entry_tuple_iterator_next ?_ (F.args_tuple_iterator_next_1 _)))
  show wpAny _ _ (field (.ref it) 0 >>= _) _ _ t
  refine wpAny_bind (wpAny_field gi di (x:=.ref a) rfl ?_)
  show wpAny _ _ (if (Value.ref a == Value.none)=true then _ else _) _ _ t
  rw [if_neg (show ¬ ((Value.ref a == Value.none)=true) from Bool.false_ne_true)]
  show wpAny _ _ (field (.ref it) 1 >>= _) _ _ t
  refine wpAny_bind (wpAny_field gi di (x:=.int i 0) rfl ?_)
  show wpAny _ _ (seqItems? (.ref a) >>= _) _ _ t
  refine wpAny_bind (wpAny_seqItems ga da ?_)
  simp only [hx,Int.toNat_natCast]
  refine wpAny_bind (wpAny_setField gi di (by simp) (wpAny_pure ⟨x,rfl,wpAny_pure (k _ ⟨_,Heap.get?_update_self _ gi (Obj.isFreed_of_fields (Obj.data_mapFields di _)),(Obj.cls_mapFields ..).trans ci,?_⟩ (Heap.SameBut.update ..))⟩))
  rw [Obj.data_mapFields di]
  simp [rawInt]
theorem Zeb {it a:Addr} {i:Nat} {its:Array Value} {Q0:Value→Shared→Prop} (hA:A0.handled=none) (st:t.heap.IsTupleIter it a i) (tp:t.heap.IsTuple a its) (hx:its[i]?=none)
    (k:∀ g e,Heap.ExtBut it t.heap g→(∃ o,g.get? e=some o∧o.cls=.type "StopIteration")→E0 (.ref e) { t with heap:=g }):wpAny (model P0 w0) A0 (Builtin.SmallTypes.nextOf (.ref it)) Q0 E0 t:=by
  obtain ⟨oi,gi,ci,di⟩:=id st
  obtain ⟨oa,ga,_,n,da⟩:=tp
  unfold Builtin.SmallTypes.nextOf
  refine wpAny_bind (wpAny_callSpecial?_slot (name:=Str.ofString "__next__") st.typeIs F.slot_tuple_iterator_next (wpAny_call_entry F.slot_tuple_iterator_next st.typeIs F.entry_tuple_iterator_next ?_ (F.args_tuple_iterator_next_1 _)))
  show wpAny _ _ (field (.ref it) 0 >>= _) _ _ t
  refine wpAny_bind (wpAny_field gi di (x:=.ref a) rfl ?_)
  show wpAny _ _ (if (Value.ref a == Value.none)=true then _ else _) _ _ t
  rw [if_neg (show ¬ ((Value.ref a == Value.none)=true) from Bool.false_ne_true)]
  show wpAny _ _ (field (.ref it) 1 >>= _) _ _ t
  refine wpAny_bind (wpAny_field gi di (x:=.int i 0) rfl ?_)
  show wpAny _ _ (seqItems? (.ref a) >>= _) _ _ t
  refine wpAny_bind (wpAny_seqItems ga da ?_)
  simp only [hx,Int.toNat_natCast]
  refine wpAny_bind (wpAny_rule (wpAny_bind (wpAny_setField gi di (by simp) ?_)))
  show wpAny _ _ (newExc (.type "StopIteration") [] >>= _) _ _ _
  refine wpAny_bind ?_
  simp only [newTuple,newExc]
  refine wpAny_bind (wpAny_newObj_type (wpAny_bind (m:=firstArgMember _ _) (wpAny_of_eq (a:=Value.none) (by first | rfl | (simp only [firstArgMember]; rfl)) (wpAny_newObj_type ?_ (by size_fits)))) (by size_fits))
  simp only [raiseNew]
  refine wpAny_bind (wpAny_handled ?_)
  first | rw [show A0.in1.handled=none from hA] | rw [hA]
  exact wpAny_bind (wpAny_pure (wpAny_throw (k _ _ (((Heap.SameBut.update ..).extBut.push _).push _) ⟨_,Heap.get?_push_size _ rfl,rfl⟩)))
end
theorem Zbo {h:Heap} {it l:Addr} {i:Nat} (x:h.IsTupleIter it l i):∃ o,h.get? it=some o∧∀ v,o.data≠.cell v:=by
  obtain ⟨o,e,c,d⟩:=x
  exact ⟨o,e,fun v z=>by rw [d] at z; cases z⟩
theorem Zgf {P0:Program} {w0:World} (it l:Addr) (its:Array Value):Src P0 w0 it l its (fun i h=>h.IsTupleIter it l i) (fun h=>h.IsTuple l its) where
  item:=fun a b c d=>Zea a b c d
  stop:=fun a b c d e=>Zeb a b c d e
  pmove:=fun a b=>a.at b
  smove:=fun a b=>by obtain ⟨o,e,r⟩:=a; exact ⟨o,b o e,r⟩
  obj:=fun a=>Zbo a
section
variable {P0:Program} {w0:World} {A0:Around} {E0:Value→Shared→Prop} {t:Shared} {z TI TO ia ib la lb:Addr} {p1 p2:Nat→Heap→Prop} {q1 q2:Heap→Prop} {xs ys:Array Value}
theorem Zlc {k:Nat} {x y u v:Value} {Q0:Value→Shared→Prop} (S1:Src P0 w0 ia la xs p1 q1) (S2:Src P0 w0 ib lb ys p2 q2) (D:ZipApart z TI TO ia ib la lb)
    (zz:IsZip t.heap z TI TO .none) (zI:IsPair t.heap TI (.ref ia) (.ref ib)) (zO:IsPair t.heap TO u v) (a1:p1 k t.heap) (a2:p2 k t.heap) (b1:q1 t.heap) (b2:q2 t.heap) (hx:xs[k]?=some x) (hy:ys[k]?=some y)
    (fin:∀ g,IsZip g z TI TO (rawInt t.heap.objs.size)→IsPair g TO x y→p1 (k+1) g→p2 (k+1) g→IsPair g t.heap.objs.size x y→g.objs.size=t.heap.objs.size+1 →
      (∀ c o,c≠z→c≠TO→c≠ia→c≠ib→t.heap.get? c=some o→g.get? c=some o)→Q0 (.ref t.heap.objs.size) { t with heap:=g }) :
    wpAny (model P0 w0) A0 (Builtin.«zip.__next__» ⟨[.ref z],[]⟩) (fun f s'=>∃ v,f=.done (.ret v)∧Q0 v s') E0 t:=by
  show wpAny _ _ (field (.ref z) 2 >>= _) _ _ _
  refine wpAny_bind (wpAny_field zz rfl (x:=.bool false) rfl ?_)
  show wpAny _ _ (field (.ref z) 3 >>= _) _ _ _
  refine wpAny_bind (wpAny_field zz rfl (x:=.ref TI) rfl (wpAny_bind (wpAny_seqItems zI rfl ?_)))
  show wpAny _ _ (Builtin.SmallTypes.ownedTupleIsFree (.ref z) >>= _) _ _ _
  refine wpAny_bind ?_
  unfold Builtin.SmallTypes.ownedTupleIsFree
  refine wpAny_bind (wpAny_field zz rfl (x:=.none) rfl (wpAny_pure ?_))
  simp only [if_true]
  refine wpAny_bind (wpAny_rule (wpAny_bind (wpAny_field zz rfl (x:=.ref TO) rfl (wpAny_bind (wpAny_setField_rec zz (by simp) fun g1 z1 c1=>?_)))))
  replace z1:IsZip g1 z TI TO .ellipsis:=z1
  refine wpAny_bind ?_
  simp only [List.forIn_cons,List.forIn_nil,List.zipIdx_cons,List.zipIdx_nil]
  refine wpAny_bind (wpAny_bind (wpAny_onRaise ?_))
  show wpAny _ _ (Builtin.SmallTypes.nextOf (.ref ia) >>= _) _ _ _
  refine wpAny_bind (S1.item (S1.pmove a1 fun o e=>c1.extBut _ o D.i1z e) (S1.smove b1 fun o e=>c1.extBut _ o D.l1z e) hx fun g2 a12 c2=>wpAny_pure ?_)
  have o2:IsPair g2 TO u v:=c2.extBut _ _ D.TOi1 (c1.extBut _ _ D.TOz zO)
  refine wpAny_bind (wpAny_seqItems o2 rfl (wpAny_bind (wpAny_updateSeq_pair o2 fun g3 o3 c3=>?_)))
  replace o3:IsPair g3 TO x v:=o3
  refine wpAny_bind (wpAny_letGo (wpAny_pure ?_))
  refine wpAny_bind (wpAny_bind (wpAny_onRaise ?_))
  show wpAny _ _ (Builtin.SmallTypes.nextOf (.ref ib) >>= _) _ _ _
  have m3:∀ c o,c≠z→c≠ia→c≠TO→t.heap.get? c=some o→g3.get? c=some o:=fun c o n1 n2 n3 e=>c3.extBut _ _ n3 (c2.extBut _ _ n2 (c1.extBut _ _ n1 e))
  refine wpAny_bind (S2.item (S2.pmove a2 fun o e=>m3 _ o D.i2z D.i12.symm D.TOi2.symm e) (S2.smove b2 fun o e=>m3 _ o D.l2z D.l2i1 D.l2TO e) hy fun g4 a24 c4=>wpAny_pure ?_)
  have o4:IsPair g4 TO x v:=c4.extBut _ _ D.TOi2 o3
  refine wpAny_bind (wpAny_seqItems o4 rfl (wpAny_bind (wpAny_updateSeq_pair o4 fun g5 o5 c5=>?_)))
  replace o5:IsPair g5 TO x y:=o5
  refine wpAny_bind (wpAny_letGo (wpAny_pure (wpAny_pure ?_)))
  refine wpAny_bind (wpAny_seqItems o5 rfl (wpAny_bind (wpAny_newTuple ?_)))
  have sz:g5.objs.size=t.heap.objs.size:=by rw [c5.1,c4.1,c3.1,c2.1,c1.1]
  have m5:∀ c o,c≠z→c≠TO→c≠ia→c≠ib→t.heap.get? c=some o→g5.get? c=some o:=fun c o n1 n2 n3 n4 e=>c5.extBut _ _ n2 (c4.extBut _ _ n4 (m3 c o n1 n3 n2 e))
  have z5:IsZip g5 z TI TO .ellipsis:=c5.extBut _ _ D.TOz.symm (c4.extBut _ _ D.i2z.symm (c3.extBut _ _ D.TOz.symm (c2.extBut _ _ D.i1z.symm z1)))
  have a15:p1 (k+1) g5:=S1.pmove a12 fun o e=>c5.extBut _ o D.TOi1.symm (c4.extBut _ o D.i12 (c3.extBut _ o D.TOi1.symm e))
  have a25:p2 (k+1) g5:=S2.pmove a24 fun o e=>c5.extBut _ o D.TOi2.symm e
  have zlt:z<g5.objs.size:=Heap.lt_size z5
  show wpAny _ _ (Builtin.SmallTypes.ownedTupleHandOut (.ref z) (.ref g5.objs.size) >>= _) _ _ _
  refine wpAny_bind ?_
  unfold Builtin.SmallTypes.ownedTupleHandOut
  have z6:IsZip (g5.push { cls:=.type "tuple",data:=.seq #[x,y] }) z TI TO .ellipsis:=Heap.get?_push_of_some _ z5
  refine wpAny_bind (wpAny_setField_rec z6 (by simp) fun g7 z7 c7=>?_)
  replace z7:IsZip g7 z TI TO (rawInt g5.objs.size):=z7
  refine wpAny_setField_rec z7 (by simp) fun g8 z8 c8=>?_
  replace z8:IsZip g8 z TI TO (rawInt g5.objs.size):=z8
  have m8:∀ c o,c≠z→g5.get? c=some o→g8.get? c=some o:=fun c o n1 e=>c8.extBut _ _ n1 (c7.extBut _ _ n1 (Heap.get?_push_of_some _ e))
  have t8:IsPair g8 g5.objs.size x y:=c8.extBut _ _ (Nat.ne_of_gt zlt) (c7.extBut _ _ (Nat.ne_of_gt zlt) (Heap.get?_push_size _ rfl))
  have s8:g8.objs.size=g5.objs.size+1:=by rw [c8.1,c7.1,Heap.size_push]
  rw [sz] at z8 t8 s8
  refine wpAny_pure ⟨_,rfl,?_⟩
  show Q0 (.ref g5.objs.size) _
  rw [sz]
  exact fin g8 z8 (m8 _ _ D.TOz o5) (S1.pmove a15 fun o e=>m8 _ o D.i1z e) (S2.pmove a25 fun o e=>m8 _ o D.i2z e) t8 s8 fun c o n1 n2 n3 n4 e=>m8 c o n1 (m5 c o n1 n2 n3 n4 e)
theorem Zld {k:Nat} {u v:Value} {Q0:Fin→Shared→Prop} (hA:A0.handled=none) (S1:Src P0 w0 ia la xs p1 q1) (S2:Src P0 w0 ib lb ys p2 q2) (D:ZipApart z TI TO ia ib la lb)
    (zz:IsZip t.heap z TI TO .none) (zI:IsPair t.heap TI (.ref ia) (.ref ib)) (zO:IsPair t.heap TO u v) (a1:p1 k t.heap) (b1:q1 t.heap) (hx:xs[k]?=none)
    (fin:∀ g e,(∀ c o,c≠z→c≠TO→c≠ia→c≠ib→t.heap.get? c=some o→g.get? c=some o)→(∃ o,g.get? e=some o∧o.cls=.type "StopIteration")→E0 (.ref e) { t with heap:=g }) :
    wpAny (model P0 w0) A0 (Builtin.«zip.__next__» ⟨[.ref z],[]⟩) Q0 E0 t:=by
  show wpAny _ _ (field (.ref z) 2 >>= _) _ _ _
  refine wpAny_bind (wpAny_field zz rfl (x:=.bool false) rfl ?_)
  show wpAny _ _ (field (.ref z) 3 >>= _) _ _ _
  refine wpAny_bind (wpAny_field zz rfl (x:=.ref TI) rfl (wpAny_bind (wpAny_seqItems zI rfl ?_)))
  show wpAny _ _ (Builtin.SmallTypes.ownedTupleIsFree (.ref z) >>= _) _ _ _
  refine wpAny_bind ?_
  unfold Builtin.SmallTypes.ownedTupleIsFree
  refine wpAny_bind (wpAny_field zz rfl (x:=.none) rfl (wpAny_pure ?_))
  simp only [if_true]
  refine wpAny_bind (wpAny_rule (wpAny_bind (wpAny_field zz rfl (x:=.ref TO) rfl (wpAny_bind (wpAny_setField_rec zz (by simp) fun g1 z1 c1=>?_)))))
  replace z1:IsZip g1 z TI TO .ellipsis:=z1
  refine wpAny_bind ?_
  simp only [List.forIn_cons,List.forIn_nil,List.zipIdx_cons,List.zipIdx_nil]
  refine wpAny_bind (wpAny_bind (wpAny_onRaise ?_))
  show wpAny _ _ (Builtin.SmallTypes.nextOf (.ref ia) >>= _) _ _ _
  refine wpAny_bind (S1.stop hA (S1.pmove a1 fun o e=>c1.extBut _ o D.i1z e) (S1.smove b1 fun o e=>c1.extBut _ o D.l1z e) hx fun g2 e c2 he=>?_)
  obtain ⟨oe,g2e,ce⟩:=he
  have z2:IsZip g2 z TI TO .ellipsis:=c2 _ _ D.i1z.symm z1
  have ne:e≠z:=fun q=>by rw [q,z2] at g2e; cases g2e; simp at ce
  exact wpAny_setField_rec z2 (by simp) fun g3 _ c3=>fin g3 e (fun c o n1 _ n3 _ q=>c3.extBut _ _ n1 (c2 _ _ n3 (c1.extBut _ _ n1 q))) ⟨oe,c3.extBut _ _ ne g2e,ce⟩
theorem Zhy {k:Nat} {x y u v:Value} {Q0:Option Value→Shared→Prop} (S1:Src P0 w0 ia la xs p1 q1) (S2:Src P0 w0 ib lb ys p2 q2) (D:ZipApart z TI TO ia ib la lb)
    (zz:IsZip t.heap z TI TO .none) (zI:IsPair t.heap TI (.ref ia) (.ref ib)) (zO:IsPair t.heap TO u v) (a1:p1 k t.heap) (a2:p2 k t.heap) (b1:q1 t.heap) (b2:q2 t.heap) (hx:xs[k]?=some x) (hy:ys[k]?=some y)
    (fin:∀ g,IsZip g z TI TO (rawInt t.heap.objs.size)→IsPair g TO x y→p1 (k+1) g→p2 (k+1) g→IsPair g t.heap.objs.size x y→g.objs.size=t.heap.objs.size+1 →
      (∀ c o,c≠z→c≠TO→c≠ia→c≠ib→t.heap.get? c=some o→g.get? c=some o)→Q0 (some (.ref t.heap.objs.size)) { t with heap:=g }):wpAny (model P0 w0) A0 (pyNext (.ref z)) Q0 E0 t:=by
  have ty:t.TypeIs (.ref z) "zip" := ⟨_,zz,rfl⟩
  unfold pyNext
  exact wpAny_bind (wpAny_attempt (wpAny_callSpecial?_slot (name:=Str.ofString "__next__") ty F.slot_zip_next (wpAny_call_entry F.slot_zip_next ty F.entry_zip_next (Zlc S1 S2 D zz zI zO a1 a2 b1 b2 hx hy fun g r1 r2 r3 r4 r5 r6 r7=>wpAny_pure (fin g r1 r2 r3 r4 r5 r6 r7)) (F.args_zip_next_1 _))))
theorem Zhz {k:Nat} {u v:Value} {Q0:Option Value→Shared→Prop} (hA:A0.handled=none) (S1:Src P0 w0 ia la xs p1 q1) (S2:Src P0 w0 ib lb ys p2 q2) (D:ZipApart z TI TO ia ib la lb)
    (zz:IsZip t.heap z TI TO .none) (zI:IsPair t.heap TI (.ref ia) (.ref ib)) (zO:IsPair t.heap TO u v) (a1:p1 k t.heap) (b1:q1 t.heap) (hx:xs[k]?=none)
    (fin:∀ g,(∀ c o,c≠z→c≠TO→c≠ia→c≠ib→t.heap.get? c=some o→g.get? c=some o)→Q0 none { t with heap:=g }):wpAny (model P0 w0) A0 (pyNext (.ref z)) Q0 E0 t:=by
  have ty:t.TypeIs (.ref z) "zip" := ⟨_,zz,rfl⟩
  unfold pyNext
  refine wpAny_bind (wpAny_attempt (wpAny_callSpecial?_slot (name:=Str.ofString "__next__") ty F.slot_zip_next (wpAny_call_entry F.slot_zip_next ty F.entry_zip_next (Zld hA S1 S2 D zz zI zO a1 b1 hx fun g e kp he=>?_) (F.args_zip_next_1 _))))
  obtain ⟨oe,ge,ce⟩:=he
  exact wpAny_bind (wpAny_isInstance (T := "StopIteration") (b:=true) ⟨oe,ge,ce⟩ isSubtype_stop (wpAny_pure (fin _ kp)))
end
abbrev zt1 (h:Heap) (a:Addr):Heap:=h.push { cls:=.type "tuple_iterator",data:=.fields #[.ref a,.int 0 0] }
abbrev zt2 (h:Heap) (a b:Addr):Heap:=(zt1 h a).push { cls:=.type "tuple_iterator",data:=.fields #[.ref b,.int 0 0] }
abbrev zt3 (h:Heap) (a b:Addr):Heap:=(zt2 h a b).push { cls:=.type "tuple",data:=.seq #[.ref h.objs.size,.ref (zt1 h a).objs.size] }
abbrev zt4 (h:Heap) (a b:Addr):Heap:=(zt3 h a b).push { cls:=.type "tuple",data:=.seq #[.none,.none] }
abbrev zt5 (h:Heap) (a b:Addr):Heap:=(zt4 h a b).push { cls:=.type "zip",data:=.fields #[.none,.bool false,.bool false,.ref (zt2 h a b).objs.size,.ref (zt3 h a b).objs.size] }
theorem Zkb (a b:Addr) (xs ys:Array Value) :
    Meets (Builtin.«zip.__new__» ⟨[.type "zip",.ref a,.ref b],[]⟩) (fun _ R s=>s.heap.IsTuple a xs∧s.heap.IsTuple b ys∧R (.ok (.ret (.ref (zt4 s.heap a b).objs.size))) { s with heap:=zt5 s.heap a b }) :=
  .of_wp fun P0 w0 A0 R t h=>by
    obtain ⟨hp,gn,dr,tk,os⟩:=t
    obtain ⟨ta,tb,h⟩:=h
    have sub:=sub_zip
    have qa:Heap.IsTuple (Shared.heap ⟨hp,gn,dr,tk,os⟩) a xs:=ta
    have qb:Heap.IsTuple (Shared.heap ⟨hp.push { cls:=.type "tuple_iterator",data:=.fields #[.ref a,.int 0 0] },gn,dr,tk,os⟩) b ys:=Heap.IsTuple.push tb _
    wp_walk using wpAny_pyIter_tuple qa,wpAny_pyIter_tuple qb
    exact ⟨_,rfl,h⟩
theorem Zle {P0:Program} {w0:World} {A0:Around} {E0:Value→Shared→Prop} {t:Shared} {a b:Addr} {xs ys:Array Value} {Q0:Value→Shared→Prop} (ta:t.heap.IsTuple a xs) (tb:t.heap.IsTuple b ys)
    (h:∀ g,IsZip g (t.heap.objs.size+4) (t.heap.objs.size+2) (t.heap.objs.size+3) .none→IsPair g (t.heap.objs.size+2) (.ref t.heap.objs.size) (.ref (t.heap.objs.size+1))→IsPair g (t.heap.objs.size+3) .none .none →
      g.IsTupleIter t.heap.objs.size a 0→g.IsTupleIter (t.heap.objs.size+1) b 0→(∀ c o,t.heap.get? c=some o→g.get? c=some o)→Q0 (.ref (t.heap.objs.size+4)) { t with heap:=g }) :
    wpAny (model P0 w0) A0 (call (.type "zip") [.ref a,.ref b]) Q0 E0 t:=by
  refine callType_new F.called_zip (by decide) (F.typeCall_zip_2 _ _) (F.newCall_zip_2 _ _) (fun obj=>F.args_object_init_3 obj _ _) F.entry_zip_new (Zkb a b xs ys) ⟨ta,tb,?_⟩
  have n1:(zt1 t.heap a).objs.size=t.heap.objs.size+1:=Heap.size_push ..
  have n2:(zt2 t.heap a b).objs.size=t.heap.objs.size+2:=by rw [Heap.size_push,n1]
  have n3:(zt3 t.heap a b).objs.size=t.heap.objs.size+3:=by rw [Heap.size_push,n2]
  have n4:(zt4 t.heap a b).objs.size=t.heap.objs.size+4:=by rw [Heap.size_push,n3]
  have r5:(zt5 t.heap a b).get? (zt4 t.heap a b).objs.size=some _:=Heap.get?_push_size _ rfl
  have r4:(zt5 t.heap a b).get? (zt3 t.heap a b).objs.size=some _:=Heap.get?_push_of_some _ (Heap.get?_push_size _ rfl)
  have r3:(zt5 t.heap a b).get? (zt2 t.heap a b).objs.size=some _:=Heap.get?_push_of_some _ (Heap.get?_push_of_some _ (Heap.get?_push_size _ rfl))
  have r2:(zt5 t.heap a b).get? (zt1 t.heap a).objs.size=some _:=Heap.get?_push_of_some _ (Heap.get?_push_of_some _ (Heap.get?_push_of_some _ (Heap.get?_push_size _ rfl)))
  have r1:(zt5 t.heap a b).get? t.heap.objs.size=some _:=Heap.get?_push_of_some _ (Heap.get?_push_of_some _ (Heap.get?_push_of_some _ (Heap.get?_push_of_some _ (Heap.get?_push_size _ rfl))))
  show _∧_
  rw [n2,n3,n4] at r5
  rw [n1,n2] at r3
  rw [n3] at r4
  rw [n1] at r2
  rw [n4]
  refine ⟨⟨_,r5,rfl⟩,h _ r5 r3 r4 ⟨_,r1,rfl,rfl⟩ ⟨_,r2,rfl,rfl⟩ fun c o q=>?_⟩
  iterate 5 refine Heap.get?_push_of_some _ ?_
  exact q
def Itzt (K:PySem.W.Frag) (a b:Addr):It :=
  ⟨fun i H=>∃ xs ys x y,SqT K H a xs∧SqT K H b ys∧xs[i]?=some x∧ys[i]?=some y,
   fun i H v H'=>∃ t x y,H t=none∧v=.ref t∧H'=upd H t (.tup [x,y])∧(∀ xs,SqT K H a xs→xs[i]?=some x)∧∀ ys,SqT K H b ys→ys[i]?=some y,
   fun i H=>∃ xs,SqT K H a xs∧(∃ ys,SqT K H b ys)∧xs.length≤i⟩
theorem Zlf {P:Program} {w:World} {K:PySem.W.Frag} {elts:List PySem.Expr} {x1} {pos:Pos} (z TI TO i1 i2 a b:Addr) (D:ZipApart z TI TO i1 i2 a b) :
    Turn P w K (.Tuple elts x1 pos) (Itzt K a b) [z,TI,TO,i1,i2] z (fun i h=>IsZip h z TI TO .none∧IsPair h TI (.ref i1) (.ref i2)∧(∃ u v,IsPair h TO u v)∧h.IsTupleIter i1 a i∧h.IsTupleIter i2 b i) where
  mem:=by simp
  obj:=fun i h st c hc=>by
    obtain ⟨hz,hTI,⟨u,v,hTO⟩,h1,h2⟩:=st
    simp only [List.mem_cons,List.not_mem_nil,or_false] at hc
    rcases hc with rfl | rfl | rfl | rfl | rfl
    · exact ⟨_,hz,fun v e=>by cases e⟩
    · exact ⟨_,hTI,fun v e=>by cases e⟩
    · exact ⟨_,hTO,fun v e=>by cases e⟩
    · exact Zbo h1
    · exact Zbo h2
  keep:=fun i h h' st k=>by
    obtain ⟨hz,hTI,⟨u,v,hTO⟩,h1,h2⟩:=st
    exact ⟨k z (by simp) _ hz,k TI (by simp) _ hTI,⟨u,v,k TO (by simp) _ hTO⟩,h1.at fun o e=>k i1 (by simp) o e,h2.at fun o e=>k i2 (by simp) o e⟩
  item:=by
    intro X hP hw hK hc i pins s σ H E I hf st hg
    subst hP hw hK
    obtain ⟨xs,ys,x,y,hqa,hqb,hx,hy⟩:=hg
    obtain ⟨hz,hTI,⟨u0,v0,hTO⟩,h1,h2⟩:=st
    obtain ⟨itsa,ra,pa,za⟩:=I.tuple hqa
    obtain ⟨itsb,rb,pb,zb⟩:=I.tuple hqb
    obtain ⟨ux,hux,rux⟩:=ra.get hx
    obtain ⟨uy,huy,ruy⟩:=rb.get hy
    refine Zhy (Zgf i1 a itsa.toArray) (Zgf i2 b itsb.toArray) D hz hTI hTO h1 h2 (show s.heap.IsTuple a itsa.toArray from pa) (show s.heap.IsTuple b itsb.toArray from pb) (x:=ux) (y:=uy) (by simpa using hux) (by simpa using huy) fun h' a1 a2 a3 a4 a5 a6 a7=>?_
    refine ⟨.ref s.heap.objs.size,rfl,?_⟩
    refine wpAny_letOwnedTupleGo_zip a1 fun h2' hz' hs'=>?_
    have hzlt:z<s.heap.objs.size:=Heap.lt_size hz
    have kk:∀ c o,c∉[z,TI,TO,i1,i2]→s.heap.get? c=some o→h2'.get? c=some o:=fun c o hc e=>by
      simp only [List.mem_cons,List.not_mem_nil,or_false,not_or] at hc
      exact hs'.extBut c o hc.1 (a7 c o hc.1 hc.2.2.1 hc.2.2.2.1 hc.2.2.2.2 e)
    have tp:h2'.get? s.heap.objs.size=some { cls:=.type "tuple",data:=.seq #[ux,uy] }:=hs'.extBut _ _ (Nat.ne_of_gt hzlt) a5
    have I1:Inv X pins σ (upd H s.heap.objs.size (.tup [x,y])) { s with heap:=h2',toks:=s.toks } :=
      I.laidCh hf kk ⟨by show 2≤sizeLine; decide,[ux,uy],.cons rux (.cons ruy .nil),⟨_,tp,rfl,_,rfl⟩⟩
    have TIk:h2'.get? TI=s.heap.get? TI:=by
      rw [hTI]
      exact hs'.extBut _ _ D.TIz (a7 _ _ D.TIz D.TITO D.TIi1 D.TIi2 hTI)
    refine ⟨.ref s.heap.objs.size,_,I1,rfl,⟨s.heap.objs.size,x,y,I.hok.fresh (Nat.le_refl _),rfl,rfl,fun xs' h=>by rw [I.tuple_inj h hqa]; exact hx,fun ys' h=>by rw [I.tuple_inj h hqb]; exact hy⟩,⟨hz',?_,⟨ux,uy,hs'.extBut _ _ D.TOz a2⟩,a3.at fun o e=>hs'.extBut _ o D.i1z e,a4.at fun o e=>hs'.extBut _ o D.i2z e⟩,fun c hc=>?_⟩
    · show h2'.get? TI=_
      rw [TIk]; exact hTI
    · have hc':=hc
      have hlt:c<s.heap.objs.size:=by
        simp only [List.mem_cons,List.not_mem_nil,or_false] at hc'
        rcases hc' with rfl | rfl | rfl | rfl | rfl
        · exact hzlt
        · exact Heap.lt_size hTI
        · exact Heap.lt_size hTO
        · obtain ⟨o,e,_⟩:=Zbo h1; exact Heap.lt_size e
        · obtain ⟨o,e,_⟩:=Zbo h2; exact Heap.lt_size e
      rw [Zb (Nat.ne_of_lt hlt)]
      exact (hf c hc).1
  done:=by
    intro X hP hw hK hc i pins s σ H E I hf st hg
    subst hP hw hK
    obtain ⟨xs,hqa,⟨ys,hqb⟩,hend⟩:=hg
    obtain ⟨hz,hTI,⟨u0,v0,hTO⟩,h1,h2⟩:=st
    obtain ⟨itsa,ra,pa,za⟩:=I.tuple hqa
    obtain ⟨itsb,rb,pb,zb⟩:=I.tuple hqb
    have la:=ra.length
    refine Zhz (I.ok.hd hc) (Zgf i1 a itsa.toArray) (Zgf i2 b itsb.toArray) D hz hTI hTO h1 (show s.heap.IsTuple a itsa.toArray from pa) (by simp; omega) fun h' hk=>⟨rfl,?_⟩
    refine I.turnedCh (t':=s.toks) hf fun c o hc e=>?_
    simp only [List.mem_cons,List.not_mem_nil,or_false,not_or] at hc
    exact hk c o hc.1 hc.2.2.1 hc.2.2.2.1 hc.2.2.2.2 e
  self:=fun _ _ _ _ _ st h=>wpAny_pyIter_zip st.1 h
def iZipS (K:PySem.W.Frag) (ta:TA):TI:=fun σ H R=>ta σ H fun vs H1=>∃ a b,vs=[.ref a,.ref b]∧((∃ xs ys,SqL K H1 a xs∧SqL K H1 b ys∧R (Itz K a b) H1)∨∃ xs ys,SqT K H1 a xs∧SqT K H1 b ys∧R (Itzt K a b) H1)
section
variable {X:Cx}
theorem ZnU {elts:List PySem.Expr} {x1} {tpos:Pos} {a b:PySem.Expr} {ta:TA} {p pos:Pos} (hg:Gl X "zip") (hm:X.mg "zip" = none) (ha:PA X [a,b] ta) (hs:starEach [a,b] X.env=[(false,eval a X.env),(false,eval b X.env)]:=by rfl) (hs2:starEach [b] X.env=[(false,eval b X.env)]:=by rfl) :
    PI X (.Tuple elts x1 tpos) (.Call (.Name "zip" p) [a,b] [] pos) (iZipS X.K ta):=by
  intro pins s σ H R I h
  refine Call_ (Zca I hg hm Zjj (PyProof.Rows.callWith_type1 (thn (ha pos pins s σ H _ I h) fun us s1 ⟨vs,H1,I1,r1,q1⟩=>?_) (by rw [hs,hs2]) (by rw [hs2]; rfl)))
  obtain ⟨l1,l2,e,q⟩:=q1
  subst e
  obtain ⟨v1,v2,rfl,r,r'⟩:=vals2 r1
  cases r
  cases r'
  have big:∀ c,c∈[s1.heap.objs.size+4,s1.heap.objs.size+2,s1.heap.objs.size+3,s1.heap.objs.size,s1.heap.objs.size+1]→s1.heap.objs.size≤c:=fun c hc=>by
    simp only [List.mem_cons,List.not_mem_nil,or_false] at hc
    rcases hc with rfl | rfl | rfl | rfl | rfl <;> first | exact Nat.le_refl _ | exact Nat.le_add_right _ _
  rcases q with ⟨xs,ys,hqa,hqb,q⟩ | ⟨xs,ys,hqa,hqb,q⟩
  · obtain ⟨itsa,ra,pa,za⟩:=I1.list hqa
    obtain ⟨itsb,rb,pb,zb⟩:=I1.list hqb
    have lt1:l1<s1.heap.objs.size:=by obtain ⟨o,e,_⟩:=pa.isList; exact Heap.lt_size e
    have lt2:l2<s1.heap.objs.size:=by obtain ⟨o,e,_⟩:=pb.isList; exact Heap.lt_size e
    refine call_zip_2 pa.isList pb.isList fun h' g5 g3 g4 g1 g2 hsz kp=>wpAny_pyIter_zip g5 ?_
    exact ⟨_,[_,_,_,_,_],_,_,H1,rfl,I1.kept (t':=s1.toks) kp,Zji _ _ _ _ _ l1 l2 (ZeO s1.heap.objs.size l1 l2 lt1 lt2),⟨g5,g3,⟨_,_,g4⟩,g1,g2⟩,fun c hc=>I1.fpOk (big c hc) (I1.hok.fresh (big c hc)),q⟩
  · obtain ⟨itsa,ra,pa,za⟩:=I1.tuple hqa
    obtain ⟨itsb,rb,pb,zb⟩:=I1.tuple hqb
    have lt1:l1<s1.heap.objs.size:=Znm pa
    have lt2:l2<s1.heap.objs.size:=Znm pb
    refine Zle (show s1.heap.IsTuple l1 itsa.toArray from pa) (show s1.heap.IsTuple l2 itsb.toArray from pb) fun h' g5 g3 g4 g1 g2 kp=>wpAny_pyIter_zip g5 ?_
    exact ⟨_,[_,_,_,_,_],_,_,H1,rfl,I1.kept (t':=s1.toks) kp,Zlf _ _ _ _ _ l1 l2 (ZeO s1.heap.objs.size l1 l2 lt1 lt2),⟨g5,g3,⟨_,_,g4⟩,g1,g2⟩,fun c hc=>I1.fpOk (big c hc) (I1.hok.fresh (big c hc)),q⟩
end
theorem Zlg {K:PySem.W.Frag} {a b:Addr} {xs zs:List V} {l:Addr} {g:TG} {tc:TT} {te:TE} {σ0:St} {H0:Hp} {Qf:Hp→Prop} (hlen:xs.length=zs.length) (Pv:Nat→List V→St→Hp→Prop) (h0:Pv 0 [] σ0 H0)
    (hl:∀ i ys σ' H',i≤xs.length→Pv i ys σ' H'→SqT K H' a xs∧SqT K H' b zs)
    (hs:∀ i x z t ys σ' H',i<xs.length→xs[i]?=some x→zs[i]?=some z→ys.length≤i→Pv i ys σ' H'→H' t=none→g (.ref t) σ' (upd H' t (.tup [x,z])) fun σ2 H3=>tc σ2 H3 fun b H4=>if b=true then te σ2 H4 fun y H5=>CNx xs.length l Pv i ys σ2 y H5 else CNo xs.length Pv i ys σ2 H4)
    (hd:∀ ys σ' H',ys.length≤xs.length→Pv xs.length ys σ' H'→Qf H') :
    ∃ W:Nat→Nat→List V→St→Hp→Prop,(∃ m,W 0 m [] σ0 H0)∧∀ i m ys σ' H',W i m ys σ' H' →
    ((Itzt K a b).stop i H'∧Qf H')∨((Itzt K a b).go i H'∧∀ x H2,(Itzt K a b).yld i H' x H2→g x σ' H2 fun σ2 H3=>tc σ2 H3 fun b H4 =>
      if b=true then te σ2 H4 fun y H5=>H5 l=some (.lst ys)∧ys.length<sizeLine∧∃ m',m'<m∧W (i+1) m' (ys++[y]) σ2 (upd H5 l (.lst (ys++[y])))
      else ∃ m',m'<m∧W (i+1) m' ys σ2 H4):=by
  refine ⟨fun i m ys σ' H'=>m=xs.length - i∧i≤xs.length∧ys.length≤i∧Pv i ys σ' H',⟨xs.length,rfl,Nat.zero_le _,Nat.le_refl _,h0⟩,?_⟩
  rintro i m ys σ' H' ⟨rfl,hi,hy,p⟩
  obtain ⟨qa,qb⟩:=hl i ys σ' H' hi p
  by_cases hlt:i<xs.length
  · have hlt':i<zs.length:=by omega
    refine .inr ⟨⟨xs,zs,xs[i],zs[i],qa,qb,by simp [hlt],by simp [hlt']⟩,fun x H2 zq=>?_⟩
    obtain ⟨t,u,v,ht,rfl,rfl,z1,z2⟩:=zq
    exact hs i u v t ys σ' H' hlt (z1 xs qa) (z2 zs qb) hy p ht
  · have e:i=xs.length:=by omega
    subst e
    exact .inl ⟨⟨xs,qa,⟨zs,qb⟩,Nat.le_refl _⟩,hd ys σ' H' hy p⟩
end L2
set_option Elab.async false
set_option linter.all false
set_option maxRecDepth 100000
set_option maxHeartbeats 4000000
namespace L2
open PySem PySem.Spec PyProof.Rows
section
variable {X:Cx} {K:PySem.W.Frag} {tg:PySem.Expr}
theorem Zco (hK:X.K=K) {l:PySem.Expr} {tl:TE} (hl:PE X l tl):PI X tg l (iList K tl):=hK ▸ ZnC hl
theorem Zlh (hK:X.K=K) {l:PySem.Expr} {tl:TE} (hl:PE X l tl):PI X tg l (iTup K tl):=hK ▸ Zoy hl
end
end L2
set_option Elab.async false
set_option linter.all false
set_option maxRecDepth 100000
set_option maxHeartbeats 4000000
namespace L2
open PySem PySem.Spec PyProof.Rows
def EqD (K:PySem.W.Frag) (H:Hp):Nat→V→V→Bool→Prop
  | 0,x,y,b=>flatV x=true∧flatV y=true∧b=eqV x y
  | n+1,x,y,b=>(flatV x=true∧flatV y=true∧b=eqV x y)∨∃ (a c:Addr) (xs ys:List V) (e:Nat→Bool),x=.ref a∧y=.ref c∧(∀ (i:Nat) (u v:V),xs[i]?=some u→ys[i]?=some v→EqD K H n u v (e i)) ∧
      ((SqL K H a xs∧SqL K H c ys∧((xs.length=ys.length∧b=(List.range xs.length).all e)∨(xs.length≠ys.length∧b=false))) ∨
       (SqT K H a xs∧SqT K H c ys∧b=((List.range (min xs.length ys.length)).all e && xs.length == ys.length)))
theorem Zgg {x:V} (h:flatV x=true):eqV x x=true:=by
  cases x with
  | non=>rfl
  | bl b=>exact beq_self_eq_true b
  | int i=>exact beq_self_eq_true i
  | str z=>exact beq_self_eq_true z
  | _=>exact absurd h Bool.false_ne_true
section
variable {X:Cx} {pins:List (Addr×Obj)} {σ:St} {H:Hp} {s:Shared}
theorem Zgh (I:Inv X pins σ H s):∀ (n:Nat) (x:V) (b:Bool),EqD X.K H n x x b→b=true
  | 0,x,b,⟨h1,_,h2⟩=>by rw [h2]; exact Zgg h1
  | n+1,x,b,h=>by
    rcases h with ⟨h1,_,h2⟩ | ⟨a,c,xs,ys,e,rfl,h2,hi,⟨ha,hc,hb⟩ | ⟨ha,hc,hb⟩⟩
    · rw [h2]; exact Zgg h1
    · cases h2
      have exy:ys=xs:=I.list_inj hc ha
      subst exy
      rcases hb with ⟨_,hb⟩ | ⟨hb,_⟩
      · rw [hb,List.all_eq_true]
        intro i hi'
        have hlt:=List.mem_range.mp hi'
        exact Zgh I n ys[i] (e i) (hi i ys[i] ys[i] (List.getElem?_eq_getElem hlt) (List.getElem?_eq_getElem hlt))
      · exact absurd rfl hb
    · cases h2
      have exy:ys=xs:=I.tuple_inj hc ha
      subst exy
      rw [hb,Nat.min_self,beq_self_eq_true,Bool.and_true,List.all_eq_true]
      intro i hi'
      have hlt:=List.mem_range.mp hi'
      exact Zgh I n ys[i] (e i) (hi i ys[i] ys[i] (List.getElem?_eq_getElem hlt) (List.getElem?_eq_getElem hlt))
theorem ZfO {xs:List V} {us:List Value} (r:Vals xs us) {j:Nat} (h:j<us.toArray.size):∃ x,xs[j]?=some x∧RelV x us.toArray[j]:=by
  have hj:j<us.length:=by simpa using h
  have hx:j<xs.length:=by rw [r.length]; exact hj
  obtain ⟨u,hu,ru⟩:=r.get (i:=j) (x:=xs[j]) (List.getElem?_eq_getElem hx)
  rw [List.getElem?_eq_getElem hj] at hu
  cases hu
  exact ⟨xs[j],List.getElem?_eq_getElem hx,by simpa using ru⟩
theorem Zli (I:Inv X pins σ H s):∀ (n:Nat) (A:Around) (x y:V) (u v:Value) (b:Bool),A.units+n<cLine→RelV x u→RelV y v→EqD X.K H n x y b→SeqAt.EqAt A s u v b
  | 0,A,x,y,u,v,b,hu,rx,ry,⟨h1,h2,h3⟩=>by rw [h3]; exact ZkO rx ry h1 h2
  | n+1,A,x,y,u,v,b,hu,rx,ry,h=>by
    rcases h with ⟨h1,h2,h3⟩ | ⟨a,c,xs,ys,e,rfl,rfl,hi,hh⟩
    · rw [h3]; exact ZkO rx ry h1 h2
    · cases rx
      cases ry
      by_cases hac:a=c
      · subst hac
        have hb:b=true:=Zgh I (n+1) (.ref a) b (.inr ⟨a,a,xs,ys,e,rfl,rfl,hi,hh⟩)
        rw [hb]
        exact SeqAt.EqAt.same _
      · have hu0:A.units<cLine:=by omega
        have hu1:A.in1.units+n<cLine:=by
          have q:A.in1.units=A.units+1:=rfl
          rw [q]; omega
        refine SeqAt.EqAt.of_refs hac ?_
        rcases hh with ⟨ha,hc,hb⟩ | ⟨ha,hc,hb⟩
        · obtain ⟨its,r1,p1,_⟩:=I.list ha
          obtain ⟨its2,r2,p2,_⟩:=I.list hc
          have l1:=r1.length
          have l2:=r2.length
          rcases hb with ⟨hl,hb⟩ | ⟨hl,hb⟩
          · have q:=SeqAt.RcAt.lists (A:=A) (e:=e) p1.isList p2.isList (by simp; omega) hu0 fun j h1 h2=>by
              obtain ⟨x,hx,rx⟩:=ZfO r1 h1
              obtain ⟨y,hy,ry⟩:=ZfO r2 h2
              exact Zli I n A.in1 x y _ _ (e j) hu1 rx ry (hi j x y hx hy)
            rw [List.size_toArray,← l1,← hb] at q
            exact q
          · rw [hb]
            exact SeqAt.RcAt.lists_lengths p1.isList p2.isList (by simp; omega) hu0
        · obtain ⟨its,r1,p1,_⟩:=I.tuple ha
          obtain ⟨its2,r2,p2,_⟩:=I.tuple hc
          have l1:=r1.length
          have l2:=r2.length
          have q:=SeqAt.RcAt.tuples (A:=A) (e:=e) (show s.heap.IsTuple a its.toArray from p1) (show s.heap.IsTuple c its2.toArray from p2) hu0 fun j h1 h2=>by
            obtain ⟨x,hx,rx⟩:=ZfO r1 h1
            obtain ⟨y,hy,ry⟩:=ZfO r2 h2
            exact Zli I n A.in1 x y _ _ (e j) hu1 rx ry (hi j x y hx hy)
          rw [List.size_toArray,List.size_toArray,← l1,← l2,← hb] at q
          exact q
end
section
variable {X:Cx} {K:PySem.W.Frag}
def rEqD (K:PySem.W.Frag) (n:Nat) (neg:Bool):R2:=fun x y H Q=>∃ (a c:Addr) (xs ys:List V) (e:Nat→Bool),x=.ref a∧y=.ref c∧(∀ (i:Nat) (u v:V),xs[i]?=some u→ys[i]?=some v→EqD K H n u v (e i))∧SqL K H a xs∧SqL K H c ys ∧
  ((xs.length=ys.length∧Q (.bl (if neg then !(List.range xs.length).all e else (List.range xs.length).all e)) H)∨(xs.length≠ys.length∧Q (.bl neg) H))
theorem ZoO (n:Nat) (hu:X.A.units+1+n<cLine) (hK:X.K=K):OpR X (compareOp .NotEq) (rEqD K n true):=by
  subst hK
  intro pins s σ H x y v u Q I rx ry h
  obtain ⟨a,c,xs,ys,e,rfl,rfl,hi,ha,hc,q⟩:=h
  cases rx
  cases ry
  obtain ⟨its,r1,p1,_⟩:=I.list ha
  obtain ⟨its2,r2,p2,_⟩:=I.list hc
  have l1:=r1.length
  have l2:=r2.length
  have hu1:X.A.in1.units+n<cLine:=hu
  rcases q with ⟨hl,q⟩ | ⟨hl,q⟩
  · refine SeqAt.RcNeAt.lists (e:=e) p1.isList p2.isList (by simp; omega) (by omega) (fun j h1 h2=>?_) X.prog X.w X.xe _ ⟨.bl _,H,I,rfl,?_⟩
    · obtain ⟨x,hx,rx⟩:=ZfO r1 h1
      obtain ⟨y,hy,ry⟩:=ZfO r2 h2
      exact Zli I n X.A.in1 x y _ _ (e j) hu1 rx ry (hi j x y hx hy)
    · rw [List.size_toArray,← l1]; exact q
  · exact SeqAt.RcNeAt.lists_lengths p1.isList p2.isList (by simp; omega) (by omega) X.prog X.w X.xe _ ⟨.bl true,H,I,rfl,q⟩
theorem hu_to {A:Around} {k:Nat} (hr:Room k A) (n:Nat) (h:n≤60):A.units+1+n<cLine:=by have:=hr.units; omega
end
end L2
set_option Elab.async false
set_option linter.all false
set_option maxRecDepth 100000
set_option maxHeartbeats 4000000
namespace L2
open PySem PySem.Spec PyProof.Rows
theorem Zlj:bootBuiltins "set" = some (.type "set"):=by first | rfl | decide +kernel | kernel_rfl
section
variable {X:Cx} {K:PySem.W.Frag}
theorem Zlk:CallR X (.builtin "len") (fun xs H Q=>∃ (p:Addr) (S:Int→Bool) (n:Nat),xs=[.ref p]∧H p=some (.set S n)∧Q (.int n) H):=by
  intro pins s σ H xs us Q I r h
  obtain ⟨p,S,n,rfl,hp,q⟩:=h
  obtain ⟨u,rfl,rx⟩:=vals1 r
  cases rx
  obtain ⟨o,es,ep,t,ho,hex,hd,_,_,hlt,hf,rfl⟩:=(show s.heap.SetOf (intKind X.prog X.w) p S n from I.hok p _ hp)
  refine call_len_set ho hex hd hf ?_ ⟨.int _,H,I.tok _,⟨_,rfl⟩,q⟩
  have:es.size<4096:=hlt
  omega
end
end L2
set_option Elab.async false
set_option linter.all false
set_option maxRecDepth 100000
set_option maxHeartbeats 4000000
namespace L2
open PySem PySem.Spec PyProof.Rows
def ItDn (hi:Int) (n:Nat):It:=⟨fun i _=>i<n,fun i H x H'=>H'=H∧x=.int (hi - i),fun i _=>n≤i⟩
theorem Zll {P:Program} {w:World} {K:PySem.W.Frag} {tg:PySem.Expr} (it:Addr) (lo:Int) (n:Nat):Turn P w K tg (ItDn lo n) [it] it (fun i h=>IsRangeIter h it (lo+(i:Nat) * (-1)) ((n:Int) - (i:Nat)) (-1)) where
  mem:=by simp
  obj:=fun i h st b hb=>by
    have e:b=it:=by simpa using hb
    subst e
    exact ⟨_,st,fun v z=>by
      have z':Data.fields _=Data.cell v:=z
      cases z'⟩
  keep:=fun i h h' st k=>k it (by simp) _ st
  item:=by
    intro X hP hw hK hc i pins s σ H E I hf st hg
    subst hP hw hK
    obtain ⟨f0,f1,f2,f3,f4,f5⟩:=hf it (by simp)
    have W:=Walks.range (prog:=X.prog) (w:=X.w) (I.ok.hd hc) it lo (-1) n
    refine W.item i s _ _ hg st fun v h' tk hv st' kk=>?_
    obtain ⟨t,rfl⟩:=hv
    have I1:Inv X pins σ H { s with heap:=h',toks:=tk }:=I.turned (fun b o hb e=>kk b o (by simpa using hb) e) f0 f1 f3 f4 f5
    refine ⟨_,rfl,go_of (s:={ s with heap:=h',toks:=tk }) (n := "range_iterator") st' rfl rfl (by decide) ⟨.int (lo - i),H,I1,⟨t,?_⟩,⟨rfl,rfl⟩,st',fun b hb=>(hf b hb).1⟩⟩
    rw [show lo+(i:Int) * (-1)=lo - i by omega]
  done:=by
    intro X hP hw hK hc i pins s σ H E I hf st hg
    subst hP hw hK
    obtain ⟨f0,f1,f2,f3,f4,f5⟩:=hf it (by simp)
    exact wpAny_pyNext_range_end (I.ok.hd hc) st (by have:n≤i:=hg; omega) fun h' eb=>⟨rfl,I.turned (t':=s.toks) (fun b o hb e=>eb b o hb e) f0 f1 f3 f4 f5⟩
  self:=fun _ _ _ _ _ st h=>wpAny_pyIter_rangeiter st h
section
variable {X:Cx} {tg:PySem.Expr}
theorem Zlm {pins:List (Addr×Obj)} {σ:St} {H:Hp} {s:Shared} {R:It→Hp→Prop} {E:Value→Shared→Prop} {lo hi:Int} {t u v:Tok} {tk:Nat} (I:Inv X pins σ H s) (h1 : -(2 ^ 62)≤lo) (h2:lo<2 ^ 62) (h3 : -(2 ^ 62)≤hi) (h4:hi<2 ^ 62)
    (q:R (ItDn lo (lo - hi).toNat) H):wpAny (model X.prog X.w) X.A (pyIter (.ref s.heap.objs.size)) (PIE X pins σ tg R) E { s with heap:=s.heap.push { cls:=.type "range",data:=.fields #[.int lo t,.int hi u,.int (-1) v] },toks:=tk }:=by
  refine wpAny_pyIter_range (IsRange.new ..) (PySem.W.small_down h1 h2 h3 h4) ?_
  have I1:Inv X pins σ H { s with heap:=s.heap.push { cls:=.type "range",data:=.fields #[.int lo t,.int hi u,.int (-1) v] },toks:=tk }:=I.kept fun b o e=>Heap.get?_push_of_some _ e
  refine ⟨(s.heap.push { cls:=.type "range",data:=.fields #[.int lo t,.int hi u,.int (-1) v] }).objs.size,[(s.heap.push { cls:=.type "range",data:=.fields #[.int lo t,.int hi u,.int (-1) v] }).objs.size],_,_,H,rfl,
    I1.kept (t':=tk) fun b o e=>Heap.get?_push_of_some _ e,Zll _ lo (lo - hi).toNat,?_,fun b hb=>?_,q⟩
  · have e1:lo+((0:Nat):Int) * (-1)=lo:=by simp
    have e2:(((lo - hi).toNat:Nat):Int) - ((0:Nat):Int)=Builtin.Range.rangeSize lo hi (-1):=by rw [PySem.W.rangeSize_downNat]; omega
    show IsRangeIter _ _ (lo+((0:Nat):Int) * (-1)) ((((lo - hi).toNat:Nat):Int) - ((0:Nat):Int)) (-1)
    rw [e1,e2]
    exact Heap.get?_push_size _ rfl
  · have e:b=(s.heap.push { cls:=.type "range",data:=.fields #[.int lo t,.int hi u,.int (-1) v] }).objs.size:=by simpa using hb
    subst e
    exact I1.fpOk (Nat.le_refl _) (I1.hok.fresh (Nat.le_refl _))
def iRngD (ta:TA):TI:=fun σ H R=>ta σ H fun vs H1=>∃ i j:Int,vs=[.int i,.int j,.int (-1)]∧(-(2 ^ 61)≤i∧i<2 ^ 61 ∧ -(2 ^ 61)≤j∧j<2 ^ 61)∧R (ItDn i (i - j).toNat) H1
theorem ZeS {a b c:PySem.Expr} {ta:TA} {p pos:Pos} (hg:Gl X "range") (hm:X.mg "range" = none) (ha:PA X [a,b,c] ta) (hs:starEach [a,b,c] X.env=(false,eval a X.env) :: starEach [b,c] X.env:=by rfl) (hpl:(backTo pos (starEach [b,c] X.env)).any (·.1)=false:=by rfl) :
    PI X tg (.Call (.Name "range" p) [a,b,c] [] pos) (iRngD ta):=by
  intro pins s σ H R I h
  refine Call_ (Zca I hg hm boot_range (PyProof.Rows.callWith_type1 (thn (ha pos pins s σ H _ I h) fun us s1 ⟨vs,H1,I1,r1,q1⟩=>?_) hs hpl))
  obtain ⟨i,j,e,⟨q1,q2,q3,q4⟩,q⟩:=q1
  subst e
  cases r1 with
  | cons r rr =>
    cases rr with
    | cons r' rr =>
      cases rr with
      | cons r'' rr =>
        cases rr
        obtain ⟨t,rfl⟩:=r
        obtain ⟨t',rfl⟩:=r'
        obtain ⟨t'',rfl⟩:=r''
        exact call_range_3 (by decide) (Zlm I1 (by omega) (by omega) (by omega) (by omega) q) (.inl (PyProof.noPylong_small (by omega)))
end
theorem Zgi {hi:Int} {n:Nat} {g:TG} {tb:TS} {D:Ends} {σ:St} {H:Hp} (Pv:Nat→St→Hp→Prop) (h0:Pv 0 σ H)
    (hs:∀ i σ H,i<n→Pv i σ H→g (.int (hi - i)) σ H fun σ2 H2=>tb { D with nx:=Pv (i+1),ct:=Pv (i+1),bk:=D.nx } σ2 H2) (hd:∀ σ H,Pv n σ H→D.nx σ H) :
    ∃ W:Nat→Nat→St→Hp→Prop,(∃ m,W 0 m σ H)∧∀ i m σ H,W i m σ H →
      ((ItDn hi n).stop i H∧D.nx σ H)∨((ItDn hi n).go i H∧∃ N:St→Hp→Prop,(∀ σ' H',N σ' H'→∃ m',m'<m∧W (i+1) m' σ' H')∧∀ x H',(ItDn hi n).yld i H x H'→g x σ H' fun σ2 H2=>tb { D with nx:=N,ct:=N,bk:=D.nx } σ2 H2):=by
  refine ⟨fun i m σ H=>m=n - i∧i≤n∧Pv i σ H,⟨n,by simp,Nat.zero_le _,h0⟩,?_⟩
  rintro i m σ H ⟨rfl,hi,p⟩
  by_cases hlt:i<n
  · refine .inr ⟨hlt,Pv (i+1),fun σ' H' p'=>⟨n - (i+1),by omega,rfl,hlt,p'⟩,fun x H' y=>?_⟩
    obtain ⟨e,y⟩:=y
    subst e y
    exact hs i σ _ hlt p
  · have e:i=n:=by omega
    subst e
    exact .inl ⟨Nat.le_refl _,hd σ H p⟩
theorem ZnV {K:PySem.W.Frag} {a b:Addr} {xs ys:List V} {g:TG} {tb:TS} {D:Ends} {σ:St} {H:Hp} (Pv:Nat→St→Hp→Prop) (hlen:xs.length=ys.length) (h0:Pv 0 σ H) (hl:∀ i σ H,i≤xs.length→Pv i σ H→SqL K H a xs∧SqL K H b ys)
    (hs:∀ i x y t σ H,xs[i]?=some x→ys[i]?=some y→Pv i σ H→H t=none→g (.ref t) σ (upd H t (.tup [x,y])) fun σ2 H2=>tb { D with nx:=Pv (i+1),ct:=Pv (i+1),bk:=D.nx } σ2 H2) (hd:∀ σ H,Pv xs.length σ H→D.nx σ H) :
    ∃ W:Nat→Nat→St→Hp→Prop,(∃ m,W 0 m σ H)∧∀ i m σ H,W i m σ H →
      ((Itz K a b).stop i H∧D.nx σ H)∨((Itz K a b).go i H∧∃ N:St→Hp→Prop,(∀ σ' H',N σ' H'→∃ m',m'<m∧W (i+1) m' σ' H')∧∀ x H',(Itz K a b).yld i H x H'→g x σ H' fun σ2 H2=>tb { D with nx:=N,ct:=N,bk:=D.nx } σ2 H2):=by
  refine ⟨fun i m σ H=>m=xs.length - i∧i≤xs.length∧Pv i σ H,⟨xs.length,by simp,Nat.zero_le _,h0⟩,?_⟩
  rintro i m σ H ⟨rfl,hi,p⟩
  obtain ⟨q1,q2⟩:=hl i σ H hi p
  by_cases hlt:i<xs.length
  · have hlt2:i<ys.length:=hlen ▸ hlt
    refine .inr ⟨⟨xs,ys,xs[i],ys[i],q1,q2,by simp [hlt],by simp [hlt2]⟩,Pv (i+1),fun σ' H' p'=>⟨xs.length - (i+1),by omega,rfl,hlt,p'⟩,fun x H' y=>?_⟩
    obtain ⟨t,x1,y1,ht,rfl,rfl,hx,hy⟩:=y
    exact hs i x1 y1 t σ _ (hx xs q1) (hy ys q2) p ht
  · have e:i=xs.length:=by omega
    subst e
    exact .inl ⟨⟨xs,ys,q1,q2,.inl (Nat.le_refl _)⟩,hd σ H p⟩
end L2
set_option Elab.async false
set_option linter.all false
set_option maxRecDepth 100000
set_option maxHeartbeats 4000000
namespace L2.Stb
open PySem PySem.Spec PyProof.Rows
def Rk (ρ:Keyed→Nat) (xs:Array Keyed) (i:Nat):Nat:=(xs[i]?).elim 0 ρ
theorem Zdr {ρ:Keyed→Nat} {xs ys:Array Keyed} {i j:Nat} (h:xs[i]?=ys[j]?):Rk ρ xs i=Rk ρ ys j:=by unfold Rk; rw [h]
def VLt (ρ:Keyed→Nat) (xs:Array Keyed) (i j:Nat):Prop:=K xs i<K xs j∨(K xs i=K xs j∧Rk ρ xs i<Rk ρ xs j)
theorem VLt.trans {ρ:Keyed→Nat} {xs:Array Keyed} {i j k:Nat} (h1:VLt ρ xs i j) (h2:VLt ρ xs j k):VLt ρ xs i k:=by
  unfold VLt at *
  omega
def Inc (ρ:Keyed→Nat) (xs:Array Keyed) (n:Nat):Prop:=∀ i j,i<j→j<n→VLt ρ xs i j
def Dec (ρ:Keyed→Nat) (xs:Array Keyed) (n:Nat):Prop:=∀ i j,i<j→j<n→VLt ρ xs j i
def Idn (ρ:Keyed→Nat) (xs:Array Keyed) (n:Nat):Prop:=∀ i,n≤i→i<xs.size→Rk ρ xs i=i
theorem Idn.mono {ρ:Keyed→Nat} {xs:Array Keyed} {m n:Nat} (h:Idn ρ xs m) (l:m≤n):Idn ρ xs n:=fun i hi hs=>h i (Nat.le_trans l hi) hs
theorem Zjt {ρ:Keyed→Nat} {xs:Array Keyed} {i:Nat} (h:i<xs.size):(xs.toList.map ρ)[i]?=some (Rk ρ xs i):=by
  unfold Rk
  rw [List.getElem?_map,Array.getElem?_toList,Array.getElem?_eq_getElem h]
  rfl
structure Inj (ρ:Keyed→Nat) (xs:Array Keyed):Prop where
  inj:∀ i j,i<xs.size→j<xs.size→Rk ρ xs i=Rk ρ xs j→i=j
  lt:∀ i,i<xs.size→Rk ρ xs i<xs.size
theorem ZoP {ρ:Keyed→Nat} {xs a₀:Array Keyed} (p:xs.Perm a₀) (h0:Idn ρ a₀ 0):Inj ρ xs:=by
  have e0:a₀.toList.map ρ=List.range a₀.size:=by
    apply List.ext_getElem?
    intro i
    by_cases h:i<a₀.size
    · rw [Zjt h,List.getElem?_range h,h0 i (Nat.zero_le _) h]
    · rw [List.getElem?_eq_none (by simpa using h),List.getElem?_eq_none (by simpa using h)]
  have pm:(xs.toList.map ρ).Perm (List.range a₀.size):=by rw [← e0]; exact (Array.perm_iff_toList_perm.mp p).map ρ
  have nd:(xs.toList.map ρ).Nodup:=pm.nodup_iff.mpr List.nodup_range
  refine ⟨fun i j hi hj e=>?_,fun i hi=>?_⟩
  · refine (List.getElem?_inj (by rw [List.length_map,Array.length_toList]; exact hi) nd).mp ?_
    rw [Zjt hi,Zjt hj,e]
  · have m:Rk ρ xs i∈xs.toList.map ρ:=List.mem_of_getElem? (Zjt hi)
    have:=List.mem_range.mp (pm.mem_iff.mp m)
    rw [p.size_eq]
    exact this
theorem Inj.below {ρ:Keyed→Nat} {xs:Array Keyed} (I:Inj ρ xs) {n:Nat} (h:Idn ρ xs n) {i:Nat} (hi:i<n) (hs:i<xs.size):Rk ρ xs i<n:=by
  by_cases c:Rk ρ xs i<n
  · exact c
  · have l:=I.lt i hs
    have e:=h (Rk ρ xs i) (by omega) l
    have:=I.inj _ _ l hs e
    omega
theorem ZeT {ρ:Keyed→Nat} {xs:Array Keyed} {src d:Nat} (hs:src<xs.size) (hd:d≤src) (k:Nat) :
    Rk ρ (bubble xs src d) k=if k=src - d then Rk ρ xs src else if src - d<k∧k≤src then Rk ρ xs (k - 1) else Rk ρ xs k:=by
  have e:=getElem?_bubble hs d hd k
  by_cases h1:k=src - d
  · rw [if_pos h1] at e ⊢
    exact Zdr e
  · rw [if_neg h1] at e ⊢
    by_cases h2:src - d<k∧k≤src
    · rw [if_pos h2] at e ⊢
      exact Zdr e
    · rw [if_neg h2] at e ⊢
      exact Zdr e
theorem Zbe {ρ:Keyed→Nat} {xs:Array Keyed} {i j:Nat} (hj:j≤xs.size) (k:Nat) :
    Rk ρ (mirror xs i j ((j - i) / 2)) k=if i≤k∧k<j then Rk ρ xs (i+j - 1 - k) else Rk ρ xs k:=by
  have e:=getElem?_mirror_all (i:=i) hj k
  by_cases h1:i≤k∧k<j
  · rw [if_pos h1] at e ⊢
    exact Zdr e
  · rw [if_neg h1] at e ⊢
    exact Zdr e
section
variable {prog:Program} {w:World} {A:Around} {E:Value→Shared→Prop} {s:Shared} {a₀:Array Keyed} {ρ:Keyed→Nat}
theorem SB.inj {st:SortSt} (h:SBase a₀ st) (hr:Idn ρ a₀ 0):Inj ρ (arrOf st):=ZoP h.perm hr
theorem ZoQ {st:SortSt} {n ok:Nat} {Q:Bool→SortSt→Prop} (h0:IntKeys a₀) (hr:Idn ρ a₀ 0) (hn:n≤a₀.size) (hok:ok≤n) (h1k:1≤ok) (hB:SBase a₀ st) (hs:Inc ρ (arrOf st) ok) (hI:Idn ρ (arrOf st) ok)
    (h:∀ st',SBase a₀ st'→Inc ρ (arrOf st') n→Q true st'):wpS (model prog w) A E s (binarySort' 0 n ok) Q st:=by
  rw [binarySort'_eq]
  simp only [Nat.zero_add]
  refine wpS_bind (wpS_mono (wpS_forRange (I:=fun k c st1=>c=(none,())∧SBase a₀ st1∧Inc ρ (arrOf st1) (min k n)∧Idn ρ (arrOf st1) (min k n))
    (Q:=fun c st1=>c=(none,())∧SBase a₀ st1∧Inc ρ (arrOf st1) n) ?turn ?last ?first) ?after)
  case after =>
    rintro c st1 ⟨rfl,b1,i1⟩
    exact wpS_pure (h st1 b1 i1)
  case first =>
    rw [show min (max ok 1) n=ok by omega]
    exact ⟨rfl,hB,hs,hI⟩
  case last =>
    rintro c st1 ⟨hc,b1,i1,_⟩
    rw [show min (max (max ok 1) n) n=n by omega] at i1
    exact ⟨hc,b1,i1⟩
  case turn =>
    rintro k c st1 hak hkn ⟨rfl,b1,i1,d1⟩
    rw [show min k n=k by omega] at i1 d1
    have hk:k<a₀.size:=by omega
    have sz:=b1.size
    have J:=SB.inj b1 hr
    have rk:Rk ρ (arrOf st1) k=k:=d1 k (Nat.le_refl _) (by omega)
    have lo:∀ m,m<k→¬ K (arrOf st1) k<K (arrOf st1) m→VLt ρ (arrOf st1) m k:=fun m hm c=>by
      have:=J.below d1 hm (by omega)
      unfold VLt
      omega
    refine wpS_bind (wpS_mono (wpS_forRange (I:=fun x c st2=>st2=st1∧∃ l r,c=(none,l,r)∧l≤r∧r≤k∧r - l≤k - x∧(∀ i,i<l→VLt ρ (arrOf st1) i k)∧(∀ i,r≤i→i<k→VLt ρ (arrOf st1) k i))
      (Q:=fun c st2=>st2=st1∧∃ l r,c=(none,l,r)∧l≤k∧(∀ i,i<l→VLt ρ (arrOf st1) i k)∧(∀ i,l≤i→i<k→VLt ρ (arrOf st1) k i)) ?iturn ?ilast ?ifirst) ?iafter)
    case ifirst=>exact ⟨rfl,0,k,rfl,by omega,by omega,by omega,fun i hi=>absurd hi (by omega),fun i p q=>absurd q (by omega)⟩
    case ilast =>
      rintro c st2 ⟨rfl,l,r,rfl,hlr,hrk,hm,u1,u2⟩
      have e:l=r:=by omega
      subst e
      exact ⟨rfl,l,l,rfl,hrk,u1,u2⟩
    case iturn =>
      rintro x c st2 _ hxk ⟨rfl,l,r,rfl,hlr,hrk,hm,u1,u2⟩
      dsimp only
      by_cases hge:l ≥ r
      · rw [if_pos hge]
        have e:l=r:=by omega
        subst e
        exact wpS_pure ⟨rfl,l,l,rfl,hrk,u1,u2⟩
      · rw [if_neg hge]
        refine wpS_bind (wpS_ltK b1 h0 hk (by omega) ?_)
        by_cases c:K (arrOf st2) k<K (arrOf st2) ((l+r) / 2)
        · simp only [c,decide_true,if_true]
          refine wpS_pure ⟨rfl,l,(l+r) / 2,rfl,by omega,by omega,by omega,u1,fun i p q=>?_⟩
          by_cases e:i=(l+r) / 2
          · subst e; exact .inl c
          · exact VLt.trans (.inl c) (i1 _ _ (by omega) q)
        · simp only [c,decide_false,Bool.false_eq_true,if_false]
          refine wpS_pure ⟨rfl,(l+r) / 2+1,r,rfl,by omega,by omega,by omega,fun i p=>?_,u2⟩
          have v:=lo _ (by omega) c
          by_cases e:i=(l+r) / 2
          · subst e; exact v
          · exact VLt.trans (i1 _ _ (by omega) (by omega)) v
    case iafter =>
      rintro c st2 ⟨rfl,l,r,rfl,hlk,u1,u2⟩
      show wpS _ _ _ _ (do moveDown' k l; pure (ForInStep.yield (none,()))) _ _
      rw [moveDown'_eq]
      refine wpS_bind (wpS_modify (wpS_pure ⟨rfl,b1.setArr (bubble_perm _ _ _),?_,?_⟩))
      · rw [show min (k+1) n=k+1 by omega]
        have hks:k<(arrOf st2).size:=by omega
        intro i j hij hj
        show VLt ρ (bubble (arrOf st2) k (k - l)) i j
        unfold VLt
        rw [K_bubble hks (by omega),K_bubble hks (by omega),ZeT hks (by omega),ZeT hks (by omega),show k - (k - l)=l by omega]
        by_cases a1:i=l
        · have b1':¬ j=l:=by omega
          have b2':l<j∧j≤k:=by omega
          rw [if_pos a1,if_pos a1,if_neg b1',if_neg b1',if_pos b2',if_pos b2']
          exact u2 _ (by omega) (by omega)
        · rw [if_neg a1,if_neg a1]
          by_cases a2:j=l
          · have b1':¬ (l<i∧i≤k):=by omega
            rw [if_pos a2,if_pos a2,if_neg b1',if_neg b1']
            exact u1 _ (by omega)
          · rw [if_neg a2,if_neg a2]
            by_cases a3:l<i∧i≤k
            · have b1':l<j∧j≤k:=by omega
              rw [if_pos a3,if_pos a3,if_pos b1',if_pos b1']
              exact i1 _ _ (by omega) (by omega)
            · rw [if_neg a3,if_neg a3]
              by_cases a4:l<j∧j≤k
              · rw [if_pos a4,if_pos a4]
                by_cases a5:i<j - 1
                · exact i1 _ _ a5 (by omega)
                · exfalso; omega
              · rw [if_neg a4,if_neg a4]
                exact i1 _ _ (by omega) (by omega)
      · rw [show min (k+1) n=k+1 by omega]
        intro i hi hs'
        have hs2:i<(arrOf st2).size:=by
          have:(arrOf (setArr st2 (bubble (arrOf st2) k (k - l)))).size=(arrOf st2).size:=bubble_size _ _ _
          omega
        show Rk ρ (bubble (arrOf st2) k (k - l)) i=i
        rw [ZeT (by omega) (by omega),if_neg (by omega),if_neg (by omega)]
        exact d1 i (by omega) hs2
theorem Zno {st:SortSt} {a nrem:Nat} {Q:AscSt→SortSt→Prop} (h0:IntKeys a₀) (hr:Idn ρ a₀ 0) (hn:nrem≤a₀.size) (ha:1≤a) (han:a≤nrem) (hB:SBase a₀ st) (hs:Inc ρ (arrOf st) a) (hI:Idn ρ (arrOf st) a)
    (h:∀ n,a≤n→n≤nrem→Inc ρ (arrOf st) n→(n=nrem∨K (arrOf st) n<K (arrOf st) (n - 1))→Q (none,n) st):wpS (model prog w) A E s (ascLoop a nrem) Q st:=by
  unfold ascLoop
  have sz:=hB.size
  have J:=SB.inj hB hr
  refine wpS_forRange (I:=fun x c st1=>st1=st∧c=(none,x)∧Inc ρ (arrOf st) x) ?turn ?last ⟨rfl,rfl,hs⟩
  case last =>
    rintro c st1 ⟨rfl,rfl,i1⟩
    rw [show max a nrem=nrem by omega] at i1 ⊢
    exact h nrem han (Nat.le_refl _) i1 (.inl rfl)
  case turn =>
    rintro x c st1 hax hxn ⟨rfl,rfl,i1⟩
    dsimp only
    refine wpS_bind (wpS_ltK hB h0 (by omega) (by omega) ?_)
    by_cases c:K (arrOf st1) x<K (arrOf st1) (x - 1)
    · simp only [c,decide_true,if_true]
      exact wpS_pure (h x hax (by omega) i1 (.inr c))
    · simp only [c,decide_false,Bool.false_eq_true,if_false]
      refine wpS_pure ⟨rfl,rfl,fun i j hij hj=>?_⟩
      by_cases hjx:j<x
      · exact i1 i j hij hjx
      · have ej:j=x:=by omega
        subst ej
        have dx:=hI.mono hax
        have r1:=J.below dx (i:=j - 1) (by omega) (by omega)
        have r2:=dx j (Nat.le_refl _) (by omega)
        have v:VLt ρ (arrOf st1) (j - 1) j:=by unfold VLt; omega
        by_cases e:i=j - 1
        · subst e; exact v
        · exact VLt.trans (i1 i (j - 1) (by omega) (by omega)) v
theorem Zln {st:SortSt} {n nrem:Nat} {Q:Option Nat→SortSt→Prop} (h0:IntKeys a₀) (hr:Idn ρ a₀ 0) (hn:nrem≤a₀.size) (h1:1≤n) (hnn:n≤nrem) (hB:SBase a₀ st) (hs:Dec ρ (arrOf st) n) (hI:Idn ρ (arrOf st) n)
    (h:∀ m st',SBase a₀ st'→1≤m→m≤nrem→Inc ρ (arrOf st') m→Idn ρ (arrOf st') m→Q (some m) st'):wpS (model prog w) A E s (tail3 n nrem) Q st:=by
  unfold tail3
  have sz:=hB.size
  refine wpS_bind (wpS_reverse ?_)
  have b1:SBase a₀ (setArr st (mirror (arrOf st) 0 n ((n - 0) / 2))):=hB.setArr (mirror_perm _ _ _ _)
  have d1:Idn ρ (mirror (arrOf st) 0 n ((n - 0) / 2)) n:=fun i hi hs'=>by
    rw [mirror_size] at hs'
    rw [Zbe (by omega),if_neg (by omega)]
    exact hI i hi hs'
  refine wpS_bind (Zno h0 hr hn h1 hnn b1 ?_ d1 fun m m1 m2 i2 _=>wpS_pure (h m _ b1 (by omega) m2 i2 (d1.mono m1)))
  intro i j hij hj
  show VLt ρ (mirror (arrOf st) 0 n ((n - 0) / 2)) i j
  unfold VLt
  rw [K_mirror (by omega),K_mirror (by omega),Zbe (by omega),Zbe (by omega),if_pos (by omega),if_pos (by omega),if_pos (by omega),if_pos (by omega)]
  exact hs _ _ (by omega) (by omega)
structure DI (ρ:Keyed→Nat) (xs:Array Keyed) (x q:Nat):Prop where
  l:q+1≤x
  sz:x≤xs.size
  d:Dec ρ xs (x - (q+1))
  u:∀ i j,i<x - (q+1)→x - (q+1)≤j→j<x→K xs j<K xs i
  e:∀ i,x - (q+1)≤i→i<x→K xs i=K xs (x - 1)
  f:Idn ρ xs (x - (q+1))
theorem DI.dec0 {xs:Array Keyed} {x:Nat} (h:DI ρ xs x 0):Dec ρ xs x:=fun i j hij hj=>by
  by_cases c:j<x - (0+1)
  · exact h.d i j hij c
  · exact .inl (h.u i j (by omega) (by omega) hj)
theorem DI.rev {xs:Array Keyed} {x q:Nat} (h:DI ρ xs x q):Dec ρ (mirror xs (x - (q+1)) x ((x - (x - (q+1))) / 2)) x∧Idn ρ (mirror xs (x - (q+1)) x ((x - (x - (q+1))) / 2)) x:=by
  have hl:=h.l
  have hz:=h.sz
  refine ⟨fun i j hij hj=>?_,fun i hi hs=>?_⟩
  · have ke:=K_mirror_equal (i:=x - (q+1)) hz h.e
    unfold VLt
    rw [ke,ke,Zbe hz,Zbe hz]
    by_cases c1:j<x - (q+1)
    · rw [if_neg (by omega),if_neg (by omega)]
      exact h.d i j hij c1
    · by_cases c2:i<x - (q+1)
      · exact .inl (h.u i j c2 (by omega) hj)
      · rw [if_pos (by omega),if_pos (by omega)]
        refine .inr ⟨(h.e j (by omega) hj).trans (h.e i (by omega) (by omega)).symm,?_⟩
        rw [h.f _ (by omega) (by omega),h.f _ (by omega) (by omega)]
        omega
  · rw [mirror_size] at hs
    rw [Zbe hz,if_neg (by omega)]
    exact h.f i (by omega) hs
theorem DI.of {xs:Array Keyed} {x:Nat} (hx:1≤x) (hz:x<xs.size) (hd:Dec ρ xs x) (hf:Idn ρ xs x) (hk:K xs x<K xs (x - 1)):DI ρ xs (x+1) 0:=by
  refine ⟨by omega,by omega,hd,fun i j hi hj hj'=>?_,fun i hi hi'=>?_,hf⟩
  · have ej:j=x:=by omega
    subst ej
    by_cases e:i=j - 1
    · subst e; exact hk
    · have v:=hd i (j - 1) (by omega) (by omega)
      unfold VLt at v
      omega
  · have ei:i=x:=by omega
    subst ei
    rfl
theorem DI.more {xs:Array Keyed} {x q:Nat} (h:DI ρ xs x q) (hz:x<xs.size) (hk:K xs x=K xs (x - 1)):DI ρ xs (x+1) (q+1):=by
  have hl:=h.l
  have e0:x+1 - (q+1+1)=x - (q+1):=by omega
  refine ⟨by omega,by omega,by rw [e0]; exact h.d,fun i j hi hj hj'=>?_,fun i hi hi'=>?_,by rw [e0]; exact h.f⟩
  · rw [e0] at hi hj
    by_cases c:j<x
    · exact h.u i j hi hj c
    · have ej:j=x:=by omega
      subst ej
      rw [hk]
      exact h.u i (j - 1) hi (by omega) (by omega)
  · rw [show x+1 - 1=x by omega]
    by_cases c:i<x
    · rw [hk]; exact h.e i (by omega) c
    · have ei:i=x:=by omega
      subst ei
      rfl
theorem ZnW {st:SortSt} {n nrem:Nat} {Q:DescSt→SortSt→Prop} (h0:IntKeys a₀) (hn:nrem≤a₀.size) (hnn:n≤nrem) (hB:SBase a₀ st) (hs:DI ρ (arrOf st) n 0)
    (h:∀ m q st',SBase a₀ st'→m≤nrem→DI ρ (arrOf st') m q→Q (none,m,q) st'):wpS (model prog w) A E s (descLoop n nrem) Q st:=by
  unfold descLoop
  refine wpS_forRange (I:=fun x c st1=>∃ q,c=(none,x,q)∧SBase a₀ st1∧DI ρ (arrOf st1) x q) ?turn ?last ⟨0,rfl,hB,hs⟩
  case last =>
    rintro c st1 ⟨q,rfl,b1,d1⟩
    rw [show max n nrem=nrem by omega] at d1 ⊢
    exact h nrem q st1 b1 (Nat.le_refl _) d1
  case turn =>
    rintro x c st1 hax hxn ⟨q,rfl,b1,d1⟩
    dsimp only
    have sz:=b1.size
    have hl:=d1.l
    refine wpS_bind (wpS_ltK b1 h0 (by omega) (by omega) ?_)
    by_cases c:K (arrOf st1) x<K (arrOf st1) (x - 1)
    · simp only [c,decide_true,if_true]
      by_cases hq:q > 0
      · rw [if_pos hq]
        obtain ⟨r1,r2⟩:=d1.rev
        refine wpS_bind (wpS_reverse (wpS_pure ⟨0,rfl,b1.setArr (mirror_perm _ _ _ _),DI.of (by omega) (by show x<(mirror _ _ _ _).size; rw [mirror_size]; omega) r1 r2 ?_⟩))
        show K (mirror _ _ _ _) x<K (mirror _ _ _ _) (x - 1)
        rw [K_mirror_equal d1.sz d1.e,K_mirror_equal d1.sz d1.e]
        exact c
      · rw [if_neg hq]
        have e:q=0:=by omega
        subst e
        exact wpS_pure ⟨0,rfl,b1,DI.of (by omega) (by omega) d1.dec0 (d1.f.mono (by omega)) c⟩
    · simp only [c,decide_false,Bool.false_eq_true,if_false]
      refine wpS_bind (wpS_ltK b1 h0 (by omega) (by omega) ?_)
      by_cases c2:K (arrOf st1) (x - 1)<K (arrOf st1) x
      · simp only [c2,decide_true,if_true]
        exact wpS_pure (h x q st1 b1 (by omega) d1)
      · simp only [c2,decide_false,Bool.false_eq_true,if_false]
        exact wpS_pure ⟨q+1,rfl,b1,d1.more (by omega) (by omega)⟩
theorem Zlo {st:SortSt} {n nrem:Nat} {Q:Option Nat→SortSt→Prop} (h0:IntKeys a₀) (hr:Idn ρ a₀ 0) (hn:nrem≤a₀.size) (hnn:n+1≤nrem) (hB:SBase a₀ st) (hs:DI ρ (arrOf st) (n+1) 0)
    (h:∀ m st',SBase a₀ st'→1≤m→m≤nrem→Inc ρ (arrOf st') m→Idn ρ (arrOf st') m→Q (some m) st'):wpS (model prog w) A E s (descPart n nrem) Q st:=by
  unfold descPart
  refine wpS_bind (wpS_lift (wpAny_rule ⟨rfl,?_⟩))
  refine wpS_bind (ZnW h0 hn hnn hB hs fun m q st1 b1 m2 d1=>?_)
  dsimp only
  have hl:=d1.l
  by_cases hq:q > 0
  · rw [if_pos hq]
    obtain ⟨r1,r2⟩:=d1.rev
    exact wpS_bind (wpS_reverse (Zln h0 hr hn (by omega) m2 (b1.setArr (mirror_perm _ _ _ _)) r1 r2 h))
  · rw [if_neg hq]
    have e:q=0:=by omega
    subst e
    exact Zln h0 hr hn (by omega) m2 b1 d1.dec0 (d1.f.mono (by omega)) h
theorem ZmF {st:SortSt} {nrem:Nat} {Q:Option Nat→SortSt→Prop} (h0:IntKeys a₀) (hr:Idn ρ a₀ 0) (hn:nrem≤a₀.size) (h1:1≤nrem) (hB:SBase a₀ st) (hI:Idn ρ (arrOf st) 0)
    (h:∀ m st',SBase a₀ st'→1≤m→m≤nrem→Inc ρ (arrOf st') m→Idn ρ (arrOf st') m→Q (some m) st'):wpS (model prog w) A E s (countRun' 0 nrem) Q st:=by
  rw [countRun0_eq]
  have sz:=hB.size
  refine wpS_bind (Zno h0 hr hn (Nat.le_refl 1) h1 hB (fun i j hij hj=>absurd hj (by omega)) (hI.mono (Nat.zero_le _)) fun n n1 n2 i1 hor=>?_)
  dsimp only
  by_cases e:n=nrem
  · rw [if_pos (by simpa using e)]
    exact wpS_pure (h n st hB n1 n2 i1 (hI.mono (Nat.zero_le _)))
  · rw [if_neg (by simpa using e)]
    have lt:K (arrOf st) n<K (arrOf st) (n - 1):=hor.resolve_left e
    by_cases g:n > 1
    · rw [if_pos g]
      refine wpS_bind (wpS_ltK hB h0 (by omega) (by omega) ?_)
      by_cases c:K (arrOf st) 0<K (arrOf st) (n - 1)
      · simp only [c,decide_true,if_true]
        exact wpS_pure (h n st hB n1 n2 i1 (hI.mono (Nat.zero_le _)))
      · simp only [c,decide_false,Bool.false_eq_true,if_false]
        have all:∀ k,0≤k→k<n→K (arrOf st) k=K (arrOf st) (n - 1):=by
          intro k _ hk
          have a1:k=0∨VLt ρ (arrOf st) 0 k:=by
            by_cases z:k=0
            · exact .inl z
            · exact .inr (i1 0 k (by omega) hk)
          have a2:k=n - 1∨VLt ρ (arrOf st) k (n - 1):=by
            by_cases z:k=n - 1
            · exact .inl z
            · exact .inr (i1 k (n - 1) (by omega) (by omega))
          have a3:=i1 0 (n - 1) (by omega) (by omega)
          unfold VLt at a1 a2 a3
          rcases a1 with a1 | a1
          · subst a1; omega
          · rcases a2 with a2 | a2
            · subst a2; rfl
            · omega
        have ke:=K_mirror_equal (xs:=arrOf st) (i:=0) (j:=n) (by omega) all
        refine wpS_bind (wpS_reverse (Zlo h0 hr hn (by omega) (hB.setArr (mirror_perm _ _ _ _)) (DI.of (by omega) (by show n<(mirror _ _ _ _).size; rw [mirror_size]; omega) (fun i j hij hj=>?_) (fun i hi hs=>?_) ?_) h))
        · show VLt ρ (mirror (arrOf st) 0 n ((n - 0) / 2)) j i
          unfold VLt
          rw [ke,ke,all i (by omega) (by omega),all j (by omega) hj,Zbe (by omega),Zbe (by omega),if_pos (by omega),if_pos (by omega),hI _ (by omega) (by omega),hI _ (by omega) (by omega)]
          omega
        · have hs':i<(mirror (arrOf st) 0 n ((n - 0) / 2)).size:=hs
          rw [mirror_size] at hs'
          show Rk ρ (mirror (arrOf st) 0 n ((n - 0) / 2)) i=i
          rw [Zbe (by omega),if_neg (by omega)]
          exact hI i (by omega) hs'
        · show K (mirror (arrOf st) 0 n ((n - 0) / 2)) n<K (mirror (arrOf st) 0 n ((n - 0) / 2)) (n - 1)
          rw [ke,ke]
          exact lt
    · rw [if_neg g]
      have en:n=1:=by omega
      subst en
      exact Zlo h0 hr hn (by omega) hB (DI.of (by omega) (by omega) (fun i j hij hj=>absurd hj (by omega)) (hI.mono (Nat.zero_le _)) lt) h
def SEnd (ρ:Keyed→Nat) (a₀:Array Keyed) (st:SortSt):Prop:=(arrOf st).Perm a₀∧failedOf st=none∧pendingOf st=#[(0,a₀.size,0)]∧Inc ρ (arrOf st) a₀.size
theorem SEnd.of {st:SortSt} (hB:SBase a₀ st) (hs:Inc ρ (arrOf st) a₀.size):SEnd ρ a₀ (setPending st ((pendingOf st).push (0,a₀.size,0))) :=
  ⟨hB.perm,hB.failed,by show (pendingOf st).push _=_; rw [hB.pend]; rfl,hs⟩
theorem ZnX {st:SortSt} {Q:Unit→SortSt→Prop} (h0:IntKeys a₀) (hr:Idn ρ a₀ 0) (hB:SBase a₀ st) (hI:Idn ρ (arrOf st) 0) (h2:2≤a₀.size) (h64:a₀.size<64)
    (h:∀ st',(arrOf st').Perm a₀→failedOf st'=none→Inc ρ (arrOf st') a₀.size→Q () st'):wpS (model prog w) A E s sortRuns' Q st:=by
  rw [sortRuns'_eq]
  refine wpS_bind (wpS_get ?_)
  dsimp only
  have mr:minRun' a₀.size a₀.size 0=a₀.size:=by
    obtain ⟨f,hf⟩:∃ f,a₀.size=f+1:=⟨a₀.size - 1,by omega⟩
    have e:minRun' (f+1) a₀.size 0=a₀.size:=by
      rw [minRun'_succ,if_pos h64]
      rfl
    rwa [← hf] at e
  simp only [hB.size,mr]
  refine wpS_bind (wpS_mono (wpS_forRange
    (I:=fun x c st1=>(x=0∧c=(none,0)∧SBase a₀ st1∧Idn ρ (arrOf st1) 0)∨(1≤x∧c=(none,a₀.size)∧SEnd ρ a₀ st1))
    (Q:=fun c st1=>c=(none,a₀.size)∧SEnd ρ a₀ st1) ?turn ?last (.inl ⟨rfl,rfl,hB,hI⟩)) ?after)
  case last =>
    rintro c st1 (⟨hx,_⟩ | ⟨_,hc,hD⟩)
    · omega
    · exact ⟨hc,hD⟩
  case turn =>
    rintro x c st1 _ hx (⟨rfl,rfl,b1,i1⟩ | ⟨hx1,rfl,hD⟩)
    · dsimp only
      rw [if_neg (by omega)]
      simp only [Nat.sub_zero,Nat.min_self,Nat.zero_add]
      refine wpS_bind (ZmF h0 hr (Nat.le_refl _) (by omega) b1 i1 fun m st2 b2 m1 m2 s2 d2=>?_)
      dsimp only
      by_cases lt:m<a₀.size
      · rw [if_pos lt]
        refine wpS_bind (wpS_lift (wpAny_rule ⟨rfl,?_⟩))
        refine wpS_bind (ZoQ h0 hr (Nat.le_refl _) m2 m1 b2 s2 d2 fun st3 b3 s3=>?_)
        simp only [Bool.not_true,Bool.false_eq_true,if_false]
        refine wpS_bind (wpS_get ?_)
        have hb:(pendingOf st3).back?=none:=by
          rw [b3.pend]
          rfl
        rw [hb]
        dsimp only
        exact wpS_bind (wpS_modify (wpS_pure (.inr ⟨by omega,rfl,SEnd.of b3 s3⟩)))
      · rw [if_neg lt]
        have em:m=a₀.size:=by omega
        subst em
        refine wpS_bind (wpS_get ?_)
        have hb:(pendingOf st2).back?=none:=by
          rw [b2.pend]
          rfl
        rw [hb]
        dsimp only
        exact wpS_bind (wpS_modify (wpS_pure (.inr ⟨by omega,rfl,SEnd.of b2 s2⟩)))
    · dsimp only
      rw [if_pos (Nat.le_refl _)]
      exact wpS_pure ⟨rfl,hD⟩
  case after =>
    rintro c st1 ⟨rfl,hD⟩
    dsimp only
    refine wpS_bind (wpS_mono (wpS_forRange (I:=fun _ c st2=>st2=st1∧c=(none,())) (Q:=fun c st2=>st2=st1∧c=(none,())) ?_ (fun _ _ hh=>hh) ⟨rfl,rfl⟩) ?_)
    · rintro x c st2 _ _ ⟨rfl,rfl⟩
      refine wpS_bind (wpS_get ?_)
      rw [if_pos (by rw [hD.2.2.1]; exact Nat.le_refl 1)]
      exact wpS_pure ⟨rfl,rfl⟩
    · rintro c st2 ⟨rfl,rfl⟩
      exact wpS_pure (h _ hD.1 hD.2.1 hD.2.2.2)
end
end L2.Stb
set_option Elab.async false
set_option linter.all false
set_option maxRecDepth 100000
set_option maxHeartbeats 4000000
namespace L2
open PySem PySem.Spec PyProof.Rows
def BMod (base:Heap) (mg:Str→Option Value):Prop:=∃ bm o,mg "__builtins__" = some (.ref bm)∧bm≠builtinsNs∧bm≠mainGlobals∧base.get? bm=some o∧o.cls=.type "module" ∧ o.dict=some builtinsNs∧o.data=.plain
section
variable {X:Cx} {pins:List (Addr×Obj)} {σ:St} {H:Hp} {s:Shared}
theorem Inv.grown {P c':Addr} {pos:Pos} {qual:Str} {ps:Array Value} {h':Heap} {tk:Nat} (I:Inv X pins σ H s) (hP:H P=some (.tbl pos qual)) (hx:Heap.ExtBut P s.heap h') (hge:s.heap.objs.size≤c') (hrec:h'.CodeRec (.ref c') qual)
    (htr:TriplesOk ps.toList) (hnf:codeAmong pos ps.toList=none) (htb:h'.get? P=some { cls:=.none,data:=.fields (ps++#[rawInt pos.line,rawInt pos.col,.ref c']) }) :
    ∃ oc vs t,h'.get? c'=some oc∧oc.data=.fields vs∧vs[1]?=some (.str qual t)∧Inv X pins σ (upd H c' (.frz oc (.own P))) { s with heap:=h',toks:=tk }:=by
  obtain ⟨c,oc,vs,t,z,hoc,hd,hv⟩:=hrec
  cases z
  have fr:H c'=none:=I.hok.fresh hge
  have nP:∀ b,H b=none→b≠P:=fun b n z=>by rw [z,hP] at n; cases n
  have nc:∀ b u,H b=some u→b≠c':=fun b u e=>Zd e fr
  have nh:∀ b o,s.heap.get? b=some o→b≠c':=fun b o e=>Nat.ne_of_lt (Nat.lt_of_lt_of_le (Heap.lt_size e) hge)
  have cP:c'≠P:=fun z=>by rw [z,hP] at fr; cases fr
  refine ⟨oc,vs,t,hoc,hd,hv,I.step (g':=s.gens) (d':=s.drawn) (t':=tk) (ch:=[]) (h':=h') (H':=upd H c' (.frz oc (.own P))) (fun _ z=>nomatch z) (fun b o _ _ _ e n=>hx b o (nP b n) e) (fun b o _ _ _ e n=>⟨o.slots,hx b o (nP b n) e⟩)
    (fun b o _ e n=>by rw [Zb (nh b o e)]; exact n) (fun b o _ e=>?_) (fun b xs e=>by rw [Zb (nc b _ e)]; exact e) (fun b o u e=>by rw [Zb (nc b _ e)]; exact e) (fun b p q e=>by rw [Zb (nc b _ e)]; exact e) (fun m hm=>?_) (fun b u e=>?_) I.bare⟩
  · by_cases hb:b=P
    · subst hb; exact ⟨_,htb⟩
    · exact ⟨o,hx b o hb e⟩
  · obtain ⟨o,es,ep,ho,r⟩:=hm
    exact ⟨o,es,ep,hx _ o (nP _ I.free) ho,r⟩
  · by_cases hb:b=c'
    · subst hb
      rw [Za] at e
      cases e
      exact ⟨hoc,_,hoc⟩
    · rw [Zb hb] at e
      by_cases hbP:b=P
      · subst hbP
        rw [hP] at e
        cases e
        have e1:(ps++#[rawInt pos.line,rawInt pos.col,Value.ref c']).toList=ps.toList++[rawInt pos.line,rawInt pos.col,.ref c']:=by simp
        refine ⟨_,htb,?_,fun cv hc=>?_⟩
        · rw [e1]; exact TriplesOk_snoc _ _ _ _ htr
        · rw [e1,codeAmong_snoc _ htr hnf] at hc
          cases hc
          exact ⟨c',oc,vs,t,rfl,Za,hd,hv⟩
      · refine (I.hok b u e).stay (fun d v hd' q=>hx d v ?_ q) (fun d q=>by rw [Zb (nc d _ q)]; exact q) (fun d xs q=>by rw [Zb (nc d _ q)]; exact q) fun d oz q=>by rw [Zb (nc d _ q)]; exact q
        rcases hd' with rfl | hd'
        · exact hbP
        · intro z; rw [z,hP] at hd'; cases hd'
structure LamOk (X:Cx) (scope:Scope) (x:Str) (fr:List Str) (js:List Nat):Prop where
  kind:scope.kind=.function
  co:scope.isCoroutine=false
  gen:scope.isGenerator=false
  nocell:∀ y∈scope.names,y.2≠.cell
  par:scope.names.lookup x=some .local
  free:∀ y∈scope.names,y.2=.free→X.env.kindOf y.1=some .cell∨X.env.kindOf y.1=some .free
  len:fr.length=js.length
  js:∀ (k j:Nat),js[k]?=some j→fr[k]?=X.N[j]?
  jf:∀ (k:Nat) (y:Str),fr[k]?=some y→scope.names.lookup y=some .free
def cxLam (X:Cx) (A:Around) (N:List Str) (qual:Str) (scope:Scope) (f:Addr) (cd:Value) (cl:List (Str×Addr)) (s:Shared) (H:Hp):Cx where
  prog:=X.prog
  w:=X.w
  K:=X.K
  mg:=X.mg
  base:=X.base
  A:=A.deeper (PySem.W.envX qual scope s.heap.objs.size f cd cl)
  N:=N
  s₀:=s
  H₀:=H
  env:=PySem.W.envX qual scope s.heap.objs.size f cd cl
  outer:=X.stack
  stack:=PySem.W.envX qual scope s.heap.objs.size f cd cl :: X.stack
  ex:=[]
  calm:=true
  fn:=fun _=>false
  pn:=[]
  xe:=fun _ _=>False
theorem ZnY {A:Around} {x:Str} {fr:List Str} {js:List Nat} {qual:Str} {scope:Scope} {f:Addr} {cd:Value} {cl:List (Str×Addr)} {s1:Shared} {u:Value} {v:V} (c:LamOk X scope x fr js) (I:Inv X pins σ H s) (hA:A.frames=some X.stack) (hh:A.handled=none)
    (cl1:∀ x c,cl.lookup x=some c→X.env.cells.lookup x=some c) (cl2:∀ p∈scope.names,p.2=.free→∃ c,cl.lookup p.1=some c) (r:RelV v u)
    (hn:s1.heap.Ns s.heap.objs.size fun y=>[(x,u)].reverse.lookup y) (hk:∀ b o,s.heap.get? b=some o→s1.heap.get? b=some o) (hos:s1.os=s.os) (hg:s1.gens=s.gens) :
    Inv (cxLam X A (x :: fr) qual scope f cd cl s H) [] (some v :: js.map fun j=>(σ[j]?).join) H s1:=by
  have noA:∀ b:Addr,b∉(cxLam X A (x :: fr) qual scope f cd cl s H).ex:=fun b z=>absurd (show b∈([]:List Addr) from z) (by simp)
  have ok:(cxLam X A (x :: fr) qual scope f cd cl s H).Ok:=by
    refine ⟨I.ok.mod,c.kind,rfl,rfl,Nat.le_refl _,fun y z d e1 e2=>I.ok.inj y z d (cl1 _ _ e1) (cl1 _ _ e2),fun y hy=>?_,fun y d z _=>absurd z (by simp [cxLam]),fun _=>hh,Around.frames_deeper hA,.inr ⟨rfl,rfl⟩,fun b z=>absurd z (noA b),I.bs,Nat.le_trans I.ok.bsz I.sz,fun b _ _=>noA b,fun b z=>absurd z (noA b),I.stack,I.stkFree⟩
    have hy:scope.names.lookup y=some .cell∨scope.names.lookup y=some .free:=hy
    rcases hy with hy | hy
    · exact absurd rfl (c.nocell _ (ZaG hy))
    · exact cl2 _ (ZaG hy) rfl
  refine ⟨ok,hos,by rw [hg]; exact I.bare,Un.kept hk,⟨_,hn,fun i y v' e1 e2 e3=>?_⟩,fun y d e=>?_,I.hok.fresh (Nat.le_refl _),fun y d e=>I.freeC y d (cl1 y d e),fun p hp=>absurd (show p∈([]:List (Addr×Obj)) from hp) (by simp),I.hok.kept hk,?_⟩
  · cases i with
    | zero =>
      have e1':x=y:=by simpa [cxLam] using e1
      have e2':v=v':=by simpa using e2
      subst e1'
      subst e2'
      refine ⟨u,r,.inl ⟨c.par,?_⟩⟩
      show ([(x,u)]:List (Str×Value)).reverse.lookup x=some u
      simp
    | succ k =>
      have e1':fr[k]?=some y:=by simpa [cxLam] using e1
      rw [List.getElem?_cons_succ,List.getElem?_map] at e2
      cases q:js[k]? with
      | none=>rw [q] at e2; cases e2
      | some j =>
        rw [q] at e2
        have e2':(σ[j]?).join=some v':=by simpa using e2
        have e4:σ[j]?=some (some v'):=by
          cases z:σ[j]? with
          | none=>rw [z] at e2'; cases e2'
          | some o=>rw [z] at e2'; rw [show o=some v' from e2']
        have hXN:X.N[j]?=some y:=(c.js k j q).symm.trans e1'
        have hfr:=c.jf k y e1'
        have hk2:=c.free _ (ZaG hfr) rfl
        have vis:Vis X.env.scope y:=by
          rcases hk2 with z | z
          · exact .inr (.inl z)
          · exact .inr (.inr z)
        obtain ⟨m,_,hl⟩:=I.loc
        obtain ⟨u',r',l⟩:=hl j y v' hXN e4 vis
        refine ⟨u',r',?_⟩
        rcases l with ⟨z,_⟩ | ⟨_,d,e,⟨od,ho,hd⟩⟩
        · rcases hk2 with y' | y'
          · rw [show X.env.kindOf y=_ from z] at y'; cases y'
          · rw [show X.env.kindOf y=_ from z] at y'; cases y'
        · obtain ⟨d',e'⟩:=cl2 _ (ZaG hfr) rfl
          have z':=cl1 _ _ e'
          have:d'=d:=by rw [e] at z'; exact (Option.some.inj z').symm
          subst this
          exact .inr ⟨.inr hfr,d',e',⟨od,hk _ _ ho,hd⟩⟩
  · obtain ⟨v',⟨o,ho,hd⟩⟩:=I.cell y d (cl1 y d e)
    exact ⟨v',o,hk _ _ ho,hd⟩
  · show (some v :: _:List (Option V)).length=(x :: fr).length
    rw [List.length_cons,List.length_cons,List.length_map,c.len]
theorem ZmG {A:Around} {x:Str} {fr:List Str} {js:List Nat} {name qual:Str} {params:Arguments} {body:PySem.Expr} {scope:Scope} {f:Addr} {pm cd ct:Value} {cl:List (Str×Addr)} {u:Value} {v:V} {te:TE} {Q:VK} {E:Value→Shared→Prop} {of:Obj} (c:LamOk X scope x fr js) (I:Inv X pins σ H s)
    (hA:A.frames=some X.stack) (hh:A.handled=none) (hdep:A.depth<recursionLimit)
    (cl1:∀ x c,cl.lookup x=some c→X.env.cells.lookup x=some c) (cl2:∀ p∈scope.names,p.2=.free→∃ c,cl.lookup p.1=some c)
    (ho:s.heap.get? f=some of) (hof:of.data=.func (PySem.W.kla_fn name qual params body scope cl pm cd ct)) (hcd:s.heap.CodeRec cd qual)
    (hb:∀ u,bindArgs (PySem.W.kla_fn name qual params body scope cl pm cd ct) ⟨[u],[]⟩=pure [(x,u)]) (r:RelV v u)
    (he:∀ s,PE (cxLam X A (x :: fr) qual scope f cd cl s H) body te) (h:te (some v :: js.map fun j=>(σ[j]?).join) H Q) :
    wpAny (model X.prog X.w) A (call (.ref f) [u]) (EP X pins σ Q) E s:=by
  refine wpAny_call (codeAny_mono (R:=fun r s'=>∃ u',r=.ok (.ret u')∧CE X.stack X.prog X.w H s Q u' s') (PySem.W.kla_callFunE hdep ho hof c.co c.gen rfl hcd (by
    rw [hb u]
    refine wpAny_pure ?_
    refine wpAny_newFunctionEnv c.nocell (fun y hy=>by rw [List.mem_singleton.mp hy]; exact c.par) (fun h₁ hns hsb=>?_) c.kind
    have hk₁:∀ b o,s.heap.get? b=some o→h₁.get? b=some o:=fun b o e=>hsb.extBut b o (Nat.ne_of_lt (Heap.lt_size e)) (Heap.get?_push_of_some _ e)
    refine ⟨I.nolimit.keeps hk₁,?_⟩
    have J:=ZnY (qual:=qual) (f:=f) (cd:=cd) (s1:={ s with heap:=h₁,toks:=s.toks+[(x,u)].length }) c I hA hh cl1 cl2 r hns hk₁ rfl rfl
    refine PySem.W.kla_codeExpr (wpAny_mono (he s [] _ _ H Q J h) (fun u' s' hq=>?_) fun _ _ z=>z.elim)
    obtain ⟨v',H',J',rv,q⟩:=hq
    exact ⟨u',rfl,v',H',J'.os,J'.bare,J'.base,J'.hok,rv,q⟩)) fun r s' hq=>?_)
  obtain ⟨u',rfl,hq⟩:=hq
  exact I.after hq
theorem ZmH {P c0:Addr} {x:Str} {fr:List Str} {js:List Nat} {params:Arguments} {body:PySem.Expr} {scope:Scope} {pos:Pos} {R:Value→Shared→Prop} (c:LamOk X scope x fr js) (I:Inv X pins σ H s) (hc0:X.env.code=.ref c0) (hcd:PySem.W.codeHdIn X.K c0 P=true)
    (bm:BMod X.base X.mg) (hP:H P=some (.tbl pos (X.env.qual ++ "<lambda>"))) (hd0:params.defaults=[]) (hk0:params.kw_defaults=[])
    (h:∀ f cl cd pm ct of H' s',Inv X pins σ H' s'→Same H H'→(∀ x c,cl.lookup x=some c→X.env.cells.lookup x=some c)→(∀ p∈scope.names,p.2=.free→∃ c,cl.lookup p.1=some c) → 
      H' f=some (.frz of (.own 0))→of.data=.func (PySem.W.kla_fn "<lambda>" (X.env.qual ++ "<lambda>") params body scope cl pm cd ct)→(∃ c' oc vs t,cd=.ref c'∧H' c'=some (.frz oc (.own P))∧oc.data=.fields vs∧vs[1]?=some (.str (X.env.qual ++ "<lambda>") t))→R (.ref f) s') :
    wpAny (model X.prog X.w) X.A (eval (.Lambda params body scope pos) X.env) R X.xe s:=by
  obtain ⟨cl,e1,cl1,_,cl2⟩:=Zcc (env:=X.env) scope.names [] (fun p hp hf=>I.ok.has _ (c.free p hp hf)) (fun x d e=>by simp at e)
  have hclos:closureFor scope X.env=pure cl:=by
    unfold closureFor
    refine (congrArg (fun z=>z >>= fun cs=>pure cs) e1).trans ?_
    rfl
  have CH:=PySem.W.codeHd_of_K I.kIn hcd
  obtain ⟨ps,hps,htr,hcode⟩:=(show ObjOk X.prog X.w H s.heap P (.tbl pos (X.env.qual ++ "<lambda>")) from I.hok P _ hP)
  have hg:=I.ok.mod.glob.keeps I.bk
  have hgP:mainGlobals≠P:=fun q=>by
    obtain ⟨o,es,ep,e,hd,_⟩:=hg
    rw [q,hps] at e; cases e; cases hd
  have hb:s.heap.BuiltinsAt X.mg P:=by
    obtain ⟨b,o,a1,a2,a3,a4,a5,a6,a7⟩:=bm
    have e:=I.bk _ _ a4
    exact ⟨b,o,a1,a2,a3,(fun z=>by rw [z,hps] at e; cases e; cases a5),e,a5,a6,a7⟩
  rw [arm_eval_Lambda,defaultsOf_eq,hd0,hk0]
  show wpAny _ _ (do let dv ← evalAll (evalEach [] X.env); let kdv ← holding dv (evalAllOpt []); makeFunction "<lambda>" (X.env.qual ++ "<lambda>") params (.expr body) scope X.env dv kdv [] pos pos.line) _ _ s
  refine wpAny_bind (evalAll_nil ?_)
  refine wpAny_bind (wpAny_holding (wpAny_pure ?_))
  cases hf:codeAmong pos ps.toList with
  | some cv =>
    obtain ⟨c',oc,vs,t,rfl,hH,hd,hv⟩:=hcode cv hf
    refine PySem.W.kla_makeFunctionHit hclos I.ok.glob hg hc0 CH hps htr hf hb fun ctv h' tk hk hsz=>?_
    have I1:=I.laid (a:=h'.objs.size) (t':=tk) (o:=.frz { cls:=.type "function",data:=.func (PySem.W.kla_fn "<lambda>" (X.env.qual ++ "<lambda>") params body scope cl ((X.mg "__name__").getD .none) (.ref c') ctv) } (.own 0)) (h':=h'.push { cls:=.type "function",data:=.func (PySem.W.kla_fn "<lambda>" (X.env.qual ++ "<lambda>") params body scope cl ((X.mg "__name__").getD .none) (.ref c') ctv) }) (fun b o e=>Heap.get?_push_of_some _ (hk b o e)) hsz ⟨Heap.get?_push_size _ rfl,_,Heap.get?_push_size _ rfl⟩
    have fr:=I.hok.fresh hsz
    exact h _ cl _ _ _ _ _ _ I1 (Zh fr _) cl1 cl2 Za rfl ⟨c',oc,vs,t,rfl,by rw [Zb (Zd hH fr)]; exact hH,hd,hv⟩
  | none =>
    refine PySem.W.kla_makeFunction hclos I.ok.glob hg hc0 CH hps htr hf hgP hb fun c' ctv h' tk hx hge hlt hrec htb=>?_
    obtain ⟨oc,vs,t,hoc,hd,hv,I1⟩:=I.grown (tk:=tk) hP hx hge hrec htr hf htb
    have fr:H c'=none:=I.hok.fresh hge
    have fr2:upd H c' (.frz oc (.own P)) h'.objs.size=none:=I1.hok.fresh (Nat.le_refl _)
    have I2:=I1.laid (a:=h'.objs.size) (t':=tk) (o:=.frz (PySem.W.kla_obj "<lambda>" (X.env.qual ++ "<lambda>") params body scope cl ((X.mg "__name__").getD .none) c' ctv) (.own 0)) (h':=h'.push (PySem.W.kla_obj "<lambda>" (X.env.qual ++ "<lambda>") params body scope cl ((X.mg "__name__").getD .none) c' ctv)) (fun b o e=>Heap.get?_push_of_some _ e) (Nat.le_refl _) ⟨Heap.get?_push_size _ rfl,_,Heap.get?_push_size _ rfl⟩
    exact h _ cl _ _ _ _ _ _ I2 ((Zh fr _).trans (Zh fr2 _)) cl1 cl2 Za rfl ⟨c',oc,vs,t,rfl,by rw [Zb (Zd Za fr2)]; exact Za,hd,hv⟩
end
end L2
set_option Elab.async false
set_option linter.all false
set_option maxRecDepth 100000
set_option maxHeartbeats 4000000
namespace L2
open PySem PySem.Spec PyProof.Rows L2.Stb
def KLt (key:Int→Int) (ns:List Int) (a b:Int):Prop:=key a<key b∨(key a=key b∧ns.idxOf a<ns.idxOf b)
theorem ZmI {l:List Keyed} (h:∀ p∈l,∃ t,p.2=.int (numOf p.2) t):Vals ((l.map fun p=>numOf p.2).map V.int) (l.map (·.2)):=by
  induction l with
  | nil=>exact .nil
  | cons p r ih =>
    obtain ⟨t,e⟩:=h p List.mem_cons_self
    exact .cons ⟨t,e⟩ (ih fun q hq=>h q (List.mem_cons_of_mem _ hq))
theorem Zgj {vs:List Value} {ns:List Int} (h:IntsAre vs ns):∀ {i:Nat} {v:Value},vs[i]?=some v→∃ n t,ns[i]?=some n∧v=.int n t:=by
  induction h with
  | nil=>intro i v e; simp at e
  | cons n t _ ih =>
    intro i v e
    cases i with
    | zero=>exact ⟨n,t,rfl,by simpa using e.symm⟩
    | succ i=>exact ih (by simpa using e)
theorem Znp:∀ {ns:List Int},ns.Nodup→∀ {i:Nat} {n:Int},ns[i]?=some n→ns.idxOf n=i
  | [],_,_,_,e=>by simp at e
  | x :: r,nd,0,n,e=>by
    have e':x=n:=by simpa using e
    subst e'
    simp
  | x :: r,nd,i+1,n,e=>by
    obtain ⟨h1,h2⟩:=List.nodup_cons.mp nd
    have e':r[i]?=some n:=by simpa using e
    have ne:x≠n:=fun z=>h1 (z ▸ List.mem_of_getElem? e')
    rw [List.idxOf_cons,show (x == n)=false by simpa using ne]
    show r.idxOf n+1=i+1
    rw [Znp h2 e']
theorem Zju {keys:Array Value} {vs:List Value} {ns:List Int} {key:Int→Int} (hk:IntsAre keys.toList (ns.map key)) (hv:IntsAre vs ns) (nd:ns.Nodup) :
    Idn (fun p=>ns.idxOf (numOf p.2)) (keys.zip vs.toArray) 0∧∀ xs:Array Keyed,xs.Perm (keys.zip vs.toArray)→Inc (fun p=>ns.idxOf (numOf p.2)) xs xs.size →
      ∃ os:List Int,Vals (os.map V.int) (xs.map (·.2)).toList∧os.Perm ns∧os.Pairwise (KLt key ns):=by
  have lk:keys.size=ns.length:=by have:=hk.length; rw [Array.length_toList,List.length_map] at this; omega
  have lv:vs.length=ns.length:=by have:=hv.length; omega
  have at0:∀ (i:Nat) (p:Keyed),(keys.zip vs.toArray)[i]?=some p→∃ n t t',ns[i]?=some n∧p=(Value.int (key n) t,Value.int n t'):=fun i p e=>by
    have e':(keys.toList.zip vs)[i]?=some p:=by rw [← ksk_zip,Array.getElem?_toList]; exact e
    rw [List.getElem?_zip_eq_some] at e'
    obtain ⟨n1,t1,q1,r1⟩:=Zgj hk e'.1
    obtain ⟨n2,t2,q2,r2⟩:=Zgj hv e'.2
    rw [List.getElem?_map,q2] at q1
    have q1':key n2=n1:=by simpa using q1
    exact ⟨n2,t1,t2,q2,Prod.ext (by rw [r1,q1']) r2⟩
  have mem0:∀ p∈(keys.zip vs.toArray).toList,∃ n t t',n∈ns∧p=(Value.int (key n) t,Value.int n t'):=fun p hp=>by
    obtain ⟨i,e⟩:=List.getElem?_of_mem hp
    rw [Array.getElem?_toList] at e
    obtain ⟨n,t,t',q,r⟩:=at0 i p e
    exact ⟨n,t,t',List.mem_of_getElem? q,r⟩
  refine ⟨fun i _ hi=>?_,fun xs hp hi=>?_⟩
  · obtain ⟨n,t,t',q,r⟩:=at0 i _ (Array.getElem?_eq_getElem hi)
    unfold Rk
    rw [Array.getElem?_eq_getElem hi,r]
    show ns.idxOf n=i
    exact Znp nd q
  · have pm:=Array.perm_iff_toList_perm.mp hp
    have memx:∀ p∈xs.toList,∃ n t t',n∈ns∧p=(Value.int (key n) t,Value.int n t'):=fun p hp'=>mem0 p (pm.mem_iff.mp hp')
    refine ⟨xs.toList.map fun p=>numOf p.2,?_,?_,?_⟩
    · rw [Array.toList_map]
      refine ZmI fun p hp'=>?_
      obtain ⟨n,t,t',_,rfl⟩:=memx p hp'
      exact ⟨t',rfl⟩
    · have e:(keys.zip vs.toArray).toList.map (fun p=>numOf p.2)=ns:=by
        apply List.ext_getElem?
        intro i
        rw [List.getElem?_map,Array.getElem?_toList]
        by_cases hlt:i<(keys.zip vs.toArray).size
        · obtain ⟨n,t,t',q,r⟩:=at0 i _ (Array.getElem?_eq_getElem hlt)
          rw [Array.getElem?_eq_getElem hlt,r,q]
          rfl
        · have lz:(keys.zip vs.toArray).size=ns.length:=by rw [Array.size_zip,lk,List.size_toArray,lv,Nat.min_self]
          rw [Array.getElem?_eq_none (by omega),List.getElem?_eq_none (by omega)]
          rfl
      rw [← e]
      exact pm.map _
    · rw [List.pairwise_iff_getElem]
      intro i j hi' hj' hij
      have hi2:i<xs.size:=by simpa using hi'
      have hj2:j<xs.size:=by simpa using hj'
      have v:=hi i j hij hj2
      obtain ⟨n1,t1,t1',_,r1⟩:=memx xs[i] (by simp)
      obtain ⟨n2,t2,t2',_,r2⟩:=memx xs[j] (by simp)
      have k1:K xs i=key n1:=by rw [K_eq hi2,r1]; rfl
      have k2:K xs j=key n2:=by rw [K_eq hj2,r2]; rfl
      have q1:Rk (fun p=>ns.idxOf (numOf p.2)) xs i=ns.idxOf n1:=by unfold Rk; rw [Array.getElem?_eq_getElem hi2,r1]; rfl
      have q2:Rk (fun p=>ns.idxOf (numOf p.2)) xs j=ns.idxOf n2:=by unfold Rk; rw [Array.getElem?_eq_getElem hj2,r2]; rfl
      have g1:(xs.toList.map fun p=>numOf p.2)[i]=n1:=by simp [r1,numOf]
      have g2:(xs.toList.map fun p=>numOf p.2)[j]=n2:=by simp [r2,numOf]
      rw [g1,g2]
      unfold VLt at v
      rw [k1,k2,q1,q2] at v
      exact v
section
variable {X:Cx} {pins:List (Addr×Obj)} {σ:St} {H:Hp} {s:Shared} {d:Addr} {xs:List V} {o:Obj}
theorem Inv.thawedL (I:Inv X pins σ H s) (h:H d=some (.frz o (.lst xs))) (h0:∀ o' u,X.H₀ d≠some (.frz o' u)):Inv X pins σ (upd H d (.lst xs)) s:=by
  have ne:∀ b u,H b=some u→u≠.frz o (.lst xs)→b≠d:=fun b u e n z=>by rw [z,h] at e; exact n (Option.some.inj e).symm
  have nn:∀ b,H b=none→b≠d:=fun b e z=>by rw [z,h] at e; cases e
  refine ⟨I.ok,I.os,I.bare,⟨I.base.keep,I.base.slot,fun b o' e n hx=>?_,I.base.there,fun b ys e=>?_,fun b o' u e=>?_,fun b p r e=>?_⟩,I.loc,I.cell,?_,fun x c e=>?_,fun p hp=>?_,fun b u e=>?_,I.len⟩
  · have q:=I.base.free b o' e n hx
    rw [Zb (nn b q)]
    exact q
  · have q:=I.base.tups b ys e
    rw [Zb (ne b _ q (by intro z; cases z))]
    exact q
  · have q:=I.base.frzs b o' u e
    rw [Zb (fun z=>h0 o' u (by rw [← z]; exact e))]
    exact q
  · have q:=I.base.tbls b p r e
    rw [Zb (ne b _ q (by intro z; cases z))]
    exact q
  · rw [Zb (nn _ I.free)]
    exact I.free
  · rw [Zb (nn _ (I.freeC x c e))]
    exact I.freeC x c e
  · obtain ⟨a1,a2,a3⟩:=I.pin p hp
    exact ⟨a1,by rw [Zb (nn _ a2)]; exact a2,a3⟩
  · by_cases hb:b=d
    · subst hb
      rw [Za] at e
      cases e
      exact (I.hok b _ h).2
    · rw [Zb hb] at e
      exact (I.hok b u e).stay (fun _ _ _ z=>z) (fun c z=>by rw [Zb (ne c _ z (by intro y; cases y))]; exact z) (fun c ys z=>by rw [Zb (ne c _ z (by intro y; cases y))]; exact z) fun c oz z=>by rw [Zb (ne c _ z (by intro y; cases y))]; exact z
theorem Zjv {a kS:Addr} {st:SortSt} {e1:Nat} {H1:Hp} {ns:List Int} {key:Int→Int} {keys:Array Value} {its:List Value} {ks:List V} {A:Around} {E:Value→Shared→Prop} {R:PySem.Fin→Shared→Prop} (I:Inv X pins σ H1 s) (hk:IntsAre keys.toList (ns.map key)) (hv:IntsAre its ns) (nd:ns.Nodup) (h64:ns.length<64)
    (ha:H1 a=some (.frz (seqObj "list" #[] e1) (.lst []))) (h0:∀ o' u,X.H₀ a≠some (.frz o' u)) (hkS:H1 kS=some (.lst ks)) (hlk:ks.length≤64) (hp:(arrOf st).Perm (keys.zip its.toArray)) (hi:Inc (fun p=>ns.idxOf (numOf p.2)) (arrOf st) (arrOf st).size) (hf:failedOf st=none)
    (h:∀ (H':Hp) (s':Shared) (os:List Int),Inv X pins σ H' s'→(∀ b,b≠a→b≠kS→H' b=H1 b)→H' a=some (.lst (os.map V.int))→os.Perm ns→os.Pairwise (KLt key ns)→R (.done (.ret .none)) s') :
    wpAny (model X.prog X.w) A (ksk_tail a false e1 (.ref kS) st) R E s:=by
  have nak:a≠kS:=fun z=>by rw [z,hkS] at ha; cases ha
  obtain ⟨os,vo,po,so⟩:=(Zju hk hv nd).2 _ hp hi
  have lo:=po.length_eq
  unfold ksk_tail
  try dsimp only
  obtain ⟨_,itsK,n,rK,hlK,eK⟩:=I.lstM hkS
  have lK:itsK.length≤64:=by have:=rK.length; omega
  refine wpAny_bind (listUpdate_at eK rfl ?_ (by rw [List.size_toArray,sizeLine_eq]; omega) (Nat.zero_le _))
  have I6:=I.lset (t':=s.toks) (f:=fun _=>#[]) (its':=[]) (ys:=[]) hkS eK rfl .nil (Nat.zero_le _)
  have ha6:upd H1 kS (.lst []) a=some (.frz (seqObj "list" #[] e1) (.lst [])):=by rw [Zb nak]; exact ha
  have oa:=(I6.hok a _ ha6).1
  refine wpAny_bind (wpAny_letGo ?_)
  refine wpAny_bind (seqEpoch_at oa rfl ?_)
  have lo2:((arrOf st).map (·.2)).size=ns.length:=by
    have e:=vo.length
    rw [List.length_map] at e
    have e2:((arrOf st).map (·.2)).toList.length=((arrOf st).map (·.2)).size:=Array.length_toList
    omega
  refine wpAny_bind (listUpdate_at oa rfl ?_ (Nat.zero_le _) (by simp only [Bool.false_eq_true,if_false]; rw [lo2,sizeLine_eq]; omega))
  rw [hf]
  simp only [bne_self_eq_false,Bool.false_eq_true,if_false]
  have I7:=I6.thawedL ha6 h0
  have I8:=I7.lset (t':=s.toks) (f:=fun _=>(arrOf st).map (·.2)) (its:=[]) (its':=((arrOf st).map (·.2)).toList) (ys:=os.map V.int) Za oa (by exact (Array.toArray_toList).symm) vo (by rw [List.length_map,sizeLine_eq]; omega)
  refine wpAny_pure (h _ _ os I8 (fun b n1 n2=>?_) Za po so)
  rw [Zb n1,Zb n1,Zb n2]
theorem ZnZ {a kS:Addr} {e1:Nat} {H1:Hp} {ns:List Int} {key:Int→Int} {keys:Array Value} {its:List Value} {ks:List V} {A:Around} {E:Value→Shared→Prop} {R:PySem.Fin→Shared→Prop} (I:Inv X pins σ H1 s) (hk:IntsAre keys.toList (ns.map key)) (hv:IntsAre its ns) (nd:ns.Nodup) (h64:ns.length<64)
    (ha:H1 a=some (.frz (seqObj "list" #[] e1) (.lst []))) (h0:∀ o' u,X.H₀ a≠some (.frz o' u)) (hkS:H1 kS=some (.lst ks)) (hlk:ks.length≤64)
    (h:∀ (H':Hp) (s':Shared) (os:List Int),Inv X pins σ H' s'→(∀ b,b≠a→b≠kS→H' b=H1 b)→H' a=some (.lst (os.map V.int))→os.Perm ns→os.Pairwise (KLt key ns)→R (.done (.ret .none)) s') :
    wpAny (model X.prog X.w) A (ksk_end a false its.toArray e1 (.ref kS) keys) R E s:=by
  have lk:keys.size=ns.length:=by have:=hk.length; rw [Array.length_toList,List.length_map] at this; omega
  have lv:its.length=ns.length:=by have:=hv.length; omega
  have hzs:(keys.zip its.toArray).size=ns.length:=by rw [Array.size_zip,lk,List.size_toArray,lv,Nat.min_self]
  obtain ⟨idn,_⟩:=Zju hk hv nd
  unfold ksk_end
  simp only [Bool.false_eq_true,if_false]
  by_cases h2:its.toArray.size<2
  · rw [if_pos h2,if_pos h2]
    refine wpAny_bind (wpAny_pure ?_)
    rw [StateT.run_pure]
    refine wpAny_bind (wpAny_pure ?_)
    try dsimp only
    refine Zjv (st:=SortSt.mk' general' (keys.zip its.toArray) #[] 7 none) I hk hv nd h64 ha h0 hkS hlk (Array.Perm.refl _) (fun i j hij hj=>?_) rfl h
    have hj2:j<(keys.zip its.toArray).size:=hj
    rw [List.size_toArray] at h2
    omega
  · rw [if_neg h2,if_neg h2]
    rw [List.size_toArray] at h2
    rw [ksk_kind hk (by rw [lk]; omega)]
    refine wpAny_bind (wpAny_pure ?_)
    refine wpAny_bind (wpAny_mono (ZnX (ρ:=fun p=>ns.idxOf (numOf p.2)) (a₀:=keys.zip its.toArray) (st:=SortSt.mk' oneType' (keys.zip its.toArray) #[] 7 none)
      (Q:=fun _ st1=>(arrOf st1).Perm (keys.zip its.toArray)∧failedOf st1=none∧Inc (fun p=>ns.idxOf (numOf p.2)) (arrOf st1) (keys.zip its.toArray).size)
      (ksk_intKeys hk) idn ⟨Array.Perm.refl _,rfl,rfl,rfl⟩ idn (by rw [hzs]; omega) (by rw [hzs]; exact h64) fun st1 a1 a2 a3=>⟨a1,a2,a3⟩) ?_ fun _ _ e=>e)
    rintro ⟨⟨⟩,st1⟩ s1 ⟨rfl,hp,hf,hs⟩
    try dsimp only
    exact Zjv I hk hv nd h64 ha h0 hkS hlk hp (by rw [hp.size_eq]; exact hs) hf h
theorem ZmJ {l f:Addr} {ns:List Int} {key:Int→Int} {Q:VK} {E:Value→Shared→Prop} (I:Inv X pins σ H s) (hq:SqL X.K H l (ns.map V.int)) (h64:ns.length<64) (nd:ns.Nodup)
    (turn:∀ z∈ns,∀ H1 s1 u,Same H H1→Inv X pins σ H1 s1→RelV (.int z) u→wpAny (model X.prog X.w) X.A.in1.in1 (call (.ref f) [u]) (EP X pins σ fun v H'=>v=.int (key z)∧H'=H1) (fun _ _=>False) s1)
    (q:∀ (D:Addr) (H':Hp) (os:List Int),H D=none→Same H H'→H' D=some (.lst (os.map V.int))→os.Perm ns→os.Pairwise (KLt key ns)→Q (.ref D) H') :
    wpAny (model X.prog X.w) X.A (call (.builtin "sorted") [.ref l] [(Str.ofString "key",.ref f)]) (EP X pins σ Q) E s:=by
  obtain ⟨its,rv,pl,hz⟩:=I.list hq
  have hv:=ZfK rv
  have lv:its.length=ns.length:=by have:=rv.length; rw [List.length_map] at this; exact this.symm
  refine call_function_entry_kw kind_sorted plain_sorted entry_sorted (ksk_s1 _ _) ?_
  unfold Builtin.«sorted»
  refine wpAny_bind (m:=checkCount "sorted" 1 1 _) (wpAny_pure ?_)
  refine wpAny_bind (collect_list pl.isList ?_ (by rw [sizeLine_eq]; omega))
  refine wpAny_bind (wpAny_newList ?_ (by rw [sizeLine_eq]; omega))
  have hsz:((s.heap.push (seqObj "list" #[] 0)).update s.heap.objs.size (Obj.mapSeq (·++its.toArray))).objs.size=s.heap.objs.size+1:=by
    rw [Heap.size_update,size_push']
  have hoL:(((s.heap.push (seqObj "list" #[] 0)).update s.heap.objs.size (Obj.mapSeq (·++its.toArray))).push (seqObj "list" its.toArray 0)).get? (s.heap.objs.size+1)=some (seqObj "list" its.toArray 0):=by
    rw [← hsz]
    exact Heap.get?_push_size _ rfl
  have keep:∀ b o,s.heap.get? b=some o→(((s.heap.push (seqObj "list" #[] 0)).update s.heap.objs.size (Obj.mapSeq (·++its.toArray))).push (seqObj "list" its.toArray 0)).get? b=some o:=fun b o e=>by
    have lt:b<s.heap.objs.size:=Heap.lt_size e
    rw [Heap.get?_push_ne _ _ _ (by rw [hsz]; exact Nat.ne_of_lt (Nat.lt_succ_of_lt lt)),Heap.get?_update_ne _ _ _ _ (Nat.ne_of_lt lt),Heap.get?_push_ne _ _ _ (Nat.ne_of_lt lt)]
    exact e
  show wpAny _ _ _ _ _ { s with heap:=((s.heap.push (seqObj "list" #[] 0)).update s.heap.objs.size (Obj.mapSeq (·++its.toArray))).push (seqObj "list" its.toArray 0) }
  rw [hsz]
  have hsz1:(((s.heap.push (seqObj "list" #[] 0)).update s.heap.objs.size (Obj.mapSeq (·++its.toArray))).push (seqObj "list" its.toArray 0)).objs.size=s.heap.objs.size+2:=by rw [size_push',hsz]
  generalize ((s.heap.push (seqObj "list" #[] 0)).update s.heap.objs.size (Obj.mapSeq (·++its.toArray))).push (seqObj "list" its.toArray 0)=h1 at *
  refine wpAny_bind (wpAny_holding (wpAny_call_entry_kw slot_list_sort ⟨_,hoL,rfl⟩ entry_list_sort ?body (ksk_l1 _ _)))
  case body =>
    show wpAny (model X.prog X.w) X.A.in1.in1 (Builtin.«list.sort» ⟨[.ref (s.heap.objs.size+1)],[(Str.ofString "key",.ref f)]⟩) _ _ _
    rw [ksk_t1]
    unfold ksk_tree
    refine wpAny_bind (listItems_at hoL rfl ?_)
    refine wpAny_bind (listUpdate_at hoL rfl ?_ (by rw [List.size_toArray,sizeLine_eq]; omega) (Nat.zero_le _))
    obtain ⟨e1,ho1⟩:∃ e1,(h1.update (s.heap.objs.size+1) (Obj.mapSeq fun _=>(#[]:Array Value))).get? (s.heap.objs.size+1)=some (seqObj "list" #[] e1):=⟨_,get?_update_seq hoL fun _=>#[]⟩
    have keep2:∀ b o,s.heap.get? b=some o→(h1.update (s.heap.objs.size+1) (Obj.mapSeq fun _=>(#[]:Array Value))).get? b=some o:=fun b o e=>by
      have lt:b<s.heap.objs.size:=Heap.lt_size e
      rw [Heap.get?_update_ne _ _ _ _ (Nat.ne_of_lt (Nat.lt_succ_of_lt lt))]
      exact keep b o e
    generalize h1.update (s.heap.objs.size+1) (Obj.mapSeq fun _=>(#[]:Array Value))=h2 at *
    refine wpAny_bind (seqEpoch_at ho1 rfl ?_)
    refine wpAny_bind (wpAny_newTuple ?_ (by show its.length≤_; rw [sizeLine_eq]; omega))
    refine wpAny_bind (wpAny_newList ?_ (Nat.zero_le _))
    refine wpAny_holding ?_
    have fr:H (s.heap.objs.size+1)=none:=I.hok.fresh (Nat.le_succ _)
    have h0:∀ o' u,X.H₀ (s.heap.objs.size+1)≠some (.frz o' u):=fun o' u e=>by rw [I.base.frzs _ _ _ e] at fr; cases fr
    have ho2:(h2.push (seqObj "tuple" its.toArray 0)).get? (s.heap.objs.size+1)=some (seqObj "list" #[] e1):=Heap.get?_push_of_some _ ho1
    have I3:=I.laid (a:=s.heap.objs.size+1) (t':=s.toks) (o:=.frz (seqObj "list" #[] e1) (.lst [])) (h':=h2.push (seqObj "tuple" its.toArray 0)) (fun b o e=>Heap.get?_push_of_some _ (keep2 b o e)) (Nat.le_succ _) ⟨ho2,Nat.zero_le _,[],e1,.nil,ho2⟩
    have fr3:=I3.hok.fresh (Nat.le_refl _)
    have I4:=I3.laid (t':=s.toks) (o:=.lst []) (h':=(h2.push (seqObj "tuple" its.toArray 0)).push (seqObj "list" #[] 0)) (fun b o e=>Heap.get?_push_of_some _ e) (Nat.le_refl _) ⟨Nat.zero_le _,[],0,.nil,Heap.get?_push_size _ rfl⟩
    have nak:s.heap.objs.size+1≠(h2.push (seqObj "tuple" its.toArray 0)).objs.size:=Zd Za fr3
    have sm:Same H (upd (upd H (s.heap.objs.size+1) (.frz (seqObj "list" #[] e1) (.lst []))) (h2.push (seqObj "tuple" its.toArray 0)).objs.size (.lst [])):=(Zh fr _).trans (Zh fr3 _)
    have frK:H (h2.push (seqObj "tuple" its.toArray 0)).objs.size=none:=(Zh fr _).free fr3
    have hkS0:upd (upd H (s.heap.objs.size+1) (.frz (seqObj "list" #[] e1) (.lst []))) (h2.push (seqObj "tuple" its.toArray 0)).objs.size (.lst []) (h2.push (seqObj "tuple" its.toArray 0)).objs.size=some (.lst []):=Za
    have ha0:upd (upd H (s.heap.objs.size+1) (.frz (seqObj "list" #[] e1) (.lst []))) (h2.push (seqObj "tuple" its.toArray 0)).objs.size (.lst []) (s.heap.objs.size+1)=some (.frz (seqObj "list" #[] e1) (.lst [])):=by rw [Zb nak]; exact Za
    generalize upd (upd H (s.heap.objs.size+1) (.frz (seqObj "list" #[] e1) (.lst []))) (h2.push (seqObj "tuple" its.toArray 0)).objs.size (.lst [])=H4 at *
    show wpAny (model X.prog X.w) X.A.in1.in1 (ksk_rest (s.heap.objs.size+1) (.ref f) false its.toArray e1 (.ref (h2.push (seqObj "tuple" its.toArray 0)).objs.size)) _ _ { s with heap:=(h2.push (seqObj "tuple" its.toArray 0)).push (seqObj "list" #[] 0) }
    generalize (h2.push (seqObj "tuple" its.toArray 0)).objs.size=kS at *
    generalize (h2.push (seqObj "tuple" its.toArray 0)).push (seqObj "list" #[] 0)=h4 at *
    unfold ksk_rest
    refine wpAny_bind (wpAny_rule ?_)
    rw [List.forIn_toArray]
    refine wpAny_bind (ksk_fold (fun i s1=>∃ H1:Hp,Inv X pins σ H1 s1∧Same H H1∧H1 (s.heap.objs.size+1)=some (.frz (seqObj "list" #[] e1) (.lst []))∧H1 kS=some (.lst (((ns.take i).map key).map V.int))) its 0 _
      ⟨H4,I4,sm,ha0,hkS0⟩ ?step ?done)
    case step =>
      rintro j x s1 hx ⟨H1,I1,s1',a1,k1⟩
      simp only [Nat.zero_add] at k1 ⊢
      obtain ⟨z,t,hz',rfl⟩:=Zgj hv hx
      have hj:j<ns.length:=(List.getElem?_eq_some_iff.mp hz').1
      refine wpAny_bind (wpAny_attempt (wpAny_mono (turn z (List.mem_of_getElem? hz') H1 s1 _ s1' I1 ⟨t,rfl⟩) (fun v s2 he=>?_) fun _ _ hF=>hF.elim))
      obtain ⟨v',H',I2,r2,rfl,rfl⟩:=he
      try dsimp only
      obtain ⟨_,itsK,n,rK,hlK,eK⟩:=I2.lstM k1
      have lK:itsK.length≤ns.length:=by
        have:=rK.length
        rw [List.length_map,List.length_map,List.length_take] at this
        omega
      refine wpAny_bind (listUpdate_at eK rfl ?_ (by rw [List.size_toArray,sizeLine_eq]; omega) (by rw [Array.size_push,List.size_toArray,sizeLine_eq]; omega))
      have ek:ns.take (j+1)=ns.take j++[z]:=by rw [List.take_succ,hz']; rfl
      have I5:=I2.lset (t':=s2.toks) (f:=(·.push v)) (its':=itsK++[v]) (ys:=((ns.take (j+1)).map key).map V.int) k1 eK (by simp) (by rw [ek,List.map_append,List.map_append]; exact rK.append (.cons r2 .nil)) (by rw [List.length_map,List.length_map,List.length_take,sizeLine_eq]; omega)
      refine wpAny_pure ⟨rfl,_,I5,fun b o y=>?_,?_,Za⟩
      · rw [Zb (Zd y frK)]
        exact s1' _ _ y
      · rw [Zb nak]
        exact a1
    case done =>
      rintro s1 ⟨H1,I1,s1',a1,k1⟩
      rw [Nat.zero_add,lv,List.take_length] at k1
      obtain ⟨_,itsK,n,rK,hlK,eK⟩:=I1.lstM k1
      try dsimp only
      refine wpAny_bind (listItems_at eK rfl ?_)
      refine ZnZ (ns:=ns) (key:=key) I1 (by simpa using ZfK rK) hv nd h64 a1 h0 k1 (by rw [List.length_map,List.length_map]; omega) fun H' s2 os I2 oth hD po so=>⟨_,rfl,?_⟩
      refine wpAny_pure ⟨_,rfl,.ref (s.heap.objs.size+1),H',I2,rfl,q _ H' os fr (fun b o y=>?_) hD po so⟩
      rw [oth b (Zd y fr) (Zd y frK)]
      exact s1' _ _ y
end
end L2
set_option Elab.async false
set_option linter.all false
set_option maxRecDepth 100000
set_option maxHeartbeats 4000000
namespace L2
open PySem PySem.Spec PyProof.Rows
structure MDef (P:Program) (w:World) (K:PySem.W.Frag) (mg:Str→Option Value) (base:Heap) (C:Addr) (m:Str) (k:Nat) (ps:List Str) (sp:Sp):Prop where
  ex:∃ (f:Addr) (fd:FuncData),FnOk P w K mg base CX0 k f fd ps sp∧Meth K C m f∧Binds K fd ps []
structure KDef (P:Program) (w:World) (K:PySem.W.Frag) (mg:Str→Option Value) (base:Heap) (C:Addr) (x:Str) (k:Nat) (ps:List Str) (sp:Sp):Prop where
  ex:∃ (f:Addr) (fd:FuncData),FnOk P w K mg base CX0 k f fd ps sp∧Mk K C f∧mg x=some (.ref C)∧Binds K fd ps []
section
variable {X:Cx} {x m:Str} {p pos apos:Pos} {e o:PySem.Expr} {es:List PySem.Expr} {ta:TE} {t:TA} {k:Nat} {ps:List Str} {sp:Sp} {C:Addr}
theorem Zk {pl:Sem Bool} (M:MDef X.prog X.w X.K X.mg X.base C m k ps sp) (hr:Room k X.A) (c:Cls X.K C) (he:PE X o ta) (ha:PA X (e :: es) t) (hn:NSs (e :: es):=by repeat' (first | exact True.intro | refine ⟨?_,?_⟩))
    (ht:eval (.Call (.Attribute o m apos) (e :: es) [] pos) X.env=(do
      let ov ← eval o X.env
      standAt apos.atName
      let (f,first) ← holding [ov] (getMethod ov m pl)
      callWith pos f first (backTo pos (starEach (e :: es) X.env)) (backToKw pos (keywordEach [] X.env))):=by rfl) :
    PE X (.Call (.Attribute o m apos) (e :: es) [] pos) (tMeth C m sp [] E0 ta t):=by
  obtain ⟨f,fd,F,hm,hb⟩:=M.ex
  exact ZnI he c hm F hr hb .nil pass0 ha (Zcq hn.1) (Zda hn.2) ht
theorem Zds (M:KDef X.prog X.w X.K X.mg X.base C x k ps sp) (hr:Room (k+1) X.A) (hg:Gl X x) (ha:PA X (e :: es) t) (hn:NSs (e :: es):=by repeat' (first | exact True.intro | refine ⟨?_,?_⟩)) (hd:(x == ("__debug__" : Str))=false:=by decide) :
    PE X (.Call (.Name x p) (e :: es) [] pos) (tMake C sp [] E0 t):=by
  obtain ⟨f,fd,F,M',hm,hb⟩:=M.ex
  exact ZnJ M' F hr hg hm hb .nil pass0 ha (hdb:=hd) (he:=Zcq hn.1) (hpl:=Zda hn.2)
def tNo:TS:=fun _ _ _=>False
theorem ps_no {st:Stmt}:PS X st tNo:=fun _ _ _ _ _ _ h=>False.elim h
end
theorem Fun.okC {P:Program} {w:World} {K:PySem.W.Frag} {mg:Str→Option Value} {base:Heap} {x qual:Str} {st:Stmt} {f:Addr} {fd:FuncData} {N ps:List Str} {k:Nat} {sp:Sp} (F:Fun K x qual st f fd) (S:FnScope N ps (Zc st)) (len:∀ vs H Q E,sp vs H Q E→vs.length=ps.length)
    (hbody:∀ (cdv:Value) (A:Around) (outer:List Env) (s:Shared) (H:Hp) (vs:List V) (Q:VK) (E:XK),fd.code=cdv→Room k (A.deeper (envOfC qual (Zc st) s.heap.objs.size f cdv))→sp vs H Q E →
      ∃ t,PSs (cxOf CX0 P w K mg base N qual (Zc st) f cdv A outer s H E).nox (Zl st) t∧t { nx:=fun _ H'=>Q .non H',rt:=Q } (start N vs) H):FnOk P w K mg base CX0 (k+1) f fd ps sp:=by
  obtain ⟨oc,od,kV,doc,pm,an,cdv,ct,osl,rfl,lk,hcd⟩:=F.ex
  refine fn_of lk hcd S len fun A outer s H vs Q E hr hsp=>?_
  obtain ⟨t,h,q⟩:=hbody cdv A outer s H vs Q E rfl hr hsp
  exact ⟨t,h.nox,q⟩
theorem Zr {X:Cx} {K:PySem.W.Frag} {e:PySem.Expr} {f:Str} {pos:Pos} {ta:TE} (hK:X.K=K) (he:PE X e ta) (hb:attributeBase e f X.env (eval e X.env)=eval e X.env):PE X (.Attribute e f pos) (tFld K ta f):=by
  subst hK
  exact ZoB he hb
def lamB (osc:Scope) (oN:List Str) (scope:Scope) (x:Str) (fr:List Str) (js:List Nat):Bool :=
  scope.kind == .function && !scope.isCoroutine && !scope.isGenerator && scope.names.all (fun y=>y.2 != .cell) && scope.names.lookup x == some .local &&
  scope.names.all (fun y=>y.2 != .free || (osc.names.lookup y.1 == some .cell || osc.names.lookup y.1 == some .free)) && fr.length == js.length &&
  (js.map fun j=>oN[j]?) == fr.map some && fr.all fun y=>scope.names.lookup y == some .free
theorem ZmK {X:Cx} {osc:Scope} {oN:List Str} {scope:Scope} {x:Str} {fr:List Str} {js:List Nat} (h:lamB osc oN scope x fr js=true) (hs:X.env.scope=osc) (hN:X.N=oN):LamOk X scope x fr js:=by
  unfold lamB at h
  simp only [Bool.and_eq_true,List.all_eq_true,Bool.or_eq_true,beq_iff_eq,bne_iff_ne,ne_eq,Bool.not_eq_true'] at h
  obtain ⟨⟨⟨⟨⟨⟨⟨⟨h1,h2⟩,h3⟩,h4⟩,h5⟩,h6⟩,h7⟩,h8⟩,h9⟩:=h
  refine ⟨h1,h2,h3,h4,h5,fun y hy hf=>?_,h7,fun k j e=>?_,fun k y e=>h9 y (List.mem_of_getElem? e)⟩
  · rcases h6 y hy with q | q
    · exact absurd hf q
    · show X.env.scope.names.lookup y.1=_∨X.env.scope.names.lookup y.1=_
      rw [hs]; exact q
  · rw [hN]
    have z:=congrArg (fun l=>l[k]?) h8
    simp only [List.getElem?_map,e,Option.map_some] at z
    cases q:fr[k]? with
    | none=>rw [q] at z; cases z
    | some y=>rw [q] at z; exact (Option.some.inj z).symm
theorem ZoR {A:Around} {k:Nat} {env:Env} (hr:Room k A):(A.in1.in1.deeper env).units+1<cLine:=by
  have:=hr.un
  show A.units+1+1+3+1<cLine
  omega
def Znq (K:PySem.W.Frag) (P:Addr) (lpos:Pos) (qual:Str) (js:List Nat) (te:TE) (σ:St) (Q:VK) (x:V) (H1:Hp):Prop:=∃ (l:Addr) (ns:List Int) (key:Int→Int),x=.ref l∧SqL K H1 l (ns.map V.int)∧ns.length<64∧ns.Nodup∧H1 P=some (.tbl lpos qual) ∧
  (∀ z∈ns,∀ H2,Same H1 H2→te (some (.int z) :: js.map fun j=>(σ[j]?).join) H2 fun v H'=>v=.int (key z)∧H'=H2) ∧
  ∀ (D:Addr) (H':Hp) (os:List Int),H1 D=none→Same H1 H'→H' D=some (.lst (os.map V.int))→os.Perm ns→os.Pairwise (KLt key ns)→Q (.ref D) H'
def ZoS (K:PySem.W.Frag) (P:Addr) (lpos:Pos) (qual:Str) (js:List Nat) (txs te:TE):TE:=fun σ H Q=>txs σ H fun x H1=>Znq K P lpos qual js te σ Q x H1
section
variable {X:Cx}
theorem ZmL {K:PySem.W.Frag} {P c0:Addr} {k:Nat} {y:Str} {fr:List Str} {js:List Nat} {qual:Str} {params:Arguments} {body xs:PySem.Expr} {scope:Scope} {p pos lpos kpos:Pos} {txs te:TE} (hK:X.K=K) (hr:Room k X.A) (hcl:X.calm=true) (hg:Gl X "sorted") (hm:X.mg "sorted" = none)
    (c:LamOk X scope y fr js) (hc0:X.env.code=.ref c0) (hcd:PySem.W.codeHdIn X.K c0 P=true) (bm:BMod X.base X.mg) (hq:X.env.qual ++ "<lambda>" = qual) (hd0:params.defaults=[]) (hk0:params.kw_defaults=[])
    (hb:∀ cl pm cd ct u,bindArgs (PySem.W.kla_fn "<lambda>" qual params body scope cl pm cd ct) ⟨[u],[]⟩=pure [(y,u)]) (ha:PE X xs txs)
    (he:∀ f cd cl s H,PE (cxLam X X.A.in1.in1 (y :: fr) qual scope f cd cl s H) body te) (hn:NSs [xs]:=by repeat' (first | exact True.intro | refine ⟨?_,?_⟩)) :
    PE X (.Call (.Name "sorted" p) [xs] [⟨some "key",.Lambda params body scope lpos,kpos⟩] pos) (ZoS K P lpos qual js txs te):=by
  subst hK
  subst hq
  intro pins s σ H Q I h
  refine wpAny_Call_Name_kw (Zca I hg hm boot_sorted ?_ (by decide) (by decide))
  refine callWith_kw (thn ((pc ha Ze hn.1) pos pins s σ H (fun vs H1=>match vs with | [x]=>Znq X.K P lpos (X.env.qual ++ "<lambda>") js te σ Q x H1 | _=>False) I h) fun us s1 ⟨vs,H1,I1,r1,q1⟩=>?_) (by rw [Zcq hn.1]; rfl) (by rw [Zcq hn.1]; rfl) rfl rfl
  match vs,r1,q1 with
  | [],_,z=>exact z.elim
  | _ :: _ :: _,_,z=>exact z.elim
  | [x],r1,q1 =>
    obtain ⟨l,ns,key,rfl,hS,h64,nd,hP,ht,q⟩:=q1
    obtain ⟨u,rfl,ru⟩:=vals1 r1
    cases ru
    show wpAny _ _ (evalAll [(do let v ← eval (.Lambda params body scope lpos) X.env; standAt pos; pure v)]) _ _ s1
    refine wpAny_evalAll_cons (wpAny_bind (ZmH c I1 hc0 hcd bm hP hd0 hk0 fun f cl cd pm ct of H2 s2 I2 sm cl1 cl2 hf hof hcode=>wpAny_bind (wpAny_standAt (wpAny_pure (wpAny_evalAll_nil ?_)))))
    show wpAny _ _ (call (.builtin "sorted") [.ref l] [(Str.ofString "key",.ref f)]) _ _ s2
    refine ZmJ I2 (sm.seq hS) h64 nd (fun z hz H3 s3 u sm3 I3 ru=>?_) fun D H' os hD sm' hl po so=>q D H' os (sm.free hD) (sm.trans sm') hl po so
    have of3:=(I3.hok f _ (sm3 _ _ hf)).1
    obtain ⟨c',oc,vs',t',rfl,hc',hd',hv'⟩:=hcode
    have oc3:=(I3.hok c' _ (sm3 _ _ hc')).1
    exact ZmG (A:=X.A.in1.in1) c I3 I3.ok.frames (I3.ok.hd hcl) hr.depth cl1 cl2 of3 hof ⟨c',oc,vs',t',rfl,oc3,hd',hv'⟩ (hb cl pm _ ct) ru (fun s=>he f _ cl s H3) (ht z hz H3 (sm.trans sm3))
end
end L2
set_option Elab.async false
set_option linter.all false
set_option maxRecDepth 100000
set_option maxHeartbeats 4000000
namespace L2
open PySem PySem.Spec PyProof.Rows
theorem Zlp {P:Program} {w:World} {K:PySem.W.Frag} {mg mb:Str→Option Value} {CX:CXT} {k:Nat} {fa a tp c0:Addr} {pos:Pos} {qual:Str} {fd:FuncData} {x:Str} {sp:Sp} {s₁:Shared} {vs:List Value} {ns:List Int}
    (KX:K.In s₁.heap) (hns:s₁.heap.Ns mainGlobals mg) (hb:s₁.heap.Ns builtinsNs mb) (hbb:∀ x:Str,x ≠ "__name__" → mb x=bootBuiltins x) (hlim:s₁.heap.NoLimit) (hg:s₁.gens=#[])
    (ha:s₁.heap.get? a=some { cls:=.type "list",data:=.seq vs.toArray }) (hi:IntsAre vs ns) (hl:ns.length≤sizeLine) (hr:Room k callerA)
    (htp:s₁.heap.get? tp=some { cls:=.none,data:=.fields #[] }) (hch:PySem.W.codeHdIn K c0 tp=true) (hKt:K.lookup tp=none)
    (hbm:BMod s₁.heap mg) (F:∀ base:Heap,K.In base→base.Ns mainGlobals mg→BMod base mg→FnOk P w K mg base CX k fa fd [x] sp) (hbind:∀ (s:Shared) (u:Value),BindsTo s fd ⟨[u],[]⟩ [(x,u)])
    (hsp:∀ H:Hp,H tp=some (.tbl pos qual)→SqL K H a (ns.map V.int)→sp [.ref a] H (fun v _=>v=.bl true) fun _ _ _=>False)
    (hCX:∀ H e s',CX [] H s₁ (fun _ _ _=>False) e s'→False) :
    codeAny (model P w) callerA (.call (.ref fa) ⟨[.ref a],[]⟩) (fun r s'=>r=.ok (.ret (.bool true))∧OldK s₁.heap s'.heap∧s'.os=s₁.os∧AllBare s'.gens) s₁:=by
  have rv:=Zhl hi
  have lenV:=hi.length
  have nat:a≠tp:=fun z=>by rw [z,htp] at ha; cases ha
  have core:∀ H:Hp,H tp=some (.tbl pos qual)→SqL K H a (ns.map V.int)→HOk P w H s₁.heap→(∀ b,H b≠none→b=tp∨(b=a∧∃ o xs,H b=some (.frz o (.lst xs))))→(H a≠none→K.lookup a=none) →
      codeAny (model P w) callerA (.call (.ref fa) ⟨[.ref a],[]⟩) (fun r s'=>r=.ok (.ret (.bool true))∧OldK s₁.heap s'.heap∧s'.os=s₁.os∧AllBare s'.gens) s₁:=by
    intro H hT hS hok hA hK
    have noD:∀ {b:Addr} {o:Obj} {es:Array DictEntry} {ep:Nat},s₁.heap.get? b=some o→o.data=.dict es ep→H b=none:=fun {b o es ep} e d=>by
      cases q:H b with
      | none=>rfl
      | some u =>
        rcases hA b (by rw [q]; simp) with z | ⟨z,_⟩
        · rw [z,htp] at e
          cases e
          cases d
        · rw [z,ha] at e
          cases e
          cases d
    have nsK:∀ {b:Addr} {m:Str→Option Value},s₁.heap.Ns b m→(hidT s₁.heap H).Ns b m:=fun {b m} ⟨o,es,ep,e,d,r⟩=>⟨o,es,ep,ZfY e (noD e d),d,r⟩
    have hKb:K.In (hidT s₁.heap H):=fun b o e=>ZfY (KX b o e) (by
      cases q:H b with
      | none=>rfl
      | some u =>
        rcases hA b (by rw [q]; simp) with z | ⟨z,_⟩
        · rw [z,hKt] at e
          cases e
        · have n:H a≠none:=by rw [← z,q]; simp
          rw [z,hK n] at e
          cases e)
    have hM:Mod K mg (hidT s₁.heap H):=⟨hKb,nsK hns,⟨mb,nsK hb,hbb⟩,let ⟨mc,h1,h2⟩:=hlim; ⟨mc,nsK h1,h2⟩⟩
    have e0:Env0 P w K mg (hidT s₁.heap H) callerA [] s₁ H:=⟨rfl,hM,fun b o e=>Znz e,Nat.le_of_eq (Zkw _ _),trivial,fun b hb=>absurd (show b∈([]:List Addr) from hb) (by simp),hok,.of_eq hg⟩
    have hB:BMod (hidT s₁.heap H) mg:=by
      obtain ⟨b,o,a1,a2,a3,a4,a5,a6,a7⟩:=hbm
      refine ⟨b,o,a1,a2,a3,ZfY a4 ?_,a5,a6,a7⟩
      cases q:H b with
      | none=>rfl
      | some u =>
        rcases hA b (by rw [q]; simp) with z | ⟨z,_⟩
        · rw [z,htp] at a4
          cases a4
          cases a5
        · rw [z,ha] at a4
          cases a4
          have a8:Value.type "list" = Value.type "module" := a5
          injection a8 with a8
          exact absurd a8 (by decide)
    refine codeAny_mono ((F _ hKb (nsK hns) hB).run callerA [] s₁ H ⟨[.ref a],[]⟩ [.ref a] [.ref a] _ _ hr e0 (hbind s₁ (.ref a)) (.cons rfl .nil) (hsp H hT hS)) fun r s' h=>?_
    cases r with
    | error e=>exact (hCX H e s' h).elim
    | ok fl =>
      cases fl with
      | next=>exact False.elim h
      | brk=>exact False.elim h
      | cont=>exact False.elim h
      | ret u =>
        obtain ⟨v,H',os,bare,un,hok',r',q⟩:=h
        have q':v=.bl true:=q
        subst q'
        obtain rfl:u=Value.bool true:=r'
        have tab:=(PySem.W.codeHd_of_K KX hch).tab htp
        have t2:=hok' tp _ (un.tbls _ _ _ hT)
        obtain ⟨ps,hps,_⟩:=t2
        have old:∀ b o,s₁.heap.get? b=some o→b≠tp→s'.heap.get? b=some o:=fun b o e nb=>by
          cases q:H b with
          | none=>exact un.keep b o e q (by intro z; exact absurd (show b∈([]:List Addr) from z) (by simp)) (by simp)
          | some u =>
            rcases hA b (by rw [q]; simp) with z | ⟨_,ob,xs,z⟩
            · exact absurd z nb
            · have z2:=un.frzs b ob _ z
              obtain ⟨e1,_⟩:=hok b _ z
              obtain ⟨e2,_⟩:=hok' b _ z2
              rw [e] at e1
              cases e1
              exact e2
        refine ⟨rfl,⟨fun b o e=>?_,fun b o e=>?_⟩,os,bare⟩
        · by_cases nb:b=tp
          · subst nb
            rw [htp] at e
            cases e
            exact .inr (.inl ⟨tab.isCodeTable,rfl,#[],ps,rfl,by rw [hps]; simp⟩)
          · exact .inl (old b o e nb)
        · by_cases nb:b=tp
          · subst nb
            exact ⟨_,hps⟩
          · exact ⟨o,old b o e nb⟩
  have tb:∀ H:Hp,ObjOk P w H s₁.heap tp (.tbl pos qual):=fun H=>⟨#[],htp,True.intro,fun cv e=>by cases e⟩
  cases hk:K.lookup a with
  | some o =>
    have e:=KX a o hk
    rw [ha] at e
    cases e
    refine core (fun b=>if b=tp then some (.tbl pos qual) else none) (if_pos rfl) (.inr ⟨_,vs.toArray,_,hk,rfl,rfl,rfl,by rw [List.size_toArray,lenV]; exact hl,by simpa using rv⟩) (fun b u z=>?_) (fun b z=>?_) fun z=>absurd (if_neg nat) z
    · by_cases hb:b=tp
      · have z':=(if_pos hb).symm.trans z
        cases z'
        subst hb
        exact tb _
      · have z':=(if_neg hb).symm.trans z
        cases z'
    · by_cases hb:b=tp
      · exact .inl hb
      · exact absurd (if_neg hb) z
  | none =>
    refine core (fun b=>if b=tp then some (.tbl pos qual) else if b=a then some (.frz { cls:=.type "list",data:=.seq vs.toArray } (.lst (ns.map V.int))) else none) (if_pos rfl) (.inl (.inr ⟨{ cls:=.type "list",data:=.seq vs.toArray },(if_neg nat).trans (if_pos rfl)⟩)) (fun b u z=>?_) (fun b z=>?_) fun _=>hk
    · by_cases hb:b=tp
      · have z':=(if_pos hb).symm.trans z
        cases z'
        subst hb
        exact tb _
      · have z':=(if_neg hb).symm.trans z
        by_cases hb2:b=a
        · have z2:=(if_pos hb2).symm.trans z'
          cases z2
          subst hb2
          exact ⟨ha,by rw [List.length_map]; exact hl,vs,_,rv,ha⟩
        · have z2:=(if_neg hb2).symm.trans z'
          cases z2
    · by_cases hb:b=tp
      · exact .inl hb
      · by_cases hb2:b=a
        · exact .inr ⟨hb2,_,_,(if_neg hb).trans (if_pos hb2)⟩
        · exact absurd (by show (if b=tp then _ else if b=a then _ else none)=none; rw [if_neg hb,if_neg hb2]) z
theorem ZmM {l:PySem.W.OpenLaw} {n k:Nat} {q:Program} {loose:List Str} {XP:(Str→Option Value)→Heap→Prop} {YP:World→Heap→Prop} {d:DefRec} {K:Params→PySem.W.Frag} {CX:World→CXT} {sp:World→Sp} {x:Str} {tp:Addr} {pos:Pos} {qual:Str} {G:World→Prop}
    (hn:l.most=some n) (hn2:n≤sizeLine) (hdf:d.params.defaults=[]) (hr:Room k callerA)
    (hY:∀ (w:World) (h:Heap),YP w h→(K w.params).In h∧h.get? tp=some { cls:=.none,data:=.fields #[] })
    (F:∀ (w:World) (mg:Str→Option Value) (fa:Addr) (h:Heap),(K w.params).In h→h.Ns mainGlobals mg→mg d.name=some (.ref fa) →
      G w∧(∃ c0,PySem.W.codeHdIn (K w.params) c0 tp=true)∧(K w.params).lookup tp=none∧∃ fd:FuncData,(∀ (s:Shared) (u:Value),BindsTo s fd ⟨[u],[]⟩ [(x,u)]) ∧
        ∀ base:Heap,(K w.params).In base→base.Ns mainGlobals mg→BMod base mg→FnOk l.prog w (K w.params) mg base (CX w) k fa fd [x] (sp w))
    (hsp:∀ (w:World) (H:Hp) (a:Addr) (ns:List Int),G w→ns.length≤n→H tp=some (.tbl pos qual)→SqL (K w.params) H a (ns.map V.int)→sp w [.ref a] H (fun v _=>v=.bl true) fun _ _ _=>False)
    (hCX:∀ (w:World) (H:Hp) (s:Shared) (e:Value) (s':Shared),CX w [] H s (fun _ _ _=>False) e s'→False) :
    PySem.W.WalkO q loose XP YP l.row.toRowW d [] (fun f vs=>PySem.call f vs):=by
  refine Att.attach_call hn hdf fun w s₀ s₁ mg mb fa o pm cd doc a vs ns G' Y ho hd hcd hmg hobj hints hlen hg=>?_
  obtain ⟨KX,htp⟩:=hY w _ Y
  obtain ⟨g,⟨c0,hc⟩,hk,fd,hb,hF⟩:=F w mg fa _ KX G'.T.g hmg
  have hbm:BMod s₁.heap mg:=by
    obtain ⟨bm,ob,b1,b2,b3,b4,b5,b6⟩:=G'.T.bmain
    refine ⟨bm,ob,b1,b2,fun z=>?_,b3,b4,b5,b6⟩
    obtain ⟨o,es,ep,e,hd',_⟩:=G'.T.g
    rw [z,e] at b3
    cases b3
    rw [hd'] at b6
    cases b6
  exact Zlp KX G'.T.g G'.T.b G'.T.builtins G'.T.nolimit hg hobj hints (Nat.le_trans hlen hn2) hr htp hc hk hbm hF hb (fun H hT hS=>hsp w H a ns g hlen hT hS) fun H e s'=>hCX w H s₁ e s'
def clsOf (K:PySem.W.Frag) (x:Str):Addr:=match PySem.W.nsIn K mainGlobals x with
  | some (some (.ref C))=>C
  | _=>0
def tabOf (K:PySem.W.Frag) (x m:Str):Addr:=match PySem.W.findIn K (.ref (clsOf K x)) m with
  | some (some (.ref f))=>(match K.lookup f with
    | some ⟨_,_,.func fd,_⟩=>(match fd.code with
      | .ref c=>(match K.lookup c with
        | some ⟨_,_,.fields vs,_⟩=>(match (vs[11]?:Option Value) with
          | some (.ref P)=>P
          | _=>0)
        | _=>0)
      | _=>0)
    | _=>0)
  | _=>0
theorem Zdt {K:PySem.W.Frag} {x:Str} {C:Addr} (h:PySem.W.nsIn K mainGlobals x=some (some (.ref C))):clsOf K x=C:=by
  unfold clsOf
  rw [h]
theorem ZmN {K:PySem.W.Frag} {x m:Str} {f c P:Addr} {oc:Value} {od:Option Addr} {fd:FuncData} {sl:Array (Option Value)} (h1:PySem.W.findIn K (.ref (clsOf K x)) m=some (some (.ref f))) (h2:K.lookup f=some ⟨oc,od,.func fd,sl⟩) (h3:fd.code=.ref c)
    (h4:PySem.W.codeHdIn K c P=true):tabOf K x m=P:=by
  unfold PySem.W.codeHdIn at h4
  split at h4
  · rename_i vs _ hk
    simp only [Bool.and_eq_true] at h4
    obtain ⟨⟨⟨⟨⟨e1,_⟩,_⟩,_⟩,_⟩,_⟩:=h4
    split at e1
    · rename_i P' h11
      have hP:P'=P:=beq_iff_eq.mp e1
      subst hP
      unfold tabOf
      simp only [h1,h2,h3,hk,h11]
    · cases e1
  · cases h4
end L2
set_option Elab.async false
set_option linter.all false
set_option maxRecDepth 100000
set_option maxHeartbeats 4000000
namespace L2
open PySem PySem.Spec PyProof.Rows
section
variable {X:Cx}
def rSet0:List V→Hp→VK→Prop:=fun xs H Q=>xs=[]∧∀ q,H q=none→Q (.ref q) (upd H q (.set (fun _=>false) 0))
theorem Zlq:CallR X (.type "set") rSet0:=by
  intro pins s σ H xs us Q I r h
  obtain ⟨rfl,q⟩:=h
  cases r
  refine call_set_0 fun led=>⟨.ref s.heap.objs.size,_,I.laid (t':=s.toks) (o:=.set (fun _=>false) 0) (fun b ob e=>Heap.get?_push_of_some _ e) (Nat.le_refl _) ?_,rfl,q _ (I.hok.fresh (Nat.le_refl _))⟩
  exact (setObjOf_fresh led).setOf (Heap.get?_push_size _ rfl) (by decide)
def rSAdd:V→List V→Hp→VK→Prop:=fun x vs H Q=>∃ (p:Addr) (S:Int→Bool) (n:Nat) (k:Int),x=.ref p∧vs=[.int k]∧H p=some (.set S n)∧n≤1000∧Q .non (upd H p (.set (fun k'=>S k' || decide (k'=k)) (if S k then n else n+1)))
theorem Zoa:MtM X "set.add" rSAdd:=by
  intro pins s σ H x vs v us Q I rx rv h
  obtain ⟨p,S,n,k,rfl,rfl,hp,hn,q⟩:=h
  cases rx
  obtain ⟨u,rfl,ru⟩:=rv.one
  obtain ⟨tk,rfl⟩:=ru
  have hS:s.heap.SetOf (intKind X.prog X.w) p S n:=I.hok p _ hp
  refine call_set_add (knd:=intKind X.prog X.w) (k:=k) (by simp [intKind,Value.isInt]) rfl hS (Nat.lt_of_le_of_lt (Nat.add_le_add_right hn 1) (by decide)) fun h' sb hS'=>?_
  refine ⟨.non,_,I.write (t':=s.toks+1) (x:=p) (e:=p) (o:=.set _ _) (by rw [hp]; exact True.intro) (.inl rfl) (fun b o hb e=>(sb.2 b hb).trans e) ?_ hS',rfl,q⟩
  obtain ⟨o,_,_,_,ho,_⟩:=hS'
  exact ⟨o,ho⟩
end
end L2
set_option Elab.async false
set_option linter.all false
set_option maxRecDepth 100000
set_option maxHeartbeats 4000000
namespace L2
open PySem PySem.F PyProof.Rows PySem.MeetsSeq
variable {K:PySem.W.Frag} {X:Cx} {pins:List Pin} {σ:St} {H:Hp} {s:Shared}
theorem ZcW {e:PySem.Expr} {T:String} {r:V→List V→Hp→VK→Prop} {to:TE} {t:TA} (hK:X.K=K) (h:PE X e (tBM X.K T r to t)):PE X e (tBM K T r to t):=by
  subst hK; exact h
end L2
set_option Elab.async false
set_option linter.all false
set_option maxRecDepth 100000
set_option maxHeartbeats 4000000
namespace L2
open PySem PySem.Calls PyProof.Rows PySem.MeetsSeq PySem.W
variable {K:PySem.W.Frag} {X:Cx} {pins:List Pin} {σ:St} {H:Hp} {s:Shared}
theorem Zlr {C:Addr} {m:Str} {k:Nat} {ps:List Str} {sp:Sp} {o:PySem.Expr} {ta:TE} {apos pos:Pos} {pl:Sem Bool} (M:MDef X.prog X.w X.K X.mg X.base C m k ps sp) (hr:Room k X.A) (c:Cls X.K C) (he:PE X o ta)
    (ht:eval (.Call (.Attribute o m apos) [] [] pos) X.env=(do
      let ov ← eval o X.env
      standAt apos.atName
      let (f,first) ← holding [ov] (getMethod ov m pl)
      callWith pos f first (backTo pos (starEach [] X.env)) (backToKw pos (keywordEach [] X.env))):=by rfl) :
    PE X (.Call (.Attribute o m apos) [] [] pos) (tMeth C m sp [] E0 ta tNil):=by
  obtain ⟨f,fd,F,hm,hb⟩:=M
  exact Zmu he c hm F hr hb .nil (fun _ _ _ _ _ _ _ z=>z.elim) ht
end L2
set_option Elab.async false
set_option linter.all false
set_option maxRecDepth 100000
set_option maxHeartbeats 4000000
namespace L2
open PySem PySem.Calls PySem.Spec PyProof.Rows PySem.W
end L2
set_option Elab.async false
set_option linter.all false
set_option maxRecDepth 100000
set_option maxHeartbeats 4000000
namespace L2
open PySem PySem.Calls PySem.Spec PyProof.Rows PySem.W
end L2
set_option Elab.async false
set_option linter.all false
set_option maxRecDepth 100000
set_option maxHeartbeats 4000000
namespace L2
open PySem PySem.Calls PySem.Spec PyProof.Rows PySem.W
end L2
set_option Elab.async false
set_option linter.all false
set_option maxRecDepth 100000
set_option maxHeartbeats 4000000
namespace L2
open PySem PySem.Calls PySem.Spec PyProof.Rows PySem.W Builtin Builtin.ObjectAttr Builtin.Getset_descriptor
end L2
set_option Elab.async false
set_option linter.all false
set_option maxRecDepth 100000
set_option maxHeartbeats 4000000
namespace L2
open PySem PySem.Calls PySem.Spec PyProof.Rows PySem.W
end L2
namespace L2
open PySem PySem.Calls PySem.Spec PyProof.Rows PySem.W
end L2
set_option Elab.async false
set_option linter.all false
set_option maxRecDepth 100000
set_option maxHeartbeats 4000000
namespace L2
open PySem PySem.Calls PySem.Spec PyProof.Rows PySem.W
structure ClsFn (K:PySem.W.Frag) (C:Addr) (m:Str) (f:Addr):Prop where
  ga:PySem.W.specialIn K (.ref C) "__getattribute__" = some (some (.builtin "type.__getattribute__"))
  rd:∃ mc,PySem.W.readsIn K C mc=true∧PySem.W.findCls K (.ref C) mc m=some (.val (.ref f))
  kp:PySem.W.keepIn K (.ref f)=true
structure CDef (P:Program) (w:World) (K:PySem.W.Frag) (mg:Str→Option Value) (base:Heap) (x m:Str) (k:Nat) (ps:List Str) (sp:Sp):Prop where
  ex:∃ (C f:Addr) (fd:FuncData),FnOk P w K mg base CX0 k f fd ps sp∧ClsFn K C m f∧mg x=some (.ref C)∧Binds K fd ps []
section
variable {X:Cx} {x m:Str} {p pos apos:Pos} {e o:PySem.Expr} {es:List PySem.Expr} {ta:TE} {t:TA} {k:Nat} {ps:List Str} {sp:Sp} {C:Addr}
theorem Zob {pl:Sem Bool} (M:CDef X.prog X.w X.K X.mg X.base x m k ps sp) (hr:Room k X.A) (hg:Gl X x) (ha:PA X (e :: es) t) (hn:NSs (e :: es):=by repeat' (first | exact True.intro | refine ⟨?_,?_⟩)) (hd:(x == ("__debug__" : Str))=false:=by decide)
    (ht:eval (.Call (.Attribute (.Name x p) m apos) (e :: es) [] pos) X.env=(do
      let ov ← eval (.Name x p) X.env
      standAt apos.atName
      let (f,first) ← holding [ov] (getMethod ov m pl)
      callWith pos f first (backTo pos (starEach (e :: es) X.env)) (backToKw pos (keywordEach [] X.env))):=by rfl) :
    PE X (.Call (.Attribute (.Name x p) m apos) (e :: es) [] pos) (tCall sp [] E0 t):=by
  obtain ⟨C,f,fd,F,c,hm,hb⟩:=M.ex
  obtain ⟨mc,hr1,hr2⟩:=c.rd
  intro pins s σ H Q I h
  have he:PE X (.Name x p) (tC (.ref C)):=ZnA (v:=.ref C) hg hm rfl hd
  refine PySem.W.methodCall_KW (pl:=pl) (thn (he pins s σ H (fun v H1=>v=.ref C∧H1=H) I ⟨rfl,rfl⟩) fun u s1 ⟨x,H1,I1,rx,e1,e2⟩=>?_) ht
  subst e1 e2
  obtain rfl:u=Value.ref C:=rx
  have I2:Inv X pins σ H1 { s1 with toks:=s1.toks+1 }:=I1.kept (t':=s1.toks+1) fun b o e=>e
  refine PySem.W.method_cls I1.kIn c.ga (PySem.W.cls_value I1.kIn hr1 hr2 rfl ?_)
  refine PySem.W.callWith_K (first:=[]) (h₀:=X.base) I.ok.mod.kin c.kp (thn (ha pos pins _ σ H1 _ I2 h) fun us s2 ⟨vs,H2,I3,r,q2⟩=>⟨I3.kIn,?_⟩) (Zcq hn.1) (Zda hn.2)
  exact Zjc (us:=us) (vs:=vs) F hr hb .nil pass0 I3 r q2
end
theorem Room.m {j k:Nat} {A:Around} (r:Room k A) (h:j≤k:=by first | decide | omega):Room j A:=r.mono h
section
variable {X:Cx} {pos:Pos}
theorem pgn (i:Nat) {x:Str} (hN:X.N.Nodup) (hi:X.N[i]?=some x:=by rfl) (hx:Loc X.env.scope x:=by first | exact Or.inl rfl | exact Or.inr rfl) (hf:X.fn x=true∨X.env.scope.names.lookup x=some .local:=by first | exact .inl rfl | exact .inr rfl | assumption):PG X (.Name x pos) (gName i):=ZnB hN hi hx hf
theorem pst (i:Nat) {x:Str} {e:PySem.Expr} {te:TE} {pos':Pos} (hN:X.N.Nodup) (he:PE X e te) (hi:X.N[i]?=some x:=by rfl) (hx:Loc X.env.scope x:=by first | exact Or.inl rfl | exact Or.inr rfl) (hs:swapsWith e (some (.Name x pos')) pos.line X.env=pure false:=by rfl) (hf:X.fn x=true∨X.env.scope.names.lookup x=some .local:=by first | exact .inl rfl | exact .inr rfl | assumption):PS X (.Assign [.Name x pos'] e pos) (tAsg te (gName i)):=Zow hN hi hx he hs hf
end
end L2
set_option Elab.async false
set_option linter.all false
set_option maxRecDepth 100000
namespace L2
open PySem PySem.Spec PyProof.Rows
section
variable {X:Cx} {K:PySem.W.Frag}
def Zio (ta:TA):TE:=fun σ H Q=>ta σ H fun vs H1=>∃ j:Int,vs=[.int j] ∧ -(2 ^ 62)≤j∧j<2 ^ 62∧j.toNat≤sizeLine ∧
  ∀ p,H1 p=none→Q (.ref p) (upd H1 p (.lst ((List.range j.toNat).map fun k:Nat=>V.int (k:Int))))
theorem Zgk {a:PySem.Expr} {ta:TA} {p q pos pos2:Pos} (hc:X.calm=true) (hg1:Gl X "list") (hm1:X.mg "list" = none) (hg:Gl X "range") (hm:X.mg "range" = none) (ha:PA X [a] ta)
    (hs:starEach [a] X.env=[(false,eval a X.env)]:=by rfl)
    (hs3:starEach [PySem.Expr.Call (.Name "range" p) [a] [] pos] X.env=[(false,eval (PySem.Expr.Call (.Name "range" p) [a] [] pos) X.env)]:=by rfl) :
    PE X (.Call (.Name "list" q) [.Call (.Name "range" p) [a] [] pos] [] pos2) (Zio ta):=by
  intro pins s σ H Q I h
  refine Call_ (Zca I hg1 hm1 ZG (PyProof.Rows.callWith_type1 (Q:=EP X pins σ Q) ?_ hs3 rfl))
  rw [hs3]
  refine Calls.spliced_cons (Call_ (Zca I hg hm boot_range (PyProof.Rows.callWith_type1 (thn (ha pos pins s σ H _ I h) fun us s1 ⟨vs,H1,I1,r1,q1⟩=>?_) hs rfl)))
  obtain ⟨j,e,q3,q4,hz,q⟩:=q1
  subst e
  cases r1 with
  | cons r rr =>
    cases rr
    obtain ⟨t',rfl⟩:=r
    refine call_range_1 (Calls.spliced_nil ?_)
    have I2:Inv X pins σ H1 { s1 with heap:=s1.heap.push { cls:=.type "range",data:=.fields #[.int 0 s1.toks,.int j t',.int 1 (s1.toks+1)] },toks:=s1.toks+1+1 }:=I1.kept fun b o e=>Heap.get?_push_of_some _ e
    have hsz:sizeLine=16777216:=sizeLine_eq
    refine call_list_range (n:=j.toNat) (I.ok.hd hc) (IsRange.new ..) (small_one (by decide) (by decide) q3 q4) (by rw [rangeSize_one]; split <;> omega) (by omega) fun h' tk acc' c' hk hS hit=>?_
    have hit':=Znl 0 _ hit
    refine ⟨.ref _,_,I2.laid (o:=.lst ((List.range j.toNat).map fun k:Nat=>V.int (k:Int))) hk (Nat.le_refl _) ⟨by simpa using hz,acc'.toList,c',(by simpa using hit'),by simpa using hS⟩,rfl,q _ (I2.hok.fresh (Nat.le_refl _))⟩
end
theorem Zfy (l:Addr) (items:Array Value) (n:Nat) (dct:Option Addr) (sl:Array (Option Value)) :
    Meets (Builtin.«enumerate.__new__» ⟨[.type "enumerate",.ref l],[]⟩) (fun _ R s=>s.heap.get? l=some { cls:=.type "tuple",dict:=dct,data:=.seq items n,slots:=sl } ∧
      R (.ok (.ret (.ref (s.heap.push { cls:=.type "tuple_iterator",data:=.fields #[.ref l,.int 0 0] }).objs.size)))
        { s with heap:=(s.heap.push { cls:=.type "tuple_iterator",data:=.fields #[.ref l,.int 0 0] }).push { cls:=.type "enumerate",data:=.fields #[.none,.bool false,.ref s.heap.objs.size,rawInt 0,.none,.none] } }) :=
  .of_wp fun prog w A R s h=>by
    obtain ⟨hp,g,d,tk,os⟩:=s
    obtain ⟨hl,h⟩:=h
    have hsub:=sub_enumerate
    have hT:Heap.IsTuple (Shared.heap ⟨hp,g,d,tk,os⟩) l items:=⟨_,hl,rfl,n,rfl⟩
    wp_walk using AutoSeq1.wpAny_loadPart' hl
    refine wpAny_stack_any fun st=>wpAny_pure ?_
    split
    · rename_i c _ _ _ _ _
      cases (c == Value.type "enumerate") <;> (wp_walk using AutoSeq1.wpAny_loadPart' hl,wpAny_pyIter_tuple hT; exact ⟨_,rfl,h⟩)
    · wp_walk using AutoSeq1.wpAny_loadPart' hl,wpAny_pyIter_tuple hT
      exact ⟨_,rfl,h⟩
section
variable {prog:Program} {w:World} {A:Around} {E:Value→Shared→Prop} {s:Shared}
theorem Zgl {l:Addr} {items:Array Value} {Q:Value→Shared→Prop} (hL:s.heap.IsTuple l items)
    (h:∀ h',IsEnum h' (s.heap.objs.size+1) s.heap.objs.size 0 .none→h'.IsTupleIter s.heap.objs.size l 0→(∀ b o,s.heap.get? b=some o→h'.get? b=some o)→Q (.ref (s.heap.objs.size+1)) { s with heap:=h' }) :
    wpAny (model prog w) A (call (.type "enumerate") [.ref l]) Q E s:=by
  obtain ⟨⟨c,dct,dt,sl⟩,hl,hc,n,hd⟩:=hL
  have hc:c=.type "tuple" := hc
  have hd:dt=.seq items n:=hd
  subst hc hd
  refine callType_new F.called_enumerate (by decide) (F.typeCall_enumerate_1 _) (F.newCall_enumerate_1 _) (fun obj=>F.args_object_init_2 obj _) F.entry_enumerate_new (Zfy l items n dct sl) ⟨hl,?_⟩
  have hz:(s.heap.push { cls:=.type "tuple_iterator",data:=.fields #[.ref l,.int 0 0] }).objs.size=s.heap.objs.size+1:=Heap.size_push ..
  show _∧_
  rw [hz]
  have he:IsEnum ((s.heap.push { cls:=.type "tuple_iterator",data:=.fields #[.ref l,.int 0 0] }).push { cls:=.type "enumerate",data:=.fields #[.none,.bool false,.ref s.heap.objs.size,rawInt 0,.none,.none] }) (s.heap.objs.size+1) s.heap.objs.size 0 .none:=by
    have q:=Heap.get?_push_size (s.heap.push { cls:=.type "tuple_iterator",data:=.fields #[.ref l,.int 0 0] }) (o:={ cls:=.type "enumerate",data:=.fields #[.none,.bool false,.ref s.heap.objs.size,rawInt 0,.none,.none] }) rfl
    rw [hz] at q; exact q
  exact ⟨⟨_,he,rfl⟩,h _ he ⟨_,Heap.get?_push_of_some _ (Heap.get?_push_size _ rfl),rfl,rfl⟩ fun b o x=>Heap.get?_push_of_some _ (Heap.get?_push_of_some _ x)⟩
end
theorem ZhA {prog:Program} {w:World} {A:Around} (hh:A.handled=none) (it l:Addr) (hne:l≠it) (items:Array Value) :
    Draws prog w A it [it,l] items.size (fun i v=>items[i]?=some v) (fun i h=>h.IsTupleIter it l i∧h.IsTuple l items) where
  live:=fun _ _ st=>let ⟨o,ho,_⟩:=st.1; ⟨o,ho⟩
  frame:=fun _ _ _ st hk=>⟨st.1.at fun o e=>hk it (by simp) o e,by obtain ⟨o,e,r⟩:=st.2; exact ⟨o,hk l (by simp) o e,r⟩⟩
  item:=fun i s Q E hi st hQ=>Zea st.1 st.2 (x:=items[i]) (by simp [hi]) fun h' hit' hs'=>hQ _ h' s.toks (by simp [hi]) ⟨hit',st.2.extBut hs'.extBut hne⟩ hs'
  done:=fun s Q E st hE=>Zeb hh st.1 st.2 (by simp) hE
def Itet (K:PySem.W.Frag) (a:Addr):It :=
  ⟨fun i H=>∃ xs x,SqT K H a xs∧xs[i]?=some x,
   fun i H v H'=>∃ t x,H t=none∧v=.ref t∧H'=upd H t (.tup [.int i,x])∧∀ xs,SqT K H a xs→xs[i]?=some x,
   fun i H=>∃ xs,SqT K H a xs∧xs.length=i⟩
theorem Zkc {P:Program} {w:World} {K:PySem.W.Frag} {elts:List PySem.Expr} {x1} {pos:Pos} (e it a:Addr) (hei:e≠it) (hae:a≠e) (hai:a≠it) :
    Turn P w K (.Tuple elts x1 pos) (Itet K a) [e,it] e (fun i h=>(∃ old,IsEnum h e it i old)∧h.IsTupleIter it a i) where
  mem:=by simp
  obj:=fun i h st c hc=>by
    obtain ⟨⟨old,he⟩,h1⟩:=st
    simp only [List.mem_cons,List.not_mem_nil,or_false] at hc
    rcases hc with rfl | rfl
    · exact ⟨_,he,fun v z=>by cases z⟩
    · exact Zbo h1
  keep:=fun i h h' st k=>by
    obtain ⟨⟨old,he⟩,h1⟩:=st
    exact ⟨⟨old,k e (by simp) _ he⟩,h1.at fun o q=>k it (by simp) o q⟩
  item:=by
    intro X hP hw hK hc i pins s σ H E I hf st hg
    subst hP hw hK
    obtain ⟨xs,x,hq,hx⟩:=hg
    obtain ⟨⟨old,he⟩,h1⟩:=st
    obtain ⟨its,rv,p,hz⟩:=I.tuple hq
    obtain ⟨u,hu,ru⟩:=rv.get hx
    have hlt:i<its.toArray.size:=by
      have:=(List.getElem?_eq_some_iff.mp hu).1
      simpa using this
    refine wpAny_pyNext_enum_itemD (ZhA (A:=X.A.in1) (show X.A.in1.handled=none from I.ok.hd hc) it a hai its.toArray) he ⟨h1,p⟩ hlt hei (by simp [hei,Ne.symm hae]) fun v h' tk hP ho hs' hT hsz hk=>?_
    have hP':v=u:=by
      have z:its[i]?=some v:=by simpa using hP
      rw [hu] at z; exact (Option.some.inj z).symm
    subst hP'
    refine ⟨.ref s.heap.objs.size,rfl,?_⟩
    refine wpAny_letOwnedTupleGo_enum ho fun h2 he2 sb2=>?_
    have helt:e<s.heap.objs.size:=Heap.lt_size he
    have kk:∀ c o,c∉[e,it]→s.heap.get? c=some o→h2.get? c=some o:=fun c o hc q=>by
      simp only [List.mem_cons,List.not_mem_nil,or_false,not_or] at hc
      exact (sb2.2 c hc.1).trans (hk c o hc.1 hc.2 q)
    have tp:h2.get? s.heap.objs.size=some { cls:=.type "tuple",data:=.seq #[.int i tk,v] }:=(sb2.2 _ (Nat.ne_of_gt helt)).trans hT
    have I1:Inv X pins σ (upd H s.heap.objs.size (.tup [.int i,x])) { s with heap:=h2,toks:=tk+1 } :=
      I.laidCh hf kk ⟨by show 2≤sizeLine; decide,[.int i tk,v],.cons ⟨tk,rfl⟩ (.cons ru .nil),⟨_,tp,rfl,_,rfl⟩⟩
    refine ⟨.ref s.heap.objs.size,_,I1,rfl,⟨s.heap.objs.size,x,I.hok.fresh (Nat.le_refl _),rfl,rfl,fun ys hy=>by rw [I.tuple_inj hy hq]; exact hx⟩,⟨⟨v,by simpa using he2⟩,hs'.1.at fun o q=>(sb2.2 _ (Ne.symm hei)).trans q⟩,fun c hc=>?_⟩
    have hlt':c<s.heap.objs.size:=by
      simp only [List.mem_cons,List.not_mem_nil,or_false] at hc
      rcases hc with rfl | rfl
      · exact helt
      · obtain ⟨o,q,_⟩:=h1; exact Heap.lt_size q
    rw [Zb (Nat.ne_of_lt hlt')]
    exact (hf c hc).1
  done:=by
    intro X hP hw hK hc i pins s σ H E I hf st hg
    subst hP hw hK
    obtain ⟨xs,hq,hx⟩:=hg
    obtain ⟨⟨old,he⟩,h1⟩:=st
    obtain ⟨its,rv,p,hz⟩:=I.tuple hq
    have hl:=rv.length
    have ei:i=its.toArray.size:=by simp; omega
    subst ei
    refine wpAny_pyNext_enum_endD (ZhA (A:=X.A.in1) (show X.A.in1.handled=none from I.ok.hd hc) it a hai its.toArray) he ⟨h1,p⟩ fun h' hx'=>⟨rfl,?_⟩
    refine I.turnedCh (t':=s.toks) hf fun c o hc q=>?_
    simp only [List.mem_cons,List.not_mem_nil,or_false,not_or] at hc
    exact hx' c o hc.2 q
  self:=fun _ _ _ _ _ st h=>by
    obtain ⟨⟨old,he⟩,_⟩:=st
    exact wpAny_pyIter_enum he h
section
variable {X:Cx}
def ZoT (K:PySem.W.Frag) (ta:TA):TI:=fun σ H R=>ta σ H fun vs H1=>∃ a,vs=[.ref a]∧(∃ xs,SqT K H1 a xs)∧R (Itet K a) H1
theorem ZmO {elts:List PySem.Expr} {x1} {tpos:Pos} {a:PySem.Expr} {ta:TA} {p pos:Pos} (hg:Gl X "enumerate") (hm:X.mg "enumerate" = none) (ha:PA X [a] ta) (hs:starEach [a] X.env=[(false,eval a X.env)]:=by rfl) :
    PI X (.Tuple elts x1 tpos) (.Call (.Name "enumerate" p) [a] [] pos) (ZoT X.K ta):=by
  intro pins s σ H R I h
  refine Call_ (Zca I hg hm ZcU (PyProof.Rows.callWith_type1 (thn (ha pos pins s σ H _ I h) fun us s1 ⟨vs,H1,I1,r1,q1⟩=>?_) hs rfl))
  obtain ⟨l,e,⟨xs,hq⟩,q⟩:=q1
  subst e
  cases r1 with
  | cons r rr =>
    cases rr
    cases r
    obtain ⟨its,rv,pl,hz⟩:=I1.tuple hq
    have lt1:l<s1.heap.objs.size:=by obtain ⟨o,e,_⟩:=pl; exact Heap.lt_size e
    refine Zgl pl fun h' he hi hk=>?_
    refine wpAny_pyIter_enum he ?_
    refine ⟨s1.heap.objs.size+1,[s1.heap.objs.size+1,s1.heap.objs.size],_,_,H1,rfl,I1.kept (t':=s1.toks) hk,Zkc (s1.heap.objs.size+1) s1.heap.objs.size l (Nat.succ_ne_self _) (nne (.inl (Nat.lt_succ_of_lt lt1))) (Nat.ne_of_lt lt1),⟨⟨_,he⟩,hi⟩,fun c hc=>?_,q⟩
    have hc':s1.heap.objs.size≤c:=by
      simp only [List.mem_cons,List.not_mem_nil,or_false] at hc
      rcases hc with rfl | rfl <;> omega
    exact I1.fpOk hc' (I1.hok.fresh hc')
end
theorem Zls {K:PySem.W.Frag} {a:Addr} {xs:List V} {g:TG} {tb:TS} {D:Ends} {σ:St} {H:Hp} (Pv:Nat→St→Hp→Prop) (h0:Pv 0 σ H) (hl:∀ i σ H,i≤xs.length→Pv i σ H→SqT K H a xs)
    (hs:∀ i x t σ H,xs[i]?=some x→Pv i σ H→H t=none→g (.ref t) σ (upd H t (.tup [.int i,x])) fun σ2 H2=>tb { D with nx:=Pv (i+1),ct:=Pv (i+1),bk:=D.nx } σ2 H2) (hd:∀ σ H,Pv xs.length σ H→D.nx σ H) :
    ∃ W:Nat→Nat→St→Hp→Prop,(∃ m,W 0 m σ H)∧∀ i m σ H,W i m σ H →
      ((Itet K a).stop i H∧D.nx σ H)∨((Itet K a).go i H∧∃ N:St→Hp→Prop,(∀ σ' H',N σ' H'→∃ m',m'<m∧W (i+1) m' σ' H')∧∀ x H',(Itet K a).yld i H x H'→g x σ H' fun σ2 H2=>tb { D with nx:=N,ct:=N,bk:=D.nx } σ2 H2):=by
  refine ⟨fun i m σ H=>m=xs.length - i∧i≤xs.length∧Pv i σ H,⟨xs.length,by simp,Nat.zero_le _,h0⟩,?_⟩
  rintro i m σ H ⟨rfl,hi,p⟩
  have q:=hl i σ H hi p
  by_cases hlt:i<xs.length
  · refine .inr ⟨⟨xs,xs[i],q,by simp [hlt]⟩,Pv (i+1),fun σ' H' p'=>⟨xs.length - (i+1),by omega,rfl,hlt,p'⟩,fun x H' y=>?_⟩
    obtain ⟨t,u,ht,rfl,rfl,y⟩:=y
    exact hs i u t σ _ (y xs q) p ht
  · have e:i=xs.length:=by omega
    subst e
    exact .inl ⟨⟨xs,q,rfl⟩,hd σ H p⟩
end L2
set_option Elab.async false
set_option linter.all false
set_option maxRecDepth 100000
set_option maxHeartbeats 4000000
namespace Mine
open PySem L2
def top (i:Nat):Stmt:=PySem.Challenge.pw_nearstairs_k37_founds_stair_by_stair.main.body.getD i (.Pass ⟨0,0,0,0⟩)
abbrev ZbP:Stmt:=top 2
abbrev Zkd:List Str:=["size", "spot"]
abbrev ZbQ:List Str:=["size", "spot"]
theorem sc_board_of:FnScope Zkd ZbQ (Zc ZbP):=⟨rfl,rfl,rfl,by decide +kernel,rfl,by decide +kernel,by decide +kernel⟩
abbrev ZbR:Stmt:=top 3
abbrev Zke:List Str:=["size", "board", "first"]
abbrev ZbS:List Str:=["size", "board"]
theorem sc_spots_of:FnScope Zke ZbS (Zc ZbR):=⟨rfl,rfl,rfl,by decide +kernel,rfl,by decide +kernel,by decide +kernel⟩
abbrev ZbT:Stmt:=top 4
abbrev Zkf:List Str:=["shelves", "board"]
abbrev ZbU:List Str:=["shelves", "board"]
theorem sc_shelf_of:FnScope Zkf ZbU (Zc ZbT):=⟨rfl,rfl,rfl,by decide +kernel,rfl,by decide +kernel,by decide +kernel⟩
abbrev ZaR:Stmt:=Zx (top 12) 0
abbrev ZeU:List Str:=["self", "shelves", "places", "rule"]
abbrev Zbp:List Str:=["self", "shelves", "places", "rule"]
theorem sc_Room_init:FnScope ZeU Zbp (Zc ZaR):=⟨rfl,rfl,rfl,by decide +kernel,rfl,by decide +kernel,by decide +kernel⟩
abbrev ZbV:Stmt:=Zx (top 12) 1
abbrev Zkg:List Str:=["self", "board"]
abbrev ZaU:List Str:=["self", "board"]
theorem sc_Room_has:FnScope Zkg ZaU (Zc ZbV):=⟨rfl,rfl,rfl,by decide +kernel,rfl,by decide +kernel,by decide +kernel⟩
abbrev ZaV:Stmt:=Zx (top 12) 2
abbrev ZhB:List Str:=["self", "board", "out"]
abbrev ZaW:List Str:=["self", "board"]
theorem sc_Room_bring:FnScope ZhB ZaW (Zc ZaV):=⟨rfl,rfl,rfl,by decide +kernel,rfl,by decide +kernel,by decide +kernel⟩
abbrev ZbW:Stmt:=Zx (top 12) 3
abbrev Zkh:List Str:=["self", "board", "mates"]
abbrev ZbX:List Str:=["self", "board"]
theorem sc_Room_use:FnScope Zkh ZbX (Zc ZbW):=⟨rfl,rfl,rfl,by decide +kernel,rfl,by decide +kernel,by decide +kernel⟩
abbrev Zbq:Stmt:=Zx (top 12) 4
abbrev Zip:List Str:=["self", "board"]
abbrev Zbr:List Str:=["self", "board"]
theorem sc_Room_drop:FnScope Zip Zbr (Zc Zbq):=⟨rfl,rfl,rfl,by decide +kernel,rfl,by decide +kernel,by decide +kernel⟩
abbrev Zbs:Stmt:=Zx (top 12) 7
abbrev Ziq:List Str:=["self", "board"]
abbrev ZaS:List Str:=["self", "board"]
theorem sc_Room_need:FnScope Ziq ZaS (Zc Zbs):=⟨rfl,rfl,rfl,by decide +kernel,rfl,by decide +kernel,by decide +kernel⟩
abbrev ZaX:Stmt:=Zx (top 12) 8
abbrev ZhC:List Str:=["self", "board"]
abbrev Zal:List Str:=["self", "board"]
theorem sc_Room_mates:FnScope ZhC Zal (Zc ZaX):=⟨rfl,rfl,rfl,by decide +kernel,rfl,by decide +kernel,by decide +kernel⟩
abbrev ZO:Stmt:=Zx (top 12) 9
abbrev ZdM:List Str:=["self", "board", "mates"]
abbrev ZP:List Str:=["self", "board"]
theorem sc_Room_leaver_for:FnScope ZdM ZP (Zc ZO):=⟨rfl,rfl,rfl,by decide +kernel,rfl,by decide +kernel,by decide +kernel⟩
abbrev Zaa:Stmt:=Zx (top 12) 10
abbrev ZcF:List Str:=["self", "mates"]
abbrev ZbD:List Str:=["self", "mates"]
theorem sc_Room_going:FnScope ZcF ZbD (Zc Zaa):=⟨rfl,rfl,rfl,by decide +kernel,rfl,by decide +kernel,by decide +kernel⟩
abbrev ZaY:Stmt:=Zx (top 14) 0
abbrev ZhD:List Str:=["self", "room_plan", "shelves", "places", "rule", "writing"]
abbrev ZbE:List Str:=["self", "room_plan"]
theorem sc_Store_init:FnScope ZhD ZbE (Zc ZaY):=⟨rfl,rfl,rfl,by decide +kernel,rfl,by decide +kernel,by decide +kernel⟩
abbrev Zbt:Stmt:=Zx (top 14) 1
abbrev Zir:List Str:=["self", "board"]
abbrev Zbu:List Str:=["self", "board"]
theorem sc_Store_has:FnScope Zir Zbu (Zc Zbt):=⟨rfl,rfl,rfl,by decide +kernel,rfl,by decide +kernel,by decide +kernel⟩
abbrev Zag:Stmt:=Zx (top 14) 2
abbrev ZeV:List Str:=["self", "board", "words"]
abbrev ZaB:List Str:=["self", "board", "words"]
theorem sc_Store_take_in:FnScope ZeV ZaB (Zc Zag):=⟨rfl,rfl,rfl,by decide +kernel,rfl,by decide +kernel,by decide +kernel⟩
abbrev ZU:Stmt:=Zx (top 14) 3
abbrev Zeh:List Str:=["self", "board"]
abbrev Zaq:List Str:=["self", "board"]
theorem sc_Store_give_out:FnScope Zeh Zaq (Zc ZU):=⟨rfl,rfl,rfl,by decide +kernel,rfl,by decide +kernel,by decide +kernel⟩
abbrev ZV:Stmt:=Zx (top 14) 4
abbrev Zei:List Str:=["self", "board"]
abbrev ZW:List Str:=["self", "board"]
theorem sc_Store_words_of:FnScope Zei ZW (Zc ZV):=⟨rfl,rfl,rfl,by decide +kernel,rfl,by decide +kernel,by decide +kernel⟩
abbrev Zbv:Stmt:=Zx (top 14) 5
abbrev Zis:List Str:=["self", "board", "words"]
abbrev Zcd:List Str:=["self", "board", "words"]
theorem sc_Store_lay:FnScope Zis Zcd (Zc Zbv):=⟨rfl,rfl,rfl,by decide +kernel,rfl,by decide +kernel,by decide +kernel⟩
abbrev ZaI:Stmt:=Zx (top 15) 0
abbrev Zgm:List Str:=["self", "size"]
abbrev Zbf:List Str:=["self", "size"]
theorem sc_Memory_init:FnScope Zgm Zbf (Zc ZaI):=⟨rfl,rfl,rfl,by decide +kernel,rfl,by decide +kernel,by decide +kernel⟩
abbrev ZB:Stmt:=Zx (top 15) 2
abbrev Zcu:List Str:=["self", "board"]
abbrev Zah:List Str:=["self", "board"]
theorem sc_Memory_words_of:FnScope Zcu Zah (Zc ZB):=⟨rfl,rfl,rfl,by decide +kernel,rfl,by decide +kernel,by decide +kernel⟩
abbrev ZaC:Stmt:=Zx (top 17) 0
abbrev Zec:List Str:=["self", "size", "room_plans"]
abbrev ZbF:List Str:=["self", "size", "room_plans"]
theorem sc_Steps_init:FnScope Zec ZbF (Zc ZaC):=⟨rfl,rfl,rfl,by decide +kernel,rfl,by decide +kernel,by decide +kernel⟩
abbrev ZaJ:Stmt:=Zx (top 17) 3
abbrev Zgn:List Str:=["self", "k", "board"]
abbrev ZaK:List Str:=["self", "k", "board"]
theorem sc_Steps_words:FnScope Zgn ZaK (Zc ZaJ):=⟨rfl,rfl,rfl,by decide +kernel,rfl,by decide +kernel,by decide +kernel⟩
abbrev ZaL:Stmt:=Zx (top 17) 5
abbrev Zgo:List Str:=["self", "k"]
abbrev Zbg:List Str:=["self", "k"]
theorem sc_Steps_store:FnScope Zgo Zbg (Zc ZaL):=⟨rfl,rfl,rfl,by decide +kernel,rfl,by decide +kernel,by decide +kernel⟩
abbrev ZX:Stmt:=Zx (top 17) 6
abbrev Zej:List Str:=["self", "events"]
abbrev Zar:List Str:=["self"]
theorem sc_Steps_happened:FnScope Zej Zar (Zc ZX):=⟨rfl,rfl,rfl,by decide +kernel,rfl,by decide +kernel,by decide +kernel⟩
abbrev Zat:Stmt:=Zx (top 17) 7
abbrev Zfz:List Str:=["self", "k", "board"]
abbrev Zae:List Str:=["self", "k", "board"]
theorem sc_Steps_leaver:FnScope Zfz Zae (Zc Zat):=⟨rfl,rfl,rfl,by decide +kernel,rfl,by decide +kernel,by decide +kernel⟩
abbrev ZH:Stmt:=Zx (top 17) 8
abbrev Zdu:List Str:=["self", "k"]
abbrev Zab:List Str:=["self", "k"]
theorem sc_Steps_tell_found:FnScope Zdu Zab (Zc ZH):=⟨rfl,rfl,rfl,by decide +kernel,rfl,by decide +kernel,by decide +kernel⟩
abbrev Zau:Stmt:=Zx (top 17) 9
abbrev ZfA:List Str:=["self", "k", "board"]
abbrev Zav:List Str:=["self", "k", "board"]
theorem sc_Steps_use_in:FnScope ZfA Zav (Zc Zau):=⟨rfl,rfl,rfl,by decide +kernel,rfl,by decide +kernel,by decide +kernel⟩
abbrev Zai:Stmt:=Zx (top 17) 10
abbrev ZeW:List Str:=["self", "k", "board", "words"]
abbrev Zaj:List Str:=["self", "k", "board", "words"]
theorem sc_Steps_come_in:FnScope ZeW Zaj (Zc Zai):=⟨rfl,rfl,rfl,by decide +kernel,rfl,by decide +kernel,by decide +kernel⟩
abbrev Zaw:Stmt:=Zx (top 17) 11
abbrev ZfB:List Str:=["self", "k", "board"]
abbrev ZM:List Str:=["self", "k", "board"]
theorem sc_Steps_go_out:FnScope ZfB ZM (Zc Zaw):=⟨rfl,rfl,rfl,by decide +kernel,rfl,by decide +kernel,by decide +kernel⟩
abbrev Zce:Stmt:=Zx (top 17) 12
abbrev Zcf:List Str:=["self", "k", "board", "words"]
abbrev Zak:Stmt:=Zx (top 17) 13
abbrev ZeX:List Str:=["self", "k", "spot"]
abbrev ZaD:List Str:=["self", "k", "spot"]
theorem sc_Steps_word_in:FnScope ZeX ZaD (Zc Zak):=⟨rfl,rfl,rfl,by decide +kernel,rfl,by decide +kernel,by decide +kernel⟩
abbrev ZaM:Stmt:=Zx (top 19) 0
abbrev Zgp:List Str:=["self", "plan", "size", "kind", "room_plans"]
abbrev Zbh:List Str:=["self", "plan"]
theorem sc_Stairs_init:FnScope Zgp Zbh (Zc ZaM):=⟨rfl,rfl,rfl,by decide +kernel,rfl,by decide +kernel,by decide +kernel⟩
abbrev ZaN:Stmt:=Zx (top 19) 1
abbrev Zgq:List Str:=["self", "spot", "board"]
abbrev Zbi:List Str:=["self", "spot"]
theorem sc_Stairs_read:FnScope Zgq Zbi (Zc ZaN):=⟨rfl,rfl,rfl,by decide +kernel,rfl,by decide +kernel,by decide +kernel⟩
abbrev Zax:Stmt:=Zx (top 19) 5
abbrev ZfC:List Str:=["self", "board", "k"]
abbrev ZaO:List Str:=["self", "board"]
theorem sc_Stairs_fetch:FnScope ZfC ZaO (Zc Zax):=⟨rfl,rfl,rfl,by decide +kernel,rfl,by decide +kernel,by decide +kernel⟩
abbrev ZY:Stmt:=Zx (top 19) 6
abbrev Zek:List Str:=["self", "board", "k", "store"]
abbrev Zas:List Str:=["self", "board"]
theorem sc_Stairs_nearest:FnScope Zek Zas (Zc ZY):=⟨rfl,rfl,rfl,by decide +kernel,rfl,by decide +kernel,by decide +kernel⟩
abbrev ZaE:Stmt:=Zx (top 19) 7
abbrev Zbj:List Str:=["self", "k", "board"]
abbrev ZaP:Stmt:=Zx (top 19) 8
abbrev ZbB:List Str:=["self", "k", "board", "words"]
abbrev ZC:Stmt:=Zx (top 19) 9
abbrev Zdb:List Str:=["self", "k", "board", "words", "near", "out"]
abbrev ZQ:List Str:=["self", "k", "board"]
theorem sc_Stairs_fetch_down:FnScope Zdb ZQ (Zc ZC):=⟨rfl,rfl,rfl,by decide +kernel,rfl,by decide +kernel,by decide +kernel⟩
abbrev ZI:Stmt:=Zx (top 19) 10
abbrev Zdv:List Str:=["self", "k", "board", "words", "fresh", "near", "fresh_near"]
abbrev Zac:List Str:=["self", "k", "board"]
theorem sc_Stairs_drive_out:FnScope Zdv Zac (Zc ZI):=⟨rfl,rfl,rfl,by decide +kernel,rfl,by decide +kernel,by decide +kernel⟩
abbrev ZA:Stmt:=Zx (top 19) 11
abbrev ZcR:List Str:=["self", "k", "board", "words", "fresh"]
abbrev ZL:List Str:=["self", "k", "board"]
theorem sc_Stairs_fetch_apart:FnScope ZcR ZL (Zc ZA):=⟨rfl,rfl,rfl,by decide +kernel,rfl,by decide +kernel,by decide +kernel⟩
abbrev Zan:Stmt:=Zx (top 19) 12
abbrev Zgr:List Str:=["self", "k", "board", "words", "fresh", "out", "out_words", "out_fresh"]
abbrev Zad:List Str:=["self", "k", "board", "words", "fresh"]
theorem sc_Stairs_push:FnScope Zgr Zad (Zc Zan):=⟨rfl,rfl,rfl,by decide +kernel,rfl,by decide +kernel,by decide +kernel⟩
abbrev ZD:Stmt:=Zx (top 19) 13
abbrev Zdc:List Str:=["self", "k", "board", "words", "fresh"]
abbrev ZE:List Str:=["self", "k", "board", "words", "fresh"]
theorem sc_Stairs_come_apart:FnScope Zdc ZE (Zc ZD):=⟨rfl,rfl,rfl,by decide +kernel,rfl,by decide +kernel,by decide +kernel⟩
abbrev ZbY:Stmt:=top 21
abbrev Zki:List Str:=["stairs", "spot", "word", "events", "name", "k"]
abbrev Zcv:List Str:=["stairs", "spot"]
theorem sc_found_by:FnScope Zki Zcv (Zc ZbY):=⟨rfl,rfl,rfl,by decide +kernel,rfl,by decide +kernel,by decide +kernel⟩
abbrev ZcD:Stmt:=top 22
abbrev Zjw:List Str:=["plan", "row", "size", "kind", "rooms", "stairs"]
abbrev Zdw:List Str:=["plan", "row"]
theorem sc_founds:FnScope Zjw Zdw (Zc ZcD):=⟨rfl,rfl,rfl,by decide +kernel,rfl,by decide +kernel,by decide +kernel⟩
abbrev s_ask:Stmt:=top 24
abbrev N_ask:List Str:=["room", "board"]
abbrev P_ask:List Str:=["room", "board"]
theorem sc_ask:FnScope N_ask P_ask (Zc s_ask):=⟨rfl,rfl,rfl,by decide +kernel,rfl,by decide +kernel,by decide +kernel⟩
abbrev Zcg:Stmt:=top 25
abbrev ZhE:List Str:=["shelves", "places", "rule", "row", "room"]
abbrev ZcG:List Str:=["shelves", "places", "rule", "row"]
theorem sc_run_row:FnScope ZhE ZcG (Zc Zcg):=⟨rfl,rfl,rfl,by decide +kernel,rfl,by decide +kernel,by decide +kernel⟩
abbrev ZaZ:Stmt:=top 26
abbrev ZhF:List Str:=["shelves", "row", "at", "board", "between", "ahead", "other"]
abbrev ZbG:List Str:=["shelves", "row", "at"]
theorem sc_beneath_at:FnScope ZhF ZbG (Zc ZaZ):=⟨rfl,rfl,rfl,by decide +kernel,rfl,by decide +kernel,by decide +kernel⟩
abbrev Zch:Stmt:=top 27
abbrev ZhG:List Str:=["shelves", "row"]
abbrev ZcH:List Str:=["shelves", "row"]
theorem sc_beneath:FnScope ZhG ZcH (Zc Zch):=⟨rfl,rfl,rfl,by decide +kernel,rfl,by decide +kernel,by decide +kernel⟩
abbrev s_box:Stmt:=top 29
abbrev N_box:List Str:=["_law_script", "_law_k", "_law_cell"]
abbrev P_box:List Str:=["_law_script", "_law_k"]
theorem sc_box:FnScope N_box P_box (Zc s_box):=⟨rfl,rfl,rfl,by decide +kernel,rfl,by decide +kernel,by decide +kernel⟩
abbrev ZfP:Stmt:=top 30
abbrev ZoU:List Str:=["_law_box_here", "_law_size", "_law_found", "_law_step", "_law_once", "_law_twice"]
abbrev Zdx:List Str:=["_law_box_here", "_law_size"]
theorem sc_take:FnScope ZoU Zdx (Zc ZfP):=⟨rfl,rfl,rfl,by decide +kernel,rfl,by decide +kernel,by decide +kernel⟩
abbrev ZcP:Stmt:=top 31
abbrev ZmP:List Str:=["_law_script", "_law_size", "_law_cells", "_law_k", "_law_cell"]
abbrev Zdy:List Str:=["_law_script", "_law_size"]
theorem sc_folded:FnScope ZmP Zdy (Zc ZcP):=⟨rfl,rfl,rfl,by decide +kernel,rfl,by decide +kernel,by decide +kernel⟩
abbrev Zed:Stmt:=top 32
abbrev Znr:List Str:=["_law_found", "_law_due"]
abbrev Zee:List Str:=["_law_found", "_law_due"]
theorem sc_same:FnScope Znr Zee (Zc Zed):=⟨rfl,rfl,rfl,by decide +kernel,rfl,by decide +kernel,by decide +kernel⟩
abbrev Zbw:Stmt:=top 33
abbrev Zit:List Str:=["_law_box_here", "_law_far", "_law_shelves", "_law_places", "_law_rule"]
abbrev Zci:List Str:=["_law_box_here"]
theorem sc_room_plan:FnScope Zit Zci (Zc Zbw):=⟨rfl,rfl,rfl,by decide +kernel,rfl,by decide +kernel,by decide +kernel⟩
abbrev ZeY:Stmt:=top 34
abbrev Zns:List Str:=["_law_box_here", "_law_kind", "_law_size"]
abbrev ZhH:List Str:=["_law_box_here"]
theorem sc_plan:FnScope Zns ZhH (Zc ZeY):=⟨rfl,rfl,rfl,by decide +kernel,rfl,by decide +kernel,by decide +kernel⟩
abbrev Zao:Stmt:=top 35
abbrev Zdz:List Str:=["_law_box_here", "_law_size", "_law_many_here", "_law_way", "_law_begin", "_law_first", "_law_found", "_law_far", "_law_k", "_law_at"]
abbrev Zbk:List Str:=["_law_box_here", "_law_size"]
theorem sc_some_boards:FnScope Zdz Zbk (Zc Zao):=⟨rfl,rfl,rfl,by decide +kernel,rfl,by decide +kernel,by decide +kernel⟩
abbrev ZfQ:Stmt:=top 36
abbrev ZoV:List Str:=["_law_box_here", "_law_few", "_law_most", "_law_great"]
abbrev ZhI:List Str:=["_law_box_here", "_law_few", "_law_most"]
theorem sc_many:FnScope ZoV ZhI (Zc ZfQ):=⟨rfl,rfl,rfl,by decide +kernel,rfl,by decide +kernel,by decide +kernel⟩
abbrev Zdd:Stmt:=top 37
abbrev Zlt:List Str:=["_law_script", "_law_size", "_law_cells"]
abbrev ZeZ:List Str:=["_law_script", "_law_size"]
theorem sc_boxes:FnScope Zlt ZeZ (Zc Zdd):=⟨rfl,rfl,rfl,by decide +kernel,rfl,by decide +kernel,by decide +kernel⟩
abbrev s_row:Stmt:=top 38
abbrev N_row:List Str:=["_law_box_here", "_law_size", "_law_most", "_law_some", "_law_way", "_law_found", "_law_k", "_law_at"]
abbrev P_row:List Str:=["_law_box_here", "_law_size", "_law_most"]
theorem sc_row:FnScope N_row P_row (Zc s_row):=⟨rfl,rfl,rfl,by decide +kernel,rfl,by decide +kernel,by decide +kernel⟩
abbrev Zef:Stmt:=top 39
abbrev Zlu:List Str:=["_law_room", "_law_row_here", "_law_found"]
abbrev ZfR:List Str:=["_law_room", "_law_row_here"]
theorem sc_left:FnScope Zlu ZfR (Zc Zef):=⟨rfl,rfl,rfl,by decide +kernel,rfl,by decide +kernel,by decide +kernel⟩
abbrev Zbx:Stmt:=top 40
abbrev ZfS:List Str:=["_law_rooms", "_law_row_here", "_law_due", "_law_left_here", "_law_places", "_law_k", "_law_room", "_law_found", "_law_rest", "_law_place", "_law_is_found"]
abbrev Zcw:List Str:=["_law_rooms", "_law_row_here"]
theorem sc_free_due:FnScope ZfS Zcw (Zc Zbx):=⟨rfl,rfl,rfl,by decide +kernel,rfl,by decide +kernel,by decide +kernel⟩
abbrev ZbZ:Stmt:=top 41
abbrev Zkj:List Str:=["_law_rooms", "_law_row_here", "_law_due", "_law_many_here", "_law_k", "_law_places"]
abbrev Zcx:List Str:=["_law_rooms", "_law_row_here"]
theorem sc_by_depth:FnScope Zkj Zcx (Zc ZbZ):=⟨rfl,rfl,rfl,by decide +kernel,rfl,by decide +kernel,by decide +kernel⟩
abbrev s_law:Stmt:=top 42
abbrev N_law:List Str:=["_law_script", "_law_box_here", "_law_size", "_law_kind", "_law_rooms", "_law_row_here", "_law_found", "_law_deep"]
abbrev P_law:List Str:=["_law_script"]
theorem sc_law:FnScope N_law P_law (Zc s_law):=⟨rfl,rfl,rfl,by decide +kernel,rfl,by decide +kernel,by decide +kernel⟩
structure Txt (K:PySem.W.Frag) (mg:Str→Option Value):Prop where
  z_abs:mg "abs" = none
  z_all:mg "all" = none
  z_bool:mg "bool" = none
  z_divmod:mg "divmod" = none
  z_enumerate:mg "enumerate" = none
  z_int:mg "int" = none
  z_isinstance:mg "isinstance" = none
  z_len:mg "len" = none
  z_list:mg "list" = none
  z_max:mg "max" = none
  z_range:mg "range" = none
  z_set:mg "set" = none
  z_sorted:mg "sorted" = none
  z_str:mg "str" = none
  z_tuple:mg "tuple" = none
  z_zip:mg "zip" = none
  cl_Room:Cls K (clsOf K "Room")
  n_Room_places:NoAttr K (clsOf K "Room") "places"
  n_Room_rule:NoAttr K (clsOf K "Room") "rule"
  n_Room_shelves:NoAttr K (clsOf K "Room") "shelves"
  n_Room_standing:NoAttr K (clsOf K "Room") "standing"
  n_Room_uses:NoAttr K (clsOf K "Room") "uses"
  cl_Store:Cls K (clsOf K "Store")
  n_Store_fresh:NoAttr K (clsOf K "Store") "fresh"
  n_Store_held:NoAttr K (clsOf K "Store") "held"
  n_Store_late:NoAttr K (clsOf K "Store") "late"
  n_Store_room:NoAttr K (clsOf K "Store") "room"
  cl_Memory:Cls K (clsOf K "Memory")
  n_Memory_kept:NoAttr K (clsOf K "Memory") "kept"
  n_Memory_size:NoAttr K (clsOf K "Memory") "size"
  cl_Stairs:Cls K (clsOf K "Stairs")
  n_Stairs_bottom:NoAttr K (clsOf K "Stairs") "bottom"
  n_Stairs_events:NoAttr K (clsOf K "Stairs") "events"
  n_Stairs_kind:NoAttr K (clsOf K "Stairs") "kind"
  n_Stairs_last:NoAttr K (clsOf K "Stairs") "last"
  n_Stairs_size:NoAttr K (clsOf K "Stairs") "size"
  n_Stairs_stores:NoAttr K (clsOf K "Stairs") "stores"
structure BoxAt (H:Hp) (b:Addr) (a q c:Int):Prop where
  at':H b=some (.lst [.int a,.int q,.int c])
  a0:0≤a
  q0:0≤q
  q1:q<2147483647
  c0:0≤c
theorem BoxAt.sb {H H':Hp} {b x:Addr} {a q c:Int} (B:BoxAt H b a q c) (s:SB x H H') (n:b≠x):BoxAt H' b a q c:=⟨s _ _ n B.at',B.a0,B.q0,B.q1,B.c0⟩
theorem BoxAt.same {H H':Hp} {b:Addr} {a q c:Int} (B:BoxAt H b a q c) (s:Same H H'):BoxAt H' b a q c:=⟨s _ _ B.at',B.a0,B.q0,B.q1,B.c0⟩
def Zfa:Sp:=fun vs H Q _=>∃ (b:Addr) (a q c n:Int),vs=[.ref b,.int n]∧BoxAt H b a q c∧c<1099511627776∧0<n∧n<1073741824 ∧
  ∀ (r a' c':Int) (H':Hp),0≤r→r<n→BoxAt H' b a' q c'→c'≤c+1→SB b H H'→Q (.int r) H'
section
variable {P:Program} {w:World} {K:PySem.W.Frag} {mg:Str→Option Value} {base:Heap}
theorem em0 (a:Int) {b:Int} (h:0<b):0≤a % b:=Int.emod_nonneg a (by omega)
theorem em1 (a:Int) {b:Int} (h:0<b):a % b<b:=Int.emod_lt_of_pos a h
theorem Zoc {f:Addr} {fd:FuncData} (F:Fun K "_law_take" "_law_take" ZfP f fd) (T:Txt K mg):FnOk P w K mg base CX0 1 f fd Zdx Zfa:=by
  refine F.ok sc_take (fun vs H Q E h=>?_) (fun cdv A outer s H vs Q E hr h=>?_)
  · obtain ⟨b,a,q,c,n,rfl,_⟩:=h
    rfl
  obtain ⟨b,a,q,c,n,rfl,B,hc,hn0,hn1,k⟩:=h
  have nd:=sc_take.nd
  refine ⟨_,(Zf (ps_if (ZJ op_gt (pe_ix (Zt (K:=K) rfl) (pv 0) Zj (fun _ _=>rfl)) Zj (ZF _)) (Zf (Zbc (Zq Zig rfl T.z_divmod Zil (pc (pe_ix (Zt (K:=K) rfl) (pv 0) Zj (fun _ _=>rfl)) (pc (pv 1) Ze))) (ZT (K:=K) (n:=2) rfl rfl (Zo (ZeD (pv 0) Zj ZcA) (Zo (pgn 2 nd) ZS))))
      (Zi (Zu (pv 2)))) Zz)
      (Zf (Zbc (pe_op Zaf (pe_ix (Zt (K:=K) rfl) (pv 0) Zj (fun _ _=>rfl)) Zj) (ZeD (pv 0) Zj ZcA))
      (Zf (pst 3 nd (pe_op Zaf Zj (pe_op Zcr (pe_ix (Zt (K:=K) rfl) (pv 0) Zj (fun _ _=>rfl)) (pe_ix (Zt (K:=K) rfl) (pv 0) Zj (fun _ _=>rfl)))))
      (Zf (pst 4 nd (pe_op Zcm (pe_op Zcr (pe_op Zaf (pe_ix (Zt (K:=K) rfl) (pv 0) Zj (fun _ _=>rfl)) (pe_op Zcr Zj (pe_ix (Zt (K:=K) rfl) (pv 0) Zj (fun _ _=>rfl)))) (pv 3)) Zj))
      (Zf (pst 5 nd (pe_op Zcm (pe_op Zaf (pe_op Zcr (pv 4) (pe_op Zaf (pe_op Zcm (pv 4) Zj) Zj)) (pe_ix (Zt (K:=K) rfl) (pv 0) Zj (fun _ _=>rfl))) Zj))
      (Zi (Zu (pe_op Zcm (pe_op ZcY (pe_op Zcm (pe_op Zcr (pv 5) (pe_op Zaf (pe_op Zcm (pv 5) Zj) Zj)) Zj) Zj) (pv 1))))))))),?_⟩
  have hb:=B.at'
  have hc0:=B.c0
  have hq0:=B.q0
  have hq1:=B.q1
  refine ⟨_,rfl,b,_,_,_,rfl,rfl,SqL.of hb,atI0,_,_,rfl,rfl,_,rfl,?_⟩
  refine Zbn (fun ha=>?_) (fun ha=>?_)
  · refine ⟨_,rfl,b,_,_,_,rfl,rfl,SqL.of hb,atI0,_,rfl,_,_,rfl,⟨hn0,hn1⟩,fun p hp=>?_⟩
    have hbp:upd H p (.tup [.int (a / n),.int (a % n)]) b=some (.lst [.int a,.int q,.int c]):=by rw [Zb (Zd hb hp)]; exact hb
    refine ⟨p,_,rfl,SqT.of Za,rfl,_,_,rfl,⟨_,rfl,b,_,_,0,rfl,rfl,hbp,rfl,?_⟩⟩
    refine ⟨_,_,rfl,rfl,_,rfl,?_⟩
    exact k _ (a / n) c _ (em0 _ hn0) (em1 _ hn0) ⟨Za,Int.ediv_nonneg B.a0 (by omega),hq0,hq1,hc0⟩ (by omega) ((Zh hp _).sb b |>.trans (Zdo b _ _))
  · refine ⟨_,rfl,b,_,_,_,rfl,rfl,SqL.of hb,atI2,_,_,rfl,rfl,_,rfl,b,_,_,2,rfl,rfl,hb,rfl,?_⟩
    have hb1:upd H b (.lst [.int a,.int q,.int (c+1)]) b=some (.lst [.int a,.int q,.int (c+1)]):=Za
    have i0:SqL K (upd H b (.lst [.int a,.int q,.int (c+1)])) b [.int a,.int q,.int (c+1)]:=SqL.of hb1
    refine ⟨_,rfl,b,_,_,_,rfl,rfl,i0,atI2,_,rfl,b,_,_,_,rfl,rfl,i0,atI2,_,_,rfl,rfl,.inl ⟨by omega,by omega⟩,_,_,rfl,rfl,?_⟩
    refine ⟨_,rfl,b,_,_,_,rfl,rfl,i0,atI1,_,rfl,b,_,_,_,rfl,rfl,i0,atI2,_,_,rfl,rfl,.inl ⟨by decide,by decide⟩,_,_,rfl,rfl,_,rfl,_,_,rfl,rfl,.inl ⟨by omega,by omega⟩,_,_,rfl,rfl,(by show (0:Int)<_; decide),?_⟩
    generalize hon:(q+39373 * (c+1)) * (69621+(c+1) * (c+1)) % 2147483587=on
    have on0:0≤on:=by rw [← hon]; exact em0 _ (by decide)
    have on1:on<2147483587:=by rw [← hon]; exact em1 _ (by decide)
    refine ⟨_,rfl,_,rfl,_,_,rfl,rfl,(by show (0:Int)<_; decide),_,_,rfl,rfl,_,_,rfl,rfl,.inl ⟨by omega,by omega⟩,_,rfl,b,_,_,_,rfl,rfl,i0,atI2,_,_,rfl,rfl,_,_,rfl,rfl,(by show (0:Int)<_; decide),?_⟩
    generalize htw:(on * (on % 30011+5)+(c+1)) % 2147483563=tw
    have tw0:0≤tw:=by rw [← htw]; exact em0 _ (by decide)
    have tw1:tw<2147483563:=by rw [← htw]; exact em1 _ (by decide)
    refine ⟨_,rfl,_,rfl,_,_,rfl,rfl,(by show (0:Int)<_; decide),_,_,rfl,rfl,_,_,rfl,rfl,.inl ⟨by omega,by omega⟩,_,_,rfl,rfl,(by show (0:Int)<_; decide),_,_,rfl,rfl,⟨by decide,by decide⟩,_,rfl,_,_,rfl,rfl,hn0,?_⟩
    exact k _ a (c+1) _ (em0 _ hn0) (em1 _ hn0) ⟨hb1,B.a0,hq0,hq1,by omega⟩ (by omega) (Zdo b _ _)
end
section
variable {P:Program} {w:World} {K:PySem.W.Frag} {mg:Str→Option Value} {base:Heap}
def spBox (K:PySem.W.Frag):Sp:=fun vs H Q _=>∃ (l:Addr) (ns:List Int) (k:Int),vs=[.ref l,.int k]∧SqL K H l (ns.map V.int)∧0≤k∧k<1000000 ∧
  ∀ (r:Addr) (a q:Int) (H':Hp),H r=none→Same H H'→BoxAt H' r a q 0→Q (.ref r) H'
theorem ite01 (b:Bool) : -(2 ^ 64)<(if b then 1 else 0:Int)∧(if b then 1 else 0:Int)<2 ^ 64:=by cases b <;> decide
theorem Zjx {ns:List Int} {k:Int} (h0:0≤k) (h:k<(ns.length:Int)):∃ v:Int,atI (ns.map V.int) k=some (.int v):=by
  have hk:k.toNat<ns.length:=by omega
  have q:atI (ns.map V.int) ((k.toNat:Nat):Int)=some (.int ns[k.toNat]):=ZaQ (by rw [List.getElem?_map,List.getElem?_eq_getElem hk] <;> rfl)
  rw [show ((k.toNat:Nat):Int)=k by omega] at q
  exact ⟨_,q⟩
theorem ZoW (i:Int):0≤(if i<0 then -i else i):=by split <;> omega
theorem Zlv (i:Int) (b:Bool):0≤(if i<0 then -i else i) * (if b then 1 else 0:Int):=Int.mul_nonneg (ZoW i) (by cases b <;> decide)
theorem ZoX {f:Addr} {fd:FuncData} (F:Fun K "_law_box" "_law_box" s_box f fd) (T:Txt K mg):FnOk P w K mg base CX0 1 f fd P_box (spBox K):=by
  refine F.ok sc_box (fun vs H Q E h=>?_) (fun cdv A outer s H vs Q E hr h=>?_)
  · obtain ⟨l,ns,k,rfl,_⟩:=h
    rfl
  obtain ⟨l,ns,k,rfl,hS,hk0,hk1,kk⟩:=h
  have nd:=sc_box.nd
  refine ⟨_,(Zf (pst 2 nd (ZcN (ZJ op_lt (pv 1) (Zq (Zy (K:=K) rfl) rfl T.z_len PySem.boot_len (pc (pv 0) Ze)) (ZF _)) (pe_ix (Zt (K:=K) rfl) (pv 0) (pv 1) (fun _ _=>rfl)) Zj))
      (Zi (Zu (ZbM (pc (pe_op Zcr (Zq Zjb rfl T.z_abs Zjm (pc (pv 2) Ze)) (ZN ZeG rfl T.z_int Zdn (pc (ZbJ op_ge (Zq Zjb rfl T.z_abs Zjm (pc (pv 2) Ze)) (pe_op Zoz Zj Zj) (ZF _)) Ze))) (pc (pe_op Zcm (pe_op Zcr (pe_op Zaf (pe_op Zaf (pe_op Zcm (pv 2) Zj) (pe_op Zcr Zj (pv 1))) Zj) Zj) Zj) (pc Zj Ze))))))),?_⟩
  refine ⟨_,rfl,_,rfl,l,_,rfl,.inl hS,_,_,rfl,rfl,_,rfl,?_⟩
  refine Zbn (fun c=>?_) (fun c=>?_)
  · rw [List.length_map] at c
    obtain ⟨v,hv⟩:=Zjx hk0 c
    refine ⟨_,rfl,_,rfl,l,_,_,_,rfl,rfl,hS,hv,?_⟩
    refine ⟨_,rfl,_,rfl,_,rfl,_,rfl,_,_,rfl,rfl,⟨by decide,by decide,by decide⟩,_,_,rfl,rfl,.inr ⟨_,rfl,_,_,rfl,rfl,.inr (ite01 _),?_⟩⟩
    refine ⟨_,rfl,_,_,rfl,rfl,(by show (0:Int)<_; decide),_,rfl,_,_,rfl,rfl,.inl ⟨by decide,by decide⟩,_,_,rfl,rfl,_,_,rfl,rfl,_,_,rfl,rfl,.inr ⟨by decide,by decide⟩,_,_,rfl,rfl,(by show (0:Int)<_; decide),(by show 3≤sizeLine; decide),fun r hr=>?_⟩
    exact kk r _ _ _ hr (Zh hr _) ⟨Za,Zlv _ _,em0 _ (by decide),em1 _ (by decide),Int.le_refl _⟩
  · refine ⟨_,rfl,_,rfl,_,rfl,_,rfl,_,_,rfl,rfl,⟨by decide,by decide,by decide⟩,_,_,rfl,rfl,.inr ⟨_,rfl,_,_,rfl,rfl,.inr (ite01 _),?_⟩⟩
    refine ⟨_,rfl,_,_,rfl,rfl,(by show (0:Int)<_; decide),_,rfl,_,_,rfl,rfl,.inl ⟨by decide,by decide⟩,_,_,rfl,rfl,_,_,rfl,rfl,_,_,rfl,rfl,.inr ⟨by decide,by decide⟩,_,_,rfl,rfl,(by show (0:Int)<_; decide),(by show 3≤sizeLine; decide),fun r hr=>?_⟩
    exact kk r _ _ _ hr (Zh hr _) ⟨Za,Zlv _ _,em0 _ (by decide),em1 _ (by decide),Int.le_refl _⟩
def Zgs (K:PySem.W.Frag):Sp:=fun vs H Q _=>∃ (a:Addr) (ns:List Int) (n:Nat),vs=[.ref a,.int (n:Int)]∧SqL K H a (ns.map V.int)∧ns.length≤63∧0<n∧n≤63 ∧
  ∀ (r:Addr) (ms:List Int) (H':Hp),H r=none→Same H H'→H' r=some (.lst (ms.map V.int))→ms.length=min n ns.length→Q (.ref r) H'
theorem Zlw (ns:List Int) (lo hi:Option Int):cutV (ns.map V.int) lo hi=((ns.drop (HT.sIx ns.length 0 lo)).take (HT.sIx ns.length ns.length hi - HT.sIx ns.length 0 lo)).map V.int:=by
  unfold cutV
  rw [List.length_map,← List.map_drop,← List.map_take]
theorem Zet (ms:List Int) (j:Nat) (v:Int):(ms.map V.int).set j (.int v)=(ms.set j v).map V.int:=by rw [List.map_set]
theorem Zjy {n:Nat} {i:Int} (h0:0≤i) (h:i<n):ixN n i=some i.toNat:=by unfold ixN; rw [if_pos h0,if_pos h]
theorem ZoY {ms:List Int} {i:Nat} {x:V} (h:(ms.map V.int)[i]?=some x):∃ z,x=V.int z∧i<ms.length:=by
  rw [List.getElem?_map] at h
  cases e:ms[i]? with
  | none=>rw [e] at h; cases h
  | some z=>rw [e] at h; exact ⟨z,(Option.some.inj h).symm,(List.getElem?_eq_some_iff.mp e).1⟩
theorem Zlx {f:Addr} {fd:FuncData} (F:Fun K "_law_folded" "_law_folded" ZcP f fd) (T:Txt K mg):FnOk P w K mg base CX0 1 f fd Zdy (Zgs K):=by
  refine F.ok sc_folded (fun vs H Q E h=>?_) (fun cdv A outer s H vs Q E hr h=>?_)
  · obtain ⟨a,ns,n,rfl,_⟩:=h
    rfl
  obtain ⟨a,ns,n,rfl,hS,h63,hn0,hn1,k⟩:=h
  have nd:=sc_folded.nd
  refine ⟨_,(Zf (pst 2 nd (ZN (ZZ (K:=K) rfl) rfl T.z_list ZG (pc (Zje (Zjp (K:=K) rfl) (pv 0) ZnL (Zih (pv 1))) Ze)))
      (Zf (ZcE PassesOwn.never rfl (ZkV rfl T.z_enumerate (pc (Zje (Zjp (K:=K) rfl) (pv 0) (Zih (pv 1)) (Zih Zj)) Ze)) (ZT (K:=K) (n:=2) rfl rfl (Zo (pgn 3 nd) (Zo (pgn 4 nd) ZS))) (Zi (Zbc (pe_op Zaf (pe_ix (Zt (K:=K) rfl) (pv 2) (pe_op Zcm (pv 3) (pv 1)) (fun _ _=>rfl)) (pe_op Zcr (pv 4) (pe_op Zaf (pv 3) Zj))) (ZeD (pv 2) (pe_op Zcm (pv 3) (pv 1)) ZcA))))
      (Zi (Zu (pv 2))))),?_⟩
  refine ⟨_,rfl,_,rfl,_,rfl,a,_,rfl,hS,fun p hp=>?_⟩
  have s1:=Zh hp (.lst (cutV (ns.map V.int) none (some (n:Int))))
  refine ⟨p,_,rfl,.inl (SqL.of Za),fun r hr1=>?_⟩
  have s2:=s1.trans (Zh hr1 (.lst (cutV (ns.map V.int) none (some (n:Int)))))
  have hrH:H r=none:=s1.free hr1
  rw [Zlw] at *
  generalize hms:(ns.drop (HT.sIx ns.length 0 none)).take (HT.sIx ns.length ns.length (some (n:Int)) - HT.sIx ns.length 0 none)=ms at *
  have lms:ms.length=min n ns.length:=by
    rw [← hms,HT.sIx_none,HT.sIx_nat,List.length_take,List.length_drop]; omega
  generalize hH2:upd (upd H p (.lst (ms.map V.int))) r (.lst (ms.map V.int))=H2 at *
  have h2r:H2 r=some (.lst (ms.map V.int)):=by rw [← hH2]; exact Za
  refine ⟨_,rfl,_,rfl,_,rfl,_,rfl,a,_,rfl,s2.seq hS,fun t ht=>?_⟩
  rw [Zlw]
  generalize hws:(ns.drop (HT.sIx ns.length 0 (some (n:Int)))).take (HT.sIx ns.length ns.length (some 63) - HT.sIx ns.length 0 (some (n:Int)))=ws
  have lws:0<ws.length→n<ns.length:=fun h=>by
    rw [← hws,List.length_take,List.length_drop,HT.sIx_nat] at h; omega
  have lw63:ws.length≤63:=by rw [← hws,List.length_take,List.length_drop]; omega
  have s3:=s2.trans (Zh ht (.lst (ws.map V.int)))
  have nrt:r≠t:=Zd h2r ht
  refine ⟨t,rfl,⟨_,SqL.of Za⟩,Zjn (K:=K) (a:=t) (xs:=ws.map V.int) (fun i σ H'=>∃ (ms':List Int) (v3 v4:Option V),σ=[some (.ref a),some (.int n),some (.ref r),v3,v4]∧ms'.length=min n ns.length∧H' r=some (.lst (ms'.map V.int))∧H' t=some (.lst (ws.map V.int))∧Same H H')
    ⟨ms,none,none,rfl,lms,by rw [Zb nrt]; exact h2r,Za,s3⟩ (fun i σ H' _ ⟨_,_,_,_,_,_,q,_⟩=>SqL.of q) ?_ ?_⟩
  · rintro i x u σ H' hi ⟨ms',v3,v4,rfl,lm,h1,h2,s4⟩ hu
    obtain ⟨z,rfl,hlt⟩:=ZoY hi
    have hnl:=lws (by omega)
    have s5:=Zh hu (.tup [.int (i:Int),.int z])
    refine ⟨u,_,rfl,SqT.of Za,rfl,_,_,rfl,_,_,rfl,rfl,?_⟩
    have m0:0≤(i:Int) % (n:Int):=em0 _ (by omega)
    have m1:(i:Int) % (n:Int)<(n:Int):=em1 _ (by omega)
    obtain ⟨v,hv⟩:=Zjx (ns:=ms') m0 (by omega)
    refine ⟨_,rfl,_,rfl,_,rfl,_,_,rfl,rfl,(by show (0:Int)<_; omega),r,_,_,_,rfl,rfl,SqL.of (s5 _ _ h1),hv,?_⟩
    refine ⟨_,rfl,_,rfl,_,_,rfl,rfl,_,_,rfl,rfl,.inr ⟨by omega,by omega⟩,_,_,rfl,rfl,?_⟩
    refine ⟨_,rfl,_,rfl,_,rfl,_,_,rfl,rfl,(by show (0:Int)<_; omega),r,_,_,((i:Int) % (n:Int)).toNat,rfl,rfl,s5 _ _ h1,Zjy m0 (by rw [List.length_map]; omega),?_⟩
    refine ⟨ms'.set ((i:Int) % (n:Int)).toNat (v+z * ((i:Int)+2)),_,_,rfl,by rw [List.length_set]; exact lm,by rw [Za,Zet],?_,?_⟩
    · rw [Zb (Ne.symm nrt)]; exact s5 _ _ h2
    · intro b o e
      rw [Zb (Zd e hrH)]
      exact s5 _ _ (s4 _ _ e)
  · rintro σ H' ⟨ms',v3,v4,rfl,lm,h1,h2,s4⟩
    exact ⟨_,rfl,k r ms' H' hrH s4 h1 lm⟩
structure BoxesAt (H H':Hp) (r:Addr) (bs:List Addr):Prop where
  at':H' r=some (.lst (bs.map V.ref))
  new:∀ b∈bs,H b=none∧∃ a q,BoxAt H' b a q 0
  nd:bs.Nodup
  off:r∉bs
def Ziu (K:PySem.W.Frag):Sp:=fun vs H Q _=>∃ (a:Addr) (ns:List Int) (n:Nat),vs=[.ref a,.int (n:Int)]∧SqL K H a (ns.map V.int)∧ns.length≤63∧0<n∧n≤63 ∧
  ∀ (r:Addr) (bs:List Addr) (H':Hp),H r=none→Same H H'→BoxesAt H H' r bs→bs.length≤63→Q (.ref r) H'
theorem ZmQ {f:Addr} {fd:FuncData} (F:Fun K "_law_boxes" "_law_boxes" Zdd f fd) (T:Txt K mg) (D_folded:Def P w K mg base "_law_folded" 1 Zdy (Zgs K)) (D_box:Def P w K mg base "_law_box" 1 P_box (spBox K)):FnOk P w K mg base CX0 2 f fd ZeZ (Ziu K):=by
  refine F.ok sc_boxes (fun vs H Q E h=>?_) (fun cdv A outer s H vs Q E hr h=>?_)
  · obtain ⟨a,ns,n,rfl,_⟩:=h
    rfl
  obtain ⟨a,ns,n,rfl,hS,h63,hn0,hn1,k⟩:=h
  have nd:=sc_boxes.nd
  refine ⟨_,(Zf (pst 2 nd (Zp D_folded hr.m rfl (pc (pv 0) (pc (pv 1) Ze))))
      (Zi (Zu (Zbz (ZK (osc:=(Zc Zdd)) (oN:=Zlt) (N:=["_law_k", "_law_cells"]) (own:=1) (js:=[2]) (by decide +kernel) rfl rfl) rfl (Zcb rfl T.z_range (pc (Zq (Zhb rfl) rfl T.z_max Zjl (pc Zj (pc (Zq (Zy (K:=K) rfl) rfl T.z_len PySem.boot_len (pc (pv 2) Ze)) Ze))) Ze)) (fun _ _ _ _ _ _=>(pgn 0 (show List.Nodup (["_law_k", "_law_cells"]:List Str) by decide +kernel))) (fun _ _ _ _ _ _=>(Zp D_box hr.m rfl (pc (pv 1) (pc (pv 0) Ze)))))))),?_⟩
  refine ⟨_,rfl,_,rfl,a,ns,n,rfl,hS,h63,hn0,hn1,fun c ms H1 hc s1 hcm lm=>?_⟩
  refine ⟨_,rfl,c,_,rfl,.inl (SqL.of hcm),_,_,rfl,_,rfl,?_⟩
  rw [List.length_map]
  generalize hj:(if ((ms.length:Nat):Int) > 1 then ((ms.length:Nat):Int) else 1)=j
  have j1:j≤63:=by rw [← hj]; split <;> omega
  have j0:1≤j:=by rw [← hj]; split <;> omega
  refine ⟨by omega,by omega,fun l hl=>?_⟩
  have hlH:H l=none:=s1.free hl
  have ncl:c≠l:=Zd hcm hl
  refine Zcs (lo:=0) (n:=j.toNat) (l:=l) (fun i ys σ H'=>∃ (bs:List Addr) (v0:Option V),σ=[v0,some (.ref c)]∧ys=bs.map V.ref∧BoxesAt H H' l bs∧H' c=some (.lst (ms.map V.int))∧Same H H'∧bs.length≤i)
    ⟨[],none,rfl,rfl,⟨Za,fun b hb=>(nomatch hb),List.nodup_nil,fun h=>(nomatch h)⟩,by rw [Zb ncl]; exact hcm,s1.trans (Zh hl _),Nat.le_refl _⟩ ?_ ?_
  · rintro i ys σ H' hi hy ⟨bs,v0,rfl,rfl,B,hc',s2,hlen⟩
    refine ⟨_,rfl,_,rfl,c,ms,_,rfl,SqL.of hc',by omega,by omega,fun b a' q' H2 hb s3 Bb=>?_⟩
    have nbl:b≠l:=fun e=>by subst e; rw [B.at'] at hb; cases hb
    have nbs:b∉bs:=fun m=>by
      obtain ⟨_,x,y,Bx⟩:=B.new b m
      rw [Bx.at'] at hb; cases hb
    refine CNx.of (Nat.le_of_lt (Zv (by omega))) hi hy (s3 _ _ B.at') ⟨bs++[b],_,rfl,by rw [List.map_append]; rfl,⟨by rw [Za,List.map_append]; rfl,fun x hx=>?_,?_,?_⟩,?_,?_,by rw [List.length_append,List.length_singleton]; omega⟩
    · rcases List.mem_append.mp hx with m | m
      · obtain ⟨e,u,v,Bx⟩:=B.new x m
        refine ⟨e,u,v,(Bx.same s3).sb (Zdo l _ _) fun z=>?_⟩
        subst z; exact B.off m
      · have e:x=b:=by simpa using m
        subst e
        exact ⟨s2.free hb,a',q',Bb.sb (Zdo l _ _) nbl⟩
    · exact List.nodup_append.mpr ⟨B.nd,by simp,fun x hx y hy e=>by
        have ey:y=b:=by simpa using hy
        subst ey; subst e; exact nbs hx⟩
    · intro m
      rcases List.mem_append.mp m with m | m
      · exact B.off m
      · exact nbl (by simpa using m:l=b).symm
    · rw [Zb ncl]; exact s3 _ _ hc'
    · intro x o e
      rw [Zb (Zd e hlH)]
      exact s3 _ _ (s2 _ _ e)
  · rintro ys σ H' hy ⟨bs,v0,rfl,rfl,B,hc',s2,hlen⟩
    exact k l bs H' hlH s2 B (by omega)
end
theorem hide {t u:TS} {D:Ends} {σ:St} {H:Hp} (h:∀ u',u'=u→tSeq t u' D σ H):tSeq t u D σ H:=h u rfl
theorem cpA {te:TE} {g:TG} {u:TS} {D:Ends} {σ:St} {H:Hp} (Post:V→Hp→Prop) (h1:∀ Q':VK,(∀ v H1,Post v H1→Q' v H1)→te σ H Q') (h2:∀ v H1,Post v H1→g v σ H1 (u D)):tSeq (tAsg te g) u D σ H:=h1 _ h2
theorem cpI {ts u:TS} {D:Ends} {σ:St} {H:Hp} (Post:St→Hp→Prop) (h1:∀ D':Ends,D'.rt=D.rt→(∀ σ1 H1,Post σ1 H1→D'.nx σ1 H1)→ts D' σ H) (h2:∀ σ1 H1,Post σ1 H1→u D σ1 H1):tSeq ts u D σ H:=h1 _ rfl h2
theorem cpIfS {tt:TT} {ta tb:TS} {D:Ends} {σ:St} {H:Hp} (Post:Bool→Hp→Prop) (h1:∀ Q':Bool→Hp→Prop,(∀ v H1,Post v H1→Q' v H1)→tt σ H Q') (h2:∀ c H1,Post c H1→if c=true then ta D σ H1 else tb D σ H1):tIfS tt ta tb D σ H:=h1 _ h2
theorem cpOr {t u:TT} {σ:St} {H:Hp} {Q:Bool→Hp→Prop} (Post:Bool→Hp→Prop) (h1:∀ Q':Bool→Hp→Prop,(∀ v H1,Post v H1→Q' v H1)→t σ H Q') (h2:∀ c H1,Post c H1→if c=true then Q true H1 else u σ H1 Q):tOr t u σ H Q:=h1 _ h2
theorem Zgt {b l:Addr} {H G:Hp} {xs:List V} (s:SB b H G) (hb:G b=some (.lst xs)) (hl:G l=none):H l=none:=by
  cases e:H l with
  | none=>rfl
  | some o =>
    by_cases h:l=b
    · rw [h,hb] at hl; cases hl
    · rw [s _ _ h e] at hl; cases hl
theorem ZhJ (ns:List Int):(ns.map V.int).all flatV=true:=by
  rw [List.all_eq_true]
  intro x hx
  obtain ⟨n,_,rfl⟩:=List.mem_map.mp hx
  rfl
theorem ZmR {n:Nat} (h:0<n):ixN n (-1)=some (n - 1):=by
  unfold ixN
  rw [if_neg (by decide),if_pos (by omega)]
  congr 1
  omega
theorem Ziv {ns:List Int} {j:Nat} {v x:Int} (h:x∈ns.set j v):x∈ns∨x=v:=by
  rcases List.mem_or_eq_of_mem_set h with h | h
  · exact .inl h
  · exact .inr h
theorem Zfb {i j:Int} {A B:Prop} (h1:i=j→A) (h2:¬ i=j→B):if decide (V.int i=V.int j)=true then A else B :=
  Zbn (fun e=>h1 (by injection e)) (fun e=>h2 fun z=>e (by rw [z]))
theorem ifF {b:Bool} {A B:Prop} (h:b=false) (hB:B):if b=true then A else B:=by subst h; rw [if_neg Bool.false_ne_true]; exact hB
theorem ifT {b:Bool} {A B:Prop} (h:b=true) (hA:A):if b=true then A else B:=by subst h; rw [if_pos rfl]; exact hA
theorem Zgu {α:Type} {xs:List α} {i:Int} (h0:0≤i) (h1:i<(xs.length:Int)):∃ v,atI xs i=some v∧v∈xs:=by
  have hk:i.toNat<xs.length:=by omega
  have q:atI xs ((i.toNat:Nat):Int)=some xs[i.toNat]:=ZaQ (List.getElem?_eq_getElem hk)
  rw [show ((i.toNat:Nat):Int)=i by omega] at q
  exact ⟨_,q,List.getElem_mem hk⟩
theorem Znt (x y:Int) (k:Bool):∃ n:Int,atI [V.int x,V.int y] (if k=true then 1 else 0)=some (.int n)∧(n=x∨n=y):=by
  cases k with
  | true=>exact ⟨y,atI1,.inr rfl⟩
  | false=>exact ⟨x,atI0,.inl rfl⟩
theorem pick2 (x y r:Int) (h0:0≤r) (h1:r<2):∃ n:Int,atI [V.int x,V.int y] r=some (.int n)∧(n=x∨n=y):=by
  have h:r=0∨r=1:=by omega
  rcases h with rfl | rfl
  · exact ⟨x,atI0,.inl rfl⟩
  · exact ⟨y,atI1,.inr rfl⟩
theorem ZoZ (r:Int) (h0:0≤r) (h1:r<4):∃ n:Int,atI [V.int 1,V.int 1,V.int 12,V.int 24] r=some (.int n)∧(n=1∨n=12∨n=24):=by
  obtain ⟨x,hx,m⟩:=Zgu (xs:=[V.int 1,V.int 1,V.int 12,V.int 24]) h0 (by show r<((4:Nat):Int); omega)
  simp only [List.mem_cons,List.not_mem_nil,or_false] at m
  rcases m with rfl | rfl | rfl | rfl
  · exact ⟨_,hx,.inl rfl⟩
  · exact ⟨_,hx,.inl rfl⟩
  · exact ⟨_,hx,.inr (.inl rfl)⟩
  · exact ⟨_,hx,.inr (.inr rfl)⟩
theorem pick5 (r:Int) (h0:0≤r) (h1:r<5):∃ v,atI [V.int 1,V.int 1,V.int 2,V.int 3,V.int 4] r=some (.int v)∧1≤v∧v≤64:=by
  obtain ⟨x,hx,m⟩:=Zgu (xs:=[V.int 1,V.int 1,V.int 2,V.int 3,V.int 4]) h0 (by show r<((5:Nat):Int); omega)
  simp only [List.mem_cons,List.not_mem_nil,or_false] at m
  rcases m with rfl | rfl | rfl | rfl | rfl <;> exact ⟨_,hx,by decide,by decide⟩
def Rule (z:Str):Prop:=z = "old" ∨ z = "come" ∨ z = "few"
theorem pickR (r:Int) (h0:0≤r) (h1:r<3):∃ z:Str,atI [V.str "old",V.str "come",V.str "few"] r=some (.str z)∧Rule z:=by
  obtain ⟨x,hx,m⟩:=Zgu (xs:=[V.str "old",V.str "come",V.str "few"]) h0 (by show r<((3:Nat):Int); omega)
  simp only [List.mem_cons,List.not_mem_nil,or_false] at m
  rcases m with rfl | rfl | rfl
  · exact ⟨_,hx,.inl rfl⟩
  · exact ⟨_,hx,.inr (.inl rfl)⟩
  · exact ⟨_,hx,.inr (.inr rfl)⟩
theorem Zly {s:Int} (h0:1≤s) (h1:s≤16):555≤9999 / s∧9999 / s≤9999∧1≤(if 10000 / s - 480 > 1 then 10000 / s - 480 else 1)∧(if 10000 / s - 480 > 1 then 10000 / s - 480 else 1)+455≤9999 / s:=by
  have key:∀ n:Fin 17,1≤(n.val:Int)→(555≤9999 / (n.val:Int)∧9999 / (n.val:Int)≤9999∧1≤(if 10000 / (n.val:Int) - 480 > 1 then 10000 / (n.val:Int) - 480 else 1)∧(if 10000 / (n.val:Int) - 480 > 1 then 10000 / (n.val:Int) - 480 else 1)+455≤9999 / (n.val:Int)):=by decide +kernel
  have e:((⟨s.toNat,by omega⟩:Fin 17).val:Int)=s:=by show ((s.toNat:Nat):Int)=s; omega
  have q:=key ⟨s.toNat,by omega⟩ (by rw [e]; exact h0)
  rw [e] at q
  exact q
def Bds (t:Int) (ns:List Int):Prop:=∀ n∈ns,0≤n∧n≤t
def Low (t:Int) (ns:List Int):Prop:=∃ x∈ns,x+1≤t
theorem Zlz {ns:List Int} {k:Int} (h0:0≤k) (h:k<(ns.length:Int)):∃ v:Int,atI (ns.map V.int) k=some (.int v)∧ns[k.toNat]?=some v:=by
  have hk:k.toNat<ns.length:=by omega
  have q:atI (ns.map V.int) ((k.toNat:Nat):Int)=some (.int ns[k.toNat]):=ZaQ (by rw [List.getElem?_map,List.getElem?_eq_getElem hk] <;> rfl)
  rw [show ((k.toNat:Nat):Int)=k by omega] at q
  exact ⟨_,q,List.getElem?_eq_getElem hk⟩
theorem ZmS {ns:List Int} {i j:Nat} {x1 x2 x:Int} (h1:ns[j]?=some x1) (h2:ns[i]?=some x2) (h:x∈ns):x∈(ns.set i x1).set j x2:=by
  obtain ⟨p,hp⟩:=List.getElem?_of_mem h
  have li:=(List.getElem?_eq_some_iff.mp h2).1
  have lj:=(List.getElem?_eq_some_iff.mp h1).1
  by_cases e:p=i
  · subst e
    rw [h2] at hp; cases hp
    exact List.mem_of_getElem? (List.getElem?_set_self (i:=j) (by rw [List.length_set]; exact lj))
  · by_cases e':p=j
    · subst e'
      rw [h1] at hp; cases hp
      refine List.mem_of_getElem? (i:=i) ?_
      rw [List.getElem?_set_ne e,List.getElem?_set_self li]
    · refine List.mem_of_getElem? (i:=p) ?_
      rw [List.getElem?_set_ne (fun z=>e' z.symm),List.getElem?_set_ne (fun z=>e z.symm)]
      exact hp
section
variable {P:Program} {w:World} {K:PySem.W.Frag} {mg:Str→Option Value} {base:Heap}
def Zgv:Sp:=fun vs H Q _=>∃ (b:Addr) (a q c s:Int),vs=[.ref b,.int s]∧BoxAt H b a q c∧c<500000000∧1≤s∧s≤16 ∧
  ∀ (l:Addr) (ns:List Int) (a' c':Int) (H':Hp),H l=none→H' l=some (.lst (ns.map V.int))→3≤ns.length→ns.length≤20→Bds (9999 / s) ns→Low (9999 / s) ns→BoxAt H' b a' q c'→c'≤c+40→SB b H H'→Q (.ref l) H'
theorem ZfD {f:Addr} {fd:FuncData} (F:Fun K "_law_some_boards" "_law_some_boards" Zao f fd) (T:Txt K mg) (D_take:Def P w K mg base "_law_take" 1 Zdx Zfa):FnOk P w K mg base CX0 2 f fd Zbk Zgv:=by
  refine F.ok sc_some_boards (fun vs H Q E h=>?_) (fun cdv A outer st H vs Q E hr h=>?_)
  · obtain ⟨b,a,q,c,s,rfl,_⟩:=h
    rfl
  obtain ⟨b,a,q,c,s,rfl,B,hc,hs0,hs1,k⟩:=h
  have nd:=sc_some_boards.nd
  obtain ⟨top0,top1,m0,m1⟩:=Zly hs0 hs1
  refine ⟨_,(Zf (pst 2 nd (pe_op Zaf Zj (Zp D_take hr.m rfl (pc (pv 0) (pc (pe_ix (Zt (K:=K) rfl) (ZbM (pc Zj (pc Zj Ze))) (ZN ZeG rfl T.z_int Zdn (pc (ZbJ op_eq (Zp D_take hr.m rfl (pc (pv 0) (pc Zj Ze))) Zj (ZF _)) Ze)) (fun _ _=>rfl)) Ze)))))
      (Zf (Zbc (Zbd (pc (Zp D_take hr.m rfl (pc (pv 0) (pc Zj Ze))) (pc (Zp D_take hr.m rfl (pc (pv 0) (pc Zj Ze))) Ze))) (ZT (K:=K) (n:=2) rfl rfl (Zo (pgn 3 nd) (Zo (pgn 4 nd) ZS))))
      (Zf (pst 5 nd (ZcN (ZJ op_lt (pv 4) Zj (ZF _)) (pv 4) (Zp D_take hr.m rfl (pc (pv 0) (pc (pe_ix (Zt (K:=K) rfl) (ZbM (pc Zj (pc (Zq (Zhb rfl) rfl T.z_max Zjl (pc Zj (pc (pe_op ZeE (pe_op ZcY Zj (pv 1)) Zj) Ze))) Ze))) (pe_op ZeE (pv 4) Zj) (fun _ _=>rfl)) Ze)))))
      (Zf (Zgd 6 (ZK (osc:=(Zc Zao)) (oN:=Zdz) (N:=["_law_k", "_law_first", "_law_way"]) (own:=1) (js:=[5,3]) (by decide +kernel) rfl rfl) rfl nd rfl rfl (Zcb rfl T.z_range (pc (pv 2) Ze)) (fun _ _ _ _ _ _=>(pgn 0 (show List.Nodup (["_law_k", "_law_first", "_law_way"]:List Str) by decide +kernel))) (fun _ _ _ _ _ _=>(pe_op Zaf (pv 1) (pe_op Zcr (pe_ix (Zt (K:=K) rfl) (ZbM (pc Zj (pc Zj (pc Zj (pc Zj Ze))))) (pv 2) (fun _ _=>rfl)) (pv 0)))))
      (Zf (pst 7 nd (ZcN (ZJ op_eq (Zp D_take hr.m rfl (pc (pv 0) (pc Zj Ze))) Zj (ZF _)) (pe_op ZcY Zj (pv 1)) (Zp D_take hr.m rfl (pc (pv 0) (pc (pe_op Zaf Zj (pe_op ZcY Zj (pv 1))) Ze)))))
      (Zf (ps_if (PW.pt (pw_or (PW.pt (ZkA (ZJ op_eq (pv 3) Zj (ZF _)) (Zif (ZJ (Zdp (K:=K) rfl) (pv 7) (pv 6) rfl)))) (ZiW (PW.pt (ZkA (ZJ op_eq (pv 7) (pe_op ZcY Zj (pv 1)) (ZF _)) (Zif (ZJ (Zdp (K:=K) rfl) (pv 7) (pv 6) rfl))))))) (Zi (Zbc (pv 7) (ZeD (pv 6) (pe_un ZeF Zj) ZcA))) Zz)
      (Zf (ZcE PassesOwn.never rfl (Zcb rfl T.z_range (pc (pe_op ZeE (pv 2) Zj) Ze)) (pgn 8 nd) (Zf (pst 9 nd (pe_op Zaf (pv 8) (Zp D_take hr.m rfl (pc (pv 0) (pc (pe_op ZeE (pv 2) (pv 8)) Ze)))))
      (Zi (Zbc (Zbd (pc (pe_ix (Zt (K:=K) rfl) (pv 6) (pv 9) (fun _ _=>rfl)) (pc (pe_ix (Zt (K:=K) rfl) (pv 6) (pv 8) (fun _ _=>rfl)) Ze))) (ZT (K:=K) (n:=2) rfl rfl (Zo (ZeD (pv 6) (pv 8) ZcA) (Zo (ZeD (pv 6) (pv 9) ZcA) ZS)))))))
      (Zi (Zu (pv 6)))))))))),?_⟩
  generalize hm:(if 10000 / s - 480 > 1 then 10000 / s - 480 else 1)=m at m0 m1
  generalize ht:(9999:Int) / s=top at *
  refine hide fun uu ee=>?_
  refine ⟨_,rfl,(by show 2≤sizeLine; decide),fun p1 hp1=>⟨_,rfl,b,a,q,c,6,rfl,B.same (Zh hp1 _),by omega,by decide,by decide,fun r1 a1 c1 H1 r10 r11 B1 hc1 s1=>⟨rfl,.inr ⟨_,rfl,?_⟩⟩⟩⟩
  have q1:b≠p1:=Zd B.at' hp1
  obtain ⟨n,hn,hn'⟩:=Znt 5 18 (decide (V.int r1=V.int 0))
  refine ⟨p1,_,_,_,rfl,rfl,SqL.of (s1 _ _ (Ne.symm q1) Za),hn,b,a1,q,c1,n,rfl,B1,by omega,by omega,by omega,fun r2 a2 c2 H2 r20 r21 B2 hc2 s2=>⟨_,_,rfl,rfl,?_⟩⟩
  have mn0:3≤3+r2:=by omega
  have mn1:3+r2≤20:=by omega
  have u2:SB b H H2:=(((Zh hp1 _).sb b).trans s1).trans s2
  dsimp only [gName]
  subst ee
  try dsimp only
  refine hide fun uu ee=>?_
  refine ⟨_,rfl,b,a2,q,c2,4,rfl,B2,by omega,by decide,by decide,fun r3 a3 c3 H3 r30 r31 B3 hc3 s3=>?_⟩
  refine ⟨_,rfl,b,a3,q,c3,4,rfl,B3,by omega,by decide,by decide,fun r4 a4 c4 H4' r40 r41 B4' hc4 s4=>⟨(by show 2≤sizeLine; decide),fun p4 hp4=>⟨p4,_,rfl,SqT.of Za,rfl,_,_,rfl,_,_,rfl,rfl,?_⟩⟩⟩
  have B4:=B4'.same (Zh hp4 (.tup [.int r3,.int r4]))
  have u4:SB b H (upd H4' p4 (.tup [.int r3,.int r4])):=((u2.trans s3).trans s4).trans ((Zh hp4 _).sb b)
  generalize upd H4' p4 (.tup [.int r3,.int r4])=H4 at *
  subst ee
  try dsimp only
  refine cpA (fun v G=>∃ z a' c',v=.int z∧0≤z∧z+456≤top∧BoxAt G b a' q c'∧c'≤c4+1∧SB b H G) (fun Q' k'=>?_) ?_
  · refine ⟨_,rfl,_,_,rfl,rfl,_,rfl,Zbn (fun c2'=>⟨_,rfl,k' _ _ ⟨_,a4,c4,rfl,r40,by omega,B4,by omega,u4⟩⟩) (fun c2'=>?_)⟩
    refine ⟨_,rfl,_,rfl,_,_,rfl,rfl,⟨by omega,by omega⟩,_,_,rfl,rfl,_,_,rfl,(by show 2≤sizeLine; decide),fun p2 hp2=>?_⟩
    have q2:b≠p2:=Zd B4.at' hp2
    rw [hm]
    obtain ⟨n2,hn2,hn2'⟩:=pick2 100 m (r4 - 2) (by omega) (by omega)
    refine ⟨_,rfl,_,_,rfl,rfl,p2,_,_,_,rfl,rfl,SqL.of Za,hn2,b,a4,q,c4,n2,rfl,B4.same (Zh hp2 _),by omega,by omega,by omega,fun r5 a5 c5 H5 r50 r51 B5 hc5 s5=>?_⟩
    exact k' _ _ ⟨r5,a5,c5,rfl,r50,by omega,B5,by omega,u4.trans (((Zh hp2 _).sb b).trans s5)⟩
  rintro _ H5 ⟨z,a5,c5,rfl,z0,z1,B5,hc5,u5⟩
  dsimp only [gName]
  refine hide fun uu ee=>?_
  refine ⟨_,rfl,_,rfl,by omega,by omega,fun l hl=>?_⟩
  have hlH:H l=none:=Zgt u5 B5.at' hl
  have nlb:l≠b:=Ne.symm (Zd B5.at' hl)
  have hmn:(3+r2).toNat≤20:=by omega
  refine Zcs (lo:=0) (n:=(3+r2).toNat) (l:=l) (fun j ys σ G=>∃ (v0:Option V) (ns:List Int),σ=[v0,some (.int z),some (.int r3)]∧ys=ns.map V.int∧ns.length=j∧(Bds top ns∧(0<j→ns[0]?=some z))∧G l=some (.lst ys)∧Same H5 G)
    ⟨none,[],rfl,rfl,rfl,⟨fun n hn=>(nomatch hn),fun z=>absurd z (Nat.lt_irrefl 0)⟩,Za,Zh hl _⟩ ?_ ?_
  · rintro j ys σ G hj hy ⟨v0,ns,rfl,rfl,hj',⟨hb',hz'⟩,h1,h2⟩
    refine ⟨_,rfl,(by show 4≤sizeLine; decide),fun p hp=>?_⟩
    obtain ⟨n4,hn4,hn4'⟩:=ZoZ r3 r30 r31
    have np:l≠p:=Zd h1 hp
    have j20:(j:Int)≤19:=by omega
    refine ⟨_,rfl,p,_,_,_,rfl,rfl,SqL.of Za,hn4,_,rfl,_,_,rfl,rfl,.inl ⟨by omega,by omega⟩,_,_,rfl,rfl,CNx.of (Nat.le_trans hmn (by decide)) hj hy (by rw [Zb np]; exact h1) ⟨_,ns++[z+n4 * (0+(j:Int))],rfl,by rw [List.map_append]; rfl,by rw [List.length_append,hj']; rfl,⟨fun x hx=>?_,fun _=>?_⟩,Za,fun e o y=>?_⟩⟩
    · rcases List.mem_append.mp hx with h | h
      · exact hb' x h
      · have ex:x=z+n4 * (0+(j:Int)):=by simpa using h
        subst ex
        rcases hn4' with rfl | rfl | rfl
        · exact ⟨by omega,by omega⟩
        · exact ⟨by omega,by omega⟩
        · exact ⟨by omega,by omega⟩
    · by_cases j0:j=0
      · have:ns=[]:=List.eq_nil_of_length_eq_zero (by omega)
        rw [this,j0]
        show some (z+n4 * (0+((0:Nat):Int)))=some z
        rw [show (0:Int)+((0:Nat):Int)=0 by omega,Int.mul_zero,Int.add_zero]
      · rw [List.getElem?_append_left (by omega)]
        exact hz' (by omega)
    · rw [Zb (Zd y hl)]
      exact Zh hp _ _ _ (h2 _ _ y)
  rintro ys σ G hy ⟨v0,ns,rfl,rfl,hj',⟨hb',hz'⟩,h1,h2⟩
  have B6:=B5.same h2
  have u6:SB b H G:=u5.trans (h2.sb b)
  have ln3:3≤ns.length:=by omega
  have ln20:ns.length≤20:=by omega
  have hz0:ns[0]?=some z:=hz' (by omega)
  dsimp only [gName]
  subst ee
  try dsimp only
  refine cpA (fun v G'=>∃ z a' c',v=.int z∧0≤z∧z≤top∧BoxAt G' b a' q c'∧c'≤c5+2∧SB b G G') (fun Q' k'=>?_) ?_
  · refine ⟨_,rfl,b,a5,q,c5,5,rfl,B6,by omega,by decide,by decide,fun r7 a7 c7 H7 r70 r71 B7 hc7 s7=>⟨rfl,_,rfl,Zbn (fun _=>?_) (fun _=>?_)⟩⟩
    · refine ⟨_,rfl,_,_,rfl,rfl,⟨by omega,by omega⟩,?_⟩
      exact k' _ _ ⟨_,a7,c7,rfl,by rw [ht]; omega,by rw [ht]; omega,B7,by omega,s7⟩
    · refine ⟨_,rfl,_,rfl,_,_,rfl,rfl,⟨by omega,by omega⟩,_,_,rfl,rfl,b,a7,q,c7,_,rfl,B7,by omega,by rw [ht]; omega,by rw [ht]; omega,fun r8 a8 c8 H8 r80 r81 B8 hc8 s8=>?_⟩
      exact k' _ _ ⟨_,a8,c8,rfl,r80,by rw [ht] at r81; omega,B8,by omega,s7.trans s8⟩
  rintro _ H7 ⟨fr,a7,c7,rfl,fr0,fr1,B7,hc7,s7⟩
  have h7:=s7 _ _ nlb h1
  have u7:SB b H H7:=u6.trans s7
  refine cpI (fun σ G'=>∃ ns':List Int,σ=[some (.ref b),some (.int s),some (.int (3+r2)),some (.int r3),some (.int r4),some (.int z),some (.ref l),some (.int fr),none,none]∧G' l=some (.lst (ns'.map V.int))∧ns'.length=ns.length∧(Bds top ns'∧Low top ns')∧BoxAt G' b a7 q c7∧SB b H G') (fun D' _ k'=>?_) ?_
  · refine cpIfS (fun _ G'=>G'=H7) (fun Q' k''=>?_) ?_
    · refine cpOr (fun _ G'=>G'=H7) (fun Q'' k3=>?_) ?_
      · exact ⟨_,rfl,rfl,_,rfl,Zbn (fun _=>⟨_,rfl,_,rfl,l,_,rfl,.inl (SqL.of h7),rfl,ZhJ _,_,rfl,k3 _ _ rfl⟩) (fun _=>k3 _ _ rfl)⟩
      · rintro cb _ rfl
        cases cb with
        | true=>exact ifT rfl (k'' _ _ rfl)
        | false=>exact ifF rfl ⟨_,rfl,_,rfl,_,_,rfl,rfl,⟨by omega,by omega⟩,rfl,_,rfl,Zbn (fun _=>⟨_,rfl,_,rfl,l,_,rfl,.inl (SqL.of h7),rfl,ZhJ _,_,rfl,k'' _ _ rfl⟩) (fun _=>k'' _ _ rfl)⟩
    · rintro cb _ rfl
      cases cb with
      | false=>exact ifF rfl (k' _ _ ⟨ns,rfl,h7,rfl,⟨hb',z,List.mem_of_getElem? hz0,by omega⟩,B7,u7⟩)
      | true =>
        refine ifT rfl ⟨_,rfl,_,rfl,_,rfl,l,_,_,_,rfl,rfl,h7,ZmR (by rw [List.length_map]; omega),k' _ _ ⟨ns.set (ns.length - 1) fr,rfl,?_,List.length_set,⟨fun x hx=>?_,z,?_,by omega⟩,B7.sb (Zdo l _ _) (Ne.symm nlb),fun e o n' y=>?_⟩⟩
        · rw [Za,List.length_map,Zet]
        · rcases Ziv hx with h | h
          · exact hb' x h
          · subst h; exact ⟨fr0,fr1⟩
        · refine List.mem_of_getElem? (i:=0) ?_
          rw [List.getElem?_set_ne (by omega)]
          exact hz0
        · rw [Zb (Zd y hlH)]; exact u7 _ _ n' y
  rintro _ H8 ⟨ns8,rfl,h8,l8,b8,B8,u8⟩
  refine ⟨_,rfl,_,_,rfl,rfl,_,rfl,by omega,by omega,Zha (lo:=0) (n:=(3+r2 - 1).toNat) (fun j σ G'=>∃ (ns':List Int) (v8 v9:Option V) (a' c':Int),σ=[some (.ref b),some (.int s),some (.int (3+r2)),some (.int r3),some (.int r4),some (.int z),some (.ref l),some (.int fr),v8,v9]∧G' l=some (.lst (ns'.map V.int))∧ns'.length=ns.length∧(Bds top ns'∧Low top ns')∧BoxAt G' b a' q c'∧c'≤c7+(j:Int)∧SB b H G')
    ⟨ns8,_,_,a7,c7,rfl,h8,l8,b8,B8,by omega,u8⟩ ?_ ?_⟩
  · rintro j σ G' hj ⟨ns',v8,v9,a',c',rfl,h1',l',⟨b',lo'⟩,B',hc',u'⟩
    have j20:(j:Int)≤18:=by omega
    have jl:(j:Int)+1<3+r2:=by omega
    refine ⟨_,rfl,_,rfl,_,rfl,_,rfl,_,_,rfl,rfl,b,a',q,c',_,rfl,B',by omega,by omega,by omega,fun r9 a9 c9 H9 r90 r91 B9 hc9 s9=>⟨_,_,rfl,rfl,?_⟩⟩
    have h9:=s9 _ _ nlb h1'
    obtain ⟨x1,hx1,gx1⟩:=Zlz (ns:=ns') (k:=0+(j:Int)+r9) (by omega) (by omega)
    have mx1:=List.mem_of_getElem? gx1
    obtain ⟨x2,hx2,gx2⟩:=Zlz (ns:=ns') (k:=0+(j:Int)) (by omega) (by omega)
    have mx2:=List.mem_of_getElem? gx2
    refine ⟨_,rfl,_,rfl,l,_,_,_,rfl,rfl,SqL.of h9,hx1,_,rfl,_,rfl,l,_,_,_,rfl,rfl,SqL.of h9,hx2,(by show 2≤sizeLine; decide),fun t ht'=>?_⟩
    have nlt:l≠t:=Zd h9 ht'
    refine ⟨t,_,rfl,SqT.of Za,rfl,_,_,rfl,_,rfl,_,rfl,l,_,_,_,rfl,rfl,(by rw [Zb nlt]; exact h9),Zjy (by omega) (by rw [List.length_map]; omega),?_⟩
    refine ⟨_,_,rfl,_,rfl,_,rfl,l,_,_,_,rfl,rfl,Za,Zjy (by omega) (by rw [List.length_set,List.length_map]; omega),rfl,?_⟩
    refine ⟨(ns'.set (0+(j:Int)).toNat x1).set (0+(j:Int)+r9).toNat x2,_,_,a9,c9,rfl,by rw [Za,Zet,Zet],by rw [List.length_set,List.length_set]; exact l',⟨fun x hx=>?_,(by obtain ⟨x,m,q⟩:=lo'; exact ⟨x,ZmS gx1 gx2 m,q⟩)⟩,?_,by omega,fun e o n' y=>?_⟩
    · rcases Ziv hx with h | h
      · rcases Ziv h with h | h
        · exact b' x h
        · subst h; exact b' _ mx1
      · subst h; exact b' _ mx2
    · exact ((B9.same (Zh ht' _)).sb (Zdo l _ _) (Ne.symm nlb)).sb (Zdo l _ _) (Ne.symm nlb)
    · have ne:e≠l:=Zd y hlH
      rw [Zb ne,Zb ne]
      exact Zh ht' _ _ _ (s9 _ _ n' (u' _ _ n' y))
  · rintro σ G' ⟨ns',v8,v9,a',c',rfl,h1',l',⟨b',lo'⟩,B',hc',u'⟩
    exact ⟨_,rfl,k l ns' a' c' G' hlH h1' (by omega) (by omega) b' lo' B' (by omega) u'⟩
end
def optV:Option Int→V
  | none=>.non
  | some g=>.int g
theorem gN {i:Nat} {v:V} {σ:St} {H:Hp} {Q:St→Hp→Prop} (h:Q (σ.set i (some v)) H):gName i v σ H Q:=h
theorem ZmT {b:Bool} {A B:Prop} (h1:b=true→A) (h2:¬ b=true→B):if b=true then A else B:=by
  by_cases h:b=true
  · rw [if_pos h]; exact h1 h
  · rw [if_neg h]; exact h2 h
theorem Zgw {ns:List Int} {i:Nat} {x:V} (h:(ns.map V.int)[i]?=some x):∃ z,ns[i]?=some z∧x=V.int z:=by
  rw [List.getElem?_map] at h
  cases e:ns[i]? with
  | none=>rw [e] at h; cases h
  | some z=>rw [e] at h; exact ⟨z,rfl,(Option.some.inj h).symm⟩
def tpos:Pos:=(match (Zl Zaa).head? with
  | some (.If _ (.Return (some (.Call _ _ (⟨_,.Lambda _ _ _ pos,_⟩ :: _) _)) _ :: _) _ _)=>pos
  | _=>⟨0,0,0,0⟩)
abbrev tqual:Str := "Room.going" ++ ".<locals>." ++ "<lambda>"
def Tb (K:PySem.W.Frag) (H:Hp):Prop:=H (tabOf K "Room" "going")=some (.tbl tpos tqual)
theorem Tb.same {K:PySem.W.Frag} {H H':Hp} (t:Tb K H) (s:Same H H'):Tb K H':=s _ _ t
def Zn (sh s:Int) (there:List Int):List Int:=there.filter fun o=>decide (o % sh=s)
theorem Zcy (sh s b:Int) (there:List Int):Zn sh s (there++[b])=if b % sh=s then Zn sh s there++[b] else Zn sh s there:=by
  unfold Zn
  rw [List.filter_append]
  by_cases h:b % sh=s
  · rw [if_pos h,List.filter_cons,if_pos (by simpa using h),List.filter_nil]
  · rw [if_neg h,List.filter_cons,if_neg (by simpa using h),List.filter_nil,List.append_nil]
theorem Zba (sh s g:Int) (there:List Int):Zn sh s (there.erase g)=(Zn sh s there).erase g:=by
  unfold Zn
  rw [List.erase_filter]
theorem mem_shelfS {sh s b:Int} {there:List Int}:b∈Zn sh s there↔b∈there∧b % sh=s:=by
  unfold Zn
  rw [List.mem_filter,decide_eq_true_eq]
structure Shl (H:Hp) (ls:Addr) (ads:List Addr) (sh:Int) (there:List Int):Prop where
  top:H ls=some (.lst (ads.map V.ref))
  len:ads.length=sh.toNat
  nd:ads.Nodup
  off:ls∉ads
  at_:∀ (s:Nat) (ad:Addr),ads[s]?=some ad→H ad=some (.lst ((Zn sh s there).map V.int))
theorem Shl.other {H:Hp} {ls:Addr} {ads:List Addr} {sh:Int} {there:List Int} (h:Shl H ls ads sh there) {a:Addr} (o:HO) (h1:a≠ls) (h2:a∉ads):Shl (upd H a o) ls ads sh there :=
  ⟨by rw [Zb (Ne.symm h1)]; exact h.top,h.len,h.nd,h.off,fun i ad e=>by rw [Zb (fun z:ad=a=>h2 (z ▸ List.mem_of_getElem? e))]; exact h.at_ i ad e⟩
theorem Shl.put {H:Hp} {ls:Addr} {ads:List Addr} {sh:Int} {there there':List Int} (h:Shl H ls ads sh there) {s0:Nat} {ad:Addr} {ns:List Int} (e0:ads[s0]?=some ad) (hn:Zn sh s0 there'=ns) (ho:∀ s:Nat,s≠s0→Zn sh s there'=Zn sh s there):Shl (upd H ad (.lst (ns.map V.int))) ls ads sh there':=by
  refine ⟨by rw [Zb (fun z:ls=ad=>h.off (z ▸ List.mem_of_getElem? e0))]; exact h.top,h.len,h.nd,h.off,fun s a e=>?_⟩
  by_cases hs:s=s0
  · subst hs
    rw [e0] at e
    cases e
    rw [Za,hn]
  · have ne:a≠ad:=fun z=>by
      subst z
      exact hs ((List.getElem?_inj (List.getElem?_eq_some_iff.mp e).1 h.nd).mp (e.trans e0.symm))
    rw [Zb ne,ho s hs]
    exact h.at_ s a e
theorem Shl.get {H:Hp} {ls:Addr} {ads:List Addr} {sh:Int} {there:List Int} (h:Shl H ls ads sh there) {k:Int} (h0:0≤k) (h1:k<sh):∃ (s:Nat) (ad:Addr),(s:Int)=k∧ads[s]?=some ad∧atI (ads.map V.ref) k=some (.ref ad)∧H ad=some (.lst ((Zn sh k there).map V.int)):=by
  have hk:k.toNat<ads.length:=by rw [h.len]; omega
  have e:ads[k.toNat]?=some ads[k.toNat]:=List.getElem?_eq_getElem hk
  have ek:((k.toNat:Nat):Int)=k:=by omega
  have q:atI (ads.map V.ref) ((k.toNat:Nat):Int)=some (.ref ads[k.toNat]):=ZaQ (by rw [List.getElem?_map,e]; rfl)
  have q2:=h.at_ _ _ e
  rw [ek] at q q2
  exact ⟨k.toNat,_,ek,e,q,q2⟩
theorem Shl.one {H:Hp} {ls:Addr} {ads:List Addr} {sh:Int} {there:List Int} (h:Shl H ls ads sh there) {ad:Addr} (m:ad∈ads):∃ xs,H ad=some (.lst xs):=by
  obtain ⟨s,e⟩:=List.getElem?_of_mem m
  exact ⟨_,h.at_ s ad e⟩
def flds (sh pl:Int) (ru:Str) (ls du:Addr):List (Str×V):=putF "uses" (.ref du) (putF "standing" (.ref ls) (putF "rule" (.str ru) (putF "places" (.int pl) (putF "shelves" (.int sh) []))))
theorem Zfc (sh pl:Int) (ru:Str) (ls du:Addr):(flds sh pl ru ls du).lookup ("uses" : Str)=some (.ref du):=by
  unfold flds
  rw [Zg,if_pos rfl]
theorem Ziw (sh pl:Int) (ru:Str) (ls du:Addr):(flds sh pl ru ls du).lookup ("standing" : Str)=some (.ref ls):=by
  unfold flds
  rw [Zg,if_neg (by decide +kernel),Zg,if_pos rfl]
theorem Zix (sh pl:Int) (ru:Str) (ls du:Addr):(flds sh pl ru ls du).lookup ("rule" : Str)=some (.str ru):=by
  unfold flds
  rw [Zg,if_neg (by decide +kernel),Zg,if_neg (by decide +kernel),Zg,if_pos rfl]
theorem ZlA (sh pl:Int) (ru:Str) (ls du:Addr):(flds sh pl ru ls du).lookup ("places" : Str)=some (.int pl):=by
  unfold flds
  rw [Zg,if_neg (by decide +kernel),Zg,if_neg (by decide +kernel),Zg,if_neg (by decide +kernel),Zg,if_pos rfl]
theorem Zkk (sh pl:Int) (ru:Str) (ls du:Addr):(flds sh pl ru ls du).lookup ("shelves" : Str)=some (.int sh):=by
  unfold flds
  rw [Zg,if_neg (by decide +kernel),Zg,if_neg (by decide +kernel),Zg,if_neg (by decide +kernel),Zg,if_neg (by decide +kernel),Zg,if_pos rfl]
theorem fl_no (sh pl:Int) (ru:Str) (ls du:Addr) {m:Str} (h1:¬ m = "uses" := by decide +kernel) (h2:¬ m = "standing" := by decide +kernel) (h3:¬ m = "rule" := by decide +kernel) (h4:¬ m = "places" := by decide +kernel) (h5:¬ m = "shelves" := by decide +kernel):(flds sh pl ru ls du).lookup m=none:=by
  unfold flds
  rw [Zg,if_neg h1,Zg,if_neg h2,Zg,if_neg h3,Zg,if_neg h4,Zg,if_neg h5]
  rfl
def KI (kvs:List (Key×V)):Prop:=∃ ks:List Int,kvs.map Prod.fst=ks.map Sum.inl∧ks.Nodup
theorem KI.nil:KI []:=⟨[],rfl,List.nodup_nil⟩
theorem KI.put {kvs:List (Key×V)} (h:KI kvs) (b:Int) (v:V):KI (putK kvs (Sum.inl b) v):=by
  obtain ⟨ks,e,nd⟩:=h
  unfold putK
  split
  · refine ⟨ks,?_,nd⟩
    rw [← e,List.map_map]
    exact List.map_congr_left fun q _=>by
      show (if q.1=Sum.inl b then (q.1,v) else q).1=q.1
      split <;> rfl
  · rename_i c
    refine ⟨ks++[b],by rw [List.map_append,List.map_append,e]; rfl,?_⟩
    rw [List.nodup_append]
    refine ⟨nd,by simp,fun x hx y hy z=>c ?_⟩
    rw [List.mem_singleton.mp hy] at z
    subst z
    have m:(Sum.inl x:Key)∈kvs.map Prod.fst:=by rw [e]; exact List.mem_map_of_mem hx
    obtain ⟨q,hq,eq⟩:=List.mem_map.mp m
    exact List.any_eq_true.mpr ⟨q,hq,by simpa using eq⟩
theorem KI.drop {kvs:List (Key×V)} (h:KI kvs) (b:Int):KI (dropK kvs (Sum.inl b)):=by
  obtain ⟨ks,e,nd⟩:=h
  unfold dropK
  refine ⟨ks.filter fun x=>decide (x≠b),?_,nd.sublist List.filter_sublist⟩
  have l:(kvs.filter fun kv=>decide (kv.1≠Sum.inl b)).map Prod.fst=(kvs.map Prod.fst).filter fun k=>decide (k≠Sum.inl b):=by
    rw [List.filter_map]; rfl
  rw [l,e,List.filter_map]
  congr 1
  refine List.filter_congr fun x _=>?_
  show decide ((Sum.inl x:Key)≠Sum.inl b)=decide (x≠b)
  rw [decide_eq_decide]
  exact ⟨fun z y=>z (by rw [y]),fun z y=>z (Sum.inl.inj y)⟩
theorem Zod {kvs:List (Key×V)} (k:Key):(valV kvs k).isSome=true↔k∈kvs.map Prod.fst:=by
  rw [← Zdq,List.any_eq_true,List.mem_map]
  exact ⟨fun ⟨q,h1,h2⟩=>⟨q,h1,by simpa using h2⟩,fun ⟨q,h1,h2⟩=>⟨q,h1,by simpa using h2⟩⟩
structure RoomAt (K:PySem.W.Frag) (H:Hp) (p:Addr) (sh pl:Int) (ru:Str) (ls:Addr) (ads:List Addr) (du:Addr) (seq:List Int) (us:Int→Int) (n:Nat):Prop where
  ob:∃ dx,H p=some (.ins (clsOf K "Room") dx (flds sh pl ru ls du))
  st:Shl H ls ads sh seq
  dc:∃ kvs,H du=some (.dK kvs)∧(kvs.length≤n∧KI kvs)∧∀ b,valV kvs (Sum.inl b:Key)=if b∈seq then some (.int (us b)) else none
  nd:seq.Nodup
  s0:1≤sh
  s1:sh≤64
def SR (ads:List Addr) (du:Addr) (H H':Hp):Prop:=∀ b o,H b=some o→b≠du→b∉ads→H' b=some o
theorem SR.of {ads:List Addr} {du:Addr} {H H':Hp} (s:Same H H'):SR ads du H H':=fun b o h _ _=>s b o h
theorem SR.trans {ads:List Addr} {du:Addr} {H H1 H2:Hp} (a:SR ads du H H1) (b:SR ads du H1 H2):SR ads du H H2:=fun c o h n1 n2=>b c o (a c o h n1 n2) n1 n2
section
variable {K:PySem.W.Frag} {H H':Hp} {p:Addr} {sh pl:Int} {ru:Str} {ls:Addr} {ads:List Addr} {du:Addr} {seq:List Int} {us:Int→Int} {n:Nat}
theorem RoomAt.off (R:RoomAt K H p sh pl ru ls ads du seq us n):p≠du∧p∉ads∧ls≠du∧ls∉ads∧du∉ads∧p≠ls:=by
  obtain ⟨dx,h1⟩:=R.ob
  obtain ⟨kvs,h2,_⟩:=R.dc
  refine ⟨fun z=>?_,fun z=>?_,fun z=>?_,R.st.off,fun z=>?_,fun z=>?_⟩
  · rw [z,h2] at h1; cases h1
  · obtain ⟨xs,e⟩:=R.st.one z
    rw [e] at h1; cases h1
  · have e:=R.st.top
    rw [z,h2] at e; cases e
  · obtain ⟨xs,e⟩:=R.st.one z
    rw [e] at h2; cases h2
  · have e:=R.st.top
    rw [← z,h1] at e; cases e
theorem RoomAt.same (R:RoomAt K H p sh pl ru ls ads du seq us n) (s:Same H H'):RoomAt K H' p sh pl ru ls ads du seq us n:=by
  obtain ⟨dx,h1⟩:=R.ob
  obtain ⟨kvs,h2,h3⟩:=R.dc
  exact ⟨⟨dx,s _ _ h1⟩,⟨s _ _ R.st.top,R.st.len,R.st.nd,R.st.off,fun i ad e=>s _ _ (R.st.at_ i ad e)⟩,⟨kvs,s _ _ h2,h3⟩,R.nd,R.s0,R.s1⟩
theorem SR.keep {o:HO} {b:Addr} (s:SR ads du H H') (R:RoomAt K H p sh pl ru ls ads du seq us n) (h:H b=some o) (n1:∀ kvs,o≠.dK kvs) (n2:∀ xs,o≠.lst xs):H' b=some o:=by
  refine s _ _ h (fun z=>?_) fun z=>?_
  · obtain ⟨kvs,e,_⟩:=R.dc
    rw [z,e] at h
    exact n1 kvs (Option.some.inj h).symm
  · obtain ⟨xs,e⟩:=R.st.one z
    rw [e] at h
    exact n2 xs (Option.some.inj h).symm
theorem RoomAt.shelf (R:RoomAt K H p sh pl ru ls ads du seq us n) (b:Int):∃ (s:Nat) (ad:Addr),(s:Int)=b % sh∧ads[s]?=some ad∧atI (ads.map V.ref) (b % sh)=some (.ref ad)∧H ad=some (.lst ((Zn sh (b % sh) seq).map V.int)):=by
  have h0:=R.s0
  exact R.st.get (Int.emod_nonneg _ (by omega)) (Int.emod_lt_of_pos _ (by omega))
end
section
variable {P:Program} {w:World} {K:PySem.W.Frag} {mg:Str→Option Value} {base:Heap}
def Zgx:Sp:=fun vs H Q _=>∃ sh b:Int,vs=[.int sh,.int b]∧1≤sh∧Q (.int (b % sh)) H
theorem Ziy {f:Addr} {fd:FuncData} (F:Fun K "shelf_of" "shelf_of" ZbT f fd) (T:Txt K mg):FnOk P w K mg base CX0 1 f fd ZbU Zgx:=by
  refine F.ok sc_shelf_of (fun vs H Q E h=>?_) (fun cdv A outer st H vs Q E hr h=>?_)
  · obtain ⟨sh,b,rfl,_⟩:=h
    rfl
  obtain ⟨sh,b,rfl,h0,k⟩:=h
  have nd:=sc_shelf_of.nd
  refine ⟨_,(Zi (Zu (pe_op Zcm (pv 1) (pv 0)))),?_⟩
  exact ⟨_,rfl,_,rfl,_,_,rfl,rfl,(by show 0<sh; omega),k⟩
def spHas (K:PySem.W.Frag):Sp:=fun vs H Q _=>∃ (p:Addr) (b sh pl:Int) (ru:Str) (ls:Addr) (ads:List Addr) (du:Addr) (seq:List Int) (us:Int→Int) (n:Nat),vs=[.ref p,.int b]∧RoomAt K H p sh pl ru ls ads du seq us n∧Q (.bl (decide (b∈seq))) H
theorem Ziz {f:Addr} {fd:FuncData} (F:Fun K "has" "Room.has" ZbV f fd) (T:Txt K mg):FnOk P w K mg base CX0 1 f fd ZaU (spHas K):=by
  refine F.ok sc_Room_has (fun vs H Q E h=>?_) (fun cdv A outer st H vs Q E hr h=>?_)
  · obtain ⟨p,b,sh,pl,ru,ls,ads,du,seq,us,n,rfl,_⟩:=h
    rfl
  obtain ⟨p,b,sh,pl,ru,ls,ads,du,seq,us,n,rfl,R,k⟩:=h
  have nd:=sc_Room_has.nd
  have hu:=hu_of hr
  refine ⟨_,(Zi (Zu (Zou (ZoI hu (pv 1) (Zr (K:=K) rfl (pv 0) rfl))))),?_⟩
  obtain ⟨dx,h1⟩:=R.ob
  obtain ⟨kvs,h2,h3,h4⟩:=R.dc
  refine ⟨_,rfl,_,rfl,p,_,dx,_,_,rfl,h1,T.cl_Room,T.n_Room_uses,Zfc ..,du,_,rfl,DGet.k (k:=Sum.inl b) h2,?_⟩
  rw [h4 b]
  by_cases c:b∈seq
  · rw [if_pos c]
    rw [decide_eq_true c] at k
    exact k
  · rw [if_neg c]
    rw [decide_eq_false c] at k
    exact k
def ZdN (K:PySem.W.Frag):Sp:=fun vs H Q _=>∃ (p:Addr) (b sh pl:Int) (ru:Str) (ls:Addr) (ads:List Addr) (du:Addr) (seq:List Int) (us:Int→Int) (n:Nat),vs=[.ref p,.int b]∧RoomAt K H p sh pl ru ls ads du seq us n ∧
  ∀ (s:Nat) (ad:Addr),(s:Int)=b % sh→ads[s]?=some ad→H ad=some (.lst ((Zn sh (b % sh) seq).map V.int))→Q (.ref ad) H
theorem Zgy {f:Addr} {fd:FuncData} (F:Fun K "mates" "Room.mates" ZaX f fd) (T:Txt K mg) (D_shelf_of:Def P w K mg base "shelf_of" 1 ZbU Zgx):FnOk P w K mg base CX0 2 f fd Zal (ZdN K):=by
  refine F.ok sc_Room_mates (fun vs H Q E h=>?_) (fun cdv A outer st H vs Q E hr h=>?_)
  · obtain ⟨p,b,sh,pl,ru,ls,ads,du,seq,us,n,rfl,_⟩:=h
    rfl
  obtain ⟨p,b,sh,pl,ru,ls,ads,du,seq,us,n,rfl,R,k⟩:=h
  have nd:=sc_Room_mates.nd
  refine ⟨_,(Zi (Zu (pe_ix (Zt (K:=K) rfl) (Zr (K:=K) rfl (pv 0) rfl) (Zp D_shelf_of hr.m rfl (pc (Zr (K:=K) rfl (pv 0) rfl) (pc (pv 1) Ze))) (fun _ _=>rfl)))),?_⟩
  obtain ⟨dx,h1⟩:=R.ob
  obtain ⟨s,ad,e1,e2,e3,e4⟩:=R.shelf b
  exact ⟨_,rfl,p,_,dx,_,_,rfl,h1,T.cl_Room,T.n_Room_standing,Ziw ..,_,rfl,p,_,dx,_,_,rfl,h1,T.cl_Room,T.n_Room_shelves,Zkk ..,_,rfl,sh,b,rfl,R.s0,ls,_,_,_,rfl,rfl,SqL.of R.st.top,e3,k s ad e1 e2 e4⟩
def ZhK (K:PySem.W.Frag):Sp:=fun vs H Q _=>∃ (p:Addr) (b sh pl:Int) (ru:Str) (ls:Addr) (ads:List Addr) (du:Addr) (seq:List Int) (us:Int→Int) (n:Nat),vs=[.ref p,.int b]∧RoomAt K H p sh pl ru ls ads du seq us n∧b∈seq∧Q .non H
theorem ZhL {f:Addr} {fd:FuncData} (F:Fun K "need" "Room.need" Zbs f fd) (T:Txt K mg) (M_Room_has:MDef P w K mg base (clsOf K "Room") "has" 1 ZaU (spHas K)):FnOk P w K mg base CX0 2 f fd ZaS (ZhK K):=by
  refine F.ok sc_Room_need (fun vs H Q E h=>?_) (fun cdv A outer st H vs Q E hr h=>?_)
  · obtain ⟨p,b,sh,pl,ru,ls,ads,du,seq,us,n,rfl,_⟩:=h
    rfl
  obtain ⟨p,b,sh,pl,ru,ls,ads,du,seq,us,n,rfl,R,hb,k⟩:=h
  have nd:=sc_Room_need.nd
  refine ⟨_,(Zi (ps_if (ZeC (Zbb (Zk M_Room_has hr.m T.cl_Room (pv 0) (pc (pv 1) Ze)))) (Zi ps_no) Zz)),?_⟩
  obtain ⟨dx,h1⟩:=R.ob
  refine ⟨_,rfl,p,dx,_,rfl,h1,fl_no ..,_,rfl,p,b,sh,pl,ru,ls,ads,du,seq,us,n,rfl,R,?_⟩
  rw [decide_eq_true hb]
  exact ⟨_,rfl,ifF rfl k⟩
end
section
variable {P:Program} {w:World} {K:PySem.W.Frag} {mg:Str→Option Value} {base:Heap}
def ZiA (K:PySem.W.Frag):Sp:=fun vs H Q _=>∃ (p m:Addr) (ms:List Int) (sh pl:Int) (ru:Str) (ls:Addr) (ads:List Addr) (du:Addr) (seq:List Int) (us:Int→Int) (n:Nat),vs=[.ref p,.ref m]∧RoomAt K H p sh pl ru ls ads du seq us n∧Tb K H∧H m=some (.lst (ms.map V.int))∧ms.length<64∧ms.Nodup∧(∀ b∈ms,b∈seq) ∧
  ∀ (D:Addr) (H':Hp) (os:List Int),H D=none→Same H H'→H' D=some (.lst (os.map V.int))→os.Perm ms→(ru = "few" → os.Pairwise (KLt us ms))→(ru ≠ "few" → os=ms)→Q (.ref D) H'
theorem Zgz {f tp cg:Addr} {fd:FuncData} (F:Fun K "going" "Room.going" Zaa f fd) (hfc:fd.code=.ref cg) (htp:tabOf K "Room" "going" = tp) (hch:PySem.W.codeHdIn K cg tp=true) (bm:BMod base mg) (T:Txt K mg):FnOk P w K mg base CX0 2 f fd ZbD (ZiA K):=by
  refine F.okC sc_Room_going (fun vs H Q E h=>?_) (fun cdv A outer st H vs Q E hcv hr h=>?_)
  · obtain ⟨p,m,ms,sh,pl,ru,ls,ads,du,seq,us,n,rfl,_⟩:=h
    rfl
  obtain ⟨p,m,ms,sh,pl,ru,ls,ads,du,seq,us,n,rfl,R,tb,hm,h64,hnd,hin,k⟩:=h
  have nd:=sc_Room_going.nd
  have hu:=hu_of hr
  have hc0:cdv=.ref cg:=hcv.symm.trans hfc
  refine ⟨_,(Zf (ps_if (ZJ op_eq (Zr (K:=K) rfl (pv 0) rfl) ZaT (ZF _)) (Zi (Zu (ZmL (X:=(cxOf CX0 P w K mg base ZcF "Room.going" (Zc Zaa) f cdv A outer st H E).nox) (K:=K) (P:=tp) (c0:=cg) rfl hr rfl rfl T.z_sorted (ZmK (osc:=(Zc Zaa)) (oN:=ZcF) (x := "board") (fr:=["self"]) (js:=[0]) (by decide +kernel) rfl rfl) hc0 hch bm rfl rfl rfl (fun _ _ _ _ _=>rfl) (pv 1) (fun _ _ _ _ _=>(ZkX (ZoR hr) (Zr (K:=K) rfl (pv 1) rfl) (pv 0) (fun _ _=>rfl)))))) Zz)
      (Zi (Zu (ZN (ZZ (K:=K) rfl) rfl T.z_list ZG (pc (pv 1) Ze))))),?_⟩
  obtain ⟨dx,h1⟩:=R.ob
  obtain ⟨kvs,h2,h3,h4⟩:=R.dc
  refine ⟨_,rfl,p,_,dx,_,_,rfl,h1,T.cl_Room,T.n_Room_rule,Zix ..,rfl,_,rfl,?_⟩
  refine Zbn (fun c=>?_) (fun c=>?_)
  · have c':ru = "few" := by injection c
    have tb':H tp=some (.tbl tpos tqual):=by
      have t:=tb
      unfold Tb at t
      rw [htp] at t
      exact t
    refine ⟨_,rfl,m,ms,us,rfl,SqL.of hm,h64,hnd,tb',fun z hz H2 sm=>?_,fun D H' os hD sm hl po so=>k D H' os hD sm hl po (fun _=>so) fun z=>absurd c' z⟩
    have v:=h4 z
    rw [if_pos (hin z hz)] at v
    exact ⟨_,rfl,p,_,dx,_,_,rfl,sm _ _ h1,T.cl_Room,T.n_Room_uses,Zfc ..,_,rfl,du,_,rfl,(by have q:=DGet.k (k:=Sum.inl z) (sm _ _ h2); rw [v] at q; exact q),rfl,rfl⟩
  · have c':¬ ru = "few" := fun z=>c (by rw [z])
    exact ⟨_,rfl,m,_,rfl,.inl (SqL.of hm),fun D hD=>k D _ ms hD (Zh hD _) Za (List.Perm.refl _) (fun z=>absurd z c') fun _=>rfl⟩
theorem ZgA {kvs:List (Key×V)} {k:Key} (j:Key):valV (dropK kvs k) j=if j=k then none else valV kvs j:=by
  induction kvs with
  | nil=>by_cases e:j=k <;> simp [dropK,valV,e]
  | cons q r ih =>
    by_cases e:q.1=k
    · rw [Zla e,ih]
      by_cases c:j=k
      · rw [if_pos c,if_pos c]
      · rw [if_neg c,if_neg c,Zaz (fun z=>c (z.symm.trans e))]
    · rw [Zlb e]
      by_cases c:q.1=j
      · rw [ZaH c,if_neg (fun z=>e (c.trans z)),ZaH c]
      · rw [Zaz c,ih,Zaz c]
theorem ZlB (kvs:List (Key×V)) (k:Key):(dropK kvs k).length≤kvs.length:=List.length_filter_le ..
def Zjz (K:PySem.W.Frag):Sp:=fun vs H Q _=>∃ (p:Addr) (b sh pl:Int) (ru:Str) (ls:Addr) (ads:List Addr) (du:Addr) (seq:List Int) (us:Int→Int) (n:Nat),vs=[.ref p,.int b]∧RoomAt K H p sh pl ru ls ads du seq us n∧b∈seq ∧
  ∀ H',RoomAt K H' p sh pl ru ls ads du (seq.erase b) us n→SR ads du H H'→Q .non H'
theorem ZhM {f:Addr} {fd:FuncData} (F:Fun K "drop" "Room.drop" Zbq f fd) (T:Txt K mg) (M_Room_need:MDef P w K mg base (clsOf K "Room") "need" 2 ZaS (ZhK K)) (M_Room_mates:MDef P w K mg base (clsOf K "Room") "mates" 2 Zal (ZdN K)):FnOk P w K mg base CX0 3 f fd Zbr (Zjz K):=by
  refine F.ok sc_Room_drop (fun vs H Q E h=>?_) (fun cdv A outer st H vs Q E hr h=>?_)
  · obtain ⟨p,b,sh,pl,ru,ls,ads,du,seq,us,n,rfl,_⟩:=h
    rfl
  obtain ⟨p,b,sh,pl,ru,ls,ads,du,seq,us,n,rfl,R,hb,k⟩:=h
  have nd:=sc_Room_drop.nd
  refine ⟨_,(Zf (Zw (Zk M_Room_need hr.m T.cl_Room (pv 0) (pc (pv 1) Ze)))
      (Zf (Zw (ZcW (K:=K) rfl (pe_bm PySem.F.plainAttrs_list PySem.F.slot_list_remove PySem.F.type_list_remove Zhs (Zk M_Room_mates hr.m T.cl_Room (pv 0) (pc (pv 1) Ze)) (pc (pv 1) Ze))))
      (Zi (Zw (Zjs (Zr (K:=K) rfl (pv 0) rfl) (pv 1) ⟨rfl,rfl,rfl,rfl⟩))))),?_⟩
  obtain ⟨dx,h1⟩:=R.ob
  obtain ⟨kvs,h2,h3,h4⟩:=R.dc
  obtain ⟨o1,o2,o3,o4,o5,o6⟩:=R.off
  refine ⟨_,rfl,p,dx,_,rfl,h1,fl_no ..,_,rfl,p,b,sh,pl,ru,ls,ads,du,seq,us,n,rfl,R,hb,?_⟩
  refine ⟨_,rfl,p,dx,_,rfl,h1,fl_no ..,_,rfl,p,b,sh,pl,ru,ls,ads,du,seq,us,n,rfl,R,fun s ad es hs had=>?_⟩
  have mad:ad∈ads:=List.mem_of_getElem? hs
  have hmem:b∈Zn sh (b % sh) seq:=mem_shelfS.mpr ⟨hb,rfl⟩
  refine ⟨.inl ⟨rfl,_,SqL.of had⟩,_,rfl,ad,_,b,rfl,rfl,had,hmem,?_⟩
  have S1:Shl (upd H ad (.lst (((Zn sh (b % sh) seq).erase b).map V.int))) ls ads sh (seq.erase b):=by
    refine R.st.put hs ?_ fun s' hs'=>?_
    · rw [Zba,es]
    · rw [Zba]
      exact List.erase_of_not_mem fun m=>hs' (by have:=(mem_shelfS.mp m).2; omega)
  have np:p≠ad:=fun z=>o2 (z ▸ mad)
  have nd':du≠ad:=fun z=>o5 (z ▸ mad)
  have h1':upd H ad (.lst (((Zn sh (b % sh) seq).erase b).map V.int)) p=some (.ins (clsOf K "Room") dx (flds sh pl ru ls du)):=by rw [Zb np]; exact h1
  have h2':upd H ad (.lst (((Zn sh (b % sh) seq).erase b).map V.int)) du=some (.dK kvs):=by rw [Zb nd']; exact h2
  refine ⟨_,rfl,p,_,dx,_,_,rfl,h1',T.cl_Room,T.n_Room_uses,Zfc ..,du,rfl,.inl ⟨_,.inl h2'⟩,_,rfl,kvs,Sum.inl b,_,h2',rfl,(by rw [h4 b,if_pos hb]),?_⟩
  refine k _ ⟨⟨dx,by rw [Zb o1]; exact h1'⟩,S1.other _ (Ne.symm o3) o5,⟨_,Za,⟨Nat.le_trans (ZlB _ _) h3.1,h3.2.drop b⟩,fun x=>?_⟩,R.nd.erase b,R.s0,R.s1⟩ fun x o e n1 n2=>?_
  · rw [ZgA,h4 x]
    by_cases c:x=b
    · subst c
      rw [if_pos rfl,if_neg (fun m=>((List.Nodup.mem_erase_iff R.nd).mp m).1 rfl)]
    · rw [if_neg (fun z=>c (Sum.inl.inj z))]
      by_cases m:x∈seq
      · rw [if_pos m,if_pos ((List.Nodup.mem_erase_iff R.nd).mpr ⟨c,m⟩)]
      · rw [if_neg m,if_neg (fun z=>m (List.mem_of_mem_erase z))]
  · rw [Zb n1,Zb (fun z:x=ad=>n2 (z ▸ mad))]
    exact e
def bump (us:Int→Int) (b:Int):Int→Int:=fun x=>if x=b then us b+1 else us x
def spUse (K:PySem.W.Frag):Sp:=fun vs H Q _=>∃ (p:Addr) (b sh pl:Int) (ru:Str) (ls:Addr) (ads:List Addr) (du:Addr) (seq:List Int) (us:Int→Int) (n:Nat),vs=[.ref p,.int b]∧RoomAt K H p sh pl ru ls ads du seq us n∧n≤900∧b∈seq∧seq.length≤900 ∧
  ∀ H',RoomAt K H' p sh pl ru ls ads du (if ru = "old" then seq.erase b++[b] else seq) (bump us b) (n+1)→SR ads du H H'→Q .non H'
theorem ZiB {f:Addr} {fd:FuncData} (F:Fun K "use" "Room.use" ZbW f fd) (T:Txt K mg) (M_Room_need:MDef P w K mg base (clsOf K "Room") "need" 2 ZaS (ZhK K)) (M_Room_mates:MDef P w K mg base (clsOf K "Room") "mates" 2 Zal (ZdN K)):FnOk P w K mg base CX0 3 f fd ZbX (spUse K):=by
  refine F.ok sc_Room_use (fun vs H Q E h=>?_) (fun cdv A outer st H vs Q E hr h=>?_)
  · obtain ⟨p,b,sh,pl,ru,ls,ads,du,seq,us,n,rfl,_⟩:=h
    rfl
  obtain ⟨p,b,sh,pl,ru,ls,ads,du,seq,us,n,rfl,R,hn,hb,hsl,k⟩:=h
  have nd:=sc_Room_use.nd
  have hu:=hu_of hr
  refine ⟨_,(Zf (Zw (Zk M_Room_need hr.m T.cl_Room (pv 0) (pc (pv 1) Ze)))
      (Zf (ZnT hu (Zr (K:=K) rfl (pv 0) rfl) (pv 1) Zj ZoC (fun _ _ _=>rfl))
      (Zi (ps_if (ZJ op_eq (Zr (K:=K) rfl (pv 0) rfl) ZaT (ZF _)) (Zf (pst 2 nd (Zk M_Room_mates hr.m T.cl_Room (pv 0) (pc (pv 1) Ze)))
      (Zf (Zw (ZcW (K:=K) rfl (pe_bm PySem.F.plainAttrs_list PySem.F.slot_list_remove PySem.F.type_list_remove Zhs (pv 2) (pc (pv 1) Ze))))
      (Zi (Zw (ZcW (K:=K) rfl (pe_bm PySem.F.plainAttrs_list PySem.F.slot_list_append PySem.F.type_list_append ZbC (pv 2) (pc (pv 1) Ze))))))) Zz)))),?_⟩
  obtain ⟨dx,h1⟩:=R.ob
  obtain ⟨kvs,h2,h3,h4⟩:=R.dc
  obtain ⟨o1,o2,o3,o4,o5,o6⟩:=R.off
  refine ⟨_,rfl,p,dx,_,rfl,h1,fl_no ..,_,rfl,p,b,sh,pl,ru,ls,ads,du,seq,us,n,rfl,R,hb,?_⟩
  refine ⟨_,rfl,p,_,dx,_,_,rfl,h1,T.cl_Room,T.n_Room_uses,Zfc ..,_,rfl,du,_,rfl,(by have q:=DGet.k (k:=Sum.inl b) h2; rw [h4 b,if_pos hb] at q; exact q),_,_,rfl,rfl,_,DPut.k (k:=Sum.inl b) h2 (Zv (by omega)),?_⟩
  have R1:RoomAt K (upd H du (.dK (putK kvs (Sum.inl b) (.int (us b+1))))) p sh pl ru ls ads du seq (bump us b) (n+1):=by
    refine ⟨⟨dx,by rw [Zb o1]; exact h1⟩,R.st.other _ (Ne.symm o3) o5,⟨_,Za,⟨Nat.le_trans (ZcC ..) (by have:=h3.1; omega),h3.2.put b _⟩,fun x=>?_⟩,R.nd,R.s0,R.s1⟩
    rw [Zer]
    unfold bump
    by_cases c:x=b
    · subst c
      rw [if_pos rfl,if_pos hb,if_pos rfl]
    · rw [if_neg (fun z=>c (Sum.inl.inj z)),h4 x,if_neg c]
  have s1:SR ads du H (upd H du (.dK (putK kvs (Sum.inl b) (.int (us b+1))))):=fun x o e n1 n2=>by rw [Zb n1]; exact e
  generalize upd H du (.dK (putK kvs (Sum.inl b) (.int (us b+1))))=H1 at *
  obtain ⟨dx1,g1⟩:=R1.ob
  refine ⟨_,rfl,p,_,dx1,_,_,rfl,g1,T.cl_Room,T.n_Room_rule,Zix ..,rfl,_,rfl,?_⟩
  refine Zbn (fun c=>?_) (fun c=>?_)
  · have c':ru = "old" := by injection c
    rw [if_pos c'] at k
    refine ⟨_,rfl,p,dx1,_,rfl,g1,fl_no ..,_,rfl,p,b,sh,pl,ru,ls,ads,du,seq,_,_,rfl,R1,fun s ad es hs had=>?_⟩
    have mad:ad∈ads:=List.mem_of_getElem? hs
    have hmem:b∈Zn sh (b % sh) seq:=mem_shelfS.mpr ⟨hb,rfl⟩
    refine ⟨_,rfl,.inl ⟨rfl,_,SqL.of had⟩,_,rfl,ad,_,b,rfl,rfl,had,hmem,?_⟩
    have ll:((Zn sh (b % sh) seq).erase b).length≤900:=Nat.le_trans List.length_erase_le (Nat.le_trans (List.length_filter_le ..) hsl)
    refine ⟨_,rfl,.inl ⟨rfl,_,SqL.of Za⟩,_,rfl,ad,_,_,rfl,rfl,Za,Zv (by rw [List.length_map]; omega),?_⟩
    rw [ZdK]
    have e1:(((Zn sh (b % sh) seq).erase b).map V.int++[V.int b])=((Zn sh (b % sh) seq).erase b++[b]).map V.int:=by rw [List.map_append]; rfl
    have S2:Shl (upd H1 ad (.lst (((Zn sh (b % sh) seq).erase b++[b]).map V.int))) ls ads sh (seq.erase b++[b]):=by
      refine R1.st.put hs ?_ fun s' hs'=>?_
      · rw [Zcy,if_pos es.symm,Zba,es]
      · rw [Zcy,if_neg (by omega),Zba]
        exact List.erase_of_not_mem fun m=>hs' (by have:=(mem_shelfS.mp m).2; omega)
    have np:p≠ad:=fun z=>o2 (z ▸ mad)
    have ndu:du≠ad:=fun z=>o5 (z ▸ mad)
    obtain ⟨kvs1,g2,g3,g4⟩:=R1.dc
    have hme:∀ x,x∈seq.erase b++[b]↔x∈seq:=fun x=>by
      rw [List.mem_append,List.mem_singleton,List.Nodup.mem_erase_iff R.nd]
      constructor
      · rintro (⟨_,m⟩ | rfl)
        · exact m
        · exact hb
      · intro m
        by_cases z:x=b
        · exact .inr z
        · exact .inl ⟨z,m⟩
    rw [e1]
    refine k _ ⟨⟨dx1,by rw [Zb np]; exact g1⟩,S2,⟨kvs1,by rw [Zb ndu]; exact g2,g3,fun x=>?_⟩,?_,R.s0,R.s1⟩ fun x o e n1 n2=>?_
    · rw [g4 x]
      by_cases m:x∈seq
      · rw [if_pos m,if_pos ((hme x).mpr m)]
      · rw [if_neg m,if_neg (fun z=>m ((hme x).mp z))]
    · refine ZdL (R.nd.erase b) fun m=>((List.Nodup.mem_erase_iff R.nd).mp m).1 rfl
    · rw [Zb (fun z:x=ad=>n2 (z ▸ mad))]
      exact s1 _ _ e n1 n2
  · have c':¬ ru = "old" := fun z=>c (by rw [z])
    rw [if_neg c'] at k
    exact k _ R1 s1
end
def lessO (seq:List Int):Option Int→List Int
  | none=>seq
  | some g=>seq.erase g
def goneP (ru:Str) (us:Int→Int) (pl:Int) (ms:List Int) (gone:Option Int):Prop :=
  ((ms.length:Int)<pl→gone=none)∧(¬ (ms.length:Int)<pl→∃ (g:Int) (rest:List Int),gone=some g∧(g :: rest).Perm ms∧(ru = "few" → (g :: rest).Pairwise (KLt us ms))∧(ru ≠ "few" → g :: rest=ms))
theorem less_sub {seq:List Int} {g:Option Int}:(lessO seq g).Sublist seq:=by
  cases g with
  | none=>exact List.Sublist.refl _
  | some g=>exact List.erase_sublist
section
variable {P:Program} {w:World} {K:PySem.W.Frag} {mg:Str→Option Value} {base:Heap}
def ZjA (K:PySem.W.Frag):Sp:=fun vs H Q _=>∃ (p dx:Addr) (sh pl:Int) (ru:Str),vs=[.ref p,.int sh,.int pl,.str ru]∧H p=some (.ins (clsOf K "Room") dx [])∧1≤sh∧sh≤64 ∧
  ∀ (ls:Addr) (ads:List Addr) (du:Addr) (H':Hp),RoomAt K H' p sh pl ru ls ads du [] (fun _=>0) 0→H ls=none→H du=none→(∀ ad∈ads,H ad=none)→(∀ b o,H b=some o→b≠p→H' b=some o)→Q .non H'
theorem ZhN {f:Addr} {fd:FuncData} (F:Fun K "__init__" "Room.__init__" ZaR f fd) (T:Txt K mg):FnOk P w K mg base CX0 1 f fd Zbp (ZjA K):=by
  refine F.ok sc_Room_init (fun vs H Q E h=>?_) (fun cdv A outer st H vs Q E hr h=>?_)
  · obtain ⟨p,dx,sh,pl,ru,rfl,_⟩:=h
    rfl
  obtain ⟨p,dx,sh,pl,ru,rfl,hp,hs0,hs1,k⟩:=h
  have nd:=sc_Room_init.nd
  refine ⟨_,(Zf (Zbm (pv 0) (pv 1) rfl)
      (Zf (Zbm (pv 0) (pv 2) rfl)
      (Zf (Zbm (pv 0) (pv 3) rfl)
      (Zf (Zbm (pv 0) (Zbz (ZK (osc:=(Zc ZaR)) (oN:=ZeU) (N:=["number"]) (own:=1) (js:=[]) (by decide +kernel) rfl rfl) rfl (Zcb rfl T.z_range (pc (pv 1) Ze)) (fun _ _ _ _ _ _=>(pgn 0 (show List.Nodup (["number"]:List Str) by decide +kernel))) (fun _ _ _ _ _ _=>(ZbM Ze))) rfl)
      (Zi (Zbm (pv 0) Zes rfl)))))),?_⟩
  refine ⟨_,rfl,_,rfl,p,_,dx,_,rfl,hp,T.cl_Room,T.n_Room_shelves,(by show 0<1000; decide),?_⟩
  refine ⟨_,rfl,_,rfl,p,_,dx,_,rfl,Za,T.cl_Room,T.n_Room_places,(by show 1<1000; decide),?_⟩
  refine ⟨_,rfl,_,rfl,p,_,dx,_,rfl,Za,T.cl_Room,T.n_Room_rule,(by show 2<1000; decide),?_⟩
  have e3:upd (upd (upd H p (.ins (clsOf K "Room") dx (putF "shelves" (.int sh) []))) p (.ins (clsOf K "Room") dx (putF "places" (.int pl) (putF "shelves" (.int sh) [])))) p (.ins (clsOf K "Room") dx (putF "rule" (.str ru) (putF "places" (.int pl) (putF "shelves" (.int sh) [])))) p=some (.ins (clsOf K "Room") dx (putF "rule" (.str ru) (putF "places" (.int pl) (putF "shelves" (.int sh) [])))):=Za
  have o3:∀ b o,H b=some o→b≠p→upd (upd (upd H p (.ins (clsOf K "Room") dx (putF "shelves" (.int sh) []))) p (.ins (clsOf K "Room") dx (putF "places" (.int pl) (putF "shelves" (.int sh) [])))) p (.ins (clsOf K "Room") dx (putF "rule" (.str ru) (putF "places" (.int pl) (putF "shelves" (.int sh) [])))) b=some o:=fun b o e n=>by rw [Zb n,Zb n,Zb n]; exact e
  generalize upd (upd (upd H p (.ins (clsOf K "Room") dx (putF "shelves" (.int sh) []))) p (.ins (clsOf K "Room") dx (putF "places" (.int pl) (putF "shelves" (.int sh) [])))) p (.ins (clsOf K "Room") dx (putF "rule" (.str ru) (putF "places" (.int pl) (putF "shelves" (.int sh) []))))=H3 at *
  have f3:∀ b,H3 b=none→H b=none:=fun b e=>by
    cases q:H b with
    | none=>rfl
    | some o =>
      by_cases z:b=p
      · rw [z,e3] at e; cases e
      · rw [o3 b o q z] at e; cases e
  refine ⟨_,rfl,sh,rfl,by omega,by omega,fun ls hls=>?_⟩
  refine Zcs (lo:=0) (n:=sh.toNat) (l:=ls) (fun j ys σ G=>∃ (v0:Option V) (ads:List Addr),σ=[v0]∧ys=ads.map V.ref∧ads.length=j∧ads.Nodup∧ls∉ads∧G ls=some (.lst ys)∧(∀ ad∈ads,H3 ad=none∧G ad=some (.lst []))∧Same H3 G)
    ⟨none,[],rfl,rfl,rfl,List.nodup_nil,by simp,Za,by simp,Zh hls _⟩ ?_ ?_
  · rintro j ys σ G hj hy ⟨v0,ads,rfl,rfl,hlen,hnd,hoff,g1,g2,s1⟩
    refine ⟨(by show 0≤sizeLine; decide),fun q hq=>?_⟩
    have nq:ls≠q:=Zd g1 hq
    have niq:q∉ads:=fun m=>by rw [(g2 q m).2] at hq; cases hq
    refine CNx.of (Nat.le_trans (by omega:sh.toNat≤64) (by decide)) hj hy (by rw [Zb nq]; exact g1) ⟨_,ads++[q],rfl,by rw [List.map_append]; rfl,by rw [List.length_append,hlen]; rfl,ZdL hnd niq,?_,Za,fun ad m=>?_,?_⟩
    · intro m
      rcases List.mem_append.mp m with m | m
      · exact hoff m
      · exact nq (by simpa using m)
    · rcases List.mem_append.mp m with m | m
      · rw [Zb (fun z:ad=ls=>hoff (z ▸ m)),Zb (fun z:ad=q=>niq (z ▸ m))]
        exact g2 ad m
      · have e:ad=q:=by simpa using m
        subst e
        rw [Zb (Ne.symm nq)]
        exact ⟨s1.free hq,Za⟩
    · intro e o y
      rw [Zb (Zd y hls),Zb (Zd (s1 _ _ y) hq)]
      exact s1 _ _ y
  rintro ys σ G hy ⟨v0,ads,rfl,rfl,hlen,hnd,hoff,g1,g2,s1⟩
  have gp:=s1 _ _ e3
  refine ⟨_,rfl,p,_,dx,_,rfl,gp,T.cl_Room,T.n_Room_standing,(by show 3<1000; decide),?_⟩
  intro du hdu
  have nls:ls≠p:=fun z=>by rw [z,e3] at hls; cases hls
  have nas:∀ ad∈ads,ad≠p:=fun ad m z=>by have q:=(g2 ad m).1; rw [z,e3] at q; cases q
  have npd:p≠du:=Zd (Za (H:=G) (a:=p) (o:=.ins (clsOf K "Room") dx (putF "standing" (.ref ls) (putF "rule" (.str ru) (putF "places" (.int pl) (putF "shelves" (.int sh) [])))))) hdu
  have gl:ls≠du:=fun z=>by rw [← z,Zb nls,g1] at hdu; cases hdu
  have ga:du∉ads:=fun m=>by rw [Zb (Ne.symm npd),(g2 du m).2] at hdu; cases hdu
  refine ⟨_,rfl,p,_,dx,_,rfl,(by rw [Zb npd]; exact Za),T.cl_Room,T.n_Room_uses,(by show 4<1000; decide),?_⟩
  have hduH3:H3 du=none:=by
    rw [Zb (Ne.symm npd)] at hdu
    exact s1.free hdu
  refine k ls ads du _ ⟨⟨dx,Za⟩,⟨?_,hlen,hnd,hoff,fun i ad e=>?_⟩,⟨[],?_,⟨Nat.le_refl _,KI.nil⟩,fun b=>by simp [valV]⟩,List.nodup_nil,hs0,hs1⟩ (f3 _ hls) (f3 _ hduH3) (fun ad m=>f3 _ (g2 ad m).1) fun b o e n=>?_
  · rw [Zb nls,Zb gl,Zb nls]
    exact g1
  · have m:=List.mem_of_getElem? e
    rw [Zb (nas ad m),Zb (fun z:ad=du=>ga (z ▸ m)),Zb (nas ad m)]
    exact (g2 ad m).2
  · rw [Zb (Ne.symm npd)]
    exact Za
  · have q:=s1 _ _ (o3 b o e n)
    have nb:b≠du:=fun z=>by
      rw [← z,Zb n,q] at hdu
      cases hdu
    rw [Zb n,Zb nb,Zb n]
    exact q
def zero (us:Int→Int) (b:Int):Int→Int:=fun x=>if x=b then 0 else us x
def ZgB (K:PySem.W.Frag):Sp:=fun vs H Q _=>∃ (p:Addr) (b sh pl:Int) (ru:Str) (ls:Addr) (ads:List Addr) (du:Addr) (seq:List Int) (us:Int→Int) (n:Nat),vs=[.ref p,.int b]∧RoomAt K H p sh pl ru ls ads du seq us n∧Tb K H∧n≤900∧b∉seq∧1≤pl∧(Zn sh (b % sh) seq).length<64 ∧
  ∀ (gone:Option Int) (H':Hp),goneP ru us pl (Zn sh (b % sh) seq) gone→RoomAt K H' p sh pl ru ls ads du (lessO seq gone++[b]) (zero us b) (n+1)→SR ads du H H'→Q (optV gone) H'
def Zeu (K:PySem.W.Frag):Sp:=fun vs H Q _=>∃ (p:Addr) (b sh pl:Int) (ru:Str) (ls:Addr) (ads:List Addr) (du:Addr) (seq:List Int) (us:Int→Int) (n:Nat),vs=[.ref p,.int b]∧RoomAt K H p sh pl ru ls ads du seq us n∧Tb K H∧1≤pl∧(Zn sh (b % sh) seq).length<64 ∧
  ∀ (gone:Option Int) (H':Hp),goneP ru us pl (Zn sh (b % sh) seq) gone→Same H H'→Q (optV gone) H'
theorem ZdA {f:Addr} {fd:FuncData} (F:Fun K "leaver_for" "Room.leaver_for" ZO f fd) (T:Txt K mg) (M_Room_mates:MDef P w K mg base (clsOf K "Room") "mates" 2 Zal (ZdN K)) (M_Room_going:MDef P w K mg base (clsOf K "Room") "going" 2 ZbD (ZiA K)):FnOk P w K mg base CX0 3 f fd ZP (Zeu K):=by
  refine F.ok sc_Room_leaver_for (fun vs H Q E h=>?_) (fun cdv A outer st H vs Q E hr h=>?_)
  · obtain ⟨p,b,sh,pl,ru,ls,ads,du,seq,us,n,rfl,_⟩:=h
    rfl
  obtain ⟨p,b,sh,pl,ru,ls,ads,du,seq,us,n,rfl,R,tb,hpl,h64,k⟩:=h
  have nd:=sc_Room_leaver_for.nd
  have hu:=hu_of hr
  refine ⟨_,(Zf (pst 2 nd (Zk M_Room_mates hr.m T.cl_Room (pv 0) (pc (pv 1) Ze)))
      (Zf (ps_if (ZJ op_lt (Zq (Zy (K:=K) rfl) rfl T.z_len PySem.boot_len (pc (pv 2) Ze)) (Zr (K:=K) rfl (pv 0) rfl) (ZF _)) (Zi (Zu Zkx)) Zz)
      (Zi (Zu (pe_ix (Zt (K:=K) rfl) (Zk M_Room_going hr.m T.cl_Room (pv 0) (pc (pv 2) Ze)) Zj (fun _ _=>rfl)))))),?_⟩
  obtain ⟨dx,h1⟩:=R.ob
  refine ⟨_,rfl,p,dx,_,rfl,h1,fl_no ..,_,rfl,p,b,sh,pl,ru,ls,ads,du,seq,us,n,rfl,R,fun s ad es hs had=>?_⟩
  have hnd:(Zn sh (b % sh) seq).Nodup:=R.nd.sublist List.filter_sublist
  refine ⟨_,rfl,ad,_,rfl,.inl (SqL.of had),_,rfl,p,_,dx,_,_,rfl,h1,T.cl_Room,T.n_Room_places,ZlA ..,_,_,rfl,rfl,_,rfl,?_⟩
  rw [List.length_map]
  refine Zbn (fun c=>?_) (fun c=>?_)
  · exact k none H ⟨fun _=>rfl,fun z=>absurd z (by omega)⟩ (Same.refl _)
  · refine ⟨_,rfl,p,dx,_,rfl,h1,fl_no ..,_,rfl,p,ad,Zn sh (b % sh) seq,sh,pl,ru,ls,ads,du,seq,us,n,rfl,R,tb,had,h64,hnd,(fun x m=>(mem_shelfS.mp m).1),fun D H' os hD sm hl po s1 s2=>?_⟩
    have lo:=po.length_eq
    match os,hl,po,s1,s2,lo with
    | [],_,_,_,_,lo=>exact absurd lo (by simp; omega)
    | g :: rest,hl,po,s1,s2,lo =>
      refine ⟨D,_,_,_,rfl,rfl,SqL.of hl,atI0,?_⟩
      exact k (some g) H' ⟨fun z=>absurd c (by omega),fun _=>⟨g,rest,rfl,po,s1,s2⟩⟩ sm
theorem ZgC {f:Addr} {fd:FuncData} (F:Fun K "bring" "Room.bring" ZaV f fd) (T:Txt K mg) (M_Room_has:MDef P w K mg base (clsOf K "Room") "has" 1 ZaU (spHas K)) (M_Room_leaver_for:MDef P w K mg base (clsOf K "Room") "leaver_for" 3 ZP (Zeu K)) (M_Room_mates:MDef P w K mg base (clsOf K "Room") "mates" 2 Zal (ZdN K)) (M_Room_drop:MDef P w K mg base (clsOf K "Room") "drop" 3 Zbr (Zjz K)):FnOk P w K mg base CX0 4 f fd ZaW (ZgB K):=by
  refine F.ok sc_Room_bring (fun vs H Q E h=>?_) (fun cdv A outer st H vs Q E hr h=>?_)
  · obtain ⟨p,b,sh,pl,ru,ls,ads,du,seq,us,n,rfl,_⟩:=h
    rfl
  obtain ⟨p,b,sh,pl,ru,ls,ads,du,seq,us,n,rfl,R,tb,hn,hb,hpl,h64,k⟩:=h
  have nd:=sc_Room_bring.nd
  have hu:=hu_of hr
  refine ⟨_,(Zf (ps_if (Zbb (Zk M_Room_has hr.m T.cl_Room (pv 0) (pc (pv 1) Ze))) (Zi ps_no) Zz)
      (Zf (pst 2 nd (Zk M_Room_leaver_for hr.m T.cl_Room (pv 0) (pc (pv 1) Ze)))
      (Zf (ps_if (ZgY (Zkz (pv 2))) (Zi (Zw (Zk M_Room_drop hr.m T.cl_Room (pv 0) (pc (pv 2) Ze)))) Zz)
      (Zf (Zw (ZcW (K:=K) rfl (pe_bm PySem.F.plainAttrs_list PySem.F.slot_list_append PySem.F.type_list_append ZbC (Zk M_Room_mates hr.m T.cl_Room (pv 0) (pc (pv 1) Ze)) (pc (pv 1) Ze))))
      (Zf (ZkY hu (Zr (K:=K) rfl (pv 0) rfl) (pv 1) Zj rfl)
      (Zi (Zu (pv 2)))))))),?_⟩
  obtain ⟨dx,h1⟩:=R.ob
  refine ⟨_,rfl,p,dx,_,rfl,h1,fl_no ..,_,rfl,p,b,sh,pl,ru,ls,ads,du,seq,us,n,rfl,R,?_⟩
  rw [decide_eq_false hb]
  refine ⟨_,rfl,ifF rfl ?_⟩
  refine ⟨_,rfl,p,dx,_,rfl,h1,fl_no ..,_,rfl,p,b,sh,pl,ru,ls,ads,du,seq,us,n,rfl,R,tb,hpl,h64,fun gone H1 gp sm=>?_⟩
  refine gN ?_
  dsimp only
  have R0:=R.same sm
  have hnd:(Zn sh (b % sh) seq).Nodup:=R.nd.sublist List.filter_sublist
  refine cpI (fun σ G=>σ=[some (.ref p),some (.int b),some (optV gone)]∧RoomAt K G p sh pl ru ls ads du (lessO seq gone) us n∧SR ads du H G) (fun D' _ k'=>?_) ?_
  · match gone,gp with
    | none,gp=>exact ⟨_,rfl,_,rfl,ifF rfl (k' _ _ ⟨rfl,R0,SR.of sm⟩)⟩
    | some g,gp =>
      have hg:g∈Zn sh (b % sh) seq:=by
        by_cases c:((Zn sh (b % sh) seq).length:Int)<pl
        · exact absurd (gp.1 c) (by simp)
        · obtain ⟨g',rest,e,po,_⟩:=gp.2 c
          injection e with e
          subst e
          exact po.mem_iff.mp List.mem_cons_self
      obtain ⟨dx',h1'⟩:=R0.ob
      exact ⟨_,rfl,_,rfl,ifT rfl ⟨_,rfl,p,dx',_,rfl,h1',fl_no ..,_,rfl,p,g,sh,pl,ru,ls,ads,du,seq,us,n,rfl,R0,(mem_shelfS.mp hg).1,fun H2 R2 s3=>k' _ _ ⟨rfl,R2,(SR.of sm).trans s3⟩⟩⟩
  rintro _ G ⟨rfl,R1,s1⟩
  obtain ⟨dx1,g1⟩:=R1.ob
  obtain ⟨kvs,g2,g3,g4⟩:=R1.dc
  obtain ⟨o1,o2,o3,o4,o5,o6⟩:=R1.off
  refine ⟨_,rfl,p,dx1,_,rfl,g1,fl_no ..,_,rfl,p,b,sh,pl,ru,ls,ads,du,lessO seq gone,us,n,rfl,R1,fun s ad es hs had0=>?_⟩
  have mad:ad∈ads:=List.mem_of_getElem? hs
  have had1:=R1.st.at_ s ad hs
  have ll:(Zn sh s (lessO seq gone)).length≤64:=by
    have q:(Zn sh s (lessO seq gone)).Sublist (Zn sh s seq):=List.Sublist.filter _ (less_sub (g:=gone))
    have q2:=q.length_le
    rw [es] at q2 ⊢
    omega
  refine ⟨.inl ⟨rfl,_,SqL.of had1⟩,_,rfl,ad,_,_,rfl,rfl,had1,Zv (by rw [List.length_map]; omega),?_⟩
  have nb:b∉lessO seq gone:=fun m=>hb (less_sub.subset m)
  have e1:((Zn sh s (lessO seq gone)).map V.int++[V.int b])=(Zn sh s (lessO seq gone)++[b]).map V.int:=by rw [List.map_append]; rfl
  rw [e1]
  have S2:Shl (upd G ad (.lst ((Zn sh s (lessO seq gone)++[b]).map V.int))) ls ads sh (lessO seq gone++[b]):=by
    refine R1.st.put hs ?_ fun s' hs'=>?_
    · rw [Zcy,if_pos es.symm]
    · rw [Zcy,if_neg (by omega)]
  have np:p≠ad:=fun z=>o2 (z ▸ mad)
  have ndu:du≠ad:=fun z=>o5 (z ▸ mad)
  have g1':upd G ad (.lst ((Zn sh s (lessO seq gone)++[b]).map V.int)) p=some (.ins (clsOf K "Room") dx1 (flds sh pl ru ls du)):=by rw [Zb np]; exact g1
  have g2':upd G ad (.lst ((Zn sh s (lessO seq gone)++[b]).map V.int)) du=some (.dK kvs):=by rw [Zb ndu]; exact g2
  refine ⟨_,rfl,p,_,dx1,_,_,rfl,g1',T.cl_Room,T.n_Room_uses,Zfc ..,_,rfl,du,_,rfl,DPut.k (k:=Sum.inl b) g2' (Zv (by omega)),?_⟩
  refine ⟨_,rfl,k gone _ gp ⟨⟨dx1,by rw [Zb o1]; exact g1'⟩,S2.other _ (Ne.symm o3) o5,⟨_,Za,⟨Nat.le_trans (ZcC ..) (by have:=g3.1; omega),g3.2.put b _⟩,fun x=>?_⟩,ZdL R1.nd nb,R.s0,R.s1⟩ fun x o e n1 n2=>?_⟩
  · rw [Zer]
    unfold zero
    by_cases c:x=b
    · subst c
      rw [if_pos rfl,if_pos (List.mem_append_right _ (List.mem_singleton.mpr rfl)),if_pos rfl]
    · rw [if_neg (fun z=>c (Sum.inl.inj z)),g4 x,if_neg c]
      by_cases m:x∈lessO seq gone
      · rw [if_pos m,if_pos (List.mem_append_left _ m)]
      · rw [if_neg m,if_neg (fun z=>(List.mem_append.mp z).elim m fun q=>c (List.mem_singleton.mp q))]
  · rw [Zb n1,Zb (fun z:x=ad=>n2 (z ▸ mad))]
    exact s1 _ _ e n1 n2
end
theorem ZlC {kvs:List (Key×V)} {seq:List Int} (h:KI kvs) (nd:seq.Nodup) (e:∀ b,(valV kvs (Sum.inl b:Key)).isSome=true↔b∈seq):kvs.length=seq.length:=by
  obtain ⟨ks,h4,h5⟩:=h
  have per:ks.Perm seq:=by
    refine (List.perm_ext_iff_of_nodup h5 nd).mpr fun b=>?_
    rw [← e b,Zod,h4,List.mem_map]
    constructor
    · intro m
      exact ⟨b,m,rfl⟩
    · rintro ⟨x,hx,q⟩
      rw [← Sum.inl.inj q]; exact hx
  have l:=congrArg List.length h4
  rw [List.length_map,List.length_map] at l
  rw [l,per.length_eq]
theorem RoomAt.norm {K:PySem.W.Frag} {H:Hp} {p:Addr} {sh pl:Int} {ru:Str} {ls:Addr} {ads:List Addr} {du:Addr} {seq:List Int} {us:Int→Int} {n:Nat} (R:RoomAt K H p sh pl ru ls ads du seq us n):RoomAt K H p sh pl ru ls ads du seq us seq.length:=by
  obtain ⟨kvs,h2,⟨h3,h5⟩,h4⟩:=R.dc
  refine ⟨R.ob,R.st,⟨kvs,h2,⟨Nat.le_of_eq (ZlC h5 R.nd fun b=>?_),h5⟩,h4⟩,R.nd,R.s0,R.s1⟩
  rw [h4 b]
  by_cases c:b∈seq
  · simp [c]
  · simp [c]
structure SA where
  sp:Addr
  rp:Addr
  ls:Addr
  ads:List Addr
  du:Addr
  dh:Addr
  df:Addr
structure Cf where
  sh:Int
  pl:Int
  ru:Str
  late:Bool
def sflds (rp:Addr) (late:Bool) (dh df:Addr):List (Str×V):=putF "fresh" (.ref df) (putF "held" (.ref dh) (putF "late" (.bl late) (putF "room" (.ref rp) [])))
theorem ZmU (rp:Addr) (late:Bool) (dh df:Addr):(sflds rp late dh df).lookup ("fresh" : Str)=some (.ref df):=by
  unfold sflds; rw [Zg,if_pos rfl]
theorem ZiC (rp:Addr) (late:Bool) (dh df:Addr):(sflds rp late dh df).lookup ("held" : Str)=some (.ref dh):=by
  unfold sflds; rw [Zg,if_neg (by decide +kernel),Zg,if_pos rfl]
theorem Zde (rp:Addr) (late:Bool) (dh df:Addr):(sflds rp late dh df).lookup ("room" : Str)=some (.ref rp):=by
  unfold sflds; rw [Zg,if_neg (by decide +kernel),Zg,if_neg (by decide +kernel),Zg,if_neg (by decide +kernel),Zg,if_pos rfl]
theorem sf_no (rp:Addr) (late:Bool) (dh df:Addr) {m:Str} (h1:¬ m = "fresh" := by decide +kernel) (h2:¬ m = "held" := by decide +kernel) (h3:¬ m = "late" := by decide +kernel) (h4:¬ m = "room" := by decide +kernel):(sflds rp late dh df).lookup m=none:=by
  unfold sflds
  rw [Zg,if_neg h1,Zg,if_neg h2,Zg,if_neg h3,Zg,if_neg h4]
  rfl
structure StoreAt (K:PySem.W.Frag) (H:Hp) (a:SA) (c:Cf) (zs:List V) (M:Addr→Prop) (seq:List Int) (us:Int→Int):Prop where
  ob:∃ dx,H a.sp=some (.ins (clsOf K "Store") dx (sflds a.rp c.late a.dh a.df))
  room:RoomAt K H a.rp c.sh c.pl c.ru a.ls a.ads a.du seq us seq.length
  held:∃ kvs,H a.dh=some (.dK kvs)∧KI kvs∧(∀ b,b∉seq→valV kvs (Sum.inl b:Key)=none)∧∀ b,b∈seq→∃ l,valV kvs (Sum.inl b:Key)=some (.ref l)∧H l=some (.lst zs)∧¬ M l
  fresh:H a.df=some (.dK [])
  n1:a.du≠a.dh
  n2:a.df≠a.dh
  n3:a.df≠a.du
def SRs (a:SA) (H H':Hp):Prop:=∀ x o,H x=some o→x≠a.du→x≠a.dh→x∉a.ads→H' x=some o
section
variable {K:PySem.W.Frag} {H H':Hp} {a:SA} {c:Cf} {zs:List V} {M:Addr→Prop} {seq:List Int} {us:Int→Int}
theorem SRs.room (s:SR a.ads a.du H H'):SRs a H H':=fun x o e n1 _ n3=>s x o e n1 n3
theorem StoreAt.same (S:StoreAt K H a c zs M seq us) (s:Same H H'):StoreAt K H' a c zs M seq us:=by
  obtain ⟨dx,h1⟩:=S.ob
  obtain ⟨kvs,h2,h3,h4,h5⟩:=S.held
  exact ⟨⟨dx,s _ _ h1⟩,S.room.same s,⟨kvs,s _ _ h2,h3,h4,fun b hb=>by obtain ⟨l,e1,e2,e3⟩:=h5 b hb; exact ⟨l,e1,s _ _ e2,e3⟩⟩,s _ _ S.fresh,S.n1,S.n2,S.n3⟩
theorem StoreAt.mono {M':Addr→Prop} (S:StoreAt K H a c zs M seq us) (h:∀ x xs,H x=some (.lst xs)→M' x→M x):StoreAt K H a c zs M' seq us:=by
  obtain ⟨kvs,h2,h3,h4,h5⟩:=S.held
  exact ⟨S.ob,S.room,⟨kvs,h2,h3,h4,fun b hb=>by obtain ⟨l,e1,e2,e3⟩:=h5 b hb; exact ⟨l,e1,e2,fun z=>e3 (h _ _ e2 z)⟩⟩,S.fresh,S.n1,S.n2,S.n3⟩
theorem StoreAt.deed {seq':List Int} {us':Int→Int} {n:Nat} (S:StoreAt K H a c zs M seq us) (hM:∀ x∈a.ads,M x) (R:RoomAt K H' a.rp c.sh c.pl c.ru a.ls a.ads a.du seq' us' n) (s:SR a.ads a.du H H') (hs:∀ b,b∈seq'↔b∈seq):StoreAt K H' a c zs M seq' us':=by
  obtain ⟨dx,h1⟩:=S.ob
  obtain ⟨kvs,h2,h3,h4,h5⟩:=S.held
  have df:a.df∉a.ads:=fun m=>by obtain ⟨xs,e⟩:=S.room.st.one m; rw [S.fresh] at e; cases e
  have dh:a.dh∉a.ads:=fun m=>by obtain ⟨xs,e⟩:=S.room.st.one m; rw [h2] at e; cases e
  refine ⟨⟨dx,s.keep S.room h1 (fun _ z=>by cases z) (fun _ z=>by cases z)⟩,R.norm,⟨kvs,s _ _ h2 (Ne.symm S.n1) dh,h3,fun b hb=>h4 b fun m=>hb ((hs b).mpr m),fun b hb=>?_⟩,s _ _ S.fresh S.n3 df,S.n1,S.n2,S.n3⟩
  obtain ⟨l,e1,e2,e3⟩:=h5 b ((hs b).mp hb)
  refine ⟨l,e1,s _ _ e2 (fun z=>?_) (fun z=>e3 (hM _ z)),e3⟩
  obtain ⟨kv,g,_⟩:=S.room.dc
  rw [z,g] at e2; cases e2
end
section
variable {P:Program} {w:World} {K:PySem.W.Frag} {mg:Str→Option Value} {base:Heap}
def ZiD (K:PySem.W.Frag):Sp:=fun vs H Q _=>∃ (p dx tp:Addr) (sh pl:Int) (ru wr:Str),vs=[.ref p,.ref tp]∧H p=some (.ins (clsOf K "Store") dx [])∧SqT K H tp [.int sh,.int pl,.str ru,.str wr]∧1≤sh∧sh≤64 ∧
  ∀ (a:SA) (H':Hp),a.sp=p→(∀ zs M,StoreAt K H' a ⟨sh,pl,ru,decide (wr = "late")⟩ zs M [] (fun _=>0))→H a.rp=none→H a.ls=none→H a.du=none→H a.dh=none→H a.df=none→(∀ ad∈a.ads,H ad=none)→(∀ b o,H b=some o→b≠p→H' b=some o)→Q .non H'
theorem ZgD {f:Addr} {fd:FuncData} (F:Fun K "__init__" "Store.__init__" ZaY f fd) (T:Txt K mg) (K_Room:KDef P w K mg base (clsOf K "Room") "Room" 1 Zbp (ZjA K)):FnOk P w K mg base CX0 3 f fd ZbE (ZiD K):=by
  refine F.ok sc_Store_init (fun vs H Q E h=>?_) (fun cdv A outer st H vs Q E hr h=>?_)
  · obtain ⟨p,dx,tp,sh,pl,ru,wr,rfl,_⟩:=h
    rfl
  obtain ⟨p,dx,tp,sh,pl,ru,wr,rfl,hp,htp,s0,s1,k⟩:=h
  have nd:=sc_Store_init.nd
  refine ⟨_,(Zf (Zbc (pv 1) (ZT (K:=K) (n:=4) rfl rfl (Zo (pgn 2 nd) (Zo (pgn 3 nd) (Zo (pgn 4 nd) (Zo (pgn 5 nd) ZS))))))
      (Zf (Zbm (pv 0) (Zds K_Room hr.m rfl (pc (pv 2) (pc (pv 3) (pc (pv 4) Ze)))) rfl)
      (Zf (Zbm (pv 0) (ZbJ op_eq (pv 5) ZaT (ZF _)) rfl)
      (Zf (Zbm (pv 0) Zes rfl)
      (Zi (Zbm (pv 0) Zes rfl)))))),?_⟩
  refine ⟨_,rfl,tp,_,rfl,htp,rfl,_,_,rfl,gN ⟨_,_,rfl,gN ⟨_,_,rfl,gN ⟨_,_,rfl,gN ⟨rfl,?_⟩⟩⟩⟩⟩
  try dsimp only
  refine ⟨_,rfl,_,rfl,_,rfl,fun rp rx hrp hrx nrx=>⟨rp,rx,sh,pl,ru,rfl,Za,s0,s1,fun ls ads du H1 R1 f1 f2 f3 k1=>⟨rfl,?_⟩⟩⟩
  have npr:p≠rp:=Zd hp hrp
  have k1':∀ x o,H x=some o→H1 x=some o:=fun x o e=>k1 x o (by rw [Zb (Zd e hrp),Zb (Zd e hrx)]; exact e) (Zd e hrp)
  have fr:∀ x,upd (upd H rx (.own rp)) rp (.ins (clsOf K "Room") rx []) x=none→H x=none:=fun x e=>by
    cases q:H x with
    | none=>rfl
    | some o=>rw [Zb (Zd q hrp),Zb (Zd q hrx),q] at e; cases e
  have f1:=fr _ f1
  have f2:=fr _ f2
  have f3:∀ ad∈ads,H ad=none:=fun ad m=>fr _ (f3 ad m)
  have h1:=k1' _ _ hp
  refine ⟨_,rfl,p,_,dx,_,rfl,h1,T.cl_Store,T.n_Store_room,(by show 0<1000; decide),?_⟩
  obtain ⟨o1,o2,o3,o4,o5,o6⟩:=R1.off
  have q1:p≠ls:=fun z=>by rw [z,R1.st.top] at h1; cases h1
  have q2:p≠du:=fun z=>by obtain ⟨kv,g,_⟩:=R1.dc; rw [z,g] at h1; cases h1
  have q3:p∉ads:=fun z=>by obtain ⟨xs,g⟩:=R1.st.one z; rw [g] at h1; cases h1
  have put:∀ {G:Hp} {o:HO},RoomAt K G rp sh pl ru ls ads du [] (fun _=>0) 0→RoomAt K (upd G p o) rp sh pl ru ls ads du [] (fun _=>0) 0:=fun {G o} R=>by
    obtain ⟨dx',e1⟩:=R.ob
    obtain ⟨kv,e2,e3⟩:=R.dc
    exact ⟨⟨dx',by rw [Zb (Ne.symm npr)]; exact e1⟩,R.st.other o q1 q3,⟨kv,by rw [Zb (Ne.symm q2)]; exact e2,e3⟩,R.nd,R.s0,R.s1⟩
  have R2:=put (o:=.ins (clsOf K "Store") dx (putF "room" (.ref rp) [])) R1
  have e2:upd H1 p (.ins (clsOf K "Store") dx (putF "room" (.ref rp) [])) p=some (.ins (clsOf K "Store") dx (putF "room" (.ref rp) [])):=Za
  have k2:∀ x o,H x=some o→x≠p→upd H1 p (.ins (clsOf K "Store") dx (putF "room" (.ref rp) [])) x=some o:=fun x o e n=>by rw [Zb n]; exact k1' x o e
  generalize upd H1 p (.ins (clsOf K "Store") dx (putF "room" (.ref rp) []))=H2 at *
  refine ⟨_,rfl,rfl,_,rfl,p,_,dx,_,rfl,e2,T.cl_Store,T.n_Store_late,(by show 1<1000; decide),?_⟩
  have el:decide (V.str wr=V.str "late")=decide (wr = "late"):=decide_eq_decide.mpr ⟨fun e=>by injection e,fun e=>by rw [e]⟩
  rw [el]
  have R3:=put (o:=.ins (clsOf K "Store") dx (putF "late" (.bl (decide (wr = "late"))) (putF "room" (.ref rp) []))) R2
  have e3:upd H2 p (.ins (clsOf K "Store") dx (putF "late" (.bl (decide (wr = "late"))) (putF "room" (.ref rp) []))) p=some (.ins (clsOf K "Store") dx (putF "late" (.bl (decide (wr = "late"))) (putF "room" (.ref rp) []))):=Za
  have k3:∀ x o,H x=some o→x≠p→upd H2 p (.ins (clsOf K "Store") dx (putF "late" (.bl (decide (wr = "late"))) (putF "room" (.ref rp) []))) x=some o:=fun x o e n=>by rw [Zb n]; exact k2 x o e n
  generalize upd H2 p (.ins (clsOf K "Store") dx (putF "late" (.bl (decide (wr = "late"))) (putF "room" (.ref rp) [])))=H3 at *
  refine fun dh hdh=>?_
  have nh:p≠dh:=Zd e3 hdh
  refine ⟨_,rfl,p,_,dx,_,rfl,(by rw [Zb nh]; exact e3),T.cl_Store,T.n_Store_held,(by show 2<1000; decide),?_⟩
  have R4:=put (o:=.ins (clsOf K "Store") dx (putF "held" (.ref dh) (putF "late" (.bl (decide (wr = "late"))) (putF "room" (.ref rp) [])))) (R3.same (Zh hdh (.dK [])))
  have e4:upd (upd H3 dh (.dK [])) p (.ins (clsOf K "Store") dx (putF "held" (.ref dh) (putF "late" (.bl (decide (wr = "late"))) (putF "room" (.ref rp) [])))) p=some (.ins (clsOf K "Store") dx (putF "held" (.ref dh) (putF "late" (.bl (decide (wr = "late"))) (putF "room" (.ref rp) [])))):=Za
  have d4:upd (upd H3 dh (.dK [])) p (.ins (clsOf K "Store") dx (putF "held" (.ref dh) (putF "late" (.bl (decide (wr = "late"))) (putF "room" (.ref rp) [])))) dh=some (.dK []):=by rw [Zb (Ne.symm nh)]; exact Za
  have fdh:H dh=none:=by
    cases q:H dh with
    | none=>rfl
    | some o=>rw [k3 dh o q (Ne.symm nh)] at hdh; cases hdh
  have k4:∀ x o,H x=some o→x≠p→upd (upd H3 dh (.dK [])) p (.ins (clsOf K "Store") dx (putF "held" (.ref dh) (putF "late" (.bl (decide (wr = "late"))) (putF "room" (.ref rp) [])))) x=some o:=fun x o e n=>by rw [Zb n,Zb (fun z:x=dh=>by rw [z,fdh] at e; cases e)]; exact k3 x o e n
  generalize upd (upd H3 dh (.dK [])) p (.ins (clsOf K "Store") dx (putF "held" (.ref dh) (putF "late" (.bl (decide (wr = "late"))) (putF "room" (.ref rp) []))))=H4 at *
  refine fun df hdf=>?_
  have nf:p≠df:=Zd e4 hdf
  refine ⟨_,rfl,p,_,dx,_,rfl,(by rw [Zb nf]; exact e4),T.cl_Store,T.n_Store_fresh,(by show 3<1000; decide),?_⟩
  have fdf:H df=none:=by
    cases q:H df with
    | none=>rfl
    | some o=>rw [k4 df o q (Ne.symm nf)] at hdf; cases hdf
  have nhf:dh≠df:=fun z=>by rw [← z,d4] at hdf; cases hdf
  obtain ⟨kv,g,_⟩:=R3.dc
  obtain ⟨kv4,g4,_⟩:=R4.dc
  have R5:=put (o:=.ins (clsOf K "Store") dx (sflds rp (decide (wr = "late")) dh df)) (R4.same (Zh hdf (.dK [])))
  refine k ⟨p,rp,ls,ads,du,dh,df⟩ _ rfl (fun zs M=>⟨⟨dx,Za⟩,R5,⟨[],by rw [Zb (Ne.symm nh),Zb nhf]; exact d4,KI.nil,fun _ _=>rfl,fun b m=>absurd m (by simp)⟩,by rw [Zb (Ne.symm nf)]; exact Za,fun z=>?_,Ne.symm nhf,fun z=>?_⟩) hrp f1 f2 fdh fdf f3 fun x o e n=>?_
  · have z:du=dh:=z
    rw [← z,g] at hdh; cases hdh
  · have z:df=du:=z
    rw [z,g4] at hdf; cases hdf
  · rw [Zb n,Zb (fun z:x=df=>by rw [z,fdf] at e; cases e)]
    exact k4 x o e n
end
section
variable {P:Program} {w:World} {K:PySem.W.Frag} {mg:Str→Option Value} {base:Heap}
def ZjB (K:PySem.W.Frag):Sp:=fun vs H Q _=>∃ (a:SA) (c:Cf) (zs:List V) (M:Addr→Prop) (seq:List Int) (us:Int→Int) (b:Int),vs=[.ref a.sp,.int b]∧StoreAt K H a c zs M seq us∧Q (.bl (decide (b∈seq))) H
theorem ZhO {f:Addr} {fd:FuncData} (F:Fun K "has" "Store.has" Zbt f fd) (T:Txt K mg) (M_Room_has:MDef P w K mg base (clsOf K "Room") "has" 1 ZaU (spHas K)):FnOk P w K mg base CX0 2 f fd Zbu (ZjB K):=by
  refine F.ok sc_Store_has (fun vs H Q E h=>?_) (fun cdv A outer st H vs Q E hr h=>?_)
  · obtain ⟨a,c,zs,M,seq,us,b,rfl,_⟩:=h
    rfl
  obtain ⟨a,c,zs,M,seq,us,b,rfl,S,k⟩:=h
  have nd:=sc_Store_has.nd
  refine ⟨_,(Zi (Zu (Zk M_Room_has hr.m T.cl_Room (Zr (K:=K) rfl (pv 0) rfl) (pc (pv 1) Ze)))),?_⟩
  obtain ⟨dx,h1⟩:=S.ob
  obtain ⟨dr,h2⟩:=S.room.ob
  exact ⟨_,rfl,a.sp,_,dx,_,_,rfl,h1,T.cl_Store,T.n_Store_room,Zde ..,a.rp,dr,_,rfl,h2,fl_no ..,_,rfl,a.rp,b,c.sh,c.pl,c.ru,a.ls,a.ads,a.du,seq,us,_,rfl,S.room,k⟩
def spLay (K:PySem.W.Frag):Sp:=fun vs H Q _=>∃ (p dx rp dh df:Addr) (late:Bool) (kvs:List (Key×V)) (b:Int) (lw:Addr) (zs:List V),vs=[.ref p,.int b,.ref lw]∧H p=some (.ins (clsOf K "Store") dx (sflds rp late dh df))∧H dh=some (.dK kvs)∧kvs.length≤900∧H lw=some (.lst zs) ∧
  ∀ l,H l=none→Q .non (upd (upd H l (.lst zs)) dh (.dK (putK kvs (Sum.inl b) (.ref l))))
theorem ZhP {f:Addr} {fd:FuncData} (F:Fun K "lay" "Store.lay" Zbv f fd) (T:Txt K mg):FnOk P w K mg base CX0 1 f fd Zcd (spLay K):=by
  refine F.ok sc_Store_lay (fun vs H Q E h=>?_) (fun cdv A outer st H vs Q E hr h=>?_)
  · obtain ⟨p,dx,rp,dh,df,late,kvs,b,lw,zs,rfl,_⟩:=h
    rfl
  obtain ⟨p,dx,rp,dh,df,late,kvs,b,lw,zs,rfl,hp,hd,hl,hw,k⟩:=h
  have nd:=sc_Store_lay.nd
  have hu:=hu_of hr
  refine ⟨_,(Zi (ZkY hu (Zr (K:=K) rfl (pv 0) rfl) (pv 1) (ZN (ZZ (K:=K) rfl) rfl T.z_list ZG (pc (pv 2) Ze)) rfl)),?_⟩
  refine ⟨_,rfl,lw,_,rfl,.inl (SqL.of hw),fun l hl'=>?_⟩
  have s1:=Zh hl' (.lst zs)
  exact ⟨_,rfl,p,_,dx,_,_,rfl,s1 _ _ hp,T.cl_Store,T.n_Store_held,ZiC ..,_,rfl,dh,_,rfl,DPut.k (k:=Sum.inl b) (s1 _ _ hd) (Zv (by omega)),k l hl'⟩
def ZgE (K:PySem.W.Frag):Sp:=fun vs H Q _=>∃ (a:SA) (c:Cf) (zs:List V) (M:Addr→Prop) (seq:List Int) (us:Int→Int) (b:Int) (lw:Addr),vs=[.ref a.sp,.int b,.ref lw]∧StoreAt K H a c zs M seq us∧Tb K H∧(∀ x∈a.ads,M x)∧(∀ x,M x→H x≠none)∧H lw=some (.lst zs)∧¬ M lw∧b∉seq∧seq.length≤800∧1≤c.pl∧c.pl≤16∧((Zn c.sh (b % c.sh) seq).length:Int)<c.pl ∧
  ∀ H',StoreAt K H' a c zs M (seq++[b]) (zero us b)→SRs a H H'→Q .non H'
theorem Zel {f:Addr} {fd:FuncData} (F:Fun K "take_in" "Store.take_in" Zag f fd) (T:Txt K mg) (M_Room_bring:MDef P w K mg base (clsOf K "Room") "bring" 4 ZaW (ZgB K)) (M_Store_lay:MDef P w K mg base (clsOf K "Store") "lay" 1 Zcd (spLay K)):FnOk P w K mg base CX0 5 f fd ZaB (ZgE K):=by
  refine F.ok sc_Store_take_in (fun vs H Q E h=>?_) (fun cdv A outer st H vs Q E hr h=>?_)
  · obtain ⟨a,c,zs,M,seq,us,b,lw,rfl,_⟩:=h
    rfl
  obtain ⟨a,c,zs,M,seq,us,b,lw,rfl,S,tb,hM,hME,hlw,hMl,hb,hsl,hpl,hpl2,hsh,k⟩:=h
  have nd:=sc_Store_take_in.nd
  refine ⟨_,(Zf (Zw (Zk M_Room_bring hr.m T.cl_Room (Zr (K:=K) rfl (pv 0) rfl) (pc (pv 1) Ze)))
      (Zi (Zw (Zk M_Store_lay hr.m T.cl_Store (pv 0) (pc (pv 1) (pc (pv 2) Ze)))))),?_⟩
  obtain ⟨dx,h1⟩:=S.ob
  obtain ⟨dr,h2⟩:=S.room.ob
  refine ⟨_,rfl,a.sp,_,dx,_,_,rfl,h1,T.cl_Store,T.n_Store_room,Zde ..,a.rp,dr,_,rfl,h2,fl_no ..,_,rfl,a.rp,b,c.sh,c.pl,c.ru,a.ls,a.ads,a.du,seq,us,_,rfl,S.room,tb,by omega,hb,hpl,by omega,fun gone G gp R1 s1=>?_⟩
  have gn:gone=none:=gp.1 hsh
  subst gn
  obtain ⟨kvs,g2,g3,g4,g5⟩:=S.held
  obtain ⟨kd,gd,_⟩:=S.room.dc
  have ndh:a.dh∉a.ads:=fun m=>by obtain ⟨xs,e⟩:=S.room.st.one m; rw [g2] at e; cases e
  have ndf:a.df∉a.ads:=fun m=>by obtain ⟨xs,e⟩:=S.room.st.one m; rw [S.fresh] at e; cases e
  have h1':=s1.keep S.room h1 (fun _ z=>by cases z) (fun _ z=>by cases z)
  have g2':=s1 _ _ g2 (Ne.symm S.n1) ndh
  have nl:∀ {x xs},H x=some (.lst xs)→x≠a.du:=fun {x xs} e z=>by rw [z,gd] at e; cases e
  have hlw':=s1 _ _ hlw (nl hlw) fun m=>hMl (hM _ m)
  have kl:kvs.length≤900:=by
    have:=ZlC g3 S.room.nd fun x=>?_
    · omega
    · constructor
      · intro q
        by_cases m:x∈seq
        · exact m
        · rw [g4 x m] at q; cases q
      · intro m
        obtain ⟨l,e,_⟩:=g5 x m
        rw [e]; rfl
  refine ⟨_,rfl,a.sp,dx,_,rfl,h1',sf_no ..,_,rfl,_,rfl,a.sp,dx,a.rp,a.dh,a.df,c.late,kvs,b,lw,zs,rfl,h1',g2',kl,hlw',fun l hl=>?_⟩
  have ME:∀ x,M x→G x≠none:=fun x hx z=>by
    by_cases m:x∈a.ads
    · obtain ⟨xs,e⟩:=R1.st.one m; rw [e] at z; cases z
    · by_cases d:x=a.du
      · obtain ⟨kv,e,_⟩:=R1.dc; rw [d,e] at z; cases z
      · cases e:H x with
        | none=>exact hME x hx e
        | some o=>rw [s1 _ _ e d m] at z; cases z
  have sl:=Zh hl (.lst zs)
  have R2:=R1.same sl
  have nlh:l≠a.dh:=fun z=>by rw [z,g2'] at hl; cases hl
  obtain ⟨o1,o2,o3,o4,o5,o6⟩:=R2.off
  obtain ⟨dr',hr'⟩:=R2.ob
  have npd:a.dh≠a.rp:=fun z=>by rw [← z,sl _ _ g2'] at hr'; cases hr'
  have nls:a.dh≠a.ls:=fun z=>by have q:=R2.st.top; rw [← z,sl _ _ g2'] at q; cases q
  have R3:RoomAt K (upd (upd G l (.lst zs)) a.dh (.dK (putK kvs (Sum.inl b) (.ref l)))) a.rp c.sh c.pl c.ru a.ls a.ads a.du (seq++[b]) (zero us b) (seq.length+1):=by
    obtain ⟨kv,e2,e3⟩:=R2.dc
    exact ⟨⟨dr',by rw [Zb (Ne.symm npd)]; exact hr'⟩,R2.st.other _ nls ndh,⟨kv,by rw [Zb S.n1]; exact e2,e3⟩,R2.nd,R2.s0,R2.s1⟩
  have nsp:a.dh≠a.sp:=fun z=>by rw [z,h1'] at g2'; cases g2'
  refine k _ ⟨⟨dx,by rw [Zb (Ne.symm nsp)]; exact sl _ _ h1'⟩,R3.norm,⟨_,Za,g3.put b _,fun x hx=>?_,fun x hx=>?_⟩,by rw [Zb S.n2]; exact sl _ _ (s1 _ _ S.fresh S.n3 ndf),S.n1,S.n2,S.n3⟩ fun x o e n1 n2 n3=>?_
  · have nx:x≠b:=fun z=>hx (by rw [z]; exact List.mem_append_right _ (List.mem_singleton.mpr rfl))
    rw [Zer,if_neg (fun z=>nx (Sum.inl.inj z))]
    exact g4 x fun m=>hx (List.mem_append_left _ m)
  · rw [Zer]
    by_cases z:x=b
    · subst z
      exact ⟨l,by rw [if_pos rfl],by rw [Zb nlh]; exact Za,fun m=>ME l m hl⟩
    · rw [if_neg (fun q=>z (Sum.inl.inj q))]
      have m:x∈seq:=(List.mem_append.mp hx).resolve_right fun q=>z (List.mem_singleton.mp q)
      obtain ⟨l',e1,e2,e3⟩:=g5 x m
      have e4:=s1 _ _ e2 (nl e2) fun q=>e3 (hM _ q)
      exact ⟨l',e1,by rw [Zb (fun q=>by rw [q,g2'] at e4; cases e4)]; exact sl _ _ e4,e3⟩
  · rw [Zb n2]
    exact sl _ _ (s1 _ _ e n1 n3)
def Zfd (K:PySem.W.Frag):Sp:=fun vs H Q _=>∃ (a:SA) (c:Cf) (zs:List V) (M:Addr→Prop) (seq:List Int) (us:Int→Int) (b:Int),vs=[.ref a.sp,.int b]∧StoreAt K H a c zs M seq us∧(∀ x∈a.ads,M x)∧b∈seq ∧
  ∀ (t l:Addr) (H':Hp),H' t=some (.tup [.ref l,.bl false])→H' l=some (.lst zs)→¬ M l→StoreAt K H' a c zs M (seq.erase b) us→SRs a H H'→Q (.ref t) H'
theorem ZdO {f:Addr} {fd:FuncData} (F:Fun K "give_out" "Store.give_out" ZU f fd) (T:Txt K mg) (M_Room_drop:MDef P w K mg base (clsOf K "Room") "drop" 3 Zbr (Zjz K)):FnOk P w K mg base CX0 4 f fd Zaq (Zfd K):=by
  refine F.ok sc_Store_give_out (fun vs H Q E h=>?_) (fun cdv A outer st H vs Q E hr h=>?_)
  · obtain ⟨a,c,zs,M,seq,us,b,rfl,_⟩:=h
    rfl
  obtain ⟨a,c,zs,M,seq,us,b,rfl,S,hM,hb,k⟩:=h
  have nd:=sc_Store_give_out.nd
  refine ⟨_,(Zf (Zw (Zk M_Room_drop hr.m T.cl_Room (Zr (K:=K) rfl (pv 0) rfl) (pc (pv 1) Ze)))
      (Zi (Zu (Zbd (pc (Zjs (Zr (K:=K) rfl (pv 0) rfl) (pv 1) ⟨rfl,rfl,rfl,rfl⟩) (pc (ZmE (Zr (K:=K) rfl (pv 0) rfl) (pv 1) pe_bl ⟨rfl,rfl,rfl,rfl⟩) Ze)))))),?_⟩
  obtain ⟨dx,h1⟩:=S.ob
  obtain ⟨dr,h2⟩:=S.room.ob
  refine ⟨_,rfl,a.sp,_,dx,_,_,rfl,h1,T.cl_Store,T.n_Store_room,Zde ..,a.rp,dr,_,rfl,h2,fl_no ..,_,rfl,a.rp,b,c.sh,c.pl,c.ru,a.ls,a.ads,a.du,seq,us,_,rfl,S.room,hb,fun G R1 s1=>?_⟩
  obtain ⟨kvs,g2,g3,g4,g5⟩:=S.held
  obtain ⟨kd,gd,_⟩:=S.room.dc
  have ndh:a.dh∉a.ads:=fun m=>by obtain ⟨xs,e⟩:=S.room.st.one m; rw [g2] at e; cases e
  have ndf:a.df∉a.ads:=fun m=>by obtain ⟨xs,e⟩:=S.room.st.one m; rw [S.fresh] at e; cases e
  have h1':=s1.keep S.room h1 (fun _ z=>by cases z) (fun _ z=>by cases z)
  have g2':=s1 _ _ g2 (Ne.symm S.n1) ndh
  have gf':=s1 _ _ S.fresh S.n3 ndf
  have nl:∀ {x xs},H x=some (.lst xs)→x≠a.du:=fun {x xs} e z=>by rw [z,gd] at e; cases e
  obtain ⟨l,e1,e2,e3⟩:=g5 b hb
  have e4:=s1 _ _ e2 (nl e2) fun q=>e3 (hM _ q)
  obtain ⟨o1,o2,o3,o4,o5,o6⟩:=R1.off
  obtain ⟨dr',hr'⟩:=R1.ob
  have npd:a.dh≠a.rp:=fun z=>by rw [← z,g2'] at hr'; cases hr'
  have nls:a.dh≠a.ls:=fun z=>by have q:=R1.st.top; rw [← z,g2'] at q; cases q
  have nsp:a.dh≠a.sp:=fun z=>by rw [z,h1'] at g2'; cases g2'
  have nlh:∀ {x xs},G x=some (.lst xs)→x≠a.dh:=fun {x xs} e z=>by rw [z,g2'] at e; cases e
  refine ⟨_,rfl,a.sp,_,dx,_,_,rfl,h1',T.cl_Store,T.n_Store_held,ZiC ..,a.dh,rfl,.inl ⟨_,.inl g2'⟩,_,rfl,kvs,Sum.inl b,_,g2',rfl,e1,?_⟩
  have R2:RoomAt K (upd G a.dh (.dK (dropK kvs (Sum.inl b)))) a.rp c.sh c.pl c.ru a.ls a.ads a.du (seq.erase b) us seq.length:=by
    obtain ⟨kv,q2,q3⟩:=R1.dc
    exact ⟨⟨dr',by rw [Zb (Ne.symm npd)]; exact hr'⟩,R1.st.other _ nls ndh,⟨kv,by rw [Zb S.n1]; exact q2,q3⟩,R1.nd,R1.s0,R1.s1⟩
  have h1'':upd G a.dh (.dK (dropK kvs (Sum.inl b))) a.sp=some (.ins (clsOf K "Store") dx (sflds a.rp c.late a.dh a.df)):=by rw [Zb (Ne.symm nsp)]; exact h1'
  have gf'':upd G a.dh (.dK (dropK kvs (Sum.inl b))) a.df=some (.dK []):=by rw [Zb S.n2]; exact gf'
  refine ⟨_,rfl,a.sp,_,dx,_,_,rfl,h1'',T.cl_Store,T.n_Store_fresh,ZmU ..,a.df,rfl,.inl ⟨_,.inl gf''⟩,_,rfl,[],Sum.inl b,gf'',rfl,(fun v z=>by cases z),fun _=>?_⟩
  refine ⟨(by show 2≤sizeLine; decide),fun t ht=>?_⟩
  have st':=Zh ht (.tup [.ref l,.bl false])
  refine k t l _ Za (st' _ _ (by rw [Zb (nlh e4)]; exact e4)) e3 (StoreAt.same ⟨⟨dx,h1''⟩,R2.norm,⟨_,Za,g3.drop b,fun x hx=>?_,fun x hx=>?_⟩,gf'',S.n1,S.n2,S.n3⟩ st') fun x o e n1 n2 n3=>?_
  · rw [ZgA]
    by_cases z:x=b
    · rw [if_pos (by rw [z])]
    · rw [if_neg (fun q=>z (Sum.inl.inj q))]
      exact g4 x fun m=>hx ((List.Nodup.mem_erase_iff S.room.nd).mpr ⟨z,m⟩)
  · obtain ⟨z,m⟩:=(List.Nodup.mem_erase_iff S.room.nd).mp hx
    obtain ⟨l',q1,q2,q3⟩:=g5 x m
    have q4:=s1 _ _ q2 (nl q2) fun q=>q3 (hM _ q)
    exact ⟨l',by rw [ZgA,if_neg (fun q=>z (Sum.inl.inj q))]; exact q1,by rw [Zb (nlh q4)]; exact q4,q3⟩
  · exact st' _ _ (by rw [Zb n2]; exact s1 _ _ e n1 n3)
def ZdB (K:PySem.W.Frag):Sp:=fun vs H Q _=>∃ (a:SA) (c:Cf) (zs:List V) (M:Addr→Prop) (seq:List Int) (us:Int→Int) (b:Int),vs=[.ref a.sp,.int b]∧StoreAt K H a c zs M seq us∧b∈seq∧∀ l,H l=none→Q (.ref l) (upd H l (.lst zs))
theorem ZdP {f:Addr} {fd:FuncData} (F:Fun K "words_of" "Store.words_of" ZV f fd) (T:Txt K mg) (M_Room_need:MDef P w K mg base (clsOf K "Room") "need" 2 ZaS (ZhK K)):FnOk P w K mg base CX0 3 f fd ZW (ZdB K):=by
  refine F.ok sc_Store_words_of (fun vs H Q E h=>?_) (fun cdv A outer st H vs Q E hr h=>?_)
  · obtain ⟨a,c,zs,M,seq,us,b,rfl,_⟩:=h
    rfl
  obtain ⟨a,c,zs,M,seq,us,b,rfl,S,hb,k⟩:=h
  have nd:=sc_Store_words_of.nd
  have hu:=hu_of hr
  refine ⟨_,(Zf (Zw (Zk M_Room_need hr.m T.cl_Room (Zr (K:=K) rfl (pv 0) rfl) (pc (pv 1) Ze)))
      (Zi (Zu (ZN (ZZ (K:=K) rfl) rfl T.z_list ZG (pc (ZkX hu (Zr (K:=K) rfl (pv 0) rfl) (pv 1) (fun _ _=>rfl)) Ze))))),?_⟩
  obtain ⟨dx,h1⟩:=S.ob
  obtain ⟨dr,h2⟩:=S.room.ob
  obtain ⟨kvs,g2,g3,g4,g5⟩:=S.held
  obtain ⟨l0,e1,e2,e3⟩:=g5 b hb
  refine ⟨_,rfl,a.sp,_,dx,_,_,rfl,h1,T.cl_Store,T.n_Store_room,Zde ..,a.rp,dr,_,rfl,h2,fl_no ..,_,rfl,a.rp,b,c.sh,c.pl,c.ru,a.ls,a.ads,a.du,seq,us,_,rfl,S.room,hb,?_⟩
  exact ⟨_,rfl,a.sp,_,dx,_,_,rfl,h1,T.cl_Store,T.n_Store_held,ZiC ..,_,rfl,a.dh,_,rfl,(by have q:=DGet.k (k:=Sum.inl b) g2; rw [e1] at q; exact q),l0,_,rfl,.inl (SqL.of e2),k⟩
end
section
variable {P:Program} {w:World} {K:PySem.W.Frag} {mg:Str→Option Value} {base:Heap}
def ZgF:Sp:=fun vs H Q _=>∃ s p:Int,vs=[.int s,.int p]∧0<s∧s<1073741824∧Q (.int (p / s)) H
theorem ZiE {f:Addr} {fd:FuncData} (F:Fun K "board_of" "board_of" ZbP f fd) (T:Txt K mg):FnOk P w K mg base CX0 1 f fd ZbQ ZgF:=by
  refine F.ok sc_board_of (fun vs H Q E h=>?_) (fun cdv A outer s H vs Q E hr h=>?_)
  · obtain ⟨s,p,rfl,_⟩:=h
    rfl
  obtain ⟨s,p,rfl,h0,h1,k⟩:=h
  have nd:=sc_board_of.nd
  refine ⟨_,(Zi (Zu (pe_op ZcY (pv 1) (pv 0)))),?_⟩
  exact ⟨_,rfl,_,rfl,_,_,rfl,rfl,⟨h0,h1⟩,k⟩
def spots (s b:Int):List V:=(List.range s.toNat).map fun k=>V.int (b * s+(k:Nat))
def ZgG:Sp:=fun vs H Q _=>∃ s b:Int,vs=[.int s,.int b]∧0<s∧s≤1000∧0≤b∧b≤1000000∧∀ (r:Addr) (H':Hp),H r=none→Same H H'→H' r=some (.lst (spots s b))→Q (.ref r) H'
theorem Znu {b s:Int} (h0:0≤b) (h1:b≤1000000) (s0:0<s) (s1:s≤1000):0≤b * s∧b * s≤1000000000:=by
  refine ⟨Int.mul_nonneg h0 (by omega),?_⟩
  exact Int.le_trans (Int.mul_le_mul_of_nonneg_right h1 (by omega)) (Int.mul_le_mul_of_nonneg_left s1 (by decide))
theorem ZiF {f:Addr} {fd:FuncData} (F:Fun K "spots_of" "spots_of" ZbR f fd) (T:Txt K mg):FnOk P w K mg base CX0 1 f fd ZbS ZgG:=by
  refine F.ok sc_spots_of (fun vs H Q E h=>?_) (fun cdv A outer s H vs Q E hr h=>?_)
  · obtain ⟨s,p,rfl,_⟩:=h
    rfl
  obtain ⟨s,b,rfl,s0,s1,b0,b1,k⟩:=h
  have nd:=sc_spots_of.nd
  refine ⟨_,(Zf (pst 2 nd (pe_op Zcr (pv 1) (pv 0)))
      (Zi (Zu (Zhr rfl rfl T.z_list rfl T.z_range (pc (pv 2) (pc (pe_op Zaf (pv 2) (pv 0)) Ze)))))),?_⟩
  obtain ⟨m0,m1⟩:=Znu b0 b1 s0 s1
  have e:(b * s+s - b * s).toNat=s.toNat:=by omega
  refine ⟨_,rfl,_,rfl,_,_,rfl,rfl,.inl ⟨by omega,by omega⟩,?_⟩
  refine ⟨_,rfl,_,rfl,_,rfl,_,_,rfl,rfl,_,_,rfl,⟨by omega,by omega,by omega,by omega⟩,?_⟩
  rw [e]
  refine ⟨Nat.le_of_lt (Zv (by omega)),fun p hp=>?_⟩
  exact k p _ hp (Zh hp _) Za
def mflds (size:Int) (dk:Addr):List (Str×V):=putF "kept" (.ref dk) (putF "size" (.int size) [])
theorem Zoe (size:Int) (dk:Addr):(mflds size dk).lookup ("kept" : Str)=some (.ref dk):=by
  unfold mflds; rw [Zg,if_pos rfl]
theorem Zof (size:Int) (dk:Addr):(mflds size dk).lookup ("size" : Str)=some (.int size):=by
  unfold mflds; rw [Zg,if_neg (by decide +kernel),Zg,if_pos rfl]
theorem mf_no (size:Int) (dk:Addr) {m:Str} (h1:¬ m = "kept" := by decide +kernel) (h2:¬ m = "size" := by decide +kernel):(mflds size dk).lookup m=none:=by
  unfold mflds
  rw [Zg,if_neg h1,Zg,if_neg h2]
  rfl
structure MemAt (K:PySem.W.Frag) (H:Hp) (bm dk:Addr) (size:Int):Prop where
  ob:∃ dx,H bm=some (.ins (clsOf K "Memory") dx (mflds size dk))
  kept:H dk=some (.dK [])
theorem MemAt.same {H H':Hp} {bm dk:Addr} {size:Int} (m:MemAt K H bm dk size) (s:Same H H'):MemAt K H' bm dk size:=by
  obtain ⟨dx,e⟩:=m.ob
  exact ⟨⟨dx,s _ _ e⟩,s _ _ m.kept⟩
def spMem (K:PySem.W.Frag):Sp:=fun vs H Q _=>∃ (p dx:Addr) (size:Int),vs=[.ref p,.int size]∧H p=some (.ins (clsOf K "Memory") dx []) ∧
  ∀ (dk:Addr) (H':Hp),MemAt K H' p dk size→H dk=none→(∀ b o,H b=some o→b≠p→H' b=some o)→Q .non H'
theorem ZfE {f:Addr} {fd:FuncData} (F:Fun K "__init__" "Memory.__init__" ZaI f fd) (T:Txt K mg):FnOk P w K mg base CX0 1 f fd Zbf (spMem K):=by
  refine F.ok sc_Memory_init (fun vs H Q E h=>?_) (fun cdv A outer st H vs Q E hr h=>?_)
  · obtain ⟨p,dx,size,rfl,_⟩:=h
    rfl
  obtain ⟨p,dx,size,rfl,hp,k⟩:=h
  have nd:=sc_Memory_init.nd
  refine ⟨_,(Zf (Zbm (pv 0) (pv 1) rfl)
      (Zi (Zbm (pv 0) Zes rfl))),?_⟩
  refine ⟨_,rfl,_,rfl,p,_,dx,_,rfl,hp,T.cl_Memory,T.n_Memory_size,(by show 0<1000; decide),fun dk hdk=>?_⟩
  have np:p≠dk:=Zd (Za (H:=H) (a:=p) (o:=.ins (clsOf K "Memory") dx (putF "size" (.int size) []))) hdk
  refine ⟨_,rfl,p,_,dx,_,rfl,(by rw [Zb np]; exact Za),T.cl_Memory,T.n_Memory_kept,(by show 1<1000; decide),?_⟩
  rw [Zb (Ne.symm np)] at hdk
  refine k dk _ ⟨⟨dx,Za⟩,by rw [Zb (Ne.symm np)]; exact Za⟩ hdk fun x o e n=>?_
  rw [Zb n,Zb (Zd e hdk),Zb n]
  exact e
def Zcj (size:Int):List V:=List.replicate size.toNat (V.int 0)
def ZgH (K:PySem.W.Frag):Sp:=fun vs H Q _=>∃ (bm dk:Addr) (size b:Int),vs=[.ref bm,.int b]∧MemAt K H bm dk size∧0<size∧size≤1000∧0≤b∧b≤1000000∧∀ l H',H l=none→Same H H'→H' l=some (.lst (Zcj size))→Q (.ref l) H'
theorem ZdC {f:Addr} {fd:FuncData} (F:Fun K "words_of" "Memory.words_of" ZB f fd) (T:Txt K mg) (D_spots_of:Def P w K mg base "spots_of" 1 ZbS ZgG):FnOk P w K mg base CX0 2 f fd Zah (ZgH K):=by
  refine F.ok sc_Memory_words_of (fun vs H Q E h=>?_) (fun cdv A outer st H vs Q E hr h=>?_)
  · obtain ⟨bm,dk,size,b,rfl,_⟩:=h
    rfl
  obtain ⟨bm,dk,size,b,rfl,M,z0,z1,b0,b1,k⟩:=h
  have nd:=sc_Memory_words_of.nd
  have hu:=hu_of hr
  refine ⟨_,(Zi (Zu (Zbz (ZK (osc:=(Zc ZB)) (oN:=Zcu) (N:=["spot", "self"]) (own:=1) (js:=[0]) (by decide +kernel) rfl rfl) rfl (Zco (K:=K) rfl (Zp D_spots_of hr.m rfl (pc (Zr (K:=K) rfl (pv 0) rfl) (pc (pv 1) Ze)))) (fun _ _ _ _ _ _=>(pgn 0 (show List.Nodup (["spot", "self"]:List Str) by decide +kernel))) (fun _ _ _ _ _ _=>(ZmD hu (Zr (K:=K) rfl (pv 1) rfl) (pv 0) Zj ⟨rfl,rfl,rfl,rfl⟩))))),?_⟩
  obtain ⟨dx,h1⟩:=M.ob
  refine ⟨_,rfl,bm,_,dx,_,_,rfl,h1,T.cl_Memory,T.n_Memory_size,Zof ..,_,rfl,size,b,rfl,z0,z1,b0,b1,fun r H1 hr1 s1 e1=>⟨r,rfl,⟨_,SqL.of e1⟩,fun l hl=>?_⟩⟩
  have h1':=s1 _ _ h1
  have hk:=s1 _ _ M.kept
  have lsp:(spots size b).length=size.toNat:=by unfold spots; rw [List.length_map,List.length_range]
  refine Zct (K:=K) (a:=r) (xs:=spots size b) (l:=l) (fun i ys σ' G'=>∃ v0:Option V,σ'=[v0,some (.ref bm)]∧ys=List.replicate i (V.int 0)∧G'=upd H1 l (.lst ys)) ⟨none,rfl,rfl,rfl⟩ (fun i ys σ' G' _ ⟨_,_,_,q⟩=>SqL.of (by rw [q,Zb (Zd e1 hl)]; exact e1)) ?_ ?_
  · rintro i x ys σ' G' hi hxi hys ⟨v0,rfl,rfl,rfl⟩
    obtain ⟨z,rfl⟩:∃ z,x=V.int z:=by
      have m:=List.mem_of_getElem? hxi
      unfold spots at m
      obtain ⟨j,_,e⟩:=List.mem_map.mp m
      exact ⟨_,e.symm⟩
    have sl:=Zh hl (.lst (List.replicate i (V.int 0)))
    refine ⟨_,rfl,bm,_,dx,_,_,rfl,sl _ _ h1',T.cl_Memory,T.n_Memory_kept,Zoe ..,dk,rfl,.inl ⟨_,.inl (sl _ _ hk)⟩,_,rfl,none,(by have q:=DGet.k (k:=Sum.inl z) (sl _ _ hk); exact q),?_⟩
    exact CNx.of (Nat.le_of_lt (Zv (by omega))) hi hys Za ⟨_,rfl,by rw [List.replicate_succ']; rfl,ZdK⟩
  · rintro ys σ' G' _ ⟨v0,rfl,rfl,rfl⟩
    rw [lsp]
    exact k l _ (s1.free hl) (s1.trans (Zh hl _)) Za
end
theorem Znv:∀ {a b:List Int},a.Nodup→(∀ x∈a,x∈b)→a.length≤b.length
  | [],_,_,_=>Nat.zero_le _
  | x :: a,b,nd,h=>by
    have nd':=List.nodup_cons.mp nd
    have mx:=h x List.mem_cons_self
    have q:=Znv (b:=b.erase x) nd'.2 fun y hy=>(List.mem_erase_of_ne (fun z:y=x=>nd'.1 (by rw [← z]; exact hy))).mpr (h y (List.mem_cons_of_mem _ hy))
    rw [List.length_erase_of_mem mx] at q
    have:=List.length_pos_of_mem mx
    show a.length+1≤b.length
    omega
theorem Znw {K:PySem.W.Frag} {G:Hp} {x:Addr} {xs:List V} {o:HO} (t:Tb K G) (h:G x=some (.lst xs)):Tb K (upd G x o):=by
  unfold Tb at t ⊢
  rw [Zb (fun z=>by rw [z,h] at t; cases t)]
  exact t
abbrev RS:=List Int×(Int→Int)
structure TA where
  p:Addr
  ss:Addr
  bm:Addr
  dk:Addr
  ev:Addr
  as:List SA
  out:List Addr
structure Pln where
  size:Int
  kind:Str
  cfs:List Cf
def MutL (A:TA) (x:Addr):Prop:=x=A.ev∨(∃ a∈A.as,x∈a.ads)∨x∈A.out
structure Sep (a b:SA):Prop where
  ads:∀ x∈a.ads,x∉b.ads
  ls:b.ls∉a.ads
  d1:b.du≠a.du
  d2:b.du≠a.dh
  d3:b.dh≠a.du
  d4:b.dh≠a.dh
  d5:b.df≠a.du
  d6:b.df≠a.dh
def tflds (size:Int) (ss bm:Addr) (last:Nat) (ev:Addr) (kind:Str):List (Str×V):=putF "kind" (.str kind) (putF "events" (.ref ev) (putF "last" (.int last) (putF "bottom" (.ref bm) (putF "stores" (.ref ss) (putF "size" (.int size) [])))))
section
variable (size:Int) (ss bm:Addr) (last:Nat) (ev:Addr) (kind:Str)
theorem ZgI:(tflds size ss bm last ev kind).lookup ("kind" : Str)=some (.str kind):=by
  unfold tflds; rw [Zg,if_pos rfl]
theorem ZdD:(tflds size ss bm last ev kind).lookup ("events" : Str)=some (.ref ev):=by
  unfold tflds; rw [Zg,if_neg (by decide +kernel),Zg,if_pos rfl]
theorem Zdf:(tflds size ss bm last ev kind).lookup ("last" : Str)=some (.int last):=by
  unfold tflds; rw [Zg,if_neg (by decide +kernel),Zg,if_neg (by decide +kernel),Zg,if_pos rfl]
theorem ZlD:(tflds size ss bm last ev kind).lookup ("bottom" : Str)=some (.ref bm):=by
  unfold tflds; rw [Zg,if_neg (by decide +kernel),Zg,if_neg (by decide +kernel),Zg,if_neg (by decide +kernel),Zg,if_pos rfl]
theorem ZbH:(tflds size ss bm last ev kind).lookup ("stores" : Str)=some (.ref ss):=by
  unfold tflds; rw [Zg,if_neg (by decide +kernel),Zg,if_neg (by decide +kernel),Zg,if_neg (by decide +kernel),Zg,if_neg (by decide +kernel),Zg,if_pos rfl]
theorem ZiG:(tflds size ss bm last ev kind).lookup ("size" : Str)=some (.int size):=by
  unfold tflds; rw [Zg,if_neg (by decide +kernel),Zg,if_neg (by decide +kernel),Zg,if_neg (by decide +kernel),Zg,if_neg (by decide +kernel),Zg,if_neg (by decide +kernel),Zg,if_pos rfl]
theorem tf_no {m:Str} (h1:¬ m = "kind" := by decide +kernel) (h2:¬ m = "events" := by decide +kernel) (h3:¬ m = "last" := by decide +kernel) (h4:¬ m = "bottom" := by decide +kernel) (h5:¬ m = "stores" := by decide +kernel) (h6:¬ m = "size" := by decide +kernel):(tflds size ss bm last ev kind).lookup m=none:=by
  unfold tflds
  rw [Zg,if_neg h1,Zg,if_neg h2,Zg,if_neg h3,Zg,if_neg h4,Zg,if_neg h5,Zg,if_neg h6]
  rfl
theorem Zap {f g:Str} {v x:V} {r:List (Str×V)} (h:¬ g=f):putF f v ((g,x) :: r)=(g,x) :: putF f v r:=by
  show (if g=f then _ else _)=_; rw [if_neg h]
theorem Zog {f:Str} {v x:V} {r:List (Str×V)}:putF f v ((f,x) :: r)=(f,v) :: r:=by
  show (if f=f then _ else _)=_; rw [if_pos rfl]
theorem ZcQ {f:Str} {v:V}:putF f v []=[(f,v)]:=rfl
theorem ZdQ:tflds size ss bm last ev kind=([(("size" : Str),V.int size),(("stores" : Str),V.ref ss),(("bottom" : Str),V.ref bm),(("last" : Str),V.int last),(("events" : Str),V.ref ev),(("kind" : Str),V.str kind)]:List (Str×V)):=by
  unfold tflds
  have a1:¬ ("size" : Str) = "stores" := by decide +kernel
  have a2:¬ ("size" : Str) = "bottom" := by decide +kernel
  have a3:¬ ("size" : Str) = "last" := by decide +kernel
  have a4:¬ ("size" : Str) = "events" := by decide +kernel
  have a5:¬ ("size" : Str) = "kind" := by decide +kernel
  have b2:¬ ("stores" : Str) = "bottom" := by decide +kernel
  have b3:¬ ("stores" : Str) = "last" := by decide +kernel
  have b4:¬ ("stores" : Str) = "events" := by decide +kernel
  have b5:¬ ("stores" : Str) = "kind" := by decide +kernel
  have c3:¬ ("bottom" : Str) = "last" := by decide +kernel
  have c4:¬ ("bottom" : Str) = "events" := by decide +kernel
  have c5:¬ ("bottom" : Str) = "kind" := by decide +kernel
  have d4:¬ ("last" : Str) = "events" := by decide +kernel
  have d5:¬ ("last" : Str) = "kind" := by decide +kernel
  have e5:¬ ("events" : Str) = "kind" := by decide +kernel
  rw [ZcQ,Zap a1,ZcQ,Zap a2,Zap b2,ZcQ,Zap a3,Zap b3,Zap c3,ZcQ,Zap a4,Zap b4,Zap c4,Zap d4,ZcQ,Zap a5,Zap b5,Zap c5,Zap d5,Zap e5,ZcQ]
theorem Zpa (ev':Addr):putF "events" (.ref ev') (tflds size ss bm last ev kind)=tflds size ss bm last ev' kind:=by
  rw [ZdQ,ZdQ]
  have a4:¬ ("size" : Str) = "events" := by decide +kernel
  have b4:¬ ("stores" : Str) = "events" := by decide +kernel
  have c4:¬ ("bottom" : Str) = "events" := by decide +kernel
  have d4:¬ ("last" : Str) = "events" := by decide +kernel
  rw [Zap a4,Zap b4,Zap c4,Zap d4,Zog]
end
structure StairsAt (K:PySem.W.Frag) (H:Hp) (A:TA) (g:Pln) (S:List RS) (xs:List V) (U:List Int):Prop where
  ob:∃ dx,H A.p=some (.ins (clsOf K "Stairs") dx (tflds g.size A.ss A.bm A.as.length A.ev g.kind))
  ss:H A.ss=some (.lst (A.as.map fun a=>V.ref a.sp))
  mem:MemAt K H A.bm A.dk g.size
  ev:H A.ev=some (.lst xs)
  lc:g.cfs.length=A.as.length
  lS:S.length=A.as.length
  st:∀ (k:Nat) (a:SA) (c:Cf) (s:RS),A.as[k]?=some a→g.cfs[k]?=some c→S[k]?=some s→StoreAt K H a c (Zcj g.size) (MutL A) s.1 s.2
  sep:∀ (i j:Nat) (a b:SA),A.as[i]?=some a→A.as[j]?=some b→i≠j→Sep a b
  off:∀ a∈A.as,A.ss∉a.ads∧A.ev∉a.ads∧A.ev≠a.ls∧A.dk≠a.du∧A.dk≠a.dh
  nse:A.ss≠A.ev
  oex:∀ x∈A.out,∃ ys,H x=some (.lst ys)
  on:∀ x∈A.out,x≠A.ss∧x≠A.ev∧∀ a∈A.as,x≠a.ls∧x∉a.ads
  uni:∀ s∈S,∀ b∈s.1,b∈U
  full:∀ (k:Nat) (c:Cf) (s:RS),g.cfs[k]?=some c→S[k]?=some s→∀ t,((Zn c.sh t s.1).length:Int)≤c.pl
  cf:∀ c∈g.cfs,1≤c.pl∧c.pl≤16
  z0:1≤g.size
  z1:g.size≤1000
  lU:U.length≤800
  l4:A.as.length≤4
  tb:Tb K H
def Foot (A:TA) (x:Addr):Prop:=x=A.p∨x=A.ev∨∃ a∈A.as,x=a.du∨x=a.dh∨x∈a.ads
def SF (A:TA) (H H':Hp):Prop:=∀ x o,H x=some o→¬ Foot A x→H' x=some o
theorem SF.of {A:TA} {H H':Hp} (s:Same H H'):SF A H H':=fun x o e _=>s x o e
theorem SF.trans {A:TA} {H H1 H2:Hp} (s:SF A H H1) (t:SF A H1 H2):SF A H H2:=fun x o e n=>t x o (s x o e n) n
section
variable {K:PySem.W.Frag} {H H':Hp} {A:TA} {g:Pln} {S:List RS} {xs:List V} {U:List Int} {a:SA} {c:Cf} {zs:List V} {M:Addr→Prop} {seq:List Int} {us:Int→Int}
theorem StoreAt.kinds (T:StoreAt K H a c zs M seq us) {x:Addr} {o:HO} (h:H x=some o) (n1:∀ kvs,o≠.dK kvs):x≠a.du∧x≠a.dh:=by
  obtain ⟨kv,e,_⟩:=T.room.dc
  obtain ⟨kv',e',_⟩:=T.held
  exact ⟨(fun z=>by rw [z,e] at h; exact n1 kv (Option.some.inj h).symm),(fun z=>by rw [z,e'] at h; exact n1 kv' (Option.some.inj h).symm)⟩
theorem StoreAt.nads (T:StoreAt K H a c zs M seq us) {x:Addr} {o:HO} (h:H x=some o) (n2:∀ xs,o≠.lst xs):x∉a.ads:=fun z=>by
  obtain ⟨xs,e⟩:=T.room.st.one z
  rw [e] at h; exact n2 xs (Option.some.inj h).symm
theorem SRs.keep (s:SRs a H H') (T:StoreAt K H a c zs M seq us) {x:Addr} {o:HO} (h:H x=some o) (n1:∀ kvs,o≠.dK kvs) (n2:∀ xs,o≠.lst xs):H' x=some o :=
  s x o h (T.kinds h n1).1 (T.kinds h n1).2 (T.nads h n2)
theorem StoreAt.beside {b:SA} {cb:Cf} {sb:List Int} {ub:Int→Int} (B:StoreAt K H b cb zs M sb ub) (T:StoreAt K H a c zs M seq us) (p:Sep a b) (hM:∀ x∈a.ads,M x) (s:SRs a H H'):StoreAt K H' b cb zs M sb ub:=by
  obtain ⟨dx,h1⟩:=B.ob
  obtain ⟨dr,h2⟩:=B.room.ob
  obtain ⟨kr,h3,h4⟩:=B.room.dc
  obtain ⟨kv,h5,h6,h7,h8⟩:=B.held
  have l:∀ {x ys},H x=some (.lst ys)→x∉a.ads→H' x=some (.lst ys):=fun {x ys} e n=>s x _ e (T.kinds e (fun _ z=>by cases z)).1 (T.kinds e (fun _ z=>by cases z)).2 n
  have d:∀ {x kvs},H x=some (.dK kvs)→x≠a.du→x≠a.dh→H' x=some (.dK kvs):=fun {x kvs} e n1 n2=>s x _ e n1 n2 (T.nads e (fun _ z=>by cases z))
  refine ⟨⟨dx,s.keep T h1 (fun _ z=>by cases z) (fun _ z=>by cases z)⟩,⟨⟨dr,s.keep T h2 (fun _ z=>by cases z) (fun _ z=>by cases z)⟩,⟨l B.room.st.top p.ls,B.room.st.len,B.room.st.nd,B.room.st.off,fun i ad e=>l (B.room.st.at_ i ad e) fun m=>p.ads _ m (List.mem_of_getElem? e)⟩,⟨kr,d h3 p.d1 p.d2,h4⟩,B.room.nd,B.room.s0,B.room.s1⟩,⟨kv,d h5 p.d3 p.d4,h6,h7,fun x hx=>?_⟩,d B.fresh p.d5 p.d6,B.n1,B.n2,B.n3⟩
  obtain ⟨y,e1,e2,e3⟩:=h8 x hx
  exact ⟨y,e1,l e2 fun m=>e3 (hM _ m),e3⟩
theorem StoreAt.put (T:StoreAt K H a c zs M seq us) {x:Addr} {ys:List V} (u:HO) (hx:H x=some (.lst ys)) (n1:x≠a.ls) (n2:x∉a.ads) (n3:M x):StoreAt K (upd H x u) a c zs M seq us:=by
  obtain ⟨dx,h1⟩:=T.ob
  obtain ⟨dr,h2⟩:=T.room.ob
  obtain ⟨kr,h3,h4⟩:=T.room.dc
  obtain ⟨kv,h5,h6,h7,h8⟩:=T.held
  have ne:∀ {y o},H y=some o→(∀ xs,o≠.lst xs)→y≠x:=fun {y o} e n z=>by rw [z,hx] at e; exact n ys (Option.some.inj e).symm
  refine ⟨⟨dx,by rw [Zb (ne h1 (fun _ z=>by cases z))]; exact h1⟩,⟨⟨dr,by rw [Zb (ne h2 (fun _ z=>by cases z))]; exact h2⟩,T.room.st.other u n1 n2,⟨kr,by rw [Zb (ne h3 (fun _ z=>by cases z))]; exact h3,h4⟩,T.room.nd,T.room.s0,T.room.s1⟩,⟨kv,by rw [Zb (ne h5 (fun _ z=>by cases z))]; exact h5,h6,h7,fun y hy=>?_⟩,by rw [Zb (ne T.fresh (fun _ z=>by cases z))]; exact T.fresh,T.n1,T.n2,T.n3⟩
  obtain ⟨l,e1,e2,e3⟩:=h8 y hy
  exact ⟨l,e1,by rw [Zb (fun z:l=x=>e3 (z ▸ n3))]; exact e2,e3⟩
theorem ZdR {x:Addr} {o u:HO} (t:Tb K H) (h:H x=some o) (n:∀ p q,o≠.tbl p q):Tb K (upd H x u):=by
  unfold Tb at t ⊢
  rw [Zb (fun z=>by rw [z,h] at t; exact n _ _ (Option.some.inj t))]
  exact t
theorem StairsAt.same (T:StairsAt K H A g S xs U) (s:Same H H'):StairsAt K H' A g S xs U:=by
  obtain ⟨dx,h1⟩:=T.ob
  exact ⟨⟨dx,s _ _ h1⟩,s _ _ T.ss,T.mem.same s,s _ _ T.ev,T.lc,T.lS,fun k a c r h1 h2 h3=>(T.st k a c r h1 h2 h3).same s,T.sep,T.off,T.nse,(fun x hx=>by obtain ⟨ys,e⟩:=T.oex x hx; exact ⟨ys,s _ _ e⟩),T.on,T.uni,T.full,T.cf,T.z0,T.z1,T.lU,T.l4,T.tb.same s⟩
theorem StairsAt.at_ (T:StairsAt K H A g S xs U) {k:Nat} (hk:k<A.as.length):∃ a c s,A.as[k]?=some a∧g.cfs[k]?=some c∧S[k]?=some s∧StoreAt K H a c (Zcj g.size) (MutL A) s.1 s.2:=by
  have h1:A.as[k]?=some A.as[k]:=List.getElem?_eq_getElem hk
  have h2:g.cfs[k]?=some (g.cfs[k]'(by rw [T.lc]; exact hk)):=List.getElem?_eq_getElem _
  have h3:S[k]?=some (S[k]'(by rw [T.lS]; exact hk)):=List.getElem?_eq_getElem _
  exact ⟨_,_,_,h1,h2,h3,T.st _ _ _ _ h1 h2 h3⟩
theorem StairsAt.len (T:StairsAt K H A g S xs U) {k:Nat} {s:RS} (hs:S[k]?=some s):s.1.length≤800:=by
  have hk:k<A.as.length:=by rw [← T.lS]; exact (List.getElem?_eq_some_iff.mp hs).1
  obtain ⟨a,c,s',h1,h2,h3,R⟩:=T.at_ hk
  rw [hs] at h3; cases h3
  exact Nat.le_trans (Znv R.room.nd (T.uni s (List.mem_of_getElem? hs))) T.lU
theorem ZgJ {a:SA} (h:a∈A.as):∀ x∈a.ads,MutL A x:=fun x hx=>.inr (.inl ⟨a,h,hx⟩)
theorem StairsAt.mex (T:StairsAt K H A g S xs U):∀ x,MutL A x→H x≠none:=fun x hx e=>by
  rcases hx with rfl | ⟨a,ha,hx⟩ | hx
  · rw [T.ev] at e; cases e
  · obtain ⟨k,hk⟩:=List.getElem?_of_mem ha
    obtain ⟨a',c,s,h1,h2,h3,R⟩:=T.at_ (List.getElem?_eq_some_iff.mp hk).1
    rw [hk] at h1; cases h1
    obtain ⟨ys,q⟩:=R.room.st.one hx
    rw [q] at e; cases e
  · obtain ⟨ys,q⟩:=T.oex x hx
    rw [q] at e; cases e
theorem StairsAt.deed (T:StairsAt K H A g S xs U) {k:Nat} {seq':List Int} {us':Int→Int} (ha:A.as[k]?=some a) (hc:g.cfs[k]?=some c) (R:StoreAt K H' a c (Zcj g.size) (MutL A) seq' us') (s:SRs a H H') (hu:∀ b∈seq',b∈U) (hf:∀ t,((Zn c.sh t seq').length:Int)≤c.pl) :
    StairsAt K H' A g (S.set k (seq',us')) xs U∧SF A H H':=by
  have hk:k<A.as.length:=(List.getElem?_eq_some_iff.mp ha).1
  obtain ⟨a',c',r,h1,h2,h3,B⟩:=T.at_ hk
  rw [ha] at h1; cases h1
  rw [hc] at h2; cases h2
  have hm:=ZgJ (A:=A) (List.mem_of_getElem? ha)
  obtain ⟨dx,e1⟩:=T.ob
  obtain ⟨dm,e2⟩:=T.mem.ob
  obtain ⟨o1,o2,o3,o4,o5⟩:=T.off a (List.mem_of_getElem? ha)
  have l:∀ {x ys},H x=some (.lst ys)→x∉a.ads→H' x=some (.lst ys):=fun {x ys} e n=>s x _ e (B.kinds e (fun _ z=>by cases z)).1 (B.kinds e (fun _ z=>by cases z)).2 n
  have t:=T.tb
  unfold Tb at t
  refine ⟨⟨⟨dx,s.keep B e1 (fun _ z=>by cases z) (fun _ z=>by cases z)⟩,l T.ss o1,⟨⟨dm,s.keep B e2 (fun _ z=>by cases z) (fun _ z=>by cases z)⟩,s _ _ T.mem.kept o4 o5 (B.nads T.mem.kept (fun _ z=>by cases z))⟩,l T.ev o2,T.lc,by rw [List.length_set]; exact T.lS,fun j b cb sb hb hcb hsb=>?_,T.sep,T.off,T.nse,(fun x hx=>by obtain ⟨ys,e⟩:=T.oex x hx; exact ⟨ys,l e ((T.on x hx).2.2 a (List.mem_of_getElem? ha)).2⟩),T.on,fun q hq b hb=>?_,fun j cb sb hcb hsb=>?_,T.cf,T.z0,T.z1,T.lU,T.l4,s.keep B t (fun _ z=>by cases z) (fun _ z=>by cases z)⟩,fun x o e n=>s x o e (fun z=>n (.inr (.inr ⟨a,List.mem_of_getElem? ha,.inl z⟩))) (fun z=>n (.inr (.inr ⟨a,List.mem_of_getElem? ha,.inr (.inl z)⟩))) (fun z=>n (.inr (.inr ⟨a,List.mem_of_getElem? ha,.inr (.inr z)⟩)))⟩
  · by_cases e:j=k
    · subst e
      rw [ha] at hb; cases hb
      rw [hc] at hcb; cases hcb
      rw [List.getElem?_set_self (by rw [T.lS]; exact hk)] at hsb
      cases hsb
      exact R
    · rw [List.getElem?_set_ne (fun z=>e z.symm)] at hsb
      exact (T.st j b cb sb hb hcb hsb).beside B (T.sep k j a b ha hb fun z=>e z.symm) hm s
  · rcases List.mem_or_eq_of_mem_set hq with hq | rfl
    · exact T.uni q hq b hb
    · exact hu b hb
  · by_cases e:j=k
    · subst e
      rw [hc] at hcb; cases hcb
      rw [List.getElem?_set_self (by rw [T.lS]; exact hk)] at hsb
      cases hsb
      exact hf
    · rw [List.getElem?_set_ne (fun z=>e z.symm)] at hsb
      exact T.full j cb sb hcb hsb
theorem StairsAt.event (T:StairsAt K H A g S xs U) (v:V):StairsAt K (upd H A.ev (.lst (xs++[v]))) A g S (xs++[v]) U∧SF A H (upd H A.ev (.lst (xs++[v]))):=by
  obtain ⟨dx,e1⟩:=T.ob
  obtain ⟨dm,e2⟩:=T.mem.ob
  have ne:∀ {y o},H y=some o→(∀ xs,o≠.lst xs)→y≠A.ev:=fun {y o} e n z=>by rw [z,T.ev] at e; exact n xs (Option.some.inj e).symm
  refine ⟨⟨⟨dx,by rw [Zb (ne e1 (fun _ z=>by cases z))]; exact e1⟩,by rw [Zb T.nse]; exact T.ss,⟨⟨dm,by rw [Zb (ne e2 (fun _ z=>by cases z))]; exact e2⟩,by rw [Zb (ne T.mem.kept (fun _ z=>by cases z))]; exact T.mem.kept⟩,Za,T.lc,T.lS,fun j b cb sb hb hcb hsb=>?_,T.sep,T.off,T.nse,(fun x hx=>by obtain ⟨ys,e⟩:=T.oex x hx; exact ⟨ys,by rw [Zb (T.on x hx).2.1]; exact e⟩),T.on,T.uni,T.full,T.cf,T.z0,T.z1,T.lU,T.l4,Znw T.tb T.ev⟩,fun x o e n=>by rw [Zb (fun z=>n (.inr (.inl z)))]; exact e⟩
  obtain ⟨o1,o2,o3,o4,o5⟩:=T.off b (List.mem_of_getElem? hb)
  exact (T.st j b cb sb hb hcb hsb).put _ T.ev o3 o2 (.inl rfl)
theorem StoreAt.putI (T:StoreAt K H a c zs M seq us) {x C d:Addr} {fs:List (Str×V)} {v:V} (hx:H x=some (.ins C d fs)) (hk:fs.lookup ("kind" : Str)=some v) (u:HO):StoreAt K (upd H x u) a c zs M seq us:=by
  obtain ⟨dx,h1⟩:=T.ob
  obtain ⟨dr,h2⟩:=T.room.ob
  obtain ⟨kr,h3,h4⟩:=T.room.dc
  obtain ⟨kv,h5,h6,h7,h8⟩:=T.held
  have ne:∀ {y o},H y=some o→(∀ C d fs,o=.ins C d fs→fs.lookup ("kind" : Str)=none)→y≠x:=fun {y o} e n z=>by
    rw [z,hx] at e
    have q:=n _ _ _ (Option.some.inj e).symm
    rw [hk] at q; cases q
  have n1:=ne h1 (fun _ _ _ z=>by cases z; exact sf_no ..)
  have n2:=ne h2 (fun _ _ _ z=>by cases z; exact fl_no ..)
  refine ⟨⟨dx,by rw [Zb n1]; exact h1⟩,⟨⟨dr,by rw [Zb n2]; exact h2⟩,⟨by rw [Zb (ne T.room.st.top (fun _ _ _ z=>by cases z))]; exact T.room.st.top,T.room.st.len,T.room.st.nd,T.room.st.off,fun i ad e=>by have q:=T.room.st.at_ i ad e; rw [Zb (ne q (fun _ _ _ z=>by cases z))]; exact q⟩,⟨kr,by rw [Zb (ne h3 (fun _ _ _ z=>by cases z))]; exact h3,h4⟩,T.room.nd,T.room.s0,T.room.s1⟩,⟨kv,by rw [Zb (ne h5 (fun _ _ _ z=>by cases z))]; exact h5,h6,h7,fun y hy=>?_⟩,by rw [Zb (ne T.fresh (fun _ _ _ z=>by cases z))]; exact T.fresh,T.n1,T.n2,T.n3⟩
  obtain ⟨l,e1,e2,e3⟩:=h8 y hy
  exact ⟨l,e1,by rw [Zb (ne e2 (fun _ _ _ z=>by cases z))]; exact e2,e3⟩
theorem StairsAt.told (T:StairsAt K H A g S xs U) {e' dx:Addr} (he:H e'=none):StairsAt K (upd (upd H e' (.lst [])) A.p (.ins (clsOf K "Stairs") dx (tflds g.size A.ss A.bm A.as.length e' g.kind))) { A with ev:=e' } g S [] U:=by
  obtain ⟨dx0,e1⟩:=T.ob
  obtain ⟨dm,e2⟩:=T.mem.ob
  have s:=Zh he (.lst [])
  have e1':=s _ _ e1
  have npe:A.p≠e':=Zd e1 he
  have ne:∀ {y o},upd H e' (.lst []) y=some o→(∀ C d fs,o=.ins C d fs→fs.lookup ("kind" : Str)=none)→y≠A.p:=fun {y o} e n z=>by
    rw [z,e1'] at e
    have q:=n _ _ _ (Option.some.inj e).symm
    rw [ZgI] at q; cases q
  have nads:∀ a∈A.as,e'∉a.ads:=fun a ha m=>T.mex e' (.inr (.inl ⟨a,ha,m⟩)) he
  have nls:∀ a∈A.as,e'≠a.ls:=fun a ha z=>by
    obtain ⟨k,hk⟩:=List.getElem?_of_mem ha
    obtain ⟨a',c,r,h1,h2,h3,R⟩:=T.at_ (List.getElem?_eq_some_iff.mp hk).1
    rw [hk] at h1; cases h1
    have q:=R.room.st.top
    rw [← z,he] at q; cases q
  have t:=T.tb.same s
  refine ⟨⟨dx,Za⟩,by rw [Zb (ne (s _ _ T.ss) (fun _ _ _ z=>by cases z))]; exact s _ _ T.ss,⟨⟨dm,by rw [Zb (ne (s _ _ e2) (fun _ _ _ z=>by cases z; exact mf_no ..))]; exact s _ _ e2⟩,by rw [Zb (ne (s _ _ T.mem.kept) (fun _ _ _ z=>by cases z))]; exact s _ _ T.mem.kept⟩,by rw [Zb (Ne.symm npe)]; exact Za,T.lc,T.lS,fun j b cb sb hb hcb hsb=>?_,T.sep,fun b hb=>?_,fun z=>?_,(fun x hx=>by obtain ⟨ys,e⟩:=T.oex x hx; exact ⟨ys,by rw [Zb (ne (s _ _ e) (fun _ _ _ z=>by cases z))]; exact s _ _ e⟩),(fun x hx=>⟨(T.on x hx).1,(fun z=>by obtain ⟨ys,e⟩:=T.oex x hx; have z:x=e':=z; rw [z,he] at e; cases e),(T.on x hx).2.2⟩),T.uni,T.full,T.cf,T.z0,T.z1,T.lU,T.l4,ZdR t e1' (fun _ _ z=>by cases z)⟩
  · have B:=T.st j b cb sb hb hcb hsb
    have B':StoreAt K H b cb (Zcj g.size) (MutL { A with ev:=e' }) sb.1 sb.2:=B.mono fun x ys hx hm=>by
      rcases hm with z | m
      · have z:x=e':=z
        rw [z,he] at hx; cases hx
      · exact .inr m
    exact (B'.same s).putI e1' (ZgI ..) _
  · obtain ⟨o1,o2,o3,o4,o5⟩:=T.off b hb
    exact ⟨o1,nads b hb,nls b hb,o4,o5⟩
  · have z:A.ss=e':=z
    have q:=T.ss
    rw [z,he] at q; cases q
theorem StairsAt.alloc (T:StairsAt K H A g S xs U) {r:Addr} (ys:List V) (hr:H r=none):StairsAt K (upd H r (.lst ys)) { A with out:=r :: A.out } g S xs U:=by
  have s:=Zh hr (.lst ys)
  have T':=T.same s
  have nr:∀ {x o},H x=some o→r≠x:=fun {x o} e z=>by rw [← z,hr] at e; cases e
  have nads:∀ a∈A.as,r∉a.ads:=fun a ha m=>T.mex r (.inr (.inl ⟨a,ha,m⟩)) hr
  have nls:∀ a∈A.as,r≠a.ls:=fun a ha=>by
    obtain ⟨k,hk⟩:=List.getElem?_of_mem ha
    obtain ⟨a',c,q,h1,h2,h3,R⟩:=T.at_ (List.getElem?_eq_some_iff.mp hk).1
    rw [hk] at h1; cases h1
    exact nr R.room.st.top
  refine ⟨T'.ob,T'.ss,T'.mem,T'.ev,T.lc,T.lS,fun j b cb sb hb hcb hsb=>?_,T.sep,T.off,T.nse,fun x hx=>?_,fun x hx=>?_,T.uni,T.full,T.cf,T.z0,T.z1,T.lU,T.l4,T'.tb⟩
  · have B:=T.st j b cb sb hb hcb hsb
    have B':StoreAt K H b cb (Zcj g.size) (MutL { A with out:=r :: A.out }) sb.1 sb.2:=B.mono fun x zs hx hm=>by
      rcases hm with z | m | m
      · exact .inl z
      · exact .inr (.inl m)
      · rcases List.mem_cons.mp m with rfl | m
        · rw [hr] at hx; cases hx
        · exact .inr (.inr m)
    exact B'.same s
  · rcases List.mem_cons.mp hx with rfl | hx
    · exact ⟨ys,Za⟩
    · exact T'.oex x hx
  · rcases List.mem_cons.mp hx with rfl | hx
    · exact ⟨nr T.ss,nr T.ev,fun a ha=>⟨nls a ha,nads a ha⟩⟩
    · exact T.on x hx
theorem StairsAt.outp (T:StairsAt K H A g S xs U) {r:Addr} (hr:r∈A.out) (ys:List V):StairsAt K (upd H r (.lst ys)) A g S xs U:=by
  obtain ⟨zs,er⟩:=T.oex r hr
  obtain ⟨n1,n2,n3⟩:=T.on r hr
  obtain ⟨dx,e1⟩:=T.ob
  obtain ⟨dm,e2⟩:=T.mem.ob
  have ne:∀ {y o},H y=some o→(∀ xs,o≠.lst xs)→y≠r:=fun {y o} e n z=>by rw [z,er] at e; exact n _ (Option.some.inj e).symm
  refine ⟨⟨dx,by rw [Zb (ne e1 (fun _ z=>by cases z))]; exact e1⟩,by rw [Zb (Ne.symm n1)]; exact T.ss,⟨⟨dm,by rw [Zb (ne e2 (fun _ z=>by cases z))]; exact e2⟩,by rw [Zb (ne T.mem.kept (fun _ z=>by cases z))]; exact T.mem.kept⟩,by rw [Zb (Ne.symm n2)]; exact T.ev,T.lc,T.lS,fun j b cb sb hb hcb hsb=>?_,T.sep,T.off,T.nse,fun x hx=>?_,T.on,T.uni,T.full,T.cf,T.z0,T.z1,T.lU,T.l4,Znw T.tb er⟩
  · obtain ⟨m1,m2⟩:=n3 b (List.mem_of_getElem? hb)
    exact (T.st j b cb sb hb hcb hsb).put _ er m1 m2 (.inr (.inr hr))
  · by_cases z:x=r
    · subst z; exact ⟨ys,Za⟩
    · obtain ⟨us,e⟩:=T.oex x hx
      exact ⟨us,by rw [Zb z]; exact e⟩
end
def useR (c:Cf) (s:RS) (b:Int):RS:=(if c.ru = "old" then s.1.erase b++[b] else s.1,bump s.2 b)
def outR (s:RS) (b:Int):RS:=(s.1.erase b,s.2)
def inR (s:RS) (b:Int):RS:=(s.1++[b],zero s.2 b)
theorem ZlE {R:Int→Int→Prop} (anti:∀ a b,R a b→R b a→a=b):∀ {l1 l2:List Int},l1.Perm l2→l1.Pairwise R→l2.Pairwise R→l1=l2
  | [],l2,p,_,_=>(List.nil_perm.mp p).symm
  | a :: l1,l2,p,h1,h2=>by
    match l2,p,h2 with
    | [],p,_=>exact absurd p.length_eq (by simp)
    | b :: l2,p,h2 =>
      have e:a=b:=by
        by_cases c:a=b
        · exact c
        · have ma:a∈l2:=(List.mem_cons.mp (p.mem_iff.mp List.mem_cons_self)).resolve_left c
          have mb:b∈l1:=(List.mem_cons.mp (p.mem_iff.mpr List.mem_cons_self)).resolve_left (fun z=>c z.symm)
          exact anti a b ((List.pairwise_cons.mp h1).1 b mb) ((List.pairwise_cons.mp h2).1 a ma)
      subst e
      rw [ZlE anti (List.Perm.cons_inv p) (List.pairwise_cons.mp h1).2 (List.pairwise_cons.mp h2).2]
theorem ZmV {us:Int→Int} {ms:List Int} (a b:Int) (h1:KLt us ms a b) (h2:KLt us ms b a):a=b:=by
  rcases h1 with h1 | ⟨h1,h3⟩ <;> rcases h2 with h2 | ⟨h2,h4⟩ <;> omega
theorem ZlF {ru:Str} {us:Int→Int} {pl:Int} {ms:List Int} {g g':Option Int} (h:goneP ru us pl ms g) (h':goneP ru us pl ms g'):g=g':=by
  by_cases c:(ms.length:Int)<pl
  · rw [h.1 c,h'.1 c]
  · obtain ⟨x,r,rfl,p,f,n⟩:=h.2 c
    obtain ⟨x',r',rfl,p',f',n'⟩:=h'.2 c
    have e:x :: r=x' :: r':=by
      by_cases q:ru = "few"
      · exact ZlE ZmV (p.trans p'.symm) (f q) (f' q)
      · rw [n q,n' q]
    injection e with e1 _
    rw [e1]
open Classical in
noncomputable def goneF (c:Cf) (s:RS) (b:Int):Option Int:=if h:∃ g,goneP c.ru s.2 c.pl (Zn c.sh (b % c.sh) s.1) g then Classical.choose h else none
theorem Zev {c:Cf} {s:RS} {b:Int} {g:Option Int} (h:goneP c.ru s.2 c.pl (Zn c.sh (b % c.sh) s.1) g):goneF c s b=g:=by
  unfold goneF
  have e:∃ g,goneP c.ru s.2 c.pl (Zn c.sh (b % c.sh) s.1) g:=⟨g,h⟩
  rw [dif_pos e]
  exact ZlF (Classical.choose_spec e) h
theorem ZhQ {sh pl:Int} {seq seq':List Int} (h:∀ s,((Zn sh s seq).length:Int)≤pl) (hs:seq'.Sublist seq):∀ s,((Zn sh s seq').length:Int)≤pl:=fun s=>by
  have q:(Zn sh s seq').Sublist (Zn sh s seq):=List.Sublist.filter _ hs
  have:=q.length_le
  have:=h s
  omega
theorem ZhR {sh pl:Int} {seq seq':List Int} (h:∀ s,((Zn sh s seq).length:Int)≤pl) (hs:seq'.Perm seq):∀ s,((Zn sh s seq').length:Int)≤pl:=fun s=>by
  have q:(Zn sh s seq').Perm (Zn sh s seq):=List.Perm.filter _ hs
  rw [q.length_eq]
  exact h s
theorem ZlG {sh pl b:Int} {seq:List Int} (h:∀ s,((Zn sh s seq).length:Int)≤pl) (hb:((Zn sh (b % sh) seq).length:Int)<pl):∀ s,((Zn sh s (seq++[b])).length:Int)≤pl:=fun s=>by
  rw [Zcy]
  split
  · rename_i e
    rw [← e,List.length_append]
    show ((_+1:Nat):Int)≤pl
    omega
  · exact h s
theorem Zfe {c:Cf} {s:RS} {b x:Int} (hb:b∈s.1) (nd:s.1.Nodup):x∈(useR c s b).1↔x∈s.1:=by
  unfold useR
  by_cases e:c.ru = "old"
  · rw [if_pos e,List.mem_append,List.mem_singleton,List.Nodup.mem_erase_iff nd]
    constructor
    · rintro (⟨_,m⟩ | rfl)
      · exact m
      · exact hb
    · intro m
      by_cases z:x=b
      · exact .inr z
      · exact .inl ⟨z,m⟩
  · rw [if_neg e]
theorem ZmW {c:Cf} {s:RS} {b:Int} (hb:b∈s.1):(useR c s b).1.Perm s.1:=by
  unfold useR
  by_cases e:c.ru = "old"
  · rw [if_pos e]; exact (List.perm_append_comm).trans (List.perm_cons_erase hb).symm
  · rw [if_neg e]
section
variable {K:PySem.W.Frag} {H H':Hp} {A:TA} {g:Pln} {S:List RS} {xs:List V} {U:List Int}
theorem StairsAt.ix {k:Nat} {a:SA} (ha:A.as[k]?=some a):atI (A.as.map fun a=>V.ref a.sp) (k:Int)=some (.ref a.sp):=ZaQ (by rw [List.getElem?_map,ha]; rfl)
theorem StairsAt.nfoot (T:StairsAt K H A g S xs U) {l:Addr} {ys:List V} (h:H l=some (.lst ys)) (n:¬ MutL A l):¬ Foot A l:=fun z=>by
  rcases z with rfl | rfl | ⟨a,ha,z⟩
  · obtain ⟨dx,e⟩:=T.ob; rw [e] at h; cases h
  · exact n (.inl rfl)
  · obtain ⟨k,hk⟩:=List.getElem?_of_mem ha
    obtain ⟨a',c,s,h1,h2,h3,R⟩:=T.at_ (List.getElem?_eq_some_iff.mp hk).1
    rw [hk] at h1; cases h1
    obtain ⟨q1,q2⟩:=R.kinds h (fun _ z=>by cases z)
    rcases z with z | z | z
    · exact q1 z
    · exact q2 z
    · exact n (.inr (.inl ⟨a,ha,z⟩))
theorem StairsAt.sfp (T:StairsAt K H A g S xs U) {o:HO} {x:Addr} (h:H x=some o) (n1:∀ xs,o≠.lst xs) (n2:∀ kvs,o≠.dK kvs) (n3:∀ C d fs,o≠.ins C d fs):¬ Foot A x:=fun z=>by
  rcases z with rfl | rfl | ⟨a,ha,z⟩
  · obtain ⟨dx,e⟩:=T.ob; rw [e] at h; exact n3 _ _ _ (Option.some.inj h).symm
  · rw [T.ev] at h; exact n1 _ (Option.some.inj h).symm
  · obtain ⟨k,hk⟩:=List.getElem?_of_mem ha
    obtain ⟨a',c,s,h1,h2,h3,R⟩:=T.at_ (List.getElem?_eq_some_iff.mp hk).1
    rw [hk] at h1; cases h1
    obtain ⟨q1,q2⟩:=R.kinds h n2
    rcases z with z | z | z
    · exact q1 z
    · exact q2 z
    · exact R.nads h n1 z
end
section
variable {P:Program} {w:World} {K:PySem.W.Frag} {mg:Str→Option Value} {base:Heap}
def ZgK (K:PySem.W.Frag):Sp:=fun vs H Q _=>∃ (A:TA) (g:Pln) (S:List RS) (xs:List V) (U:List Int) (k:Nat) (a:SA),vs=[.ref A.p,.int (k:Int)]∧StairsAt K H A g S xs U∧A.as[k]?=some a∧Q (.ref a.sp) H
theorem ZfF {f:Addr} {fd:FuncData} (F:Fun K "store" "Steps.store" ZaL f fd) (T:Txt K mg):FnOk P w K mg base CX0 1 f fd Zbg (ZgK K):=by
  refine F.ok sc_Steps_store (fun vs H Q E h=>?_) (fun cdv A outer st H vs Q E hr h=>?_)
  · obtain ⟨A,g,S,xs,U,k,a,rfl,_⟩:=h
    rfl
  obtain ⟨A,g,S,xs,U,k,a,rfl,R,ha,q⟩:=h
  have nd:=sc_Steps_store.nd
  refine ⟨_,(Zf (ps_if (ZeC (Zmr op_le op_lt Zj (pv 1) (Zr (K:=K) rfl (pv 0) rfl))) (Zi ps_no) Zz)
      (Zi (Zu (pe_ix (Zt (K:=K) rfl) (Zr (K:=K) rfl (pv 0) rfl) (pv 1) (fun _ _=>rfl))))),?_⟩
  obtain ⟨dx,h1⟩:=R.ob
  have hk:k<A.as.length:=(List.getElem?_eq_some_iff.mp ha).1
  refine ⟨_,rfl,_,_,rfl,rfl,_,rfl,ifT (decide_eq_true (by omega)) ⟨_,rfl,A.p,_,dx,_,_,rfl,h1,T.cl_Stairs,T.n_Stairs_last,Zdf ..,_,_,rfl,rfl,_,rfl,ifF (by rw [decide_eq_true (by omega)]; rfl) ?_⟩⟩
  exact ⟨_,rfl,A.p,_,dx,_,_,rfl,h1,T.cl_Stairs,T.n_Stairs_stores,ZbH ..,_,rfl,A.ss,_,_,_,rfl,rfl,SqL.of R.ss,StairsAt.ix ha,q⟩
def Zew (K:PySem.W.Frag):Sp:=fun vs H Q _=>∃ (A:TA) (g:Pln) (S:List RS) (xs:List V) (U:List Int) (k:Nat) (b:Int),vs=[.ref A.p,.int (k:Int),.int b]∧StairsAt K H A g S xs U∧k≤A.as.length∧(∀ s,S[k]?=some s→b∈s.1)∧0≤b∧b≤1000000∧∀ l H',H l=none→Same H H'→H' l=some (.lst (Zcj g.size))→Q (.ref l) H'
theorem ZfG {f:Addr} {fd:FuncData} (F:Fun K "words" "Steps.words" ZaJ f fd) (T:Txt K mg) (M_Memory_words_of:MDef P w K mg base (clsOf K "Memory") "words_of" 2 Zah (ZgH K)) (M_Steps_store:MDef P w K mg base (clsOf K "Stairs") "store" 1 Zbg (ZgK K)) (M_Store_words_of:MDef P w K mg base (clsOf K "Store") "words_of" 3 ZW (ZdB K)):FnOk P w K mg base CX0 4 f fd ZaK (Zew K):=by
  refine F.ok sc_Steps_words (fun vs H Q E h=>?_) (fun cdv A outer st H vs Q E hr h=>?_)
  · obtain ⟨A,g,S,xs,U,k,b,rfl,_⟩:=h
    rfl
  obtain ⟨A,g,S,xs,U,k,b,rfl,R,hk,hb,b0,b1,q⟩:=h
  have nd:=sc_Steps_words.nd
  refine ⟨_,(Zf (ps_if (ZJ op_eq (pv 1) (Zr (K:=K) rfl (pv 0) rfl) (ZF _)) (Zi (Zu (Zk M_Memory_words_of hr.m T.cl_Memory (Zr (K:=K) rfl (pv 0) rfl) (pc (pv 2) Ze)))) Zz)
      (Zi (Zu (Zk M_Store_words_of hr.m T.cl_Store (Zk M_Steps_store hr.m T.cl_Stairs (pv 0) (pc (pv 1) Ze)) (pc (pv 2) Ze))))),?_⟩
  obtain ⟨dx,h1⟩:=R.ob
  obtain ⟨dm,h2⟩:=R.mem.ob
  refine ⟨_,rfl,_,rfl,A.p,_,dx,_,_,rfl,h1,T.cl_Stairs,T.n_Stairs_last,Zdf ..,rfl,_,rfl,Zfb (fun e=>?_) (fun e=>?_)⟩
  · exact ⟨_,rfl,A.p,_,dx,_,_,rfl,h1,T.cl_Stairs,T.n_Stairs_bottom,ZlD ..,A.bm,dm,_,rfl,h2,mf_no ..,_,rfl,A.bm,A.dk,g.size,b,rfl,R.mem,by have:=R.z0; omega,R.z1,b0,b1,q⟩
  · obtain ⟨a,c,s,e1,e2,e3,B⟩:=R.at_ (k:=k) (by omega)
    obtain ⟨ds,h3⟩:=B.ob
    exact ⟨_,rfl,A.p,dx,_,rfl,h1,tf_no ..,_,rfl,A,g,S,xs,U,k,a,rfl,R,e1,a.sp,ds,_,rfl,h3,sf_no ..,_,rfl,a,c,_,_,s.1,s.2,b,rfl,B,hb s e3,fun l hl=>q l _ hl (Zh hl _) Za⟩
def ZdS (K:PySem.W.Frag):Sp:=fun vs H Q _=>∃ (A:TA) (g:Pln) (S:List RS) (xs:List V) (U:List Int),vs=[.ref A.p]∧StairsAt K H A g S xs U∧∀ e' H',H e'=none→StairsAt K H' { A with ev:=e' } g S [] U→(∀ x o,H x=some o→x≠A.p→H' x=some o)→Q (.ref A.ev) H'
theorem ZdT {f:Addr} {fd:FuncData} (F:Fun K "happened" "Steps.happened" ZX f fd) (T:Txt K mg):FnOk P w K mg base CX0 1 f fd Zar (ZdS K):=by
  refine F.ok sc_Steps_happened (fun vs H Q E h=>?_) (fun cdv A outer st H vs Q E hr h=>?_)
  · obtain ⟨A,g,S,xs,U,rfl,_⟩:=h
    rfl
  obtain ⟨A,g,S,xs,U,rfl,R,q⟩:=h
  have nd:=sc_Steps_happened.nd
  refine ⟨_,(Zf (pst 1 nd (Zr (K:=K) rfl (pv 0) rfl))
      (Zf (Zbm (pv 0) (ZbM Ze) rfl)
      (Zi (Zu (pv 1))))),?_⟩
  obtain ⟨dx,h1⟩:=R.ob
  refine ⟨_,rfl,A.p,_,dx,_,_,rfl,h1,T.cl_Stairs,T.n_Stairs_events,ZdD ..,gN ?_⟩
  try dsimp only
  refine ⟨(by show 0≤sizeLine; decide),fun e' he=>⟨_,rfl,A.p,_,dx,_,rfl,Zh he _ _ _ h1,T.cl_Stairs,T.n_Stairs_events,(by rw [ZdQ]; show 6<1000; decide),?_⟩⟩
  rw [Zpa]
  refine ⟨_,rfl,q e' _ he (R.told he) fun x o e n=>?_⟩
  rw [Zb n]
  exact Zh he _ _ _ e
def ZhS (K:PySem.W.Frag):Sp:=fun vs H Q _=>∃ (A:TA) (g:Pln) (S:List RS) (xs:List V) (U:List Int) (k:Nat) (b:Int) (c:Cf) (s:RS),vs=[.ref A.p,.int (k:Int),.int b]∧StairsAt K H A g S xs U∧g.cfs[k]?=some c∧S[k]?=some s∧∀ H',Same H H'→goneP c.ru s.2 c.pl (Zn c.sh (b % c.sh) s.1) (goneF c s b)→Q (optV (goneF c s b)) H'
theorem Zff {f:Addr} {fd:FuncData} (F:Fun K "leaver" "Steps.leaver" Zat f fd) (T:Txt K mg) (M_Room_leaver_for:MDef P w K mg base (clsOf K "Room") "leaver_for" 3 ZP (Zeu K)):FnOk P w K mg base CX0 4 f fd Zae (ZhS K):=by
  refine F.ok sc_Steps_leaver (fun vs H Q E h=>?_) (fun cdv A outer st H vs Q E hr h=>?_)
  · obtain ⟨A,g,S,xs,U,k,b,c,s,rfl,_⟩:=h
    rfl
  obtain ⟨A,g,S,xs,U,k,b,c,s,rfl,R,hc,hs,q⟩:=h
  have nd:=sc_Steps_leaver.nd
  refine ⟨_,(Zi (Zu (Zk M_Room_leaver_for hr.m T.cl_Room (Zr (K:=K) rfl (pe_ix (Zt (K:=K) rfl) (Zr (K:=K) rfl (pv 0) rfl) (pv 1) (fun _ _=>rfl)) rfl) (pc (pv 2) Ze)))),?_⟩
  obtain ⟨dx,h1⟩:=R.ob
  obtain ⟨a,c',s',e1,e2,e3,B⟩:=R.at_ (k:=k) (by rw [← R.lS]; exact (List.getElem?_eq_some_iff.mp hs).1)
  rw [hc] at e2; cases e2
  rw [hs] at e3; cases e3
  obtain ⟨ds,h3⟩:=B.ob
  obtain ⟨dr,h4⟩:=B.room.ob
  have cb:=R.cf c (List.mem_of_getElem? hc)
  have fl:=R.full k c s hc hs (b % c.sh)
  refine ⟨_,rfl,A.p,_,dx,_,_,rfl,h1,T.cl_Stairs,T.n_Stairs_stores,ZbH ..,_,rfl,A.ss,_,_,_,rfl,rfl,SqL.of R.ss,StairsAt.ix e1,a.sp,_,ds,_,_,rfl,h3,T.cl_Store,T.n_Store_room,Zde ..,a.rp,dr,_,rfl,h4,fl_no ..,_,rfl,a.rp,b,c.sh,c.pl,c.ru,a.ls,a.ads,a.du,s.1,s.2,_,rfl,B.room,R.tb,cb.1,by omega,fun gone H' gp sm=>?_⟩
  have e:=Zev gp
  have q':=q H' sm (by rw [e]; exact gp)
  rw [e] at q'
  exact q'
def ZlH (K:PySem.W.Frag):Sp:=fun vs H Q _=>∃ (A:TA) (g:Pln) (S:List RS) (xs:List V) (U:List Int) (k:Nat),vs=[.ref A.p,.int (k:Int)]∧StairsAt K H A g S xs U∧xs.length≤500∧∀ t H',H t=none→H' t=some (.tup [.str "found",.int (k:Int)])→StairsAt K H' A g S (xs++[.ref t]) U→SF A H H'→Q .non H'
theorem Zdg {f:Addr} {fd:FuncData} (F:Fun K "tell_found" "Steps.tell_found" ZH f fd) (T:Txt K mg):FnOk P w K mg base CX0 1 f fd Zab (ZlH K):=by
  refine F.ok sc_Steps_tell_found (fun vs H Q E h=>?_) (fun cdv A outer st H vs Q E hr h=>?_)
  · obtain ⟨A,g,S,xs,U,k,rfl,_⟩:=h
    rfl
  obtain ⟨A,g,S,xs,U,k,rfl,R,hl,q⟩:=h
  have nd:=sc_Steps_tell_found.nd
  refine ⟨_,(Zi (Zw (ZcW (K:=K) rfl (pe_bm PySem.F.plainAttrs_list PySem.F.slot_list_append PySem.F.type_list_append ZbC (Zr (K:=K) rfl (pv 0) rfl) (pc (Zbd (pc ZaT (pc (pv 1) Ze))) Ze))))),?_⟩
  obtain ⟨dx,h1⟩:=R.ob
  refine ⟨_,rfl,A.p,_,dx,_,_,rfl,h1,T.cl_Stairs,T.n_Stairs_events,ZdD ..,.inl ⟨rfl,_,SqL.of R.ev⟩,_,rfl,(by show 2≤sizeLine; decide),fun t ht=>?_⟩
  have s1:=Zh ht (.tup [.str "found",.int (k:Int)])
  have R1:=R.same s1
  have et:upd H t (.tup [.str "found",.int (k:Int)]) t=some (.tup [.str "found",.int (k:Int)]):=Za
  generalize upd H t (.tup [.str "found",.int (k:Int)])=H1 at *
  obtain ⟨R2,f2⟩:=R1.event (.ref t)
  exact ⟨A.ev,_,_,rfl,rfl,R1.ev,Zv (by omega),q t _ ht (by rw [Zb (fun z=>by rw [z,R1.ev] at et; cases et)]; exact et) R2 ((SF.of s1).trans f2)⟩
def ZgL (K:PySem.W.Frag):Sp:=fun vs H Q _=>∃ (A:TA) (g:Pln) (S:List RS) (xs:List V) (U:List Int) (k:Nat) (b:Int) (c:Cf) (s:RS),vs=[.ref A.p,.int (k:Int),.int b]∧StairsAt K H A g S xs U∧g.cfs[k]?=some c∧S[k]?=some s∧b∈s.1∧∀ H',StairsAt K H' A g (S.set k (useR c s b)) xs U→SF A H H'→Q .non H'
theorem Zfg {f:Addr} {fd:FuncData} (F:Fun K "use_in" "Steps.use_in" Zau f fd) (T:Txt K mg) (M_Room_use:MDef P w K mg base (clsOf K "Room") "use" 3 ZbX (spUse K)):FnOk P w K mg base CX0 4 f fd Zav (ZgL K):=by
  refine F.ok sc_Steps_use_in (fun vs H Q E h=>?_) (fun cdv A outer st H vs Q E hr h=>?_)
  · obtain ⟨A,g,S,xs,U,k,b,c,s,rfl,_⟩:=h
    rfl
  obtain ⟨A,g,S,xs,U,k,b,c,s,rfl,R,hc,hs,hb,q⟩:=h
  have nd:=sc_Steps_use_in.nd
  refine ⟨_,(Zi (Zw (Zk M_Room_use hr.m T.cl_Room (Zr (K:=K) rfl (pe_ix (Zt (K:=K) rfl) (Zr (K:=K) rfl (pv 0) rfl) (pv 1) (fun _ _=>rfl)) rfl) (pc (pv 2) Ze)))),?_⟩
  obtain ⟨dx,h1⟩:=R.ob
  obtain ⟨a,c',s',e1,e2,e3,B⟩:=R.at_ (k:=k) (by rw [← R.lS]; exact (List.getElem?_eq_some_iff.mp hs).1)
  rw [hc] at e2; cases e2
  rw [hs] at e3; cases e3
  obtain ⟨ds,h3⟩:=B.ob
  obtain ⟨dr,h4⟩:=B.room.ob
  have ln:=R.len hs
  refine ⟨_,rfl,A.p,_,dx,_,_,rfl,h1,T.cl_Stairs,T.n_Stairs_stores,ZbH ..,_,rfl,A.ss,_,_,_,rfl,rfl,SqL.of R.ss,StairsAt.ix e1,a.sp,_,ds,_,_,rfl,h3,T.cl_Store,T.n_Store_room,Zde ..,a.rp,dr,_,rfl,h4,fl_no ..,_,rfl,a.rp,b,c.sh,c.pl,c.ru,a.ls,a.ads,a.du,s.1,s.2,_,rfl,B.room,by omega,hb,by omega,fun H' R1 s1=>?_⟩
  have B':=B.deed (ZgJ (List.mem_of_getElem? e1)) R1 s1 (fun x=>Zfe (c:=c) (s:=s) hb B.room.nd)
  obtain ⟨R2,f2⟩:=R.deed e1 hc B' (SRs.room s1) (fun x hx=>R.uni s (List.mem_of_getElem? hs) x ((Zfe (c:=c) hb B.room.nd).mp hx)) (ZhR (R.full k c s hc hs) (ZmW (c:=c) hb))
  exact q H' R2 f2
def Zex (K:PySem.W.Frag):Sp:=fun vs H Q _=>∃ (A:TA) (g:Pln) (S:List RS) (xs:List V) (U:List Int) (k:Nat) (b:Int) (lw:Addr) (c:Cf) (s:RS),vs=[.ref A.p,.int (k:Int),.int b,.ref lw]∧StairsAt K H A g S xs U∧g.cfs[k]?=some c∧S[k]?=some s∧b∉s.1∧b∈U∧((Zn c.sh (b % c.sh) s.1).length:Int)<c.pl∧H lw=some (.lst (Zcj g.size))∧¬ MutL A lw∧xs.length≤500 ∧
  ∀ H' v,StairsAt K H' A g (S.set k (inR s b)) (xs++[v]) U→SF A H H'→Q .non H'
theorem Zem {f:Addr} {fd:FuncData} (F:Fun K "come_in" "Steps.come_in" Zai f fd) (T:Txt K mg) (M_Store_take_in:MDef P w K mg base (clsOf K "Store") "take_in" 5 ZaB (ZgE K)):FnOk P w K mg base CX0 6 f fd Zaj (Zex K):=by
  refine F.ok sc_Steps_come_in (fun vs H Q E h=>?_) (fun cdv A outer st H vs Q E hr h=>?_)
  · obtain ⟨A,g,S,xs,U,k,b,lw,c,s,rfl,_⟩:=h
    rfl
  obtain ⟨A,g,S,xs,U,k,b,lw,c,s,rfl,R,hc,hs,hb,hbU,hsh,hlw,hml,hl,q⟩:=h
  have nd:=sc_Steps_come_in.nd
  refine ⟨_,(Zf (Zw (Zk M_Store_take_in hr.m T.cl_Store (pe_ix (Zt (K:=K) rfl) (Zr (K:=K) rfl (pv 0) rfl) (pv 1) (fun _ _=>rfl)) (pc (pv 2) (pc (pv 3) Ze))))
      (Zi (Zw (ZcW (K:=K) rfl (pe_bm PySem.F.plainAttrs_list PySem.F.slot_list_append PySem.F.type_list_append ZbC (Zr (K:=K) rfl (pv 0) rfl) (pc (Zbd (pc ZaT (pc (pv 1) (pc (pv 2) Ze)))) Ze)))))),?_⟩
  obtain ⟨dx,h1⟩:=R.ob
  obtain ⟨a,c',s',e1,e2,e3,B⟩:=R.at_ (k:=k) (by rw [← R.lS]; exact (List.getElem?_eq_some_iff.mp hs).1)
  rw [hc] at e2; cases e2
  rw [hs] at e3; cases e3
  obtain ⟨ds,h3⟩:=B.ob
  have ln:=R.len hs
  have cb:=R.cf c (List.mem_of_getElem? hc)
  refine ⟨_,rfl,A.p,_,dx,_,_,rfl,h1,T.cl_Stairs,T.n_Stairs_stores,ZbH ..,_,rfl,A.ss,_,_,_,rfl,rfl,SqL.of R.ss,StairsAt.ix e1,a.sp,ds,_,rfl,h3,sf_no ..,_,rfl,_,rfl,a,c,_,_,s.1,s.2,b,lw,rfl,B,R.tb,ZgJ (List.mem_of_getElem? e1),R.mex,hlw,hml,hb,ln,cb.1,cb.2,hsh,fun H1 B' s1=>?_⟩
  obtain ⟨R2,f2⟩:=R.deed e1 hc B' s1 (fun x hx=>(List.mem_append.mp hx).elim (R.uni s (List.mem_of_getElem? hs) x) fun m=>by rw [List.mem_singleton.mp m]; exact hbU) (ZlG (R.full k c s hc hs) hsh)
  obtain ⟨dx2,g2⟩:=R2.ob
  refine ⟨_,rfl,A.p,_,dx2,_,_,rfl,g2,T.cl_Stairs,T.n_Stairs_events,ZdD ..,.inl ⟨rfl,_,SqL.of R2.ev⟩,_,rfl,_,rfl,(by show 3≤sizeLine; decide),fun t ht=>?_⟩
  have s3:=Zh ht (.tup [.str "in",.int (k:Int),.int b])
  have R3:=R2.same s3
  obtain ⟨R4,f4⟩:=R3.event (.ref t)
  exact ⟨A.ev,_,_,rfl,rfl,R3.ev,Zv (by omega),q _ _ R4 ((f2.trans (SF.of s3)).trans f4)⟩
def ZdU (K:PySem.W.Frag):Sp:=fun vs H Q _=>∃ (A:TA) (g:Pln) (S:List RS) (xs:List V) (U:List Int) (k:Nat) (b:Int) (s:RS),vs=[.ref A.p,.int (k:Int),.int b]∧StairsAt K H A g S xs U∧S[k]?=some s∧b∈s.1∧xs.length≤500 ∧
  ∀ H' t l v,H' t=some (.tup [.ref l,.bl false])→H' l=some (.lst (Zcj g.size))→¬ MutL A l→StairsAt K H' A g (S.set k (outR s b)) (xs++[v]) U→SF A H H'→Q (.ref t) H'
theorem Zfh {f:Addr} {fd:FuncData} (F:Fun K "go_out" "Steps.go_out" Zaw f fd) (T:Txt K mg) (M_Store_give_out:MDef P w K mg base (clsOf K "Store") "give_out" 4 Zaq (Zfd K)):FnOk P w K mg base CX0 5 f fd ZM (ZdU K):=by
  refine F.ok sc_Steps_go_out (fun vs H Q E h=>?_) (fun cdv A outer st H vs Q E hr h=>?_)
  · obtain ⟨A,g,S,xs,U,k,b,s,rfl,_⟩:=h
    rfl
  obtain ⟨A,g,S,xs,U,k,b,s,rfl,R,hs,hb,hl,q⟩:=h
  have nd:=sc_Steps_go_out.nd
  refine ⟨_,(Zf (Zw (ZcW (K:=K) rfl (pe_bm PySem.F.plainAttrs_list PySem.F.slot_list_append PySem.F.type_list_append ZbC (Zr (K:=K) rfl (pv 0) rfl) (pc (Zbd (pc ZaT (pc (pv 1) (pc (pv 2) Ze)))) Ze))))
      (Zi (Zu (Zk M_Store_give_out hr.m T.cl_Store (pe_ix (Zt (K:=K) rfl) (Zr (K:=K) rfl (pv 0) rfl) (pv 1) (fun _ _=>rfl)) (pc (pv 2) Ze))))),?_⟩
  obtain ⟨dx,h1⟩:=R.ob
  refine ⟨_,rfl,A.p,_,dx,_,_,rfl,h1,T.cl_Stairs,T.n_Stairs_events,ZdD ..,.inl ⟨rfl,_,SqL.of R.ev⟩,_,rfl,_,rfl,(by show 3≤sizeLine; decide),fun t ht=>?_⟩
  have s3:=Zh ht (.tup [.str "out",.int (k:Int),.int b])
  have R3:=R.same s3
  obtain ⟨R4,f4⟩:=R3.event (.ref t)
  refine ⟨A.ev,_,_,rfl,rfl,R3.ev,Zv (by omega),?_⟩
  generalize upd (upd H t (.tup [.str "out",.int (k:Int),.int b])) A.ev (.lst (xs++[.ref t]))=H4 at *
  obtain ⟨dx4,g4⟩:=R4.ob
  obtain ⟨a,c,s',e1,e2,e3,B⟩:=R4.at_ (k:=k) (by rw [← R.lS]; exact (List.getElem?_eq_some_iff.mp hs).1)
  rw [hs] at e3; cases e3
  obtain ⟨ds,h3⟩:=B.ob
  refine ⟨_,rfl,A.p,_,dx4,_,_,rfl,g4,T.cl_Stairs,T.n_Stairs_stores,ZbH ..,_,rfl,A.ss,_,_,_,rfl,rfl,SqL.of R4.ss,StairsAt.ix e1,a.sp,ds,_,rfl,h3,sf_no ..,_,rfl,a,c,_,_,s.1,s.2,b,rfl,B,ZgJ (List.mem_of_getElem? e1),hb,fun t2 l H5 et el nl B' s5=>?_⟩
  obtain ⟨R5,f5⟩:=R4.deed e1 e2 B' s5 (fun x hx=>R.uni s (List.mem_of_getElem? hs) x (List.mem_of_mem_erase hx)) (ZhQ (R.full k c s e2 hs) List.erase_sublist)
  exact q H5 t2 l _ et el nl R5 (((SF.of s3).trans f4).trans f5)
def ZgM (K:PySem.W.Frag):Sp:=fun vs H Q _=>∃ (A:TA) (g:Pln) (S:List RS) (xs:List V) (U:List Int) (k:Nat) (sp b:Int) (s:RS),vs=[.ref A.p,.int (k:Int),.int sp]∧StairsAt K H A g S xs U∧S[k]?=some s∧b∈s.1∧sp / g.size=b∧∀ H',Same H H'→Q (.int 0) H'
theorem Zen {f:Addr} {fd:FuncData} (F:Fun K "word_in" "Steps.word_in" Zak f fd) (T:Txt K mg) (M_Store_words_of:MDef P w K mg base (clsOf K "Store") "words_of" 3 ZW (ZdB K)) (D_board_of:Def P w K mg base "board_of" 1 ZbQ ZgF):FnOk P w K mg base CX0 4 f fd ZaD (ZgM K):=by
  refine F.ok sc_Steps_word_in (fun vs H Q E h=>?_) (fun cdv A outer st H vs Q E hr h=>?_)
  · obtain ⟨A,g,S,xs,U,k,sp,b,s,rfl,_⟩:=h
    rfl
  obtain ⟨A,g,S,xs,U,k,sp,b,s,rfl,R,hs,hb,e,q⟩:=h
  have nd:=sc_Steps_word_in.nd
  refine ⟨_,(Zi (Zu (pe_ix (Zt (K:=K) rfl) (Zk M_Store_words_of hr.m T.cl_Store (pe_ix (Zt (K:=K) rfl) (Zr (K:=K) rfl (pv 0) rfl) (pv 1) (fun _ _=>rfl)) (pc (Zp D_board_of hr.m rfl (pc (Zr (K:=K) rfl (pv 0) rfl) (pc (pv 2) Ze))) Ze)) (pe_op Zcm (pv 2) (Zr (K:=K) rfl (pv 0) rfl)) (fun _ _=>rfl)))),?_⟩
  obtain ⟨dx,h1⟩:=R.ob
  obtain ⟨a,c,s',e1,e2,e3,B⟩:=R.at_ (k:=k) (by rw [← R.lS]; exact (List.getElem?_eq_some_iff.mp hs).1)
  rw [hs] at e3; cases e3
  obtain ⟨ds,h3⟩:=B.ob
  have z0:=R.z0
  have z1:=R.z1
  refine ⟨_,rfl,A.p,_,dx,_,_,rfl,h1,T.cl_Stairs,T.n_Stairs_stores,ZbH ..,_,rfl,A.ss,_,_,_,rfl,rfl,SqL.of R.ss,StairsAt.ix e1,a.sp,ds,_,rfl,h3,sf_no ..,_,rfl,A.p,_,dx,_,_,rfl,h1,T.cl_Stairs,T.n_Stairs_size,ZiG ..,_,rfl,g.size,sp,rfl,by omega,by omega,a,c,_,_,s.1,s.2,_,rfl,B,by rw [e]; exact hb,fun l hl=>?_⟩
  have s1:=Zh hl (.lst (Zcj g.size))
  have m0:0≤sp % g.size:=Int.emod_nonneg _ (by omega)
  have m1:sp % g.size<g.size:=Int.emod_lt_of_pos _ (by omega)
  have at0:atI (Zcj g.size) (sp % g.size)=some (.int 0):=by
    have e:((sp % g.size).toNat:Int)=sp % g.size:=by omega
    rw [← e]
    refine ZaQ ?_
    unfold Zcj
    rw [List.getElem?_replicate,if_pos (by omega)]
  exact ⟨_,rfl,_,rfl,A.p,_,dx,_,_,rfl,s1 _ _ h1,T.cl_Stairs,T.n_Stairs_size,ZiG ..,_,_,rfl,rfl,(by show 0<g.size; omega),l,_,_,_,rfl,rfl,SqL.of Za,at0,q _ s1⟩
end
structure PlanAt (K:PySem.W.Frag) (H:Hp) (tp:Addr) (ts:List Addr) (cfs:List Cf):Prop where
  top:H tp=some (.tup (ts.map V.ref))
  len:ts.length=cfs.length
  at_:∀ (i:Nat) (t:Addr) (c:Cf),ts[i]?=some t→cfs[i]?=some c→∃ wr:Str,H t=some (.tup [.int c.sh,.int c.pl,.str c.ru,.str wr])∧c.late=decide (wr = "late")
  cf:∀ c∈cfs,1≤c.sh∧c.sh≤64∧1≤c.pl∧c.pl≤16
theorem PlanAt.same {K:PySem.W.Frag} {H H':Hp} {tp:Addr} {ts:List Addr} {cfs:List Cf} (p:PlanAt K H tp ts cfs) (s:Same H H'):PlanAt K H' tp ts cfs :=
  ⟨s _ _ p.top,p.len,fun i t c h1 h2=>by obtain ⟨wr,e1,e2⟩:=p.at_ i t c h1 h2; exact ⟨wr,s _ _ e1,e2⟩,p.cf⟩
def tf0 (size:Int) (ss bm:Addr) (last:Nat) (ev:Addr):List (Str×V):=putF "events" (.ref ev) (putF "last" (.int last) (putF "bottom" (.ref bm) (putF "stores" (.ref ss) (putF "size" (.int size) []))))
structure Mks (K:PySem.W.Frag) (G:Hp) (as:List SA) (cfs:List Cf):Prop where
  at_:∀ (i:Nat) (a:SA) (c:Cf),as[i]?=some a→cfs[i]?=some c→∀ zs M,StoreAt K G a c zs M [] (fun _=>0)
  sep:∀ (i j:Nat) (a b:SA),as[i]?=some a→as[j]?=some b→i≠j→Sep a b
theorem ZgN {K:PySem.W.Frag} {G:Hp} {a:SA} {c:Cf} (S:∀ zs M,StoreAt K G a c zs M [] (fun _=>0)):G a.du≠none∧G a.dh≠none∧G a.df≠none∧G a.ls≠none∧∀ x∈a.ads,G x≠none:=by
  have T:=S [] fun _=>True
  obtain ⟨kv,e1,_⟩:=T.room.dc
  obtain ⟨kv',e2,_⟩:=T.held
  refine ⟨(fun z=>by rw [e1] at z; cases z),(fun z=>by rw [e2] at z; cases z),(fun z=>by rw [T.fresh] at z; cases z),(fun z=>by rw [T.room.st.top] at z; cases z),fun x hx z=>?_⟩
  obtain ⟨ys,e⟩:=T.room.st.one hx
  rw [e] at z; cases z
section
variable {P:Program} {w:World} {K:PySem.W.Frag} {mg:Str→Option Value} {base:Heap}
def ZiH (K:PySem.W.Frag):Sp:=fun vs H Q _=>∃ (p dx tp:Addr) (size:Int) (ts:List Addr) (cfs:List Cf),vs=[.ref p,.int size,.ref tp]∧H p=some (.ins (clsOf K "Stairs") dx [])∧PlanAt K H tp ts cfs∧1≤size∧size≤1000∧cfs.length≤4∧Tb K H ∧
  ∀ (A:TA) (H':Hp),A.p=p→A.as.length=cfs.length→H' p=some (.ins (clsOf K "Stairs") dx (tf0 size A.ss A.bm A.as.length A.ev))→(∀ kind U,U.length≤800→StairsAt K (upd H' p (.ins (clsOf K "Stairs") dx (tflds size A.ss A.bm A.as.length A.ev kind))) A ⟨size,kind,cfs⟩ (List.replicate cfs.length ([],fun _=>0)) [] U) →
    (∀ x,Foot A x→x≠p→H x=none)→(∀ b o,H b=some o→b≠p→H' b=some o)→Q .non H'
theorem ZgO {f:Addr} {fd:FuncData} (F:Fun K "__init__" "Steps.__init__" ZaC f fd) (T:Txt K mg) (K_Store:KDef P w K mg base (clsOf K "Store") "Store" 3 ZbE (ZiD K)) (K_Memory:KDef P w K mg base (clsOf K "Memory") "Memory" 1 Zbf (spMem K)):FnOk P w K mg base CX0 5 f fd ZbF (ZiH K):=by
  refine F.ok sc_Steps_init (fun vs H Q E h=>?_) (fun cdv A outer st H vs Q E hr h=>?_)
  · obtain ⟨p,dx,tp,size,ts,cfs,rfl,_⟩:=h
    rfl
  obtain ⟨p,dx,tp,size,ts,cfs,rfl,hp,pa,z0,z1,l4,tb,k⟩:=h
  have nd:=sc_Steps_init.nd
  refine ⟨_,(Zf (Zbm (pv 0) (pv 1) rfl)
      (Zf (Zbm (pv 0) (Zbz (ZK (osc:=(Zc ZaC)) (oN:=Zec) (N:=["room_plan"]) (own:=1) (js:=[]) (by decide +kernel) rfl rfl) rfl (Zlh (K:=K) rfl (pv 2)) (fun _ _ _ _ _ _=>(pgn 0 (show List.Nodup (["room_plan"]:List Str) by decide +kernel))) (fun _ _ _ _ _ _=>(Zds K_Store hr.m rfl (pc (pv 0) Ze)))) rfl)
      (Zf (Zbm (pv 0) (Zds K_Memory hr.m rfl (pc (pv 1) Ze)) rfl)
      (Zf (Zbm (pv 0) (Zq (Zy (K:=K) rfl) rfl T.z_len PySem.boot_len (pc (Zr (K:=K) rfl (pv 0) rfl) Ze)) rfl)
      (Zi (Zbm (pv 0) (ZbM Ze) rfl)))))),?_⟩
  refine ⟨_,rfl,_,rfl,p,_,dx,_,rfl,hp,T.cl_Stairs,T.n_Stairs_size,(by show 0<1000; decide),?_⟩
  have e1:upd H p (.ins (clsOf K "Stairs") dx (putF "size" (.int size) [])) p=some (.ins (clsOf K "Stairs") dx (putF "size" (.int size) [])):=Za
  have nt:∀ {x o},H x=some o→(∀ C d fs,o≠.ins C d fs)→x≠p:=fun {x o} e n z=>by rw [z,hp] at e; exact n _ _ _ (Option.some.inj e).symm
  have pa1:PlanAt K (upd H p (.ins (clsOf K "Stairs") dx (putF "size" (.int size) []))) tp ts cfs:=⟨by rw [Zb (nt pa.top (fun _ _ _ z=>by cases z))]; exact pa.top,pa.len,fun i t c h1 h2=>by obtain ⟨wr,q1,q2⟩:=pa.at_ i t c h1 h2; exact ⟨wr,by rw [Zb (nt q1 (fun _ _ _ z=>by cases z))]; exact q1,q2⟩,pa.cf⟩
  have tb1:Tb K (upd H p (.ins (clsOf K "Stairs") dx (putF "size" (.int size) []))):=ZdR tb hp (fun _ _ z=>by cases z)
  have k1:∀ x o,H x=some o→x≠p→upd H p (.ins (clsOf K "Stairs") dx (putF "size" (.int size) [])) x=some o:=fun x o e n=>by rw [Zb n]; exact e
  have f1:∀ x,upd H p (.ins (clsOf K "Stairs") dx (putF "size" (.int size) [])) x=none→H x=none:=fun x e=>by
    by_cases z:x=p
    · rw [z,Za] at e; cases e
    · rw [Zb z] at e; exact e
  generalize upd H p (.ins (clsOf K "Stairs") dx (putF "size" (.int size) []))=H1 at *
  refine ⟨_,rfl,tp,rfl,⟨_,SqT.of pa1.top⟩,fun ss hss=>?_⟩
  refine Zjo (K:=K) (a:=tp) (xs:=ts.map V.ref) (l:=ss) (fun j ys σ G=>∃ (v0:Option V) (as:List SA),σ=[v0]∧ys=as.map (fun a=>V.ref a.sp)∧as.length=j∧G ss=some (.lst ys)∧Same H1 G∧Mks K G as cfs∧∀ a∈as,H1 a.du=none∧H1 a.dh=none∧(∀ x∈a.ads,H1 x=none)∧ss∉a.ads)
    ⟨none,[],rfl,rfl,rfl,Za,Zh hss _,⟨fun i a c h=>by simp at h,fun i j a b h=>by simp at h⟩,by simp⟩ (fun j ys σ G _ ⟨_,_,_,_,_,_,s,_⟩=>SqT.of (s _ _ pa1.top)) ?_ ?_
  · rintro j x ys σ G hj hxj hys ⟨v0,as,rfl,rfl,hlen,g1,s1,mk,fr⟩
    rw [List.length_map] at hj
    rw [List.getElem?_map] at hxj
    obtain ⟨t,et,rfl⟩:∃ t,ts[j]?=some t∧V.ref t=x:=by
      cases e:ts[j]? with
      | none=>rw [e] at hxj; cases hxj
      | some t=>rw [e] at hxj; exact ⟨t,rfl,Option.some.inj hxj⟩
    have hjc:j<cfs.length:=by rw [← pa.len]; exact hj
    have ec:cfs[j]?=some cfs[j]:=List.getElem?_eq_getElem hjc
    obtain ⟨wr,q1,q2⟩:=pa1.at_ j t _ et ec
    have cb:=pa.cf _ (List.getElem_mem hjc)
    have q1':=s1 _ _ q1
    refine ⟨_,rfl,fun x dx' hx hdx ne=>⟨x,dx',t,cfs[j].sh,cfs[j].pl,cfs[j].ru,wr,rfl,Za,SqT.of ?_,cb.1,cb.2.1,fun a G1 ea S1 f_rp f_ls f_du f_dh f_df f_ads k2=>⟨rfl,?_⟩⟩⟩
    · rw [Zb (Zd q1' hx),Zb (Zd q1' hdx)]; exact q1'
    have frG:∀ y,upd (upd G dx' (.own x)) x (.ins (clsOf K "Store") dx' []) y=none→G y=none:=fun y e=>by
      cases q:G y with
      | none=>rfl
      | some o=>rw [Zb (Zd q hx),Zb (Zd q hdx),q] at e; cases e
    have sG:Same G G1:=fun y o e=>k2 y o (by rw [Zb (Zd e hx),Zb (Zd e hdx)]; exact e) (Zd e hx)
    have n_du:=frG _ f_du
    have n_dh:=frG _ f_dh
    have n_df:=frG _ f_df
    have n_ls:=frG _ f_ls
    have n_ads:∀ y∈a.ads,G y=none:=fun y hy=>frG _ (f_ads y hy)
    have g1':=sG _ _ g1
    have nss:ss∉a.ads:=fun m=>by rw [n_ads ss m] at g1; cases g1
    have ecf:(⟨cfs[j].sh,cfs[j].pl,cfs[j].ru,decide (wr = "late")⟩:Cf)=cfs[j]:=by rw [← q2]
    rw [ecf] at S1
    have lst_put:∀ {b:SA} {c:Cf},(∀ zs M,StoreAt K G1 b c zs M [] (fun _=>0))→ss∉b.ads→ss≠b.ls→∀ u zs M,StoreAt K (upd G1 ss u) b c zs M [] (fun _=>0):=fun {b c} S h1 h2 u zs M=>((S zs fun _=>True).put u g1' h2 h1 trivial).mono fun _ _ _ _=>trivial
    have nls:ss≠a.ls:=fun z=>by rw [← z,g1] at n_ls; cases n_ls
    have ea':V.ref x=V.ref a.sp:=by rw [ea]
    rw [ea']
    have olds:∀ {i:Nat} {b:SA},as[i]?=some b→G b.du≠none∧G b.dh≠none∧G b.df≠none∧G b.ls≠none∧∀ y∈b.ads,G y≠none:=fun {i b} hb=>by
      have hi:i<cfs.length:=by have:=(List.getElem?_eq_some_iff.mp hb).1; omega
      exact ZgN (mk.at_ i b _ hb (List.getElem?_eq_getElem hi))
    refine CNx.of (Nat.le_of_lt (Zv (by rw [List.length_map,pa.len]; omega))) (by rw [List.length_map]; exact hj) hys g1' ⟨_,as++[a],rfl,by rw [List.map_append]; rfl,by rw [List.length_append,hlen]; rfl,Za,fun y o e=>?_,⟨fun i b c hb hc zs M=>?_,fun i i' b b' hb hb' nn=>?_⟩,fun b hb=>?_⟩
    · rw [Zb (Zd e hss)]; exact sG _ _ (s1 _ _ e)
    · by_cases hi:i<as.length
      · rw [List.getElem?_append_left hi] at hb
        have o:=fr b (List.mem_of_getElem? hb)
        refine lst_put (fun zs M=>(mk.at_ i b c hb hc zs M).same sG) o.2.2.2 (fun z=>?_) _ zs M
        have T0:=mk.at_ i b c hb hc [] fun _=>True
        have q:=T0.room.st.top
        rw [← z,g1] at q
        have q':=(Option.some.inj q)
        injection q' with q'
        have T1:=T0.room.st.len
        have s0:=T0.room.s0
        have lnz:0<b.ads.length:=by rw [T1]; omega
        match hb':b.ads,lnz with
        | y :: _,_ =>
          rw [hb'] at q'
          cases as with
          | nil=>simp at hi
          | cons a0 r =>
            simp only [List.map_cons,List.cons.injEq] at q'
            have e0:a0.sp=y:=by have:=q'.1; injection this
            have T2:=mk.at_ 0 a0 _ rfl (List.getElem?_eq_getElem (by have:=hjc; omega)) [] fun _=>True
            obtain ⟨d0,o0⟩:=T2.ob
            obtain ⟨ys,oy⟩:=T0.room.st.one (ad:=y) (by rw [hb']; exact List.mem_cons_self)
            rw [e0,oy] at o0; cases o0
      · have hi2:i=j:=by
          have:=(List.getElem?_eq_some_iff.mp hb).1
          rw [List.length_append,List.length_singleton] at this
          omega
        subst hi2
        rw [List.getElem?_append_right (by omega),show i - as.length=0 by omega] at hb
        cases hb
        rw [ec] at hc; cases hc
        exact lst_put S1 nss nls _ zs M
    · have two:∀ {i:Nat} {b:SA},as[i]?=some b→Sep b a∧Sep a b:=fun {i b} hb=>by
        obtain ⟨o1,o2,o3,o4,o5⟩:=olds hb
        exact ⟨⟨fun y h1 h2=>o5 y h1 (n_ads y h2),fun m=>o5 _ m n_ls,(fun z=>o1 (z ▸ n_du)),(fun z=>o2 (z ▸ n_du)),(fun z=>o1 (z ▸ n_dh)),(fun z=>o2 (z ▸ n_dh)),(fun z=>o1 (z ▸ n_df)),(fun z=>o2 (z ▸ n_df))⟩,
          ⟨fun y h1 h2=>o5 y h2 (n_ads y h1),fun m=>o4 (n_ads _ m),(fun z=>o1 (z ▸ n_du)),(fun z=>o1 (z ▸ n_dh)),(fun z=>o2 (z ▸ n_du)),(fun z=>o2 (z ▸ n_dh)),(fun z=>o3 (z ▸ n_du)),(fun z=>o3 (z ▸ n_dh))⟩⟩
      have lastA:∀ {i:Nat} {b:SA},(as++[a])[i]?=some b→as[i]?=some b∨(i=as.length∧b=a):=fun {i b} hb=>by
        by_cases hi:i<as.length
        · rw [List.getElem?_append_left hi] at hb; exact .inl hb
        · have:=(List.getElem?_eq_some_iff.mp hb).1
          rw [List.length_append,List.length_singleton] at this
          have hi2:i=as.length:=by omega
          subst hi2
          rw [List.getElem?_append_right (Nat.le_refl _),Nat.sub_self] at hb
          cases hb
          exact .inr ⟨rfl,rfl⟩
      rcases lastA hb with h1 | ⟨h1,rfl⟩
      · rcases lastA hb' with h2 | ⟨h2,rfl⟩
        · exact mk.sep i i' b b' h1 h2 nn
        · exact (two h1).1
      · rcases lastA hb' with h2 | ⟨h2,rfl⟩
        · exact (two h2).2
        · exact absurd (h1.trans h2.symm) nn
    · rcases List.mem_append.mp hb with hb | hb
      · exact fr b hb
      · rw [List.mem_singleton.mp hb]
        exact ⟨s1.free n_du,s1.free n_dh,fun y hy=>s1.free (n_ads y hy),nss⟩
  rintro ys σ G hys ⟨v0,as,rfl,rfl,hlen,g1,s1,mk,fr⟩
  rw [List.length_map,pa.len] at hlen
  have hp2:=s1 _ _ e1
  refine ⟨_,rfl,p,_,dx,_,rfl,hp2,T.cl_Stairs,T.n_Stairs_stores,(by show 1<1000; decide),?_⟩
  have npS:∀ {G:Hp} {d:Addr} {fs:List (Str×V)},G p=some (.ins (clsOf K "Stairs") d fs)→∀ {x xs},G x=some (.lst xs)→x≠p:=fun {G d fs} h {x xs} e z=>by rw [z,h] at e; cases e
  have fld:∀ {G:Hp} {fs:List (Str×V)} (u:HO),Mks K G as cfs→G p=some (.ins (clsOf K "Stairs") dx fs)→fs.lookup ("room" : Str)=none→fs.lookup ("rule" : Str)=none→Mks K (upd G p u) as cfs:=fun {G fs} u mk hG h1 h2=>by
    refine ⟨fun i b c hb hc zs M=>?_,mk.sep⟩
    have B:=mk.at_ i b c hb hc zs M
    obtain ⟨ds,g1⟩:=B.ob
    obtain ⟨dr,g2⟩:=B.room.ob
    obtain ⟨kr,g3,g4⟩:=B.room.dc
    obtain ⟨kv,g5,g6,g7,g8⟩:=B.held
    have ne:∀ {y o},G y=some o→(∀ C d fs,o≠.ins C d fs)→y≠p:=fun {y o} e n z=>by rw [z,hG] at e; exact n _ _ _ (Option.some.inj e).symm
    have n1:b.sp≠p:=fun z=>by
      rw [z,hG] at g1
      have q:=Option.some.inj g1
      injection q with _ _ q
      rw [q,Zde] at h1; cases h1
    have n2:b.rp≠p:=fun z=>by
      rw [z,hG] at g2
      have q:=Option.some.inj g2
      injection q with _ _ q
      rw [q,Zix] at h2; cases h2
    exact ⟨⟨ds,by rw [Zb n1]; exact g1⟩,⟨⟨dr,by rw [Zb n2]; exact g2⟩,⟨by rw [Zb (ne B.room.st.top (fun _ _ _ z=>by cases z))]; exact B.room.st.top,B.room.st.len,B.room.st.nd,B.room.st.off,fun i ad e=>by have q:=B.room.st.at_ i ad e; rw [Zb (ne q (fun _ _ _ z=>by cases z))]; exact q⟩,⟨kr,by rw [Zb (ne g3 (fun _ _ _ z=>by cases z))]; exact g3,g4⟩,B.room.nd,B.room.s0,B.room.s1⟩,⟨kv,by rw [Zb (ne g5 (fun _ _ _ z=>by cases z))]; exact g5,g6,g7,fun y hy=>by simp at hy⟩,by rw [Zb (ne B.fresh (fun _ _ _ z=>by cases z))]; exact B.fresh,B.n1,B.n2,B.n3⟩
  have mkS:∀ {G G':Hp},Mks K G as cfs→Same G G'→Mks K G' as cfs:=fun {G G'} m s=>⟨fun i b c hb hc zs M=>(m.at_ i b c hb hc zs M).same s,m.sep⟩
  have lk1:(putF "size" (.int size) []:List (Str×V)).lookup ("room" : Str)=none:=by rw [Zg,if_neg (by decide +kernel)]; rfl
  have lk2:(putF "size" (.int size) []:List (Str×V)).lookup ("rule" : Str)=none:=by rw [Zg,if_neg (by decide +kernel)]; rfl
  have mk2:=fld (.ins (clsOf K "Stairs") dx (putF "stores" (.ref ss) (putF "size" (.int size) []))) mk hp2 lk1 lk2
  have e2:upd G p (.ins (clsOf K "Stairs") dx (putF "stores" (.ref ss) (putF "size" (.int size) []))) p=some (.ins (clsOf K "Stairs") dx (putF "stores" (.ref ss) (putF "size" (.int size) []))):=Za
  have g2:upd G p (.ins (clsOf K "Stairs") dx (putF "stores" (.ref ss) (putF "size" (.int size) []))) ss=some (.lst (as.map fun a=>V.ref a.sp)):=by rw [Zb (npS hp2 g1)]; exact g1
  have k2:∀ x o,H x=some o→x≠p→upd G p (.ins (clsOf K "Stairs") dx (putF "stores" (.ref ss) (putF "size" (.int size) []))) x=some o:=fun x o e n=>by rw [Zb n]; exact s1 _ _ (k1 x o e n)
  have tb2:Tb K (upd G p (.ins (clsOf K "Stairs") dx (putF "stores" (.ref ss) (putF "size" (.int size) [])))):=ZdR (tb1.same s1) hp2 (fun _ _ z=>by cases z)
  generalize upd G p (.ins (clsOf K "Stairs") dx (putF "stores" (.ref ss) (putF "size" (.int size) [])))=H2 at *
  refine ⟨_,rfl,fun bm bx hbm hbx nbx=>⟨bm,bx,size,rfl,Za,fun dk H3 M3 fdk k3=>⟨rfl,?_⟩⟩⟩
  have s3:Same H2 H3:=fun y o e=>k3 y o (by rw [Zb (Zd e hbm),Zb (Zd e hbx)]; exact e) (Zd e hbm)
  have ndk:H2 dk=none:=by
    cases q:H2 dk with
    | none=>rfl
    | some o=>rw [Zb (Zd q hbm),Zb (Zd q hbx),q] at fdk; cases fdk
  have e3:=s3 _ _ e2
  have npb:p≠bm:=Zd e2 hbm
  refine ⟨_,rfl,p,_,dx,_,rfl,e3,T.cl_Stairs,T.n_Stairs_bottom,(by show 2<1000; decide),?_⟩
  have lk3:(putF "stores" (.ref ss) (putF "size" (.int size) []):List (Str×V)).lookup ("room" : Str)=none:=by rw [Zg,if_neg (by decide +kernel)]; exact lk1
  have lk4:(putF "stores" (.ref ss) (putF "size" (.int size) []):List (Str×V)).lookup ("rule" : Str)=none:=by rw [Zg,if_neg (by decide +kernel)]; exact lk2
  have mk4:=fld (.ins (clsOf K "Stairs") dx (putF "bottom" (.ref bm) (putF "stores" (.ref ss) (putF "size" (.int size) [])))) (mkS mk2 s3) e3 lk3 lk4
  have e4:upd H3 p (.ins (clsOf K "Stairs") dx (putF "bottom" (.ref bm) (putF "stores" (.ref ss) (putF "size" (.int size) [])))) p=some (.ins (clsOf K "Stairs") dx (putF "bottom" (.ref bm) (putF "stores" (.ref ss) (putF "size" (.int size) [])))):=Za
  have g4:upd H3 p (.ins (clsOf K "Stairs") dx (putF "bottom" (.ref bm) (putF "stores" (.ref ss) (putF "size" (.int size) [])))) ss=some (.lst (as.map fun a=>V.ref a.sp)):=by rw [Zb (npS e2 g2)]; exact s3 _ _ g2
  have k4:∀ x o,H x=some o→x≠p→upd H3 p (.ins (clsOf K "Stairs") dx (putF "bottom" (.ref bm) (putF "stores" (.ref ss) (putF "size" (.int size) [])))) x=some o:=fun x o e n=>by rw [Zb n]; exact s3 _ _ (k2 x o e n)
  have tb4:Tb K (upd H3 p (.ins (clsOf K "Stairs") dx (putF "bottom" (.ref bm) (putF "stores" (.ref ss) (putF "size" (.int size) []))))):=ZdR (tb2.same s3) e3 (fun _ _ z=>by cases z)
  have M4:MemAt K (upd H3 p (.ins (clsOf K "Stairs") dx (putF "bottom" (.ref bm) (putF "stores" (.ref ss) (putF "size" (.int size) []))))) bm dk size:=by
    obtain ⟨dm,q⟩:=M3.ob
    exact ⟨⟨dm,by rw [Zb (Ne.symm npb)]; exact q⟩,by rw [Zb (fun z:dk=p=>by rw [z,e2] at ndk; cases ndk)]; exact M3.kept⟩
  have dkn:∀ a∈as,dk≠a.du∧dk≠a.dh:=fun a ha=>by
    obtain ⟨i,hi⟩:=List.getElem?_of_mem ha
    have:=(List.getElem?_eq_some_iff.mp hi).1
    obtain ⟨o1,o2,_⟩:=ZgN (mk2.at_ i a _ hi (List.getElem?_eq_getElem (by omega)))
    exact ⟨(fun z=>o1 (z ▸ ndk)),(fun z=>o2 (z ▸ ndk))⟩
  generalize upd H3 p (.ins (clsOf K "Stairs") dx (putF "bottom" (.ref bm) (putF "stores" (.ref ss) (putF "size" (.int size) []))))=H4 at *
  have lks:(putF "bottom" (.ref bm) (putF "stores" (.ref ss) (putF "size" (.int size) [])):List (Str×V)).lookup ("stores" : Str)=some (.ref ss):=by rw [Zg,if_neg (by decide +kernel),Zg,if_pos rfl]
  refine ⟨_,rfl,p,_,dx,_,_,rfl,e4,T.cl_Stairs,T.n_Stairs_stores,lks,ss,_,rfl,.inl (SqL.of g4),_,rfl,p,_,dx,_,rfl,e4,T.cl_Stairs,T.n_Stairs_last,(by show 3<1000; decide),?_⟩
  rw [List.length_map]
  have lk5:(putF "bottom" (.ref bm) (putF "stores" (.ref ss) (putF "size" (.int size) [])):List (Str×V)).lookup ("room" : Str)=none:=by rw [Zg,if_neg (by decide +kernel)]; exact lk3
  have lk6:(putF "bottom" (.ref bm) (putF "stores" (.ref ss) (putF "size" (.int size) [])):List (Str×V)).lookup ("rule" : Str)=none:=by rw [Zg,if_neg (by decide +kernel)]; exact lk4
  have mk5:=fld (.ins (clsOf K "Stairs") dx (putF "last" (.int (as.length:Int)) (putF "bottom" (.ref bm) (putF "stores" (.ref ss) (putF "size" (.int size) []))))) mk4 e4 lk5 lk6
  have e5:upd H4 p (.ins (clsOf K "Stairs") dx (putF "last" (.int (as.length:Int)) (putF "bottom" (.ref bm) (putF "stores" (.ref ss) (putF "size" (.int size) []))))) p=some (.ins (clsOf K "Stairs") dx (putF "last" (.int (as.length:Int)) (putF "bottom" (.ref bm) (putF "stores" (.ref ss) (putF "size" (.int size) []))))):=Za
  have g5:upd H4 p (.ins (clsOf K "Stairs") dx (putF "last" (.int (as.length:Int)) (putF "bottom" (.ref bm) (putF "stores" (.ref ss) (putF "size" (.int size) []))))) ss=some (.lst (as.map fun a=>V.ref a.sp)):=by rw [Zb (npS e4 g4)]; exact g4
  have k5:∀ x o,H x=some o→x≠p→upd H4 p (.ins (clsOf K "Stairs") dx (putF "last" (.int (as.length:Int)) (putF "bottom" (.ref bm) (putF "stores" (.ref ss) (putF "size" (.int size) []))))) x=some o:=fun x o e n=>by rw [Zb n]; exact k4 x o e n
  have tb5:Tb K (upd H4 p (.ins (clsOf K "Stairs") dx (putF "last" (.int (as.length:Int)) (putF "bottom" (.ref bm) (putF "stores" (.ref ss) (putF "size" (.int size) [])))))):=ZdR tb4 e4 (fun _ _ z=>by cases z)
  have M5:MemAt K (upd H4 p (.ins (clsOf K "Stairs") dx (putF "last" (.int (as.length:Int)) (putF "bottom" (.ref bm) (putF "stores" (.ref ss) (putF "size" (.int size) [])))))) bm dk size:=by
    obtain ⟨dm,q⟩:=M4.ob
    exact ⟨⟨dm,by rw [Zb (Ne.symm npb)]; exact q⟩,by have q:=M4.kept; rw [Zb (fun z:dk=p=>by rw [z,e4] at q; cases q)]; exact q⟩
  generalize upd H4 p (.ins (clsOf K "Stairs") dx (putF "last" (.int (as.length:Int)) (putF "bottom" (.ref bm) (putF "stores" (.ref ss) (putF "size" (.int size) [])))))=H5 at *
  refine ⟨(by show 0≤sizeLine; decide),fun ev hev=>⟨_,rfl,p,_,dx,_,rfl,Zh hev _ _ _ e5,T.cl_Stairs,T.n_Stairs_events,(by show 4<1000; decide),?_⟩⟩
  have s6:=Zh hev (.lst [])
  have nev:ev≠p:=fun z=>by rw [z,e5] at hev; cases hev
  have nss:ss≠ev:=Zd g5 hev
  have lk7:(putF "last" (.int (as.length:Int)) (putF "bottom" (.ref bm) (putF "stores" (.ref ss) (putF "size" (.int size) []))):List (Str×V)).lookup ("room" : Str)=none:=by rw [Zg,if_neg (by decide +kernel)]; exact lk5
  have lk8:(putF "last" (.int (as.length:Int)) (putF "bottom" (.ref bm) (putF "stores" (.ref ss) (putF "size" (.int size) []))):List (Str×V)).lookup ("rule" : Str)=none:=by rw [Zg,if_neg (by decide +kernel)]; exact lk6
  have e6:=s6 _ _ e5
  have g6:=s6 _ _ g5
  have olds:∀ a∈as,ev∉a.ads∧ev≠a.ls:=fun a ha=>by
    obtain ⟨i,hi⟩:=List.getElem?_of_mem ha
    have:=(List.getElem?_eq_some_iff.mp hi).1
    obtain ⟨o1,o2,o3,o4,o5⟩:=ZgN (mk5.at_ i a _ hi (List.getElem?_eq_getElem (by omega)))
    exact ⟨fun m=>o5 _ m hev,(fun z=>o4 (z ▸ hev))⟩
  refine k ⟨p,ss,bm,dk,ev,as,[]⟩ _ rfl hlen Za (fun kind U hU=>?_) (fun x hx n=>?_) fun x o e n=>?_
  · rw [ZdK]
    have mk6:=fld (.ins (clsOf K "Stairs") dx (tflds size ss bm as.length ev kind)) (mkS mk5 s6) e6 lk7 lk8
    have M6:=M5.same s6
    obtain ⟨dm,q⟩:=M6.ob
    refine ⟨⟨dx,Za⟩,by show upd _ p _ ss=_; rw [Zb (npS e6 g6)]; exact g6,⟨⟨dm,by show upd _ p _ bm=_; rw [Zb (Ne.symm npb)]; exact q⟩,by show upd _ p _ dk=_; have q:=M6.kept; rw [Zb (fun z:dk=p=>by rw [z,e6] at q; cases q)]; exact q⟩,by show upd _ p _ ev=_; rw [Zb nev]; exact Za,hlen.symm,by rw [List.length_replicate]; exact hlen.symm,fun j b c s hb hc hs=>?_,mk6.sep,fun b hb=>?_,nss,(fun x hx=>by simp at hx),(fun x hx=>by simp at hx),fun s hs b hb=>?_,fun j c s hc hs t=>?_,fun c hc=>(pa.cf c hc).2.2,z0,z1,hU,by show as.length≤4; omega,ZdR (tb5.same s6) e6 (fun _ _ z=>by cases z)⟩
    · have es:=List.mem_of_getElem? hs
      rw [(List.mem_replicate.mp es).2]
      exact mk6.at_ j b c hb hc _ _
    · obtain ⟨o1,o2⟩:=olds b hb
      obtain ⟨o3,o4⟩:=dkn b hb
      exact ⟨(fr b hb).2.2.2,o1,o2,o3,o4⟩
    · rw [(List.mem_replicate.mp hs).2] at hb
      exact absurd hb (by simp)
    · rw [(List.mem_replicate.mp (List.mem_of_getElem? hs)).2]
      show ((0:Nat):Int)≤c.pl
      have:=(pa.cf c (List.mem_of_getElem? hc)).2.2.1
      omega
  · rcases hx with z | z | ⟨a,ha,z⟩
    · exact absurd z n
    · have z:x=ev:=z
      subst z
      cases q:H x with
      | none=>rfl
      | some o=>rw [k5 x o q n] at hev; cases hev
    · obtain ⟨o1,o2,o3,_⟩:=fr a ha
      rcases z with rfl | rfl | z
      · exact f1 _ o1
      · exact f1 _ o2
      · exact f1 _ (o3 x z)
  · rw [Zb n]
    exact s6 _ _ (k5 x o e n)
end
def nearF (S:List RS) (b:Int):Nat:=S.findIdx fun s=>decide (b∈s.1)
def dS (S:List RS) (k:Nat) (g:Int) (i:Nat):List RS:=S.mapIdx fun j s=>if j=k∨(k - i≤j∧j<k) then outR s g else s
def Zck (kind:Str) (S:List RS) (k:Nat) (g:Int):List RS:=if kind = "within" then dS S k g k else dS S k g 0
theorem ZdE (S:List RS) (k:Nat) (g:Int) (i j:Nat):(dS S k g i)[j]?=(S[j]?).map fun s=>if j=k∨(k - i≤j∧j<k) then outR s g else s:=by
  unfold dS
  rw [List.getElem?_mapIdx]
theorem ZlI {S:List RS} {k:Nat} {g:Int} {s:RS} (hs:S[k]?=some s):dS S k g 0=S.set k (outR s g):=by
  apply List.ext_getElem?
  intro j
  rw [ZdE]
  by_cases e:j=k
  · subst e
    rw [hs,List.getElem?_set_self (List.getElem?_eq_some_iff.mp hs).1]
    show some (if _ then _ else _)=_
    rw [if_pos (.inl rfl)]
  · rw [List.getElem?_set_ne (fun z=>e z.symm)]
    cases q:S[j]? with
    | none=>rfl
    | some r=>show some (if _ then _ else _)=_; rw [if_neg (by omega)]
theorem Zpb {s:RS} {g:Int} (h:g∉s.1):outR s g=s:=by
  unfold outR
  rw [List.erase_of_not_mem h]
theorem Zoh {S:List RS} {k:Nat} {g:Int} {i:Nat} {s:RS} (hi:i<k) (hs:S[k - 1 - i]?=some s) (hg:g∉s.1):dS S k g (i+1)=dS S k g i:=by
  apply List.ext_getElem?
  intro j
  rw [ZdE,ZdE]
  cases q:S[j]? with
  | none=>rfl
  | some r =>
    show some (if _ then _ else _)=some (if _ then _ else _)
    by_cases e:j=k - 1 - i
    · subst e
      rw [hs] at q; cases q
      rw [if_pos (by omega),if_neg (by omega),Zpb hg]
    · by_cases c:j=k∨(k - i≤j∧j<k)
      · rw [if_pos c,if_pos (by omega)]
      · rw [if_neg c,if_neg (by omega)]
theorem dS_go {S:List RS} {k:Nat} {g:Int} {i:Nat} {s:RS} (hi:i<k) (hs:S[k - 1 - i]?=some s):dS S k g (i+1)=(dS S k g i).set (k - 1 - i) (outR s g):=by
  apply List.ext_getElem?
  intro j
  by_cases e:j=k - 1 - i
  · subst e
    have hl:k - 1 - i<(dS S k g i).length:=by unfold dS; rw [List.length_mapIdx]; exact (List.getElem?_eq_some_iff.mp hs).1
    rw [List.getElem?_set_self hl,ZdE,hs]
    show some (if _ then _ else _)=_
    rw [if_pos (by omega)]
  · rw [List.getElem?_set_ne (fun z=>e z.symm),ZdE,ZdE]
    cases q:S[j]? with
    | none=>rfl
    | some r =>
      show some (if _ then _ else _)=some (if _ then _ else _)
      by_cases c:j=k∨(k - i≤j∧j<k)
      · rw [if_pos c,if_pos (by omega)]
      · rw [if_neg c,if_neg (by omega)]
theorem ZlJ {S:List RS} {k:Nat} {g:Int} {i:Nat} (hi:i<k):(dS S k g i)[k - 1 - i]?=S[k - 1 - i]?:=by
  rw [ZdE]
  cases q:S[k - 1 - i]? with
  | none=>rfl
  | some r=>show some (if _ then _ else _)=_; rw [if_neg (by omega)]
theorem ZfT (kind:Str) (S:List RS) (k:Nat) (g:Int) (j:Nat):∃ p:Bool,(Zck kind S k g)[j]?=(S[j]?).map (fun s=>if p then outR s g else s)∧(j=k→p=true):=by
  unfold Zck
  split
  · refine ⟨decide (j=k∨(k - k≤j∧j<k)),?_,fun e=>by simp [e]⟩
    rw [ZdE]
    congr 1
    funext s
    by_cases c:j=k∨(k - k≤j∧j<k)
    · rw [if_pos c,if_pos (decide_eq_true c)]
    · rw [if_neg c,if_neg (by simpa using c)]
  · refine ⟨decide (j=k∨(k - 0≤j∧j<k)),?_,fun e=>by simp [e]⟩
    rw [ZdE]
    congr 1
    funext s
    by_cases c:j=k∨(k - 0≤j∧j<k)
    · rw [if_pos c,if_pos (decide_eq_true c)]
    · rw [if_neg c,if_neg (by simpa using c)]
theorem ZfU (kind:Str) (S:List RS) (k:Nat) (g:Int):(Zck kind S k g).length=S.length:=by
  unfold Zck dS
  split <;> rw [List.length_mapIdx]
theorem ZiI {kind:Str} {S:List RS} {k:Nat} {g:Int} {s:RS} (h:S[k]?=some s):(Zck kind S k g)[k]?=some (outR s g):=by
  obtain ⟨p,e,hp⟩:=ZfT kind S k g k
  rw [e,h,hp rfl]
  rfl
theorem Zkl {kind:Str} {S:List RS} {k:Nat} {g:Int} {j:Nat} {r:RS} (h:(Zck kind S k g)[j]?=some r):∃ s,S[j]?=some s∧∀ x∈r.1,x∈s.1:=by
  obtain ⟨p,e,_⟩:=ZfT kind S k g j
  rw [e] at h
  cases q:S[j]? with
  | none=>rw [q] at h; cases h
  | some s =>
    rw [q] at h
    refine ⟨s,rfl,fun x hx=>?_⟩
    have h:(if p then outR s g else s)=r:=Option.some.inj h
    rw [← h] at hx
    cases p with
    | true=>exact List.mem_of_mem_erase hx
    | false=>exact hx
noncomputable def downS (kind:Str) (cfs:List Cf) (S:List RS) (near:Nat) (b:Int):List RS :=
  match cfs[near]?,S[near]? with
  | some c,some s=>(match goneF c s b with
    | none=>S.set near (inR s b)
    | some g=>(Zck kind S near g).set near (inR (outR s g) b))
  | _,_=>S
noncomputable def Zby (kind:Str) (cfs:List Cf) (b:Int):Nat→List RS→List RS
  | 0,S=>S
  | k+1,S=>Zby kind cfs b k (downS kind cfs S k b)
noncomputable def pushS (cfs:List Cf):Nat→List RS→Nat→Int→List RS
  | 0,S,_,_=>S
  | n+1,S,k,b=>match cfs[k]?,S[k]? with
    | some c,some s=>(match goneF c s b with
      | none=>S.set k (inR s b)
      | some g=>pushS cfs n (S.set k (inR (outR s g) b)) (k+1) g)
    | _,_=>S
theorem ZcI {S:List RS} {b:Int} (h:nearF S b<S.length):∃ s,S[nearF S b]?=some s∧b∈s.1:=by
  refine ⟨_,List.getElem?_eq_getElem h,?_⟩
  have:=List.findIdx_getElem (w:=h)
  rw [decide_eq_true_eq] at this
  exact this
theorem Zey {S:List RS} {b:Int} {j:Nat} (h:j<nearF S b) {s:RS} (hs:S[j]?=some s):b∉s.1:=by
  obtain ⟨hj,e⟩:=List.getElem?_eq_some_iff.mp hs
  have:=List.not_of_lt_findIdx h
  rw [e] at this
  simpa using this
theorem ZcJ (S:List RS) (b:Int):nearF S b≤S.length:=List.findIdx_le_length
section
variable {P:Program} {w:World} {K:PySem.W.Frag} {mg:Str→Option Value} {base:Heap}
def Zcl:Sp:=fun _ _ _ _=>False
theorem ZhT {f:Addr} {fd:FuncData} (F:Fun K "put" "Steps.put" Zce f fd) (T:Txt K mg):FnOk P w K mg base CX0 1 f fd Zcf Zcl:=⟨fun _ _ _ _ h=>h.elim,fun _ _ _ _ _ _ _ _ _ _ _ _ _ h=>h.elim⟩
theorem Zfi {f:Addr} {fd:FuncData} (F:Fun K "go_on" "Stairs.go_on" ZaP f fd) (T:Txt K mg):FnOk P w K mg base CX0 1 f fd ZbB Zcl:=⟨fun _ _ _ _ h=>h.elim,fun _ _ _ _ _ _ _ _ _ _ _ _ _ h=>h.elim⟩
theorem Zeo {f:Addr} {fd:FuncData} (F:Fun K "change" "Stairs.change" ZaE f fd) (T:Txt K mg):FnOk P w K mg base CX0 1 f fd Zbj Zcl:=⟨fun _ _ _ _ h=>h.elim,fun _ _ _ _ _ _ _ _ _ _ _ _ _ h=>h.elim⟩
def Zfj (K:PySem.W.Frag):Sp:=fun vs H Q _=>∃ (A:TA) (g:Pln) (S:List RS) (xs:List V) (U:List Int) (b:Int),vs=[.ref A.p,.int b]∧StairsAt K H A g S xs U∧∀ H',Same H H'→Q (.int (nearF S b:Nat)) H'
theorem ZdV {f:Addr} {fd:FuncData} (F:Fun K "nearest" "Stairs.nearest" ZY f fd) (T:Txt K mg) (M_Store_has:MDef P w K mg base (clsOf K "Store") "has" 2 Zbu (ZjB K)):FnOk P w K mg base CX0 3 f fd Zas (Zfj K):=by
  refine F.ok sc_Stairs_nearest (fun vs H Q E h=>?_) (fun cdv A outer st H vs Q E hr h=>?_)
  · obtain ⟨A,g,S,xs,U,b,rfl,_⟩:=h
    rfl
  obtain ⟨A,g,S,xs,U,b,rfl,R,q⟩:=h
  have nd:=sc_Stairs_nearest.nd
  refine ⟨_,(Zf (ZcE PassesOwn.never rfl (ZkV rfl T.z_enumerate (pc (Zr (K:=K) rfl (pv 0) rfl) Ze)) (ZT (K:=K) (n:=2) rfl rfl (Zo (pgn 2 nd) (Zo (pgn 3 nd) ZS))) (Zi (ps_if (Zbb (Zk M_Store_has hr.m T.cl_Store (pv 3) (pc (pv 1) Ze))) (Zi (Zu (pv 2))) Zz)))
      (Zi (Zu (Zr (K:=K) rfl (pv 0) rfl)))),?_⟩
  obtain ⟨dx,h1⟩:=R.ob
  refine ⟨_,rfl,A.p,_,dx,_,_,rfl,h1,T.cl_Stairs,T.n_Stairs_stores,ZbH ..,A.ss,rfl,⟨_,SqL.of R.ss⟩,Zjn (K:=K) (a:=A.ss) (xs:=A.as.map fun a=>V.ref a.sp) (fun i σ G=>∃ v2 v3:Option V,σ=[some (.ref A.p),some (.int b),v2,v3]∧Same H G∧i≤nearF S b) ⟨_,_,rfl,Same.refl _,Nat.zero_le _⟩ (fun i σ G _ ⟨_,_,_,s,_⟩=>SqL.of (s _ _ R.ss)) ?_ ?_⟩
  · rintro i x t σ G hi ⟨v2,v3,rfl,s,hle⟩ ht
    rw [List.getElem?_map] at hi
    obtain ⟨a,ea,rfl⟩:∃ a,A.as[i]?=some a∧V.ref a.sp=x:=by
      cases e:A.as[i]? with
      | none=>rw [e] at hi; cases hi
      | some a=>rw [e] at hi; exact ⟨a,rfl,Option.some.inj hi⟩
    obtain ⟨a',c,r,e1,e2,e3,B⟩:=R.at_ (List.getElem?_eq_some_iff.mp ea).1
    rw [ea] at e1; cases e1
    refine ⟨t,_,rfl,SqT.of Za,rfl,_,_,rfl,gN ⟨_,_,rfl,gN ⟨rfl,?_⟩⟩⟩
    try dsimp only
    have s2:=s.trans (Zh ht (.tup [.int (i:Int),.ref a.sp]))
    have B':=B.same s2
    obtain ⟨ds,h3⟩:=B'.ob
    refine ⟨_,rfl,a.sp,ds,_,rfl,h3,sf_no ..,_,rfl,a,c,_,_,r.1,r.2,b,rfl,B',_,rfl,?_⟩
    by_cases m:b∈r.1
    · refine ifT (decide_eq_true m) ⟨_,rfl,?_⟩
      have e:nearF S b=i:=by
        by_cases z:i<nearF S b
        · exact absurd m (Zey z e3)
        · omega
      have q':=q _ s2
      rw [e] at q'
      exact q'
    · refine ifF (decide_eq_false m) ⟨_,_,rfl,s2,?_⟩
      by_cases z:i=nearF S b
      · exfalso
        obtain ⟨s',h1',h2'⟩:=ZcI (S:=S) (b:=b) (by rw [← z]; exact (List.getElem?_eq_some_iff.mp e3).1)
        rw [← z,e3] at h1'; cases h1'
        exact m h2'
      · omega
  · rintro σ G ⟨v2,v3,rfl,s,hle⟩
    rw [List.length_map] at hle
    have e:nearF S b=A.as.length:=by have:=ZcJ S b; rw [R.lS] at this; omega
    have q':=q _ s
    rw [e] at q'
    exact ⟨_,rfl,A.p,_,dx,_,_,rfl,s _ _ h1,T.cl_Stairs,T.n_Stairs_last,Zdf ..,q'⟩
def ZiJ (K:PySem.W.Frag):Sp:=fun vs H Q _=>∃ (A:TA) (g:Pln) (S:List RS) (xs:List V) (U:List Int) (k:Nat) (b:Int) (s:RS),vs=[.ref A.p,.int (k:Int),.int b]∧StairsAt K H A g S xs U∧S[k]?=some s∧b∈s.1∧xs.length≤400 ∧
  ∀ H' ys,ys.length≤5→StairsAt K H' A g (Zck g.kind S k b) (xs++ys) U→SF A H H'→Q .non H'
theorem Zdh {f:Addr} {fd:FuncData} (F:Fun K "drive_out" "Stairs.drive_out" ZI f fd) (T:Txt K mg) (M_Steps_go_out:MDef P w K mg base (clsOf K "Stairs") "go_out" 5 ZM (ZdU K)) (M_Store_has:MDef P w K mg base (clsOf K "Store") "has" 2 Zbu (ZjB K)) (M_Stairs_go_on:MDef P w K mg base (clsOf K "Stairs") "go_on" 1 ZbB Zcl):FnOk P w K mg base CX0 6 f fd Zac (ZiJ K):=by
  refine F.ok sc_Stairs_drive_out (fun vs H Q E h=>?_) (fun cdv A outer st H vs Q E hr h=>?_)
  · obtain ⟨A,g,S,xs,U,k,b,s,rfl,_⟩:=h
    rfl
  obtain ⟨A,g,S,xs,U,k,b,s,rfl,R,hs,hb,hl,q⟩:=h
  have nd:=sc_Stairs_drive_out.nd
  refine ⟨_,(Zf (Zbc (Zk M_Steps_go_out hr.m T.cl_Stairs (pv 0) (pc (pv 1) (pc (pv 2) Ze))) (ZT (K:=K) (n:=2) rfl rfl (Zo (pgn 3 nd) (Zo (pgn 4 nd) ZS))))
      (Zf (ps_if (ZJ op_eq (Zr (K:=K) rfl (pv 0) rfl) ZaT (ZF _)) (Zi (ZcE PassesOwn.never rfl (ZeS rfl T.z_range (pc (pe_op ZeE (pv 1) Zj) (pc (pe_un ZeF Zj) (pc (pe_un ZeF Zj) Ze)))) (pgn 5 nd) (Zi (ps_if (Zbb (Zk M_Store_has hr.m T.cl_Store (pe_ix (Zt (K:=K) rfl) (Zr (K:=K) rfl (pv 0) rfl) (pv 5) (fun _ _=>rfl)) (pc (pv 2) Ze))) (Zf (Zbc (Zk M_Steps_go_out hr.m T.cl_Stairs (pv 0) (pc (pv 5) (pc (pv 2) Ze))) (ZT (K:=K) (n:=2) rfl rfl (Zo (pgn 3 nd) (Zo (pgn 6 nd) ZS))))
      (Zi (pst 4 nd (pe_or (pv 4) (ZiX (pv 6)))))) Zz)))) Zz)
      (Zi (ps_if (Zbb (pv 4)) (Zi (Zw (Zk M_Stairs_go_on hr.m T.cl_Stairs (pv 0) (pc (pe_op Zaf (pv 1) Zj) (pc (pv 2) (pc (pv 3) Ze)))))) Zz)))),?_⟩
  obtain ⟨dx,h1⟩:=R.ob
  have hk4:k<4:=by have:=(List.getElem?_eq_some_iff.mp hs).1; have:=R.l4; have:=R.lS; omega
  refine hide fun u1 e1=>?_
  refine ⟨_,rfl,A.p,dx,_,rfl,h1,tf_no ..,_,rfl,_,rfl,A,g,S,xs,U,k,b,s,rfl,R,hs,hb,by omega,fun H1 t l v et el nl R1 f1=>⟨t,_,rfl,SqT.of et,rfl,_,_,rfl,gN ⟨_,_,rfl,gN ⟨rfl,?_⟩⟩⟩⟩
  subst e1
  try dsimp only
  rw [← ZlI hs] at R1
  refine cpI (fun σ G=>∃ (v3 v5 v6:Option V) (ys:List V),σ=[some (.ref A.p),some (.int (k:Int)),some (.int b),v3,some (.bl false),v5,v6]∧ys.length≤5∧StairsAt K G A g (Zck g.kind S k b) (xs++ys) U∧SF A H G) (fun D' _ k'=>?_) ?_
  · obtain ⟨dx1,g1⟩:=R1.ob
    refine ⟨_,rfl,A.p,_,dx1,_,_,rfl,g1,T.cl_Stairs,T.n_Stairs_kind,ZgI ..,rfl,_,rfl,Zbn (fun c=>?_) (fun c=>?_)⟩
    · have c':g.kind = "within" := by injection c
      refine ⟨_,rfl,_,_,rfl,rfl,_,rfl,_,rfl,_,_,rfl,⟨by omega,by omega,by omega,by omega⟩,Zgi (hi:=(k:Int) - 1) (n:=((k:Int) - 1 - -1).toNat) (fun i σ G=>∃ (v3 v5 v6:Option V) (ys:List V),σ=[some (.ref A.p),some (.int (k:Int)),some (.int b),v3,some (.bl false),v5,v6]∧i≤k∧ys.length≤i+1∧StairsAt K G A g (dS S k b i) (xs++ys) U∧SF A H G) ⟨_,_,_,[v],rfl,Nat.zero_le _,Nat.le_refl _,R1,f1⟩ ?_ ?_⟩
      · rintro i σ G hi ⟨v3,v5,v6,ys,rfl,hik,hy,R2,f2⟩
        have hi':i<k:=by omega
        have en:((k:Int) - 1 - (i:Int))=((k - 1 - i:Nat):Int):=by omega
        rw [en]
        refine gN ?_
        try dsimp only
        have hlt:k - 1 - i<A.as.length:=by have:=(List.getElem?_eq_some_iff.mp hs).1; have:=R.lS; omega
        obtain ⟨a,c2,r,q1,q2,q3,B⟩:=R2.at_ hlt
        rw [ZlJ hi'] at q3
        obtain ⟨ds,h3⟩:=B.ob
        obtain ⟨dx2,g2⟩:=R2.ob
        refine ⟨_,rfl,A.p,_,dx2,_,_,rfl,g2,T.cl_Stairs,T.n_Stairs_stores,ZbH ..,_,rfl,A.ss,_,_,_,rfl,rfl,SqL.of R2.ss,StairsAt.ix q1,a.sp,ds,_,rfl,h3,sf_no ..,_,rfl,a,c2,_,_,r.1,r.2,b,rfl,B,_,rfl,?_⟩
        by_cases m:b∈r.1
        · refine ifT (decide_eq_true m) ⟨_,rfl,A.p,dx2,_,rfl,g2,tf_no ..,_,rfl,_,rfl,A,g,_,_,U,k - 1 - i,b,r,rfl,R2,by rw [ZlJ hi']; exact q3,m,by rw [List.length_append]; omega,fun H3 t3 l3 v' et3 el3 nl3 R3 f3=>⟨t3,_,rfl,SqT.of et3,rfl,_,_,rfl,gN ⟨_,_,rfl,gN ⟨rfl,?_⟩⟩⟩⟩
          try dsimp only
          rw [← dS_go hi' q3] at R3
          refine ⟨_,rfl,_,rfl,ifF rfl ⟨_,rfl,gN ⟨_,_,_,ys++[v'],rfl,by omega,by rw [List.length_append]; show ys.length+1≤_; omega,by rw [← List.append_assoc]; exact R3,f2.trans f3⟩⟩⟩
        · refine ifF (decide_eq_false m) ⟨_,_,_,ys,rfl,by omega,by omega,by rw [Zoh hi' q3 m]; exact R2,f2⟩
      · rintro σ G ⟨v3,v5,v6,ys,rfl,hik,hy,R2,f2⟩
        have en:((k:Int) - 1 - -1).toNat=k:=by omega
        rw [en] at R2 hy
        exact k' _ _ ⟨_,_,_,ys,rfl,by omega,by unfold Zck; rw [if_pos c']; exact R2,f2⟩
    · have c':¬ g.kind = "within" := fun z=>c (by rw [z])
      exact k' _ _ ⟨_,_,_,[v],rfl,by show 1≤5; decide,by unfold Zck; rw [if_neg c']; exact R1,f1⟩
  rintro _ G ⟨v3,v5,v6,ys,rfl,hy,R2,f2⟩
  exact ⟨_,rfl,_,rfl,ifF rfl (q G ys hy R2 f2)⟩
end
def useAt (cfs:List Cf) (S:List RS) (k:Nat) (b:Int):List RS:=match cfs[k]?,S[k]? with
  | some c,some s=>S.set k (useR c s b)
  | _,_=>S
theorem Zfk {cfs:List Cf} {S:List RS} {k:Nat} {b:Int} {j:Nat} (h:j≠k):(useAt cfs S k b)[j]?=S[j]?:=by
  unfold useAt
  split
  · exact List.getElem?_set_ne (fun z=>h z.symm)
  · rfl
theorem Zfl {c:Cf} {s:RS} {b g:Int} (h:goneF c s b=some g):g∈s.1∧g % c.sh=b % c.sh∧goneP c.ru s.2 c.pl (Zn c.sh (b % c.sh) s.1) (some g):=by
  unfold goneF at h
  split at h
  · rename_i e
    have q:=Classical.choose_spec e
    rw [h] at q
    by_cases l:((Zn c.sh (b % c.sh) s.1).length:Int)<c.pl
    · exact absurd (q.1 l) (by simp)
    · obtain ⟨g',r,e',p,_⟩:=q.2 l
      cases e'
      have m:=mem_shelfS.mp (p.mem_iff.mp List.mem_cons_self)
      exact ⟨m.1,m.2,q⟩
  · cases h
theorem Zkm {kind:Str} {cfs:List Cf} {S:List RS} {k:Nat} {b:Int} {c:Cf} {s:RS} (hc:cfs[k]?=some c) (hs:S[k]?=some s) (hg:goneF c s b=none):downS kind cfs S k b=S.set k (inR s b):=by
  unfold downS
  rw [hc,hs]
  dsimp only
  rw [hg]
theorem Zkn {kind:Str} {cfs:List Cf} {S:List RS} {k:Nat} {b g:Int} {c:Cf} {s:RS} (hc:cfs[k]?=some c) (hs:S[k]?=some s) (hg:goneF c s b=some g):downS kind cfs S k b=(Zck kind S k g).set k (inR (outR s g) b):=by
  unfold downS
  rw [hc,hs]
  dsimp only
  rw [hg]
theorem ZlK {c:Cf} {s:RS} {b:Int} (h:goneP c.ru s.2 c.pl (Zn c.sh (b % c.sh) s.1) none):((Zn c.sh (b % c.sh) s.1).length:Int)<c.pl:=by
  by_cases l:((Zn c.sh (b % c.sh) s.1).length:Int)<c.pl
  · exact l
  · obtain ⟨_,_,z,_⟩:=h.2 l
    cases z
theorem ZjC {c:Cf} {s:RS} {b g:Int} (hf:∀ t,((Zn c.sh t s.1).length:Int)≤c.pl) (h:g∈s.1) (e:g % c.sh=b % c.sh):((Zn c.sh (b % c.sh) (outR s g).1).length:Int)<c.pl:=by
  have m:g∈Zn c.sh (b % c.sh) s.1:=mem_shelfS.mpr ⟨h,e⟩
  show ((Zn c.sh (b % c.sh) (s.1.erase g)).length:Int)<c.pl
  rw [Zba,List.length_erase_of_mem m]
  have:=List.length_pos_of_mem m
  have:=hf (b % c.sh)
  omega
section
variable {P:Program} {w:World} {K:PySem.W.Frag} {mg:Str→Option Value} {base:Heap}
def ZlL (K:PySem.W.Frag):Sp:=fun vs H Q _=>∃ (A:TA) (g:Pln) (S:List RS) (xs:List V) (U:List Int) (k:Nat) (b:Int),vs=[.ref A.p,.int (k:Int),.int b]∧StairsAt K H A g S xs U∧k=nearF S b∧0≤b∧b≤1000000∧b∈U∧xs.length≤100 ∧
  ∀ H' ys,ys.length≤30→StairsAt K H' A g (Zby g.kind g.cfs b k (useAt g.cfs S k b)) (xs++ys) U→(∀ s,(Zby g.kind g.cfs b k (useAt g.cfs S k b))[0]?=some s→b∈s.1)→SF A H H'→Q .non H'
theorem ZcS {f:Addr} {fd:FuncData} (F:Fun K "fetch_down" "Stairs.fetch_down" ZC f fd) (T:Txt K mg) (M_Steps_use_in:MDef P w K mg base (clsOf K "Stairs") "use_in" 4 Zav (ZgL K)) (M_Steps_words:MDef P w K mg base (clsOf K "Stairs") "words" 4 ZaK (Zew K)) (M_Steps_leaver:MDef P w K mg base (clsOf K "Stairs") "leaver" 4 Zae (ZhS K)) (M_Stairs_drive_out:MDef P w K mg base (clsOf K "Stairs") "drive_out" 6 Zac (ZiJ K)) (M_Steps_come_in:MDef P w K mg base (clsOf K "Stairs") "come_in" 6 Zaj (Zex K)):FnOk P w K mg base CX0 7 f fd ZQ (ZlL K):=by
  refine F.ok sc_Stairs_fetch_down (fun vs H Q E h=>?_) (fun cdv A outer st H vs Q E hr h=>?_)
  · obtain ⟨A,g,S,xs,U,k,b,rfl,_⟩:=h
    rfl
  obtain ⟨A,g,S,xs,U,k,b,rfl,R,hk,b0,b1,hU,hl,q⟩:=h
  have nd:=sc_Stairs_fetch_down.nd
  refine ⟨_,(Zf (ps_if (ZJ op_lt (pv 1) (Zr (K:=K) rfl (pv 0) rfl) (ZF _)) (Zi (Zw (Zk M_Steps_use_in hr.m T.cl_Stairs (pv 0) (pc (pv 1) (pc (pv 2) Ze))))) Zz)
      (Zf (pst 3 nd (Zk M_Steps_words hr.m T.cl_Stairs (pv 0) (pc (pv 1) (pc (pv 2) Ze))))
      (Zi (ZcE PassesOwn.never rfl (ZeS rfl T.z_range (pc (pe_op ZeE (pv 1) Zj) (pc (pe_un ZeF Zj) (pc (pe_un ZeF Zj) Ze)))) (pgn 4 nd) (Zf (pst 5 nd (Zk M_Steps_leaver hr.m T.cl_Stairs (pv 0) (pc (pv 4) (pc (pv 2) Ze))))
      (Zf (ps_if (ZgY (Zkz (pv 5))) (Zi (Zw (Zk M_Stairs_drive_out hr.m T.cl_Stairs (pv 0) (pc (pv 4) (pc (pv 5) Ze))))) Zz)
      (Zi (Zw (Zk M_Steps_come_in hr.m T.cl_Stairs (pv 0) (pc (pv 4) (pc (pv 2) (pc (pv 3) Ze)))))))))))),?_⟩
  have hkl:k≤A.as.length:=by rw [hk,← R.lS]; exact ZcJ S b
  have l4:=R.l4
  refine cpI (fun σ G=>σ=[some (.ref A.p),some (.int (k:Int)),some (.int b),none,none,none]∧StairsAt K G A g (useAt g.cfs S k b) xs U∧SF A H G) (fun D' _ k'=>?_) ?_
  · obtain ⟨dx,h1⟩:=R.ob
    refine ⟨_,rfl,_,rfl,A.p,_,dx,_,_,rfl,h1,T.cl_Stairs,T.n_Stairs_last,Zdf ..,_,_,rfl,rfl,_,rfl,?_⟩
    by_cases c:k<A.as.length
    · obtain ⟨a,cc,s,e1,e2,e3,B⟩:=R.at_ c
      have hb:b∈s.1:=by
        obtain ⟨s',q1,q2⟩:=ZcI (S:=S) (b:=b) (by rw [← hk,R.lS]; exact c)
        rw [← hk,e3] at q1; cases q1
        exact q2
      refine ifT (decide_eq_true (by omega)) ⟨_,rfl,A.p,dx,_,rfl,h1,tf_no ..,_,rfl,_,rfl,A,g,S,xs,U,k,b,cc,s,rfl,R,e2,e3,hb,fun H1 R1 f1=>k' _ _ ⟨rfl,?_,f1⟩⟩
      unfold useAt
      rw [e2,e3]
      exact R1
    · refine ifF (decide_eq_false (by omega)) (k' _ _ ⟨rfl,?_,SF.of (Same.refl _)⟩)
      have e:S[k]?=none:=List.getElem?_eq_none (by rw [R.lS]; omega)
      unfold useAt
      rw [e]
      cases g.cfs[k]? <;> exact R
  rintro _ G ⟨rfl,R0,f0⟩
  have nb:∀ j,j<k→∀ s,(useAt g.cfs S k b)[j]?=some s→b∉s.1:=fun j hj s hs=>by
    rw [Zfk (by omega)] at hs
    exact Zey (by rw [← hk]; exact hj) hs
  have hb0:∀ s,(useAt g.cfs S k b)[k]?=some s→b∈s.1:=fun s hs=>by
    have c:k<A.as.length:=by rw [← R0.lS]; exact (List.getElem?_eq_some_iff.mp hs).1
    obtain ⟨a,cc,r,e1,e2,e3,B⟩:=R.at_ c
    have hb:b∈r.1:=by
      obtain ⟨s',q1,q2⟩:=ZcI (S:=S) (b:=b) (by rw [← hk,R.lS]; exact c)
      rw [← hk,e3] at q1; cases q1
      exact q2
    unfold useAt at hs
    rw [e2,e3] at hs
    dsimp only at hs
    rw [List.getElem?_set_self (by rw [R.lS]; exact c)] at hs
    cases hs
    exact (Zfe hb B.room.nd).mpr hb
  generalize useAt g.cfs S k b=S0 at *
  obtain ⟨dx,h1⟩:=R0.ob
  refine hide fun u1 e1=>?_
  refine ⟨_,rfl,A.p,dx,_,rfl,h1,tf_no ..,_,rfl,_,rfl,A,g,S0,xs,U,k,b,rfl,R0,hkl,hb0,b0,b1,fun lw H1 hlw s1 ew=>gN ?_⟩
  subst e1
  try dsimp only
  have nm:¬ MutL A lw:=fun z=>R0.mex lw z hlw
  have R1:=R0.same s1
  refine ⟨_,rfl,_,_,rfl,rfl,_,rfl,_,rfl,_,_,rfl,⟨by omega,by omega,by omega,by omega⟩,Zgi (hi:=(k:Int) - 1) (n:=((k:Int) - 1 - -1).toNat) (fun i σ G'=>∃ (v4 v5:Option V) (S':List RS) (ys:List V),σ=[some (.ref A.p),some (.int (k:Int)),some (.int b),some (.ref lw),v4,v5]∧i≤k∧ys.length≤6 * i∧StairsAt K G' A g S' (xs++ys) U∧SF A H G'∧Zby g.kind g.cfs b (k - i) S'=Zby g.kind g.cfs b k S0∧(∀ j,j<k - i→∀ s,S'[j]?=some s→b∉s.1)∧(∀ s,S'[k - i]?=some s→b∈s.1)∧G' lw=some (.lst (Zcj g.size)))
    ⟨_,_,S0,[],rfl,Nat.zero_le _,Nat.zero_le _,by rw [List.append_nil]; exact R1,f0.trans (SF.of s1),rfl,nb,hb0,ew⟩ ?_ ?_⟩
  · rintro i σ G' hi ⟨v4,v5,S',ys,rfl,hik,hy,R2,f2,ed,nb2,hb2,ew2⟩
    have hi':i<k:=by omega
    have en:((k:Int) - 1 - (i:Int))=((k - 1 - i:Nat):Int):=by omega
    rw [en]
    refine gN ?_
    try dsimp only
    have hlt:k - 1 - i<A.as.length:=by omega
    obtain ⟨a,cc,s,q1,q2,q3,B⟩:=R2.at_ hlt
    have hbn:b∉s.1:=nb2 (k - 1 - i) (by omega) s q3
    obtain ⟨dx2,g2⟩:=R2.ob
    have edn:k - i=(k - 1 - i)+1:=by omega
    rw [edn] at ed
    refine hide fun u1 e1=>?_
    refine ⟨_,rfl,A.p,dx2,_,rfl,g2,tf_no ..,_,rfl,_,rfl,A,g,S',xs++ys,U,k - 1 - i,b,cc,s,rfl,R2,q2,q3,fun H3 s3 gp=>gN ?_⟩
    subst e1
    try dsimp only
    have R3:=R2.same s3
    have ew3:=s3 _ _ ew2
    obtain ⟨dx3,g3⟩:=R3.ob
    refine cpI (fun σ' G3=>∃ (S1:List RS) (zs:List V) (r:RS),σ'=[some (.ref A.p),some (.int (k:Int)),some (.int b),some (.ref lw),some (.int ((k - 1 - i:Nat):Int)),some (optV (goneF cc s b))]∧zs.length≤5∧StairsAt K G3 A g S1 (xs++ys++zs) U∧SF A H3 G3∧S1[k - 1 - i]?=some r∧b∉r.1∧((Zn cc.sh (b % cc.sh) r.1).length:Int)<cc.pl∧S1.set (k - 1 - i) (inR r b)=downS g.kind g.cfs S' (k - 1 - i) b∧∀ j,j<k - 1 - i→∀ s,S1[j]?=some s→b∉s.1) (fun D' _ k'=>?_) ?_
    · cases eg:goneF cc s b with
      | none =>
        rw [eg] at gp k'
        refine ⟨_,rfl,_,rfl,ifF rfl (k' _ _ ⟨S',[],s,rfl,Nat.zero_le _,by rw [List.append_nil]; exact R3,SF.of (Same.refl _),q3,hbn,ZlK gp,(Zkm q2 q3 eg).symm,fun j hj=>nb2 j (by omega)⟩)⟩
      | some go =>
        rw [eg] at gp k'
        obtain ⟨m1,m2,m3⟩:=Zfl eg
        refine ⟨_,rfl,_,rfl,ifT rfl ⟨_,rfl,A.p,dx3,_,rfl,g3,tf_no ..,_,rfl,_,rfl,A,g,S',xs++ys,U,k - 1 - i,go,s,rfl,R3,q3,m1,by rw [List.length_append]; omega,fun H4 zs hz R4 f4=>k' _ _ ⟨_,zs,outR s go,rfl,hz,R4,f4,ZiI q3,fun m=>hbn (List.mem_of_mem_erase m),ZjC (R2.full _ cc s q2 q3) m1 m2,(Zkn q2 q3 eg).symm,fun j hj r hr=>?_⟩⟩⟩
        obtain ⟨s',z1,z2⟩:=Zkl hr
        exact fun m=>nb2 j (by omega) s' z1 (z2 b m)
    rintro _ G3 ⟨S1,zs,r,rfl,hz,R4,f4,q4,hbr,hsh,eS,nb3⟩
    have ew4:=f4 _ _ ew3 (R3.nfoot ew3 nm)
    obtain ⟨dx4,g4⟩:=R4.ob
    refine ⟨_,rfl,A.p,dx4,_,rfl,g4,tf_no ..,_,rfl,_,rfl,_,rfl,A,g,S1,xs++ys++zs,U,k - 1 - i,b,lw,cc,r,rfl,R4,q2,q4,hbr,hU,hsh,ew4,nm,by rw [List.length_append,List.length_append]; omega,fun H5 v R5 f5=>?_⟩
    have ew5:=f5 _ _ ew4 (R4.nfoot ew4 nm)
    refine ⟨_,_,S1.set (k - 1 - i) (inR r b),ys++zs++[v],rfl,by omega,by rw [List.length_append,List.length_append]; show ys.length+zs.length+1≤_; omega,by rw [← List.append_assoc,← List.append_assoc]; exact R5,((f2.trans (SF.of s3)).trans f4).trans f5,?_,fun j hj s' hs'=>?_,fun s' hs'=>?_,ew5⟩
    · rw [eS,show k - (i+1)=k - 1 - i by omega]
      exact ed
    · rw [List.getElem?_set_ne (by omega)] at hs'
      exact nb3 j (by omega) s' hs'
    · rw [show k - (i+1)=k - 1 - i by omega,List.getElem?_set_self (List.getElem?_eq_some_iff.mp q4).1] at hs'
      cases hs'
      exact List.mem_append_right _ (List.mem_singleton.mpr rfl)
  · rintro σ G' ⟨v4,v5,S',ys,rfl,hik,hy,R2,f2,ed,nb2,hb2,ew2⟩
    have en:((k:Int) - 1 - -1).toNat=k:=by omega
    rw [en,Nat.sub_self] at ed hb2
    rw [en] at hy
    have ed:S'=Zby g.kind g.cfs b k S0:=ed
    subst ed
    exact q G' ys (by omega) R2 hb2 f2
def ZgP (K:PySem.W.Frag):Sp:=fun vs H Q _=>∃ (A:TA) (g:Pln) (S:List RS) (xs:List V) (U:List Int) (k:Nat) (b:Int) (lw:Addr) (c:Cf) (s:RS),vs=[.ref A.p,.int (k:Int),.int b,.ref lw,.bl false]∧StairsAt K H A g S xs U∧g.cfs[k]?=some c∧S[k]?=some s∧b∉s.1∧b∈U∧((Zn c.sh (b % c.sh) s.1).length:Int)<c.pl∧H lw=some (.lst (Zcj g.size))∧¬ MutL A lw∧xs.length≤500 ∧
  ∀ H' v,StairsAt K H' A g (S.set k (inR s b)) (xs++[v]) U→SF A H H'→Q .non H'
theorem ZcT {f:Addr} {fd:FuncData} (F:Fun K "come_apart" "Stairs.come_apart" ZD f fd) (T:Txt K mg) (M_Steps_come_in:MDef P w K mg base (clsOf K "Stairs") "come_in" 6 Zaj (Zex K)) (M_Stairs_change:MDef P w K mg base (clsOf K "Stairs") "change" 1 Zbj Zcl):FnOk P w K mg base CX0 7 f fd ZE (ZgP K):=by
  refine F.ok sc_Stairs_come_apart (fun vs H Q E h=>?_) (fun cdv A outer st H vs Q E hr h=>?_)
  · obtain ⟨A,g,S,xs,U,k,b,lw,c,s,rfl,_⟩:=h
    rfl
  obtain ⟨A,g,S,xs,U,k,b,lw,c,s,rfl,R,hc,hs,hb,hU,hsh,hlw,nm,hl,q⟩:=h
  have nd:=sc_Stairs_come_apart.nd
  refine ⟨_,(Zf (Zw (Zk M_Steps_come_in hr.m T.cl_Stairs (pv 0) (pc (pv 1) (pc (pv 2) (pc (pv 3) Ze)))))
      (Zi (ps_if (Zbb (pv 4)) (Zi (Zw (Zk M_Stairs_change hr.m T.cl_Stairs (pv 0) (pc (pv 1) (pc (pv 2) Ze))))) Zz))),?_⟩
  obtain ⟨dx,h1⟩:=R.ob
  exact ⟨_,rfl,A.p,dx,_,rfl,h1,tf_no ..,_,rfl,_,rfl,_,rfl,A,g,S,xs,U,k,b,lw,c,s,rfl,R,hc,hs,hb,hU,hsh,hlw,nm,hl,fun H' v R1 f1=>⟨_,rfl,_,rfl,ifF rfl (q H' v R1 f1)⟩⟩
def DisjF (k:Nat) (S:List RS):Prop:=∀ (i j:Nat) (s t:RS),k≤i→k≤j→S[i]?=some s→S[j]?=some t→i≠j→∀ x∈s.1,x∉t.1
def ZjD (K:PySem.W.Frag) (n:Nat):Sp:=fun vs H Q _=>∃ (A:TA) (g:Pln) (S:List RS) (xs:List V) (U:List Int) (k:Nat) (b:Int) (lw:Addr),vs=[.ref A.p,.int (k:Int),.int b,.ref lw,.bl false]∧StairsAt K H A g S xs U∧k+n=A.as.length∧(∀ j s,k≤j→S[j]?=some s→b∉s.1)∧DisjF k S∧b∈U∧H lw=some (.lst (Zcj g.size))∧¬ MutL A lw∧xs.length+2 * n≤400 ∧
  ∀ H' ys,ys.length≤2 * n→StairsAt K H' A g (pushS g.cfs n S k b) (xs++ys) U→SF A H H'→Q .non H'
theorem ZcX {n:Nat} {sp0:Sp} (hsp:∀ m,n=m+1→sp0=ZjD K m) {f:Addr} {fd:FuncData} (F:Fun K "push" "Stairs.push" Zan f fd) (T:Txt K mg) (M_Steps_put:MDef P w K mg base (clsOf K "Stairs") "put" 1 Zcf Zcl) (M_Steps_leaver:MDef P w K mg base (clsOf K "Stairs") "leaver" 4 Zae (ZhS K)) (M_Stairs_come_apart:MDef P w K mg base (clsOf K "Stairs") "come_apart" 7 ZE (ZgP K)) (M_Steps_go_out:MDef P w K mg base (clsOf K "Stairs") "go_out" 5 ZM (ZdU K)) (M_Stairs_push:MDef P w K mg base (clsOf K "Stairs") "push" (n+7) Zad sp0):FnOk P w K mg base CX0 (n+8) f fd Zad (ZjD K n):=by
  refine F.ok sc_Stairs_push (fun vs H Q E h=>?_) (fun cdv A outer st H vs Q E hr h=>?_)
  · obtain ⟨A,g,S,xs,U,k,b,lw,rfl,_⟩:=h
    rfl
  obtain ⟨A,g,S,xs,U,k,b,lw,rfl,R,hk,hb,dj,hU,hlw,nm,hl,q⟩:=h
  have nd:=sc_Stairs_push.nd
  refine ⟨_,(Zf (ps_if (ZJ op_eq (pv 1) (Zr (K:=K) rfl (pv 0) rfl) (ZF _)) (Zf (ps_if (Zbb (pv 4)) (Zi (Zw (Zk M_Steps_put hr.m T.cl_Stairs (pv 0) (pc (pv 1) (pc (pv 2) (pc (pv 3) Ze)))))) Zz)
      (Zi ZkB)) Zz)
      (Zf (pst 5 nd (Zk M_Steps_leaver hr.m T.cl_Stairs (pv 0) (pc (pv 1) (pc (pv 2) Ze))))
      (Zf (ps_if (ZgY (Zky (pv 5))) (Zf (Zw (Zk M_Stairs_come_apart hr.m T.cl_Stairs (pv 0) (pc (pv 1) (pc (pv 2) (pc (pv 3) (pc (pv 4) Ze))))))
      (Zi ZkB)) Zz)
      (Zf (Zbc (Zk M_Steps_go_out hr.m T.cl_Stairs (pv 0) (pc (pv 1) (pc (pv 5) Ze))) (ZT (K:=K) (n:=2) rfl rfl (Zo (pgn 6 nd) (Zo (pgn 7 nd) ZS))))
      (Zf (Zw (Zk M_Stairs_come_apart hr.m T.cl_Stairs (pv 0) (pc (pv 1) (pc (pv 2) (pc (pv 3) (pc (pv 4) Ze))))))
      (Zi (Zw (Zk M_Stairs_push hr.m T.cl_Stairs (pv 0) (pc (pe_op Zaf (pv 1) Zj) (pc (pv 5) (pc (pv 6) (pc (pv 7) Ze)))))))))))),?_⟩
  obtain ⟨dx,h1⟩:=R.ob
  cases n with
  | zero =>
    refine ⟨_,rfl,_,rfl,A.p,_,dx,_,_,rfl,h1,T.cl_Stairs,T.n_Stairs_last,Zdf ..,rfl,_,rfl,Zfb (fun e=>?_) (fun e=>absurd (show (k:Int)=(A.as.length:Int) by omega) e)⟩
    exact ⟨_,rfl,_,rfl,ifF rfl (q H [] (Nat.le_refl _) (by rw [List.append_nil]; exact R) (SF.of (Same.refl _)))⟩
  | succ n =>
    have hkl:k<A.as.length:=by omega
    obtain ⟨a,c,s,e1,e2,e3,B⟩:=R.at_ hkl
    refine ⟨_,rfl,_,rfl,A.p,_,dx,_,_,rfl,h1,T.cl_Stairs,T.n_Stairs_last,Zdf ..,rfl,_,rfl,Zfb (fun e=>absurd e (by omega)) (fun e=>?_)⟩
    dsimp only [tNext]
    refine hide fun u1 eu=>?_
    refine ⟨_,rfl,A.p,dx,_,rfl,h1,tf_no ..,_,rfl,_,rfl,A,g,S,xs,U,k,b,c,s,rfl,R,e2,e3,fun H1 s1 gp=>gN ?_⟩
    subst eu
    try dsimp only
    have R1:=R.same s1
    have hlw1:=s1 _ _ hlw
    obtain ⟨dx1,h2⟩:=R1.ob
    have hbs:=hb k s (Nat.le_refl _) e3
    cases eg:goneF c s b with
    | none =>
      rw [eg] at gp
      refine ⟨_,rfl,_,rfl,ifT rfl ⟨_,rfl,A.p,dx1,_,rfl,h2,tf_no ..,_,rfl,_,rfl,_,rfl,_,rfl,A,g,S,xs,U,k,b,lw,c,s,rfl,R1,e2,e3,hbs,hU,ZlK gp,hlw1,nm,by omega,fun H2 v R2 f2=>q H2 [v] (by show 1≤_; omega) ?_ ((SF.of s1).trans f2)⟩⟩
      unfold pushS
      rw [e2,e3]
      dsimp only
      rw [eg]
      exact R2
    | some go =>
      rw [eg] at gp
      obtain ⟨m1,m2,m3⟩:=Zfl eg
      refine ⟨_,rfl,_,rfl,ifF rfl ?_⟩
      dsimp only [tNext]
      refine hide fun u1 eu=>?_
      refine ⟨_,rfl,A.p,dx1,_,rfl,h2,tf_no ..,_,rfl,_,rfl,A,g,S,xs,U,k,go,s,rfl,R1,e3,m1,by omega,fun H2 t l v et el nl R2 f2=>⟨t,_,rfl,SqT.of et,rfl,_,_,rfl,gN ⟨_,_,rfl,gN ⟨rfl,?_⟩⟩⟩⟩
      subst eu
      try dsimp only
      have hlw2:=f2 _ _ hlw1 (R1.nfoot hlw1 nm)
      obtain ⟨dx2,h3⟩:=R2.ob
      have e3':(S.set k (outR s go))[k]?=some (outR s go):=List.getElem?_set_self (List.getElem?_eq_some_iff.mp e3).1
      refine ⟨_,rfl,A.p,dx2,_,rfl,h3,tf_no ..,_,rfl,_,rfl,_,rfl,_,rfl,A,g,_,_,U,k,b,lw,c,outR s go,rfl,R2,e2,e3',fun m=>hbs (List.mem_of_mem_erase m),hU,ZjC (R.full k c s e2 e3) m1 m2,hlw2,nm,by rw [List.length_append]; show xs.length+1≤500; omega,fun H3 v' R3 f3=>?_⟩
      rw [List.set_set] at R3
      have el3:=f3 _ _ el (R2.nfoot el nl)
      obtain ⟨dx3,h4⟩:=R3.ob
      have e0:=hsp n rfl
      subst e0
      have eS:pushS g.cfs (n+1) S k b=pushS g.cfs n (S.set k (inR (outR s go) b)) (k+1) go:=by
        rw [pushS,e2,e3]
        dsimp only
        rw [eg]
      refine ⟨_,rfl,A.p,dx3,_,rfl,h4,tf_no ..,_,rfl,_,_,rfl,rfl,_,rfl,_,rfl,_,rfl,A,g,_,_,U,k+1,go,l,rfl,R3,by omega,fun j r hj hr=>?_,fun i j r r' hi hj hr hr' ne x hx=>?_,R.uni s (List.mem_of_getElem? e3) go m1,el3,nl,by rw [List.length_append,List.length_append]; show xs.length+1+1+2 * n≤400; omega,fun H4 ys hy R4 f4=>q H4 ([v]++[v']++ys) (by rw [List.length_append,List.length_append]; show 1+1+ys.length≤_; omega) ?_ ((((SF.of s1).trans f2).trans f3).trans f4)⟩
      · rw [List.getElem?_set_ne (by omega)] at hr
        exact dj k j s r (Nat.le_refl _) (by omega) e3 hr (by omega) go m1
      · rw [List.getElem?_set_ne (by omega)] at hr hr'
        exact dj i j r r' (by omega) (by omega) hr hr' ne x hx
      · rw [eS,← List.append_assoc,← List.append_assoc]
        exact R4
theorem ZcK {f:Addr} {fd:FuncData} (F:Fun K "push" "Stairs.push" Zan f fd) (bi:Binds K fd Zad []) (m:Meth K (clsOf K "Stairs") "push" f) (T:Txt K mg) (M_Steps_put:MDef P w K mg base (clsOf K "Stairs") "put" 1 Zcf Zcl) (M_Steps_leaver:MDef P w K mg base (clsOf K "Stairs") "leaver" 4 Zae (ZhS K)) (M_Stairs_come_apart:MDef P w K mg base (clsOf K "Stairs") "come_apart" 7 ZE (ZgP K)) (M_Steps_go_out:MDef P w K mg base (clsOf K "Stairs") "go_out" 5 ZM (ZdU K)):∀ n,MDef P w K mg base (clsOf K "Stairs") "push" (n+8) Zad (ZjD K n)
  | 0=>by
    have M0:MDef P w K mg base (clsOf K "Stairs") "push" 7 Zad Zcl:=⟨f,fd,⟨fun _ _ _ _ h=>h.elim,fun _ _ _ _ _ _ _ _ _ _ _ _ _ h=>h.elim⟩,m,bi⟩
    exact ⟨f,fd,ZcX (n:=0) (fun _ h=>by omega) F T M_Steps_put M_Steps_leaver M_Stairs_come_apart M_Steps_go_out M0,m,bi⟩
  | n+1=>⟨f,fd,ZcX (n:=n+1) (fun j h=>by cases (show j=n by omega); rfl) F T M_Steps_put M_Steps_leaver M_Stairs_come_apart M_Steps_go_out (ZcK F bi m T M_Steps_put M_Steps_leaver M_Stairs_come_apart M_Steps_go_out n),m,bi⟩
end
def Disj (S:List RS):Prop:=DisjF 0 S
def NDs (S:List RS):Prop:=∀ s∈S,s.1.Nodup
theorem Zez {S:List RS} {k:Nat} {r:RS} (d:Disj S) (h:∀ (j:Nat) (t:RS),j≠k→S[j]?=some t→(∀ x∈r.1,x∉t.1)):Disj (S.set k r):=fun i j s t _ _ hs ht ne x hx hx'=>by
  by_cases ei:i=k
  · subst ei
    have hl:i<S.length:=by have:=(List.getElem?_eq_some_iff.mp hs).1; rwa [List.length_set] at this
    rw [List.getElem?_set_self hl] at hs
    cases hs
    rw [List.getElem?_set_ne ne] at ht
    exact h j t (fun z=>ne z.symm) ht x hx hx'
  · rw [List.getElem?_set_ne (fun z=>ei z.symm)] at hs
    by_cases ej:j=k
    · subst ej
      have hl:j<S.length:=by have:=(List.getElem?_eq_some_iff.mp ht).1; rwa [List.length_set] at this
      rw [List.getElem?_set_self hl] at ht
      cases ht
      exact h i s ei hs x hx' hx
    · rw [List.getElem?_set_ne (fun z=>ej z.symm)] at ht
      exact d i j s t (Nat.zero_le _) (Nat.zero_le _) hs ht ne x hx hx'
theorem ZlM {S:List RS} {k:Nat} {r:RS} (d:NDs S) (h:r.1.Nodup):NDs (S.set k r):=fun s hs=>by
  rcases List.mem_or_eq_of_mem_set hs with hs | rfl
  · exact d s hs
  · exact h
theorem nd_in {s:RS} {b:Int} (h:s.1.Nodup) (hb:b∉s.1):(inR s b).1.Nodup:=ZdL h hb
theorem ZdW {cfs:List Cf}:∀ (n:Nat) (S:List RS) (k:Nat) (b:Int),Disj S→NDs S→(∀ s∈S,b∉s.1)→Disj (pushS cfs n S k b)
  | 0,S,k,b,d,_,_=>d
  | n+1,S,k,b,d,nds,hb=>by
    unfold pushS
    split
    · rename_i c s hc hs
      have hbs:=hb s (List.mem_of_getElem? hs)
      have ns:=nds s (List.mem_of_getElem? hs)
      have dj:∀ (j:Nat) (t:RS),j≠k→S[j]?=some t→∀ x∈s.1,x∉t.1:=fun j t ne ht x hx=>d k j s t (Nat.zero_le _) (Nat.zero_le _) hs ht (fun z=>ne z.symm) x hx
      split
      · refine Zez d fun j t ne ht x hx=>?_
        rcases List.mem_append.mp hx with hx | hx
        · exact dj j t ne ht x hx
        · rw [List.mem_singleton.mp hx]; exact hb t (List.mem_of_getElem? ht)
      · rename_i g hg
        obtain ⟨m1,_⟩:=Zfl hg
        have dS':Disj (S.set k (inR (outR s g) b)):=Zez d fun j t ne ht x hx=>by
          rcases List.mem_append.mp hx with hx | hx
          · exact dj j t ne ht x (List.mem_of_mem_erase hx)
          · rw [List.mem_singleton.mp hx]; exact hb t (List.mem_of_getElem? ht)
        refine ZdW n _ (k+1) g dS' (ZlM nds (nd_in (ns.erase g) fun m=>hbs (List.mem_of_mem_erase m))) fun r hr=>?_
        obtain ⟨j,hj⟩:=List.getElem?_of_mem hr
        by_cases e:j=k
        · subst e
          rw [List.getElem?_set_self (List.getElem?_eq_some_iff.mp hs).1] at hj
          cases hj
          intro m
          rcases List.mem_append.mp m with m | m
          · exact ((List.Nodup.mem_erase_iff ns).mp m).1 rfl
          · exact hbs (by rw [← List.mem_singleton.mp m]; exact m1)
        · rw [List.getElem?_set_ne (fun z=>e z.symm)] at hj
          exact dj j r e hj g m1
    · exact d
theorem ZjE {cfs:List Cf}:∀ (n:Nat) (S:List RS) (k:Nat) (b:Int) (j:Nat),j<k→(pushS cfs n S k b)[j]?=S[j]?
  | 0,_,_,_,_,_=>rfl
  | n+1,S,k,b,j,hj=>by
    unfold pushS
    split
    · split
      · rw [List.getElem?_set_ne (by omega)]
      · rw [ZjE n _ _ _ j (by omega),List.getElem?_set_ne (by omega)]
    · rfl
theorem ZmX {cfs:List Cf} {n:Nat} {S:List RS} {k:Nat} {b:Int} {c:Cf} {s:RS} (hc:cfs[k]?=some c) (hs:S[k]?=some s):∃ r,(pushS cfs (n+1) S k b)[k]?=some r∧b∈r.1:=by
  unfold pushS
  rw [hc,hs]
  dsimp only
  have hl:=(List.getElem?_eq_some_iff.mp hs).1
  split
  · exact ⟨_,List.getElem?_set_self hl,List.mem_append_right _ (List.mem_singleton.mpr rfl)⟩
  · rw [ZjE n _ _ _ k (Nat.lt_succ_self k),List.getElem?_set_self hl]
    exact ⟨_,rfl,List.mem_append_right _ (List.mem_singleton.mpr rfl)⟩
noncomputable def ZbN (cfs:List Cf) (S:List RS) (k:Nat) (b:Int):List RS :=
  if k=S.length then pushS cfs S.length S 0 b else (match cfs[k]?,S[k]? with
    | some c,some s=>if k=0 then S.set 0 (useR c s b) else pushS cfs S.length (S.set k (outR s b)) 0 b
    | _,_=>S)
theorem Zfm {S:List RS} {b:Int} (h:nearF S b=S.length):∀ s∈S,b∉s.1:=fun s hs=>by
  obtain ⟨j,hj⟩:=List.getElem?_of_mem hs
  exact Zey (by rw [h]; exact (List.getElem?_eq_some_iff.mp hj).1) hj
theorem ZhU {S:List RS} {b:Int} {k:Nat} {s:RS} (d:Disj S) (nds:NDs S) (hs:S[k]?=some s) (hb:b∈s.1):Disj (S.set k (outR s b))∧NDs (S.set k (outR s b))∧∀ r∈S.set k (outR s b),b∉r.1:=by
  have dj:∀ (j:Nat) (t:RS),j≠k→S[j]?=some t→∀ x∈s.1,x∉t.1:=fun j t ne ht x hx=>d k j s t (Nat.zero_le _) (Nat.zero_le _) hs ht (fun z=>ne z.symm) x hx
  have ns:=nds s (List.mem_of_getElem? hs)
  refine ⟨Zez d fun j t ne ht x hx=>dj j t ne ht x (List.mem_of_mem_erase hx),ZlM nds (ns.erase b),fun r hr=>?_⟩
  obtain ⟨j,hj⟩:=List.getElem?_of_mem hr
  by_cases e:j=k
  · subst e
    rw [List.getElem?_set_self (List.getElem?_eq_some_iff.mp hs).1] at hj
    cases hj
    exact fun m=>((List.Nodup.mem_erase_iff ns).mp m).1 rfl
  · rw [List.getElem?_set_ne (fun z=>e z.symm)] at hj
    exact dj j r e hj b hb
theorem ZiK {cfs:List Cf} {S:List RS} {b:Int} (d:Disj S) (nds:NDs S):Disj (ZbN cfs S (nearF S b) b):=by
  unfold ZbN
  split
  · rename_i e
    exact ZdW _ _ _ _ d nds (Zfm e)
  · rename_i e
    split
    · rename_i c s hc hs
      obtain ⟨s',q1,q2⟩:=ZcI (S:=S) (b:=b) (by have:=ZcJ S b; omega)
      rw [hs] at q1; cases q1
      split
      · rename_i e0
        refine Zez d fun j t ne ht x hx=>?_
        rw [e0] at hs
        exact d 0 j s t (Nat.zero_le _) (Nat.zero_le _) hs ht (fun z=>ne z.symm) x ((Zfe q2 (nds s (List.mem_of_getElem? hs))).mp hx)
      · obtain ⟨d1,d2,d3⟩:=ZhU d nds hs q2
        exact ZdW _ _ _ _ d1 d2 d3
    · exact d
section
variable {K:PySem.W.Frag} {H:Hp} {A:TA} {g:Pln} {S:List RS} {xs:List V} {U:List Int}
theorem StairsAt.nds (T:StairsAt K H A g S xs U):NDs S:=fun s hs=>by
  obtain ⟨k,hk⟩:=List.getElem?_of_mem hs
  obtain ⟨a,c,s',h1,h2,h3,B⟩:=T.at_ (k:=k) (by rw [← T.lS]; exact (List.getElem?_eq_some_iff.mp hk).1)
  rw [hk] at h3; cases h3
  exact B.room.nd
end
section
variable {P:Program} {w:World} {K:PySem.W.Frag} {mg:Str→Option Value} {base:Heap}
def ZiL (K:PySem.W.Frag):Sp:=fun vs H Q _=>∃ (A:TA) (g:Pln) (S:List RS) (xs:List V) (U:List Int) (b:Int),vs=[.ref A.p,.int (nearF S b:Nat),.int b]∧StairsAt K H A g S xs U∧Disj S∧0≤b∧b≤1000000∧b∈U∧xs.length≤100∧1≤A.as.length ∧
  ∀ H' ys,ys.length≤30→StairsAt K H' A g (ZbN g.cfs S (nearF S b) b) (xs++ys) U→(∀ s,(ZbN g.cfs S (nearF S b) b)[0]?=some s→b∈s.1)→SF A H H'→Q .non H'
theorem ZcL {f:Addr} {fd:FuncData} (F:Fun K "fetch_apart" "Stairs.fetch_apart" ZA f fd) (T:Txt K mg) (M_Steps_use_in:MDef P w K mg base (clsOf K "Stairs") "use_in" 4 Zav (ZgL K)) (M_Steps_words:MDef P w K mg base (clsOf K "Stairs") "words" 4 ZaK (Zew K)) (M_Steps_go_out:MDef P w K mg base (clsOf K "Stairs") "go_out" 5 ZM (ZdU K)) (M_Stairs_push':∀ n,MDef P w K mg base (clsOf K "Stairs") "push" (n+8) Zad (ZjD K n)):FnOk P w K mg base CX0 13 f fd ZL (ZiL K):=by
  refine F.ok sc_Stairs_fetch_apart (fun vs H Q E h=>?_) (fun cdv A outer st H vs Q E hr h=>?_)
  · obtain ⟨A,g,S,xs,U,b,rfl,_⟩:=h
    rfl
  obtain ⟨A,g,S,xs,U,b,rfl,R,dj,b0,b1,hU,hl,l1,q⟩:=h
  have nd:=sc_Stairs_fetch_apart.nd
  have l4:=R.l4
  have M_Stairs_push:=M_Stairs_push' A.as.length
  refine ⟨_,(Zi (ps_if (ZJ op_eq (pv 1) Zj (ZF _)) (Zi (Zw (Zk M_Steps_use_in hr.m T.cl_Stairs (pv 0) (pc (pv 1) (pc (pv 2) Ze))))) (Zi (ps_if (ZJ op_eq (pv 1) (Zr (K:=K) rfl (pv 0) rfl) (ZF _)) (Zi (Zw (Zk M_Stairs_push hr.m T.cl_Stairs (pv 0) (pc Zj (pc (pv 2) (pc (Zk M_Steps_words hr.m T.cl_Stairs (pv 0) (pc (pv 1) (pc (pv 2) Ze))) (pc pe_bl Ze))))))) (Zf (Zbc (Zk M_Steps_go_out hr.m T.cl_Stairs (pv 0) (pc (pv 1) (pc (pv 2) Ze))) (ZT (K:=K) (n:=2) rfl rfl (Zo (pgn 3 nd) (Zo (pgn 4 nd) ZS))))
      (Zi (Zw (Zk M_Stairs_push hr.m T.cl_Stairs (pv 0) (pc Zj (pc (pv 2) (pc (pv 3) (pc (pv 4) Ze)))))))))))),?_⟩
  obtain ⟨dx,h1⟩:=R.ob
  have nle:=ZcJ S b
  have lS:=R.lS
  generalize hk:nearF S b=k at *
  have fst:∀ {S':List RS},S'.length=A.as.length→∀ s,(pushS g.cfs A.as.length S' 0 b)[0]?=some s→b∈s.1:=fun {S'} hS s hs=>by
    obtain ⟨n,hn⟩:∃ n,A.as.length=n+1:=⟨A.as.length - 1,by omega⟩
    rw [hn] at hs
    have hc:g.cfs[0]?=some (g.cfs[0]'(by rw [R.lc]; omega)):=List.getElem?_eq_getElem _
    have hs0:S'[0]?=some (S'[0]'(by omega)):=List.getElem?_eq_getElem _
    obtain ⟨r,q1,q2⟩:=ZmX (n:=n) (b:=b) hc hs0
    rw [q1] at hs; cases hs
    exact q2
  refine ⟨_,rfl,rfl,_,rfl,Zfb (fun e=>?_) (fun e=>?_)⟩
  · have e0:k=0:=by omega
    subst e0
    obtain ⟨a,c,s,e1,e2,e3,B⟩:=R.at_ (k:=0) (by omega)
    have hb:b∈s.1:=by
      obtain ⟨s',q1,q2⟩:=ZcI (S:=S) (b:=b) (by rw [hk]; omega)
      rw [hk,e3] at q1; cases q1
      exact q2
    have eA:ZbN g.cfs S 0 b=S.set 0 (useR c s b):=by
      unfold ZbN
      rw [if_neg (by omega),e2,e3]
      dsimp only
      rw [if_pos rfl]
    refine ⟨_,rfl,A.p,dx,_,rfl,h1,tf_no ..,_,rfl,_,rfl,A,g,S,xs,U,0,b,c,s,rfl,R,e2,e3,hb,fun H1 R1 f1=>q H1 [] (Nat.zero_le _) (by rw [eA,List.append_nil]; exact R1) (fun s' hs'=>?_) f1⟩
    rw [eA,List.getElem?_set_self (by omega)] at hs'
    cases hs'
    exact (Zfe hb B.room.nd).mpr hb
  · refine ⟨_,rfl,_,rfl,A.p,_,dx,_,_,rfl,h1,T.cl_Stairs,T.n_Stairs_last,Zdf ..,rfl,_,rfl,Zfb (fun e'=>?_) (fun e'=>?_)⟩
    · have ek:k=A.as.length:=by omega
      have no:∀ s,S[k]?=some s→b∈s.1:=fun s hs=>by have:=(List.getElem?_eq_some_iff.mp hs).1; omega
      have nb:=Zfm (S:=S) (b:=b) (by omega)
      refine ⟨_,rfl,A.p,dx,_,rfl,h1,tf_no ..,_,rfl,_,rfl,A.p,dx,_,rfl,h1,tf_no ..,_,rfl,_,rfl,A,g,S,xs,U,k,b,rfl,R,by omega,no,b0,b1,fun lw H1 hlw s1 ew=>?_⟩
      have R1:=R.same s1
      have eA:ZbN g.cfs S k b=pushS g.cfs A.as.length S 0 b:=by
        unfold ZbN
        rw [if_pos (by omega),lS]
      refine ⟨A,g,S,xs,U,0,b,lw,rfl,R1,by omega,fun j s _ hs=>nb s (List.mem_of_getElem? hs),dj,hU,ew,fun z=>R.mex lw z hlw,by omega,fun H2 ys hy R2 f2=>q H2 ys (by omega) (by rw [eA]; exact R2) (fun s hs=>?_) ((SF.of s1).trans f2)⟩
      rw [eA] at hs
      exact fst lS s hs
    · have hkl:k<A.as.length:=by omega
      obtain ⟨a,c,s,e1,e2,e3,B⟩:=R.at_ hkl
      have hb:b∈s.1:=by
        obtain ⟨s',q1,q2⟩:=ZcI (S:=S) (b:=b) (by rw [hk]; omega)
        rw [hk,e3] at q1; cases q1
        exact q2
      obtain ⟨d1,d2,d3⟩:=ZhU dj R.nds e3 hb
      have eA:ZbN g.cfs S k b=pushS g.cfs A.as.length (S.set k (outR s b)) 0 b:=by
        unfold ZbN
        rw [if_neg (by omega),e2,e3]
        dsimp only
        rw [if_neg (by omega),lS]
      refine ⟨_,rfl,A.p,dx,_,rfl,h1,tf_no ..,_,rfl,_,rfl,A,g,S,xs,U,k,b,s,rfl,R,e3,hb,by omega,fun H2 t l v et el nl R2 f2=>⟨t,_,rfl,SqT.of et,rfl,_,_,rfl,gN ⟨_,_,rfl,gN ⟨rfl,?_⟩⟩⟩⟩
      try dsimp only
      obtain ⟨dx2,h2⟩:=R2.ob
      refine ⟨_,rfl,A.p,dx2,_,rfl,h2,tf_no ..,_,rfl,_,rfl,_,rfl,A,g,_,_,U,0,b,l,rfl,R2,by omega,fun j r _ hr=>d3 r (List.mem_of_getElem? hr),d1,hU,el,nl,by rw [List.length_append]; show xs.length+1+2 * A.as.length≤400; omega,fun H3 ys hy R3 f3=>q H3 ([v]++ys) (by rw [List.length_append]; show 1+ys.length≤30; omega) (by rw [eA,← List.append_assoc]; exact R3) (fun s' hs'=>?_) (f2.trans f3)⟩
      rw [eA] at hs'
      exact fst (by rw [List.length_set]; exact lS) s' hs'
noncomputable def fetS (g:Pln) (S:List RS) (b:Int):List RS:=if g.kind = "apart" then ZbN g.cfs S (nearF S b) b else Zby g.kind g.cfs b (nearF S b) (useAt g.cfs S (nearF S b) b)
def ZiM (K:PySem.W.Frag):Sp:=fun vs H Q _=>∃ (A:TA) (g:Pln) (S:List RS) (U:List Int) (b:Int),vs=[.ref A.p,.int b]∧StairsAt K H A g S [] U∧(g.kind = "apart" → Disj S)∧0≤b∧b≤1000000∧b∈U∧1≤A.as.length ∧
  ∀ H' t ys,H' t=some (.tup [.str "found",.int (nearF S b:Nat)])→StairsAt K H' A g (fetS g S b) (.ref t :: ys) U→(∀ s,(fetS g S b)[0]?=some s→b∈s.1)→SF A H H'→Q .non H'
theorem Zfn {f:Addr} {fd:FuncData} (F:Fun K "fetch" "Stairs.fetch" Zax f fd) (T:Txt K mg) (M_Stairs_nearest:MDef P w K mg base (clsOf K "Stairs") "nearest" 3 Zas (Zfj K)) (M_Steps_tell_found:MDef P w K mg base (clsOf K "Stairs") "tell_found" 1 Zab (ZlH K)) (M_Stairs_fetch_apart:MDef P w K mg base (clsOf K "Stairs") "fetch_apart" 13 ZL (ZiL K)) (M_Stairs_fetch_down:MDef P w K mg base (clsOf K "Stairs") "fetch_down" 7 ZQ (ZlL K)):FnOk P w K mg base CX0 14 f fd ZaO (ZiM K):=by
  refine F.ok sc_Stairs_fetch (fun vs H Q E h=>?_) (fun cdv A outer st H vs Q E hr h=>?_)
  · obtain ⟨A,g,S,U,b,rfl,_⟩:=h
    rfl
  obtain ⟨A,g,S,U,b,rfl,R,dj,b0,b1,hU,l1,q⟩:=h
  have nd:=sc_Stairs_fetch.nd
  refine ⟨_,(Zf (pst 2 nd (Zk M_Stairs_nearest hr.m T.cl_Stairs (pv 0) (pc (pv 1) Ze)))
      (Zf (Zw (Zk M_Steps_tell_found hr.m T.cl_Stairs (pv 0) (pc (pv 2) Ze)))
      (Zi (ps_if (ZJ op_eq (Zr (K:=K) rfl (pv 0) rfl) ZaT (ZF _)) (Zi (Zw (Zk M_Stairs_fetch_apart hr.m T.cl_Stairs (pv 0) (pc (pv 2) (pc (pv 1) Ze))))) (Zi (Zw (Zk M_Stairs_fetch_down hr.m T.cl_Stairs (pv 0) (pc (pv 2) (pc (pv 1) Ze))))))))),?_⟩
  obtain ⟨dx,h1⟩:=R.ob
  refine ⟨_,rfl,A.p,dx,_,rfl,h1,tf_no ..,_,rfl,A,g,S,[],U,b,rfl,R,fun H1 s1=>gN ?_⟩
  try dsimp only
  have R1:=R.same s1
  refine ⟨_,rfl,A.p,dx,_,rfl,s1 _ _ h1,tf_no ..,_,rfl,A,g,S,[],U,nearF S b,rfl,R1,Nat.zero_le _,fun t H2 ht et R2 f2=>?_⟩
  obtain ⟨dx2,h2⟩:=R2.ob
  have nt:=R2.sfp et (fun _ z=>by cases z) (fun _ z=>by cases z) (fun _ _ _ z=>by cases z)
  refine ⟨_,rfl,A.p,_,dx2,_,_,rfl,h2,T.cl_Stairs,T.n_Stairs_kind,ZgI ..,rfl,_,rfl,Zbn (fun c=>?_) (fun c=>?_)⟩
  · have c':g.kind = "apart" := by injection c
    have eF:fetS g S b=ZbN g.cfs S (nearF S b) b:=by unfold fetS; rw [if_pos c']
    rw [eF] at q
    exact ⟨_,rfl,A.p,dx2,_,rfl,h2,tf_no ..,_,rfl,_,rfl,A,g,S,[.ref t],U,b,rfl,R2,dj c',b0,b1,hU,by show 1≤100; decide,l1,fun H3 ys hy R3 fs f3=>q H3 t ys (f3 _ _ et nt) R3 fs (((SF.of s1).trans f2).trans f3)⟩
  · have c':¬ g.kind = "apart" := fun z=>c (by rw [z])
    have eF:fetS g S b=Zby g.kind g.cfs b (nearF S b) (useAt g.cfs S (nearF S b) b):=by unfold fetS; rw [if_neg c']
    rw [eF] at q
    exact ⟨_,rfl,A.p,dx2,_,rfl,h2,tf_no ..,_,rfl,_,rfl,A,g,S,[.ref t],U,nearF S b,b,rfl,R2,rfl,b0,b1,hU,by show 1≤100; decide,fun H3 ys hy R3 fs f3=>q H3 t ys (f3 _ _ et nt) R3 fs (((SF.of s1).trans f2).trans f3)⟩
def ZlN (K:PySem.W.Frag):Sp:=fun vs H Q _=>∃ (A:TA) (g:Pln) (S:List RS) (U:List Int) (sp b:Int),vs=[.ref A.p,.int sp]∧StairsAt K H A g S [] U∧(g.kind = "apart" → Disj S)∧sp / g.size=b∧0≤b∧b≤1000000∧b∈U∧1≤A.as.length ∧
  ∀ H' tp t e' ys,H' tp=some (.tup [.int 0,.ref A.ev])→H' A.ev=some (.lst (.ref t :: ys))→H' t=some (.tup [.str "found",.int (nearF S b:Nat)])→StairsAt K H' { A with ev:=e' } g (fetS g S b) [] U→(g.kind = "apart" → Disj (fetS g S b))→(∀ x,H' x=none→H x=none∨Foot A x)→H e'=none∨Foot A e'→SF A H H'→Q (.ref tp) H'
theorem ZfH {f:Addr} {fd:FuncData} (F:Fun K "read" "Stairs.read" ZaN f fd) (T:Txt K mg) (D_board_of:Def P w K mg base "board_of" 1 ZbQ ZgF) (M_Stairs_fetch:MDef P w K mg base (clsOf K "Stairs") "fetch" 14 ZaO (ZiM K)) (M_Steps_word_in:MDef P w K mg base (clsOf K "Stairs") "word_in" 4 ZaD (ZgM K)) (M_Steps_happened:MDef P w K mg base (clsOf K "Stairs") "happened" 1 Zar (ZdS K)):FnOk P w K mg base CX0 15 f fd Zbi (ZlN K):=by
  refine F.ok sc_Stairs_read (fun vs H Q E h=>?_) (fun cdv A outer st H vs Q E hr h=>?_)
  · obtain ⟨A,g,S,U,sp,b,rfl,_⟩:=h
    rfl
  obtain ⟨A,g,S,U,sp,b,rfl,R,dj,eb,b0,b1,hU,l1,q⟩:=h
  have nd:=sc_Stairs_read.nd
  refine ⟨_,(Zf (pst 2 nd (Zp D_board_of hr.m rfl (pc (Zr (K:=K) rfl (pv 0) rfl) (pc (pv 1) Ze))))
      (Zf (Zw (Zk M_Stairs_fetch hr.m T.cl_Stairs (pv 0) (pc (pv 2) Ze)))
      (Zi (Zu (Zbd (pc (Zk M_Steps_word_in hr.m T.cl_Stairs (pv 0) (pc Zj (pc (pv 1) Ze))) (pc (Zlr M_Steps_happened hr.m T.cl_Stairs (pv 0)) Ze))))))),?_⟩
  obtain ⟨dx,h1⟩:=R.ob
  have z0:=R.z0
  have z1:=R.z1
  refine ⟨_,rfl,A.p,_,dx,_,_,rfl,h1,T.cl_Stairs,T.n_Stairs_size,ZiG ..,_,rfl,g.size,sp,rfl,by omega,by omega,gN ?_⟩
  try dsimp only
  rw [eb]
  refine ⟨_,rfl,A.p,dx,_,rfl,h1,tf_no ..,_,rfl,A,g,S,U,b,rfl,R,dj,b0,b1,hU,l1,fun H1 t ys et R1 fs f1=>?_⟩
  obtain ⟨dx1,h2⟩:=R1.ob
  obtain ⟨a,c,s,e1,e2,e3,B⟩:=R1.at_ (k:=0) (by omega)
  refine ⟨_,rfl,A.p,dx1,_,rfl,h2,tf_no ..,_,rfl,A,g,_,_,U,0,sp,b,s,rfl,R1,e3,fs s e3,eb,fun H2 s2=>?_⟩
  have R2:=R1.same s2
  refine ⟨_,rfl,A.p,dx1,_,rfl,s2 _ _ h2,tf_no ..,A,g,_,_,U,rfl,R2,fun e' H3 he R3 k3=>⟨(by show 2≤sizeLine; decide),fun tp htp=>?_⟩⟩
  have s4:=Zh htp (.tup [.int 0,.ref A.ev])
  have nep:A.ev≠A.p:=fun z=>by have q:=R2.ev; rw [z,s2 _ _ h2] at q; cases q
  have ntp:t≠A.p:=fun z=>by rw [z,h2] at et; cases et
  refine q _ tp t e' ys Za (s4 _ _ (k3 _ _ R2.ev nep)) (s4 _ _ (k3 _ _ (s2 _ _ et) ntp)) (R3.same s4) (fun c'=>?_) (fun x hx=>?_) ?_ fun x o e n=>?_
  · unfold fetS
    rw [if_pos c']
    exact ZiK (dj c') R.nds
  · by_cases z:Foot A x
    · exact .inr z
    · refine .inl ?_
      cases e:H x with
      | none=>rfl
      | some o=>rw [s4 _ _ (k3 _ _ (s2 _ _ (f1 _ _ e z)) (fun y=>z (.inl y)))] at hx; cases hx
  · by_cases z:Foot A e'
    · exact .inr z
    · refine .inl ?_
      cases e:H e' with
      | none=>rfl
      | some o=>rw [s2 _ _ (f1 _ _ e z)] at he; cases he
  · exact s4 _ _ (k3 _ _ (s2 _ _ (f1 _ _ e n)) fun z=>n (.inl z))
def ZgQ (K:PySem.W.Frag):Sp:=fun vs H Q _=>∃ (p dx pp tp:Addr) (size:Int) (kind:Str) (ts:List Addr) (cfs:List Cf),vs=[.ref p,.ref pp]∧H p=some (.ins (clsOf K "Stairs") dx [])∧H pp=some (.tup [.int size,.str kind,.ref tp])∧PlanAt K H tp ts cfs∧1≤size∧size≤1000∧cfs.length≤4∧Tb K H ∧
  ∀ (A:TA) (H':Hp),A.p=p→A.as.length=cfs.length→(∀ U,U.length≤800→StairsAt K H' A ⟨size,kind,cfs⟩ (List.replicate cfs.length ([],fun _=>0)) [] U)→(∀ x,Foot A x→x≠p→H x=none)→(∀ b o,H b=some o→b≠p→H' b=some o)→Q .non H'
theorem ZfI {f:Addr} {fd:FuncData} (F:Fun K "__init__" "Stairs.__init__" ZaM f fd) (T:Txt K mg) (C_Steps_init:CDef P w K mg base "Steps" "__init__" 5 ZbF (ZiH K)):FnOk P w K mg base CX0 6 f fd Zbh (ZgQ K):=by
  refine F.ok sc_Stairs_init (fun vs H Q E h=>?_) (fun cdv A outer st H vs Q E hr h=>?_)
  · obtain ⟨p,dx,pp,tp,size,kind,ts,cfs,rfl,_⟩:=h
    rfl
  obtain ⟨p,dx,pp,tp,size,kind,ts,cfs,rfl,hp,hpp,pa,z0,z1,l4,tb,q⟩:=h
  have nd:=sc_Stairs_init.nd
  refine ⟨_,(Zf (Zbc (pv 1) (ZT (K:=K) (n:=3) rfl rfl (Zo (pgn 2 nd) (Zo (pgn 3 nd) (Zo (pgn 4 nd) ZS)))))
      (Zf (Zw (Zob C_Steps_init hr.m rfl (pc (pv 0) (pc (pv 2) (pc (pv 4) Ze)))))
      (Zi (Zbm (pv 0) (pv 3) rfl)))),?_⟩
  refine ⟨_,rfl,pp,_,rfl,SqT.of hpp,rfl,_,_,rfl,gN ⟨_,_,rfl,gN ⟨_,_,rfl,gN ⟨rfl,?_⟩⟩⟩⟩
  try dsimp only
  refine ⟨_,rfl,_,rfl,_,rfl,p,dx,tp,size,ts,cfs,rfl,hp,pa,z0,z1,l4,tb,fun A H1 ep el h1 RS f1 k1=>?_⟩
  refine ⟨_,rfl,_,rfl,p,_,dx,_,rfl,h1,T.cl_Stairs,T.n_Stairs_kind,(by show 5<1000; decide),?_⟩
  exact q A _ ep el (fun U hU=>RS kind U hU) f1 fun x o e n=>by rw [Zb n]; exact k1 x o e n
end
def natsV (ns:List Nat):List V:=ns.map fun n:Nat=>V.int (n:Int)
theorem Zfo (ns:List Nat) (n:Nat):natsV (ns++[n])=natsV ns++[V.int (n:Int)]:=by unfold natsV; rw [List.map_append]; rfl
theorem ZaF (ns:List Nat):(natsV ns).length=ns.length:=by unfold natsV; rw [List.length_map]
noncomputable def stF (g:Pln):List RS→List Int→List RS
  | S,[]=>S
  | S,b :: row=>stF g (fetS g S b) row
noncomputable def Zay (g:Pln):List RS→List Int→List Nat
  | _,[]=>[]
  | S,b :: row=>nearF S b :: Zay g (fetS g S b) row
theorem ZlO (g:Pln):∀ (S:List RS) (row:List Int) (b:Int),stF g S (row++[b])=fetS g (stF g S row) b
  | _,[],_=>rfl
  | S,x :: row,b=>ZlO g (fetS g S x) row b
theorem Zfp (g:Pln):∀ (S:List RS) (row:List Int) (b:Int),Zay g S (row++[b])=Zay g S row++[nearF (stF g S row) b]
  | _,[],_=>rfl
  | S,x :: row,b=>congrArg (nearF S x :: ·) (Zfp g (fetS g S x) row b)
theorem Zdi (g:Pln):∀ (S:List RS) (row:List Int),(Zay g S row).length=row.length
  | _,[]=>rfl
  | S,x :: row=>congrArg (·+1) (Zdi g (fetS g S x) row)
def ZbO (g:Pln):List RS:=List.replicate g.cfs.length ([],fun _=>0)
section
variable {K:PySem.W.Frag} {H:Hp} {A:TA} {g:Pln} {S:List RS} {xs:List V} {U:List Int}
theorem StairsAt.foot (T:StairsAt K H A g S xs U) {x:Addr} (h:Foot A x):H x≠none:=fun e=>by
  rcases h with rfl | rfl | ⟨a,ha,z⟩
  · obtain ⟨dx,q⟩:=T.ob; rw [q] at e; cases e
  · rw [T.ev] at e; cases e
  · obtain ⟨k,hk⟩:=List.getElem?_of_mem ha
    obtain ⟨a',c,s,h1,h2,h3,R⟩:=T.at_ (List.getElem?_eq_some_iff.mp hk).1
    rw [hk] at h1; cases h1
    rcases z with rfl | rfl | z
    · obtain ⟨kv,q,_⟩:=R.room.dc; rw [q] at e; cases e
    · obtain ⟨kv,q,_⟩:=R.held; rw [q] at e; cases e
    · obtain ⟨ys,q⟩:=R.room.st.one z; rw [q] at e; cases e
structure Since (K:PySem.W.Frag) (H G:Hp) (p:Addr) (g:Pln) (S:List RS) (U:List Int) (r:Addr):Prop where
  ex:∃ A:TA,A.p=p∧A.as.length=g.cfs.length∧StairsAt K G A g S [] U∧(∀ x,Foot A x→H x=none)∧¬ Foot A r∧r∈A.out
  dj:g.kind = "apart" → Disj S
  same:Same H G
end
section
variable {P:Program} {w:World} {K:PySem.W.Frag} {mg:Str→Option Value} {base:Heap}
theorem Since.next {H G G':Hp} {p:Addr} {g:Pln} {S:List RS} {U:List Int} {r:Addr} {A:TA} {b:Int} {e':Addr} (s:Same H G) (T:StairsAt K G A g S [] U) (ep:A.p=p) (el:A.as.length=g.cfs.length) (ff:∀ x,Foot A x→H x=none) (nr:¬ Foot A r) (hr:∃ o,G r=some o) (ho:r∈A.out) (R':StairsAt K G' { A with ev:=e' } g (fetS g S b) [] U) (d':g.kind = "apart" → Disj (fetS g S b)) (he:G e'=none∨Foot A e') (f:SF A G G'):Since K H G' p g (fetS g S b) U r:=by
  have fe:∀ x,Foot { A with ev:=e' } x→x=e'∨Foot A x:=fun x hx=>by
    rcases hx with z | z | z
    · exact .inr (.inl z)
    · exact .inl z
    · exact .inr (.inr (.inr z))
  refine ⟨⟨{ A with ev:=e' },ep,el,R',fun x hx=>?_,fun z=>?_,ho⟩,d',fun x o e=>f x o (s x o e) fun z=>by rw [ff x z] at e; cases e⟩
  · rcases fe x hx with rfl | z
    · rcases he with he | he
      · exact s.free he
      · exact ff _ he
    · exact ff x z
  · rcases fe r z with rfl | z
    · rcases he with he | he
      · obtain ⟨o,ho⟩:=hr
        rw [he] at ho; cases ho
      · exact nr he
    · exact nr z
def Zfq (K:PySem.W.Frag):Sp:=fun vs H Q _=>∃ (A:TA) (g:Pln) (S:List RS) (U:List Int) (sp b:Int),vs=[.ref A.p,.int sp]∧StairsAt K H A g S [] U∧(g.kind = "apart" → Disj S)∧sp / g.size=b∧0≤b∧b≤1000000∧b∈U∧1≤A.as.length ∧
  ∀ H' e',StairsAt K H' { A with ev:=e' } g (fetS g S b) [] U→(g.kind = "apart" → Disj (fetS g S b))→H e'=none∨Foot A e'→SF A H H'→Q (.int (nearF S b:Nat)) H'
theorem ZiN {f:Addr} {fd:FuncData} (F:Fun K "found_by" "found_by" ZbY f fd) (T:Txt K mg) (M_Stairs_read:MDef P w K mg base (clsOf K "Stairs") "read" 15 Zbi (ZlN K)):FnOk P w K mg base CX0 16 f fd Zcv (Zfq K):=by
  refine F.ok sc_found_by (fun vs H Q E h=>?_) (fun cdv A outer st H vs Q E hr h=>?_)
  · obtain ⟨A,g,S,U,sp,b,rfl,_⟩:=h
    rfl
  obtain ⟨A,g,S,U,sp,b,rfl,R,dj,eb,b0,b1,hU,l1,q⟩:=h
  have nd:=sc_found_by.nd
  refine ⟨_,(Zf (Zbc (Zk M_Stairs_read hr.m T.cl_Stairs (pv 0) (pc (pv 1) Ze)) (ZT (K:=K) (n:=2) rfl rfl (Zo (pgn 2 nd) (Zo (pgn 3 nd) ZS))))
      (Zf (Zbc (pe_ix (Zt (K:=K) rfl) (pv 3) Zj (fun _ _=>rfl)) (ZT (K:=K) (n:=2) rfl rfl (Zo (pgn 4 nd) (Zo (pgn 5 nd) ZS))))
      (Zi (Zu (pv 5))))),?_⟩
  obtain ⟨dx,h1⟩:=R.ob
  refine ⟨_,rfl,A.p,dx,_,rfl,h1,tf_no ..,_,rfl,A,g,S,U,sp,b,rfl,R,dj,eb,b0,b1,hU,l1,fun H1 tp t e' ys etp eev et R1 d1 _ he f1=>⟨tp,_,rfl,SqT.of etp,rfl,_,_,rfl,gN ⟨_,_,rfl,gN ⟨rfl,?_⟩⟩⟩⟩
  try dsimp only
  refine ⟨_,rfl,A.ev,_,_,_,rfl,rfl,SqL.of eev,atI0,t,_,rfl,SqT.of et,rfl,_,_,rfl,gN ⟨_,_,rfl,gN ⟨rfl,?_⟩⟩⟩
  exact ⟨_,rfl,q H1 e' R1 d1 he f1⟩
def ZgR (K:PySem.W.Frag):Sp:=fun vs H Q _=>∃ (pp tp l:Addr) (g:Pln) (ts:List Addr) (row:List Int),vs=[.ref pp,.ref l]∧H pp=some (.tup [.int g.size,.str g.kind,.ref tp])∧PlanAt K H tp ts g.cfs∧1≤g.size∧g.size≤1000∧1≤g.cfs.length∧g.cfs.length≤4∧Tb K H∧H l=some (.lst (row.map V.int))∧row.length≤500∧(∀ b∈row,0≤b∧b≤1000000) ∧
  ∀ r H',H r=none→Same H H'→H' r=some (.lst (natsV (Zay g (ZbO g) row)))→Q (.ref r) H'
theorem Zko (n:Nat):Disj (List.replicate n (([],fun _=>0):RS)):=fun i j s t _ _ hs _ _ x hx=>by
  have e:=(List.mem_replicate.mp (List.mem_of_getElem? hs)).2
  rw [e] at hx
  exact absurd hx (by simp)
theorem ZlP {f:Addr} {fd:FuncData} (F:Fun K "founds" "founds" ZcD f fd) (T:Txt K mg) (K_Stairs:KDef P w K mg base (clsOf K "Stairs") "Stairs" 6 Zbh (ZgQ K)) (D_found_by:Def P w K mg base "found_by" 16 Zcv (Zfq K)) (D_spots_of:Def P w K mg base "spots_of" 1 ZbS ZgG):FnOk P w K mg base CX0 17 f fd Zdw (ZgR K):=by
  refine F.ok sc_founds (fun vs H Q E h=>?_) (fun cdv A outer st H vs Q E hr h=>?_)
  · obtain ⟨pp,tp,l,g,ts,row,rfl,_⟩:=h
    rfl
  obtain ⟨pp,tp,l,g,ts,row,rfl,hpp,pa,z0,z1,l1,l4,tb,hl,hrl,hrb,q⟩:=h
  have nd:=sc_founds.nd
  refine ⟨_,(Zf (Zbc (pv 0) (ZT (K:=K) (n:=3) rfl rfl (Zo (pgn 2 nd) (Zo (pgn 3 nd) (Zo (pgn 4 nd) ZS)))))
      (Zf (pst 5 nd (Zds K_Stairs hr.m rfl (pc (pv 0) Ze)))
      (Zi (Zu (Zbz (ZK (osc:=(Zc ZcD)) (oN:=Zjw) (N:=["board", "stairs", "size"]) (own:=1) (js:=[5,2]) (by decide +kernel) rfl rfl) rfl (Zco (K:=K) rfl (pv 1)) (fun _ _ _ _ _ _=>(pgn 0 (show List.Nodup (["board", "stairs", "size"]:List Str) by decide +kernel))) (fun _ _ _ _ _ _=>(Zp D_found_by hr.m rfl (pc (pv 1) (pc (pe_ix (Zt (K:=K) rfl) (Zp D_spots_of hr.m rfl (pc (pv 2) (pc (pv 0) Ze))) Zj (fun _ _=>rfl)) Ze))))))))),?_⟩
  refine ⟨_,rfl,pp,_,rfl,SqT.of hpp,rfl,_,_,rfl,gN ⟨_,_,rfl,gN ⟨_,_,rfl,gN ⟨rfl,?_⟩⟩⟩⟩
  try dsimp only
  have sb:∀ {p dx:Addr} {o1 o2:HO},H p=none→H dx=none→∀ {x o},H x=some o→upd (upd H dx o1) p o2 x=some o:=fun {p dx o1 o2} hp hdx {x o} e=>by rw [Zb (Zd e hp),Zb (Zd e hdx)]; exact e
  refine ⟨_,rfl,fun p dx hp hdx npd=>⟨p,dx,pp,tp,g.size,g.kind,ts,g.cfs,rfl,Za,sb hp hdx hpp,⟨sb hp hdx pa.top,pa.len,fun i t c h1 h2=>by obtain ⟨wr,e1,e2⟩:=pa.at_ i t c h1 h2; exact ⟨wr,sb hp hdx e1,e2⟩,pa.cf⟩,z0,z1,l4,sb hp hdx tb,fun A H1 ep el RS f1 k1=>⟨rfl,gN ?_⟩⟩⟩
  try dsimp only
  have s1:Same H H1:=fun x o e=>k1 x o (sb hp hdx e) (Zd e hp)
  have ff:∀ x,Foot A x→H x=none:=fun x hx=>by
    by_cases z:x=p
    · rw [z]; exact hp
    · cases e:H x with
      | none=>rfl
      | some o=>have q':=f1 x hx z; rw [sb hp hdx e] at q'; cases q'
  have R0:=RS row (by omega)
  refine ⟨_,rfl,l,rfl,⟨_,SqL.of (s1 _ _ hl)⟩,fun r hr=>?_⟩
  have nr:¬ Foot A r:=fun z=>R0.foot z hr
  have s2:=Zh hr (.lst [])
  refine Zct (K:=K) (a:=l) (xs:=row.map V.int) (l:=r) (fun i ys σ G=>∃ v0:Option V,σ=[v0,some (.ref p),some (.int g.size)]∧ys=natsV (Zay g (ZbO g) (row.take i))∧G r=some (.lst ys)∧Since K H G p g (stF g (ZbO g) (row.take i)) row r)
    ⟨none,rfl,rfl,Za,⟨{ A with out:=r :: A.out },ep,el,R0.alloc [] hr,ff,nr,List.mem_cons_self⟩,fun _=>Zko _,s1.trans s2⟩ (fun i ys σ G _ ⟨_,_,_,_,sc⟩=>SqL.of (sc.same _ _ hl)) ?_ ?_
  · rintro i x ys σ G hi hxi hys ⟨v0,rfl,rfl,g1,sc⟩
    obtain ⟨b,eb,rfl⟩:=Zgw hxi
    have mb:=List.mem_of_getElem? eb
    obtain ⟨b0,b1⟩:=hrb b mb
    obtain ⟨A',ep',el',R',ff',nr',ho'⟩:=sc.ex
    obtain ⟨m0,m1⟩:=Znu b0 b1 (by omega:0<g.size) z1
    have at0:atI (spots g.size b) 0=some (.int (b * g.size)):=by
      have:(spots g.size b)[0]?=some (.int (b * g.size)):=by
        unfold spots
        rw [List.getElem?_map,List.getElem?_range (by omega)]
        show some (V.int (b * g.size+((0:Nat):Int)))=_
        rw [show b * g.size+((0:Nat):Int)=b * g.size by omega]
      exact ZaQ (j:=0) this
    refine ⟨_,rfl,_,rfl,_,rfl,g.size,b,rfl,by omega,z1,b0,b1,fun rs G1 hrs s3 ers=>⟨rs,_,_,_,rfl,rfl,SqL.of ers,at0,?_⟩⟩
    have ed:b * g.size / g.size=b:=Int.mul_ediv_cancel b (by omega)
    have R1:=R'.same s3
    refine ⟨A',g,_,row,b * g.size,b,by rw [ep']; rfl,R1,sc.dj,ed,b0,b1,mb,by omega,fun G2 e' R2 d2 he f2=>?_⟩
    have g1':=s3 _ _ g1
    have nx:(Since K H G2 p g (fetS g (stF g (ZbO g) (row.take i)) b) row r):=Since.next (sc.same.trans s3) R1 ep' el' ff' nr' ⟨_,g1'⟩ ho' R2 d2 he f2
    have g2:=f2 _ _ g1' nr'
    have tk:row.take (i+1)=row.take i++[b]:=by rw [List.take_succ,eb]; rfl
    refine CNx.of (Nat.le_of_lt (Zv (by rw [List.length_map]; omega))) hi hys g2 ⟨_,rfl,by rw [tk,Zfp,Zfo],Za,?_⟩
    rw [tk,ZlO]
    obtain ⟨A2,ep2,el2,R3,ff2,nr2,ho2⟩:=nx.ex
    exact ⟨⟨A2,ep2,el2,R3.outp ho2 _,ff2,nr2,ho2⟩,nx.dj,fun x o e=>by rw [Zb (fun z:x=r=>by rw [z,s1.free hr] at e; cases e)]; exact nx.same x o e⟩
  · rintro ys σ G _ ⟨v0,rfl,rfl,g1,sc⟩
    rw [List.length_map,List.take_length] at g1
    exact q r G (s1.free hr) sc.same g1
end
section
variable {P:Program} {w:World} {K:PySem.W.Frag} {mg:Str→Option Value} {base:Heap}
theorem Zpc (x y:Str) (r:Int) (h0:0≤r) (h1:r<2):∃ z:Str,atI [V.str x,V.str y] r=some (.str z):=by
  have h:r=0∨r=1:=by omega
  rcases h with rfl | rfl
  · exact ⟨x,atI0⟩
  · exact ⟨y,atI1⟩
def ZlQ:Sp:=fun vs H Q _=>∃ (b:Addr) (a q c:Int),vs=[.ref b]∧BoxAt H b a q c∧c<400000000 ∧
  ∀ (p:Addr) (sh pl:Int) (r wr:Str) (a' c':Int) (H':Hp),H' p=some (.tup [.int sh,.int pl,.str r,.str wr])→1≤sh→sh≤64→1≤pl→pl≤16→Rule r→BoxAt H' b a' q c'→c'≤c+6→SB b H H'→Q (.ref p) H'
theorem ZhV {f:Addr} {fd:FuncData} (F:Fun K "_law_room_plan" "_law_room_plan" Zbw f fd) (T:Txt K mg) (D_take:Def P w K mg base "_law_take" 1 Zdx Zfa):FnOk P w K mg base CX0 2 f fd Zci ZlQ:=by
  refine F.ok sc_room_plan (fun vs H Q E h=>?_) (fun cdv A outer st H vs Q E hr h=>?_)
  · obtain ⟨b,a,q,c,rfl,_⟩:=h
    rfl
  obtain ⟨b,a,q,c,rfl,B,hc,k⟩:=h
  have nd:=sc_room_plan.nd
  refine ⟨_,(Zf (pst 1 nd (ZbJ op_eq (Zp D_take hr.m rfl (pc (pv 0) (pc Zj Ze))) Zj (ZF _)))
      (Zf (pst 2 nd (ZcN (Zbb (pv 1)) (pe_op Zaf Zj (Zp D_take hr.m rfl (pc (pv 0) (pc Zj Ze)))) (pe_ix (Zt (K:=K) rfl) (ZbM (pc Zj (pc Zj (pc Zj (pc Zj (pc Zj Ze)))))) (Zp D_take hr.m rfl (pc (pv 0) (pc Zj Ze))) (fun _ _=>rfl))))
      (Zf (pst 3 nd (pe_op Zaf Zj (Zp D_take hr.m rfl (pc (pv 0) (pc (ZcN (Zbb (pv 1)) Zj Zj) Ze)))))
      (Zf (pst 4 nd (pe_ix (Zt (K:=K) rfl) (ZbM (pc ZaT (pc ZaT (pc ZaT Ze)))) (Zp D_take hr.m rfl (pc (pv 0) (pc Zj Ze))) (fun _ _=>rfl)))
      (Zi (Zu (Zbd (pc (pv 2) (pc (pv 3) (pc (pv 4) (pc (pe_ix (Zt (K:=K) rfl) (ZbM (pc ZaT (pc ZaT Ze))) (Zp D_take hr.m rfl (pc (pv 0) (pc Zj Ze))) (fun _ _=>rfl)) Ze))))))))))),?_⟩
  refine ⟨_,rfl,b,a,q,c,6,rfl,B,by omega,by decide,by decide,fun r1 a1 c1 H1 r10 r11 B1 hc1 s1=>⟨rfl,?_⟩⟩
  generalize decide (V.int r1=V.int 0)=far
  try dsimp only
  refine cpA (fun v G=>∃ z a' c',v=.int z∧1≤z∧z≤64∧BoxAt G b a' q c'∧c'≤c1+1∧SB b H G) (fun Q' k'=>?_) ?_
  · refine ⟨_,rfl,_,rfl,?_⟩
    cases far with
    | true=>exact ifT rfl ⟨_,rfl,b,a1,q,c1,64,rfl,B1,by omega,by decide,by decide,fun r2 a2 c2 H2 r20 r21 B2 hc2 s2=>⟨_,_,rfl,rfl,k' _ _ ⟨_,a2,c2,rfl,by omega,by omega,B2,by omega,s1.trans s2⟩⟩⟩
    | false =>
      refine ifF rfl ⟨(by show 5≤sizeLine; decide),fun p0 hp0=>⟨_,rfl,b,a1,q,c1,5,rfl,B1.same (Zh hp0 _),by omega,by decide,by decide,fun r2 a2 c2 H2 r20 r21 B2 hc2 s2=>?_⟩⟩
      have q0:b≠p0:=Zd B1.at' hp0
      obtain ⟨sh,hsh,sh0,sh1⟩:=pick5 r2 r20 r21
      exact ⟨p0,_,_,_,rfl,rfl,SqL.of (s2 _ _ (Ne.symm q0) Za),hsh,k' _ _ ⟨_,a2,c2,rfl,sh0,sh1,B2,by omega,s1.trans (((Zh hp0 _).sb b).trans s2)⟩⟩
  rintro _ H2 ⟨sh,a2,c2,rfl,sh0,sh1,B2,hc2,u2⟩
  refine gN ?_
  try dsimp only
  refine cpA (fun v G=>∃ z a' c',v=.int z∧1≤z∧z≤16∧BoxAt G b a' q c'∧c'≤c2+1∧SB b H G) (fun Q' k'=>?_) ?_
  · refine ⟨_,rfl,_,rfl,_,rfl,?_⟩
    cases far with
    | true=>exact ifT rfl ⟨b,a2,q,c2,16,rfl,B2,by omega,by decide,by decide,fun r3 a3 c3 H3 r30 r31 B3 hc3 s3=>⟨_,_,rfl,rfl,k' _ _ ⟨_,a3,c3,rfl,by omega,by omega,B3,by omega,u2.trans s3⟩⟩⟩
    | false=>exact ifF rfl ⟨b,a2,q,c2,4,rfl,B2,by omega,by decide,by decide,fun r3 a3 c3 H3 r30 r31 B3 hc3 s3=>⟨_,_,rfl,rfl,k' _ _ ⟨_,a3,c3,rfl,by omega,by omega,B3,by omega,u2.trans s3⟩⟩⟩
  rintro _ H3 ⟨pl,a3,c3,rfl,pl0,pl1,B3,hc3,u3⟩
  refine gN ?_
  try dsimp only
  refine ⟨(by show 3≤sizeLine; decide),fun p3 hp3=>⟨_,rfl,b,a3,q,c3,3,rfl,B3.same (Zh hp3 _),by omega,by decide,by decide,fun r4 a4 c4 H4 r40 r41 B4 hc4 s4=>?_⟩⟩
  have q3:b≠p3:=Zd B3.at' hp3
  obtain ⟨ru,hru,iru⟩:=pickR r4 r40 r41
  refine ⟨p3,_,_,_,rfl,rfl,SqL.of (s4 _ _ (Ne.symm q3) Za),hru,?_⟩
  have u4:SB b H H4:=u3.trans (((Zh hp3 _).sb b).trans s4)
  refine ⟨_,rfl,_,rfl,_,rfl,(by show 2≤sizeLine; decide),fun p5 hp5=>⟨_,rfl,b,a4,q,c4,2,rfl,B4.same (Zh hp5 _),by omega,by decide,by decide,fun r5 a5 c5 H5 r50 r51 B5 hc5 s5=>?_⟩⟩
  have q5:b≠p5:=Zd B4.at' hp5
  obtain ⟨wr,hwr⟩:=Zpc "late" "through" r5 r50 r51
  refine ⟨p5,_,_,_,rfl,rfl,SqL.of (s5 _ _ (Ne.symm q5) Za),hwr,(by show 4≤sizeLine; decide),fun pp hpp=>?_⟩
  exact k pp sh pl ru wr a5 c5 _ Za sh0 sh1 pl0 pl1 iru (B5.same (Zh hpp _)) (by omega)
    ((u4.trans (((Zh hp5 _).sb b).trans s5)).trans ((Zh hpp _).sb b))
end
theorem Zpd (r:Int) (h0:0≤r) (h1:r<3):∃ z:Str,atI [V.str "within",V.str "apart",V.str "free"] r=some (.str z):=by
  have h:r=0∨r=1∨r=2:=by omega
  rcases h with rfl | rfl | rfl
  · exact ⟨_,atI0⟩
  · exact ⟨_,atI1⟩
  · exact ⟨_,atI2⟩
theorem PlanAt.sb {K:PySem.W.Frag} {H H':Hp} {tp b:Addr} {ts:List Addr} {cfs:List Cf} {a q c:Int} (p:PlanAt K H tp ts cfs) (B:BoxAt H b a q c) (s:SB b H H'):PlanAt K H' tp ts cfs:=by
  have ne:∀ {x xs},H x=some (.tup xs)→x≠b:=fun {x xs} e z=>by rw [z,B.at'] at e; cases e
  exact ⟨s _ _ (ne p.top) p.top,p.len,fun i t c h1 h2=>by obtain ⟨wr,e1,e2⟩:=p.at_ i t c h1 h2; exact ⟨wr,s _ _ (ne e1) e1,e2⟩,p.cf⟩
section
variable {P:Program} {w:World} {K:PySem.W.Frag} {mg:Str→Option Value} {base:Heap}
def ZiO (K:PySem.W.Frag):Sp:=fun vs H Q _=>∃ (b:Addr) (a q c:Int),vs=[.ref b]∧BoxAt H b a q c∧c<300000000 ∧
  ∀ (pp tp:Addr) (ts:List Addr) (g:Pln) (a' c':Int) (H':Hp),H' pp=some (.tup [.int g.size,.str g.kind,.ref tp])→PlanAt K H' tp ts g.cfs→1≤g.size→g.size≤16→1≤g.cfs.length→g.cfs.length≤4→BoxAt H' b a' q c'→c'≤c+40→SB b H H'→Q (.ref pp) H'
theorem Zoi {f:Addr} {fd:FuncData} (F:Fun K "_law_plan" "_law_plan" ZeY f fd) (T:Txt K mg) (D_take:Def P w K mg base "_law_take" 1 Zdx Zfa) (D_room_plan:Def P w K mg base "_law_room_plan" 2 Zci ZlQ):FnOk P w K mg base CX0 3 f fd ZhH (ZiO K):=by
  refine F.ok sc_plan (fun vs H Q E h=>?_) (fun cdv A outer st H vs Q E hr h=>?_)
  · obtain ⟨b,a,q,c,rfl,_⟩:=h
    rfl
  obtain ⟨b,a,q,c,rfl,B,hc,k⟩:=h
  have nd:=sc_plan.nd
  refine ⟨_,(Zf (pst 1 nd (pe_ix (Zt (K:=K) rfl) (ZbM (pc ZaT (pc ZaT (pc ZaT Ze)))) (Zp D_take hr.m rfl (pc (pv 0) (pc Zj Ze))) (fun _ _=>rfl)))
      (Zf (pst 2 nd (pe_op Zaf Zj (Zp D_take hr.m rfl (pc (pv 0) (pc (pe_ix (Zt (K:=K) rfl) (ZbM (pc Zj (pc Zj Ze))) (ZN ZeG rfl T.z_int Zdn (pc (ZbJ op_eq (Zp D_take hr.m rfl (pc (pv 0) (pc Zj Ze))) Zj (ZF _)) Ze)) (fun _ _=>rfl)) Ze)))))
      (Zi (Zu (Zbd (pc (pv 2) (pc (pv 1) (pc (ZN (ZcV (K:=K) rfl) rfl T.z_tuple ZcB (pc (Zbz (ZK (osc:=(Zc ZeY)) (oN:=Zns) (N:=["_law_k", "_law_box_here"]) (own:=1) (js:=[0]) (by decide +kernel) rfl rfl) rfl (Zcb rfl T.z_range (pc (pe_op Zaf Zj (Zp D_take hr.m rfl (pc (pv 0) (pc Zj Ze)))) Ze)) (fun _ _ _ _ _ _=>(pgn 0 (show List.Nodup (["_law_k", "_law_box_here"]:List Str) by decide +kernel))) (fun _ _ _ _ _ _=>(Zp D_room_plan hr.m rfl (pc (pv 1) Ze)))) Ze)) Ze)))))))),?_⟩
  refine ⟨(by show 3≤sizeLine; decide),fun p1 hp1=>⟨_,rfl,b,a,q,c,3,rfl,B.same (Zh hp1 _),by omega,by decide,by decide,fun r1 a1 c1 H1 r10 r11 B1 hc1 s1=>?_⟩⟩
  have q1:b≠p1:=Zd B.at' hp1
  obtain ⟨kd,hkd⟩:=Zpd r1 r10 r11
  refine ⟨p1,_,_,_,rfl,rfl,SqL.of (s1 _ _ (Ne.symm q1) Za),hkd,gN ?_⟩
  try dsimp only
  have u1:SB b H H1:=((Zh hp1 _).sb b).trans s1
  refine ⟨_,rfl,(by show 2≤sizeLine; decide),fun p2 hp2=>⟨_,rfl,b,a1,q,c1,8,rfl,B1.same (Zh hp2 _),by omega,by decide,by decide,fun r2 a2 c2 H2 r20 r21 B2 hc2 s2=>⟨rfl,.inr ⟨_,rfl,?_⟩⟩⟩⟩
  have q2:b≠p2:=Zd B1.at' hp2
  obtain ⟨n,hn,hn'⟩:=Znt 4 16 (decide (V.int r2=V.int 0))
  refine ⟨p2,_,_,_,rfl,rfl,SqL.of (s2 _ _ (Ne.symm q2) Za),hn,b,a2,q,c2,n,rfl,B2,by omega,by omega,by omega,fun r3 a3 c3 H3 r30 r31 B3 hc3 s3=>⟨_,_,rfl,rfl,gN ?_⟩⟩
  try dsimp only
  have u3:SB b H H3:=(((u1.trans ((Zh hp2 _).sb b)).trans s2)).trans s3
  refine ⟨_,rfl,_,rfl,_,rfl,b,a3,q,c3,4,rfl,B3,by omega,by decide,by decide,fun r4 a4 c4 H4 r40 r41 B4 hc4 s4=>⟨_,_,rfl,rfl,_,rfl,by omega,by omega,fun l hl=>?_⟩⟩
  have nlb:l≠b:=Ne.symm (Zd B4.at' hl)
  have u4:=u3.trans s4
  refine Zcs (lo:=0) (n:=(1+r4).toNat) (l:=l) (fun j ys σ G=>∃ (v0:Option V) (ts:List Addr) (cfs:List Cf) (a' c':Int),σ=[v0,some (.ref b)]∧ys=ts.map V.ref∧ts.length=j∧cfs.length=j∧(∀ (i:Nat) (t:Addr) (c:Cf),ts[i]?=some t→cfs[i]?=some c→∃ wr:Str,G t=some (.tup [.int c.sh,.int c.pl,.str c.ru,.str wr])∧c.late=decide (wr = "late"))∧(∀ c∈cfs,1≤c.sh∧c.sh≤64∧1≤c.pl∧c.pl≤16)∧G l=some (.lst ys)∧BoxAt G b a' q c'∧c'≤c4+6 * (j:Int)∧SB b H G)
    ⟨none,[],[],a4,c4,rfl,rfl,rfl,rfl,(fun i t c h=>by simp at h),(fun c h=>by simp at h),Za,B4.same (Zh hl _),by omega,u4.trans ((Zh hl _).sb b)⟩ ?_ ?_
  · rintro j ys σ G hj hys ⟨v0,ts,cfs,a',c',rfl,rfl,hl1,hl2,hat,hcf,g1,B',hc',u'⟩
    refine ⟨_,rfl,b,a',q,c',rfl,B',by omega,fun p sh pl r wr a5 c5 G5 ep sh0 sh1 pl0 pl1 hr B5 hc5 s5=>?_⟩
    have g5:=s5 _ _ nlb g1
    have npl:p≠l:=fun z=>by rw [z,g5] at ep; cases ep
    refine CNx.of (Nat.le_trans (by omega:(1+r4).toNat≤4) (by decide)) hj hys g5 ⟨_,ts++[p],cfs++[⟨sh,pl,r,decide (wr = "late")⟩],a5,c5,rfl,by rw [List.map_append]; rfl,by rw [List.length_append,hl1]; rfl,by rw [List.length_append,hl2]; rfl,fun i t c h1 h2=>?_,fun c hc=>?_,Za,B5.sb (Zdo l _ _) (Ne.symm nlb),by omega,fun x o nx e=>?_⟩
    · by_cases hi:i<j
      · rw [List.getElem?_append_left (by omega)] at h1 h2
        obtain ⟨wr',e1,e2⟩:=hat i t c h1 h2
        refine ⟨wr',?_,e2⟩
        have ntb:t≠b:=fun z=>by rw [z,B'.at'] at e1; cases e1
        have e1':=s5 _ _ ntb e1
        rw [Zb (fun z=>by rw [z,g5] at e1'; cases e1')]
        exact e1'
      · have hi2:i=j:=by have:=(List.getElem?_eq_some_iff.mp h1).1; rw [List.length_append,List.length_singleton] at this; omega
        subst hi2
        rw [List.getElem?_append_right (by omega),show i - ts.length=0 by omega] at h1
        rw [List.getElem?_append_right (by omega),show i - cfs.length=0 by omega] at h2
        cases h1; cases h2
        exact ⟨wr,by rw [Zb npl]; exact ep,rfl⟩
    · rcases List.mem_append.mp hc with hc | hc
      · exact hcf c hc
      · rw [List.mem_singleton.mp hc]; exact ⟨sh0,sh1,pl0,pl1⟩
    · have nx2:x≠l:=fun z=>by
        rw [z] at e
        have:=u4 _ _ nlb e
        rw [this] at hl; cases hl
      rw [Zb nx2]
      exact s5 _ _ nx (u' _ _ nx e)
  rintro ys σ G _ ⟨v0,ts,cfs,a',c',rfl,rfl,hl1,hl2,hat,hcf,g1,B',hc',u'⟩
  refine ⟨l,_,rfl,.inl ⟨SqL.of g1,fun tp htp=>⟨(by show 3≤sizeLine; decide),fun pp hpp=>?_⟩⟩⟩
  have s5:=Zh htp (.tup (ts.map V.ref))
  have s6:=s5.trans (Zh hpp (.tup [.int (1+r3),.str kd,.ref tp]))
  refine k pp tp ts ⟨1+r3,kd,cfs⟩ a' c' _ Za ⟨Zh hpp _ _ _ Za,by show ts.length=cfs.length; omega,fun i t c h1 h2=>by obtain ⟨wr,e1,e2⟩:=hat i t c h1 h2; exact ⟨wr,s6 _ _ e1,e2⟩,hcf⟩ (by show 1≤1+r3; omega) (by show 1+r3≤16; omega) (by show 1≤cfs.length; omega) (by show cfs.length≤4; omega) (B'.same s6) (by omega) (u'.trans (s6.sb b))
def ZlR:Sp:=fun vs H Q _=>∃ (b:Addr) (a q c fw mt:Int),vs=[.ref b,.int fw,.int mt]∧BoxAt H b a q c∧c<400000000∧1≤fw∧fw≤mt∧mt≤1000 ∧
  ∀ (r a' c':Int) (H':Hp),1≤r→r≤mt→BoxAt H' b a' q c'→c'≤c+2→SB b H H'→Q (.int r) H'
theorem Zoj {f:Addr} {fd:FuncData} (F:Fun K "_law_many" "_law_many" ZfQ f fd) (T:Txt K mg) (D_take:Def P w K mg base "_law_take" 1 Zdx Zfa):FnOk P w K mg base CX0 2 f fd ZhI ZlR:=by
  refine F.ok sc_many (fun vs H Q E h=>?_) (fun cdv A outer st H vs Q E hr h=>?_)
  · obtain ⟨b,a,q,c,fw,mt,rfl,_⟩:=h
    rfl
  obtain ⟨b,a,q,c,fw,mt,rfl,B,hc,f1,f2,m1,k⟩:=h
  have nd:=sc_many.nd
  refine ⟨_,(Zf (pst 3 nd (ZbJ op_eq (Zp D_take hr.m rfl (pc (pv 0) (pc Zj Ze))) Zj (ZF _)))
      (Zi (Zu (pe_op Zaf Zj (Zp D_take hr.m rfl (pc (pv 0) (pc (ZcN (Zbb (pv 3)) (pv 2) (pv 1)) Ze))))))),?_⟩
  refine ⟨_,rfl,b,a,q,c,8,rfl,B,by omega,by decide,by decide,fun r1 a1 c1 H1 r10 r11 B1 hc1 s1=>⟨rfl,gN ?_⟩⟩
  generalize decide (V.int r1=V.int 0)=gr
  try dsimp only
  refine ⟨_,rfl,_,rfl,_,rfl,?_⟩
  cases gr with
  | true=>exact ifT rfl ⟨_,rfl,b,a1,q,c1,mt,rfl,B1,by omega,by omega,by omega,fun r2 a2 c2 H2 r20 r21 B2 hc2 s2=>⟨_,_,rfl,rfl,k _ a2 c2 H2 (by omega) (by omega) B2 (by omega) (s1.trans s2)⟩⟩
  | false=>exact ifF rfl ⟨_,rfl,b,a1,q,c1,fw,rfl,B1,by omega,by omega,by omega,fun r2 a2 c2 H2 r20 r21 B2 hc2 s2=>⟨_,_,rfl,rfl,k _ a2 c2 H2 (by omega) (by omega) B2 (by omega) (s1.trans s2)⟩⟩
def ZlS:Sp:=fun vs H Q _=>∃ (b:Addr) (a q c s mt:Int),vs=[.ref b,.int s,.int mt]∧BoxAt H b a q c∧c<200000000∧1≤s∧s≤16∧40≤mt∧mt≤450 ∧
  ∀ (l:Addr) (ns:List Int) (a' c':Int) (H':Hp),H l=none→H' l=some (.lst (ns.map V.int))→(ns.length:Int)≤mt→1≤ns.length→(∀ x∈ns,0≤x∧(x+1) * s≤10000)→BoxAt H' b a' q c'→c'≤c+1000→SB b H H'→Q (.ref l) H'
theorem Zpe {w n:Int} {k:Nat} {t1 t2:Int} (hw0:0≤w) (hw1:w<3) (hn:1≤n) (h1:0≤t1) (h2:t1<n):∃ z:Int,atI [V.int t1,V.int ((k:Int) % n),V.int (((k:Int) * ((k:Int)+1) / 2+t2) % n)] w=some (.int z)∧0≤z∧z<n:=by
  have h:w=0∨w=1∨w=2:=by omega
  rcases h with rfl | rfl | rfl
  · exact ⟨_,atI0,h1,h2⟩
  · exact ⟨_,atI1,Int.emod_nonneg _ (by omega),Int.emod_lt_of_pos _ (by omega)⟩
  · exact ⟨_,atI2,Int.emod_nonneg _ (by omega),Int.emod_lt_of_pos _ (by omega)⟩
theorem Zpf {f:Addr} {fd:FuncData} (F:Fun K "_law_row" "_law_row" s_row f fd) (T:Txt K mg) (D_take:Def P w K mg base "_law_take" 1 Zdx Zfa) (D_some_boards:Def P w K mg base "_law_some_boards" 2 Zbk Zgv) (D_many:Def P w K mg base "_law_many" 2 ZhI ZlR):FnOk P w K mg base CX0 3 f fd P_row ZlS:=by
  refine F.ok sc_row (fun vs H Q E h=>?_) (fun cdv A outer st H vs Q E hr h=>?_)
  · obtain ⟨b,a,q,c,s,mt,rfl,_⟩:=h
    rfl
  obtain ⟨b,a,q,c,s,mt,rfl,B,hc,s0,s1,m0,m1,k⟩:=h
  have nd:=sc_row.nd
  refine ⟨_,(Zf (Znh (i:=3) (j:=4) rfl nd rfl rfl (by decide) rfl rfl (pc (Zjh (ZK (osc:=(Zc s_row)) (oN:=N_row) (N:=["_law_one", "_law_size"]) (own:=1) (js:=[1]) (by decide +kernel) rfl rfl) rfl (Zco (K:=K) rfl (Zp D_some_boards hr.m rfl (pc (pv 0) (pc (pv 1) Ze)))) (fun _ _ _ _ _ _=>(pgn 0 (show List.Nodup (["_law_one", "_law_size"]:List Str) by decide +kernel))) (fun _ _ _ _ _ _=>(ZJ op_lt (pe_op Zcr (pe_op Zaf (pv 0) Zj) (pv 1)) Zj (ZF _))) (fun _ _ _ _ _ _=>(pv 0))) (pc (Zp D_take hr.m rfl (pc (pv 0) (pc Zj Ze))) Ze)) rfl)
      (Zf (pst 5 nd (ZbM Ze))
      (Zf (ZcE PassesOwn.never rfl (Zcb rfl T.z_range (pc (Zp D_many hr.m rfl (pc (pv 0) (pc Zj (pc (pv 2) Ze)))) Ze)) (pgn 6 nd) (Zf (pst 7 nd (pe_ix (Zt (K:=K) rfl) (ZbM (pc (Zp D_take hr.m rfl (pc (pv 0) (pc (Zq (Zy (K:=K) rfl) rfl T.z_len PySem.boot_len (pc (pv 3) Ze)) Ze))) (pc (pe_op Zcm (pv 6) (Zq (Zy (K:=K) rfl) rfl T.z_len PySem.boot_len (pc (pv 3) Ze))) (pc (pe_op Zcm (pe_op Zaf (pe_op ZcY (pe_op Zcr (pv 6) (pe_op Zaf (pv 6) Zj)) Zj) (Zp D_take hr.m rfl (pc (pv 0) (pc Zj Ze)))) (Zq (Zy (K:=K) rfl) rfl T.z_len PySem.boot_len (pc (pv 3) Ze))) Ze)))) (pv 4) (fun _ _=>rfl)))
      (Zi (Zw (ZcW (K:=K) rfl (pe_bm PySem.F.plainAttrs_list PySem.F.slot_list_append PySem.F.type_list_append ZbC (pv 5) (pc (pe_ix (Zt (K:=K) rfl) (pv 3) (pv 7) (fun _ _=>rfl)) Ze)))))))
      (Zi (Zu (pv 5)))))),?_⟩
  refine hide fun u1 e1=>?_
  refine ⟨_,rfl,_,rfl,b,a,q,c,s,rfl,B,by omega,s0,s1,fun l1 ns1 a1 c1 H1 hl1 el1 n3 n20 bd lo B1 hc1 t1=>⟨l1,rfl,⟨_,SqL.of el1⟩,fun l2 hl2=>?_⟩⟩
  have top:∀ x,x+1≤9999 / s→(x+1) * s≤9999:=fun x hx=>Int.le_trans (Int.mul_le_mul_of_nonneg_right hx (by omega)) (Int.ediv_mul_le 9999 (by omega))
  refine Zct (K:=K) (a:=l1) (xs:=ns1.map V.int) (l:=l2) (fun i ys σ G=>∃ (v0:Option V) (fs:List Int),σ=[v0,some (.int s)]∧ys=fs.map V.int∧fs.length≤i∧(∀ x∈fs,0≤x∧(x+1) * s≤10000)∧(∀ x∈ns1.take i,(x+1) * s<10001→x∈fs)∧G=upd H1 l2 (.lst ys)) ⟨none,[],rfl,rfl,Nat.le_refl _,by simp,by simp,rfl⟩ (fun i ys σ G _ ⟨_,_,_,_,_,_,_,e⟩=>SqL.of (by rw [e,Zb (Zd el1 hl2)]; exact el1)) ?_ ?_
  · rintro i x ys σ G hi hxi hys ⟨v0,fs,rfl,rfl,hfl,hfb,hfm,rfl⟩
    obtain ⟨z,ez,rfl⟩:=Zgw hxi
    have zb:=bd z (List.mem_of_getElem? ez)
    refine ⟨_,rfl,_,_,rfl,rfl,_,rfl,_,_,rfl,rfl,.inr ⟨by omega,by omega⟩,_,_,rfl,rfl,_,rfl,?_⟩
    by_cases cc:(z+1) * s<10001
    · refine ifT (decide_eq_true cc) ⟨_,rfl,CNx.of (Nat.le_of_lt (Zv (by rw [List.length_map]; omega))) hi hys Za ⟨_,fs++[z],rfl,by rw [List.map_append]; rfl,by rw [List.length_append]; show fs.length+1≤i+1; omega,fun x hx=>?_,fun x hx hc=>?_,ZdK⟩⟩
      · rcases List.mem_append.mp hx with hx | hx
        · exact hfb x hx
        · rw [List.mem_singleton.mp hx]; exact ⟨zb.1,by omega⟩
      · rw [List.take_succ,ez] at hx
        rcases List.mem_append.mp hx with hx | hx
        · exact List.mem_append_left _ (hfm x hx hc)
        · exact List.mem_append_right _ hx
    · refine ifF (decide_eq_false cc) (CNo.of hi hys ⟨_,fs,rfl,rfl,by omega,hfb,fun x hx hc=>?_,rfl⟩)
      rw [List.take_succ,ez] at hx
      rcases List.mem_append.mp hx with hx | hx
      · exact hfm x hx hc
      · have:x=z:=by simpa using hx
        rw [this] at hc; exact absurd hc cc
  rintro ys σ G _ ⟨v0,fs,rfl,rfl,hfl,hfb,hfm,rfl⟩
  rw [List.length_map] at hfl
  rw [List.length_map,List.take_length] at hfm
  have fpos:1≤fs.length:=by
    obtain ⟨x,hx,hx2⟩:=lo
    have:=top x hx2
    exact List.length_pos_of_mem (hfm x hx (by omega))
  have n2b:l2≠b:=Ne.symm (Zd B1.at' hl2)
  have hl2H:H l2=none:=Zgt t1 B1.at' hl2
  have t2:=t1.trans ((Zh hl2 (.lst (fs.map V.int))).sb b)
  have B2:=B1.same (Zh hl2 (.lst (fs.map V.int)))
  have el2:upd H1 l2 (.lst (fs.map V.int)) l2=some (.lst (fs.map V.int)):=Za
  generalize upd H1 l2 (.lst (fs.map V.int))=H2 at *
  refine ⟨_,rfl,b,a1,q,c1,3,rfl,B2,by omega,by decide,by decide,fun wy a3 c3 H3 w0 w1 B3 hc3 t3=>⟨_,_,rfl,?_⟩⟩
  have el3:=t3 _ _ n2b el2
  subst e1
  try dsimp only
  have u3:=t2.trans t3
  refine ⟨(by show 0≤sizeLine; decide),fun lr hlr=>gN ?_⟩
  try dsimp only
  have nrb:lr≠b:=Ne.symm (Zd B3.at' hlr)
  have nr2:l2≠lr:=Zd el3 hlr
  have hlrH:H lr=none:=Zgt u3 B3.at' hlr
  refine ⟨_,rfl,_,rfl,b,a3,q,c3,40,mt,rfl,B3.same (Zh hlr (.lst [])),by omega,by decide,m0,by omega,fun m a4 c4 H4 mm0 mm1 B4 hc4 t4=>⟨_,rfl,by omega,by omega,?_⟩⟩
  have el4:=t4 _ _ n2b (Zh hlr (.lst []) _ _ el3)
  have elr4:=t4 _ _ nrb (Za (H:=H3) (a:=lr) (o:=.lst []))
  have u4:SB b H H4:=(u3.trans ((Zh hlr _).sb b)).trans t4
  refine Zha (lo:=0) (n:=m.toNat) (fun j σ G=>∃ (v6 v7:Option V) (ns:List Int) (a' c':Int),σ=[some (.ref b),some (.int s),some (.int mt),some (.ref l2),some (.int wy),some (.ref lr),v6,v7]∧ns.length=j∧(∀ x∈ns,x∈fs)∧G l2=some (.lst (fs.map V.int))∧G lr=some (.lst (ns.map V.int))∧BoxAt G b a' q c'∧c'≤c4+2 * (j:Int)∧SB b H G)
    ⟨_,_,[],a4,c4,rfl,rfl,by simp,el4,elr4,B4,by omega,u4⟩ ?_ ?_
  · rintro j σ G hj ⟨v6,v7,ns,a',c',rfl,hnl,hns,e2,er,B',hc',u'⟩
    refine gN ?_
    try dsimp only
    have jm:(j:Int)<450:=by omega
    refine hide fun u1 e1=>?_
    refine ⟨_,rfl,_,rfl,l2,_,rfl,.inl (SqL.of e2),b,a',q,c',_,rfl,B',by omega,by rw [List.length_map]; omega,by rw [List.length_map]; omega,fun x1 a5 c5 H5 x10 x11 B5 hc5 t5=>?_⟩
    rw [List.length_map] at x11
    have e25:=t5 _ _ n2b e2
    refine ⟨_,rfl,_,rfl,l2,_,rfl,.inl (SqL.of e25),_,_,rfl,rfl,by rw [List.length_map]; show (0:Int)<_; omega,_,rfl,_,rfl,_,_,rfl,rfl,_,_,rfl,rfl,.inl ⟨by omega,by omega⟩,_,_,rfl,rfl,⟨by decide,by decide⟩,_,rfl,b,a5,q,c5,2,rfl,B5,by omega,by decide,by decide,fun x2 a6 c6 H6 x20 x21 B6 hc6 t6=>⟨_,_,rfl,rfl,_,rfl,l2,_,rfl,.inl (SqL.of (t6 _ _ n2b e25)),_,_,rfl,rfl,by rw [List.length_map]; show (0:Int)<_; omega,(by show 3≤sizeLine; decide),fun l3 hl3=>?_⟩⟩
    rw [List.length_map]
    obtain ⟨z,hz,z0,z1⟩:=Zpe (w:=wy) (n:=(fs.length:Int)) (k:=j) (t2:=x2) w0 w1 (by omega) x10 x11
    have n3b:b≠l3:=Zd B6.at' hl3
    have e26:=t6 _ _ n2b e25
    have er6:=t6 _ _ nrb (t5 _ _ nrb er)
    have ej:(0:Int)+(j:Int)=(j:Int):=by omega
    rw [ej]
    refine ⟨_,rfl,l3,_,_,_,rfl,rfl,SqL.of Za,hz,gN ?_⟩
    subst e1
    try dsimp only
    have s7:=Zh hl3 (.lst [V.int x1,V.int ((j:Int) % (fs.length:Int)),V.int (((j:Int) * ((j:Int)+1) / 2+x2) % (fs.length:Int))])
    have e27:=s7 _ _ e26
    have er7:=s7 _ _ er6
    have B7:=B6.same s7
    have u7:SB b H (upd H6 l3 (.lst [V.int x1,V.int ((j:Int) % (fs.length:Int)),V.int (((j:Int) * ((j:Int)+1) / 2+x2) % (fs.length:Int))])):=((u'.trans t5).trans t6).trans (s7.sb b)
    generalize upd H6 l3 (.lst [V.int x1,V.int ((j:Int) % (fs.length:Int)),V.int (((j:Int) * ((j:Int)+1) / 2+x2) % (fs.length:Int))])=H7 at *
    obtain ⟨y,hy,my⟩:=Zlz (ns:=fs) z0 z1
    refine ⟨_,rfl,.inl ⟨rfl,_,SqL.of er7⟩,_,rfl,_,rfl,l2,_,_,_,rfl,rfl,SqL.of e27,hy,lr,_,_,rfl,rfl,er7,Zv (by rw [List.length_map]; omega),?_⟩
    refine ⟨_,_,ns++[y],a6,c6,rfl,by rw [List.length_append,hnl]; rfl,fun x hx=>?_,by rw [Zb nr2]; exact e27,by rw [Za,List.map_append]; rfl,B7.sb (Zdo lr _ _) (Ne.symm nrb),by omega,fun x o nx e=>?_⟩
    · rcases List.mem_append.mp hx with hx | hx
      · exact hns x hx
      · rw [List.mem_singleton.mp hx]; exact List.mem_of_getElem? my
    · rw [Zb (fun z:x=lr=>by rw [z,hlrH] at e; cases e)]
      exact u7 _ _ nx e
  · rintro σ G ⟨v6,v7,ns,a',c',rfl,hnl,hns,e2,er,B',hc',u'⟩
    exact ⟨_,rfl,k lr ns a' c' G hlrH er (by omega) (by omega) (fun x hx=>hfb x (hns x hx)) B' (by omega) u'⟩
end
section
variable {cfs:List Cf} {d:Int} (hd:∀ c∈cfs,d % c.sh=0)
include hd
end
theorem ZfV (g:Pln):∀ (S:List RS) (row:List Int) (k:Nat) (b:Int),row[k]?=some b→(Zay g S row)[k]?=some (nearF (stF g S (row.take k)) b)
  | _,[],_,_,h=>by simp at h
  | S,x :: row,0,b,h=>by cases h; rfl
  | S,x :: row,k+1,b,h=>ZfV g (fetS g S x) row k b (by simpa using h)
theorem Zfr {cfs:List Cf}:∀ (n:Nat) (S:List RS) (k:Nat) (b:Int),(pushS cfs n S k b).length=S.length
  | 0,_,_,_=>rfl
  | n+1,S,k,b=>by
    unfold pushS
    split
    · split
      · exact List.length_set
      · rw [Zfr n,List.length_set]
    · rfl
theorem ZlT (kind:Str) (cfs:List Cf) (S:List RS) (k:Nat) (b:Int):(downS kind cfs S k b).length=S.length:=by
  unfold downS
  split
  · split
    · exact List.length_set
    · rw [List.length_set,ZfU]
  · rfl
theorem Zfs (kind:Str) (cfs:List Cf) (b:Int):∀ (k:Nat) (S:List RS),(Zby kind cfs b k S).length=S.length
  | 0,_=>rfl
  | k+1,S=>(Zfs kind cfs b k _).trans (ZlT ..)
theorem ZgS (g:Pln) (S:List RS) (b:Int):(fetS g S b).length=S.length:=by
  unfold fetS
  split
  · unfold ZbN
    split
    · exact Zfr ..
    · split
      · split
        · exact List.length_set
        · rw [Zfr,List.length_set]
      · rfl
  · rw [Zfs]
    unfold useAt
    split
    · exact List.length_set
    · rfl
theorem ZlU (g:Pln):∀ (S:List RS) (row:List Int),(stF g S row).length=S.length
  | _,[]=>rfl
  | S,b :: row=>(ZlU g (fetS g S b) row).trans (ZgS ..)
theorem ZdF (g:Pln):(ZbO g).length=g.cfs.length:=by unfold ZbO; rw [List.length_replicate]
theorem ZlV {g:Pln} {row:List Int} {k n:Nat} (h:(Zay g (ZbO g) row)[k]?=some n):n≤g.cfs.length:=by
  have hk:k<row.length:=by have:=(List.getElem?_eq_some_iff.mp h).1; rwa [Zdi] at this
  rw [ZfV g _ row k _ (List.getElem?_eq_getElem hk)] at h
  cases h
  have:=ZcJ (stF g (ZbO g) (row.take k)) row[k]
  rwa [ZlU,ZdF] at this
noncomputable def askR (c:Cf) (s:RS) (b:Int):RS:=if b∈s.1 then useR c s b else (match goneF c s b with | none=>inR s b | some g=>inR (outR s g) b)
noncomputable def runB (c:Cf):RS→List Int→List Bool
  | _,[]=>[]
  | s,b :: r=>decide (b∈s.1) :: runB c (askR c s b) r
noncomputable def leftR (c:Cf):RS→List Int→List Int
  | _,[]=>[]
  | s,b :: r=>if b∈s.1 then leftR c (askR c s b) r else b :: leftR c (askR c s b) r
noncomputable def freeF:List Cf→List RS→Int→List RS
  | c :: cs,s :: ss,b=>askR c s b :: (if b∈s.1 then ss else freeF cs ss b)
  | _,ss,_=>ss
noncomputable def freeN:List Cf→List RS→List Int→List Nat
  | _,_,[]=>[]
  | cs,ss,b :: r=>nearF ss b :: freeN cs (freeF cs ss b) r
theorem Zcz (s:RS) (ss:List RS) (b:Int):nearF (s :: ss) b=if b∈s.1 then 0 else nearF ss b+1:=by
  unfold nearF
  rw [List.findIdx_cons]
  by_cases e:b∈s.1
  · rw [if_pos e,decide_eq_true e]; rfl
  · rw [if_neg e,decide_eq_false e]; rfl
theorem Zkp {cfs:List Cf} {S:List RS} {k:Nat} {b:Int} {c:Cf} {s:RS} (hc:cfs[k]?=some c) (hs:S[k]?=some s) (hb:b∉s.1) {kind:Str} (hk:kind ≠ "within"):downS kind cfs S k b=S.set k (askR c s b):=by
  unfold downS askR
  rw [hc,hs,if_neg hb]
  show (match goneF c s b with | none=>S.set k (inR s b) | some g=>(Zck kind S k g).set k (inR (outR s g) b))=S.set k (match goneF c s b with | none=>inR s b | some g=>inR (outR s g) b)
  cases goneF c s b with
  | none=>rfl
  | some g =>
    show (Zck kind S k g).set k (inR (outR s g) b)=S.set k (inR (outR s g) b)
    unfold Zck
    rw [if_neg hk,ZlI hs,List.set_set]
theorem Zcp {cfs:List Cf} {b:Int} {kind:Str} (hk:kind ≠ "within"):∀ (k:Nat) (S:List RS),S.length≤cfs.length→(∀ (j:Nat) (s:RS),j<k→S[j]?=some s→b∉s.1)→k≤S.length →
    ∀ (j:Nat) (c:Cf) (s:RS),cfs[j]?=some c→S[j]?=some s→(Zby kind cfs b k S)[j]?=some (if j<k then askR c s b else s)
  | 0,S,_,_,_,j,c,s,_,hs=>by rw [if_neg (Nat.not_lt_zero _)]; exact hs
  | k+1,S,hl,hb,hks,j,c,s,hc,hs=>by
    show (Zby kind cfs b k (downS kind cfs S k b))[j]?=_
    have hk1:k<S.length:=by omega
    have ek:S[k]?=some S[k]:=List.getElem?_eq_getElem hk1
    have ec:cfs[k]?=some cfs[k]:=List.getElem?_eq_getElem (by omega)
    rw [Zkp ec ek (hb k _ (Nat.lt_succ_self k) ek) hk]
    have hb':∀ (i:Nat) (t:RS),i<k→(S.set k (askR cfs[k] S[k] b))[i]?=some t→b∉t.1:=fun i t hi ht=>by
      rw [List.getElem?_set_ne (by omega)] at ht
      exact hb i t (by omega) ht
    by_cases e:j=k
    · subst e
      have q:=Zcp hk j (S.set j (askR cfs[j] S[j] b)) (by rw [List.length_set]; exact hl) hb' (by rw [List.length_set]; omega) j cfs[j] (askR cfs[j] S[j] b) ec (by rw [List.getElem?_set_self hk1])
      rw [q,if_neg (Nat.lt_irrefl _),if_pos (Nat.lt_succ_self _)]
      rw [ec] at hc
      rw [ek] at hs
      cases hc; cases hs
      rfl
    · have q:=Zcp hk k (S.set k (askR cfs[k] S[k] b)) (by rw [List.length_set]; exact hl) hb' (by rw [List.length_set]; omega) j c s hc (by rw [List.getElem?_set_ne (fun z=>e z.symm)]; exact hs)
      rw [q]
      by_cases e2:j<k
      · rw [if_pos e2,if_pos (by omega)]
      · rw [if_neg e2,if_neg (by omega)]
theorem Zeg (kind:Str) (cfs:List Cf) (b:Int):∀ (k:Nat) (S:List RS),(Zby kind cfs b k S).length=S.length
  | 0,_=>rfl
  | k+1,S=>by
    show (Zby kind cfs b k (downS kind cfs S k b)).length=_
    rw [Zeg kind cfs b k]
    unfold downS
    split
    · split
      · exact List.length_set
      · rw [List.length_set,ZfU]
    · rfl
theorem Zft:∀ (cs:List Cf) (ss:List RS) (b:Int),(freeF cs ss b).length=ss.length
  | [],_,_=>rfl
  | _ :: _,[],_=>rfl
  | c :: cs,s :: ss,b=>by
    unfold freeF
    split
    · rfl
    · rw [List.length_cons,List.length_cons,Zft cs ss b]
theorem ZhW:∀ (cs:List Cf) (ss:List RS) (b:Int) (j:Nat) (c:Cf) (s:RS),cs[j]?=some c→ss[j]?=some s→(freeF cs ss b)[j]?=some (if j≤nearF ss b then askR c s b else s)
  | [],_,_,_,_,_,h,_=>by simp at h
  | _ :: _,[],_,_,_,_,_,h=>by simp at h
  | c :: cs,s :: ss,b,0,c',s',h1,h2=>by
    cases h1; cases h2
    rw [if_pos (Nat.zero_le _)]
    rfl
  | c :: cs,s :: ss,b,j+1,c',s',h1,h2=>by
    have h1:cs[j]?=some c':=by simpa using h1
    have h2:ss[j]?=some s':=by simpa using h2
    show (if b∈s.1 then ss else freeF cs ss b)[j]?=_
    rw [Zcz]
    by_cases e:b∈s.1
    · rw [if_pos e,if_pos e,if_neg (by omega)]; exact h2
    · rw [if_neg e,if_neg e,ZhW cs ss b j c' s' h1 h2]
      congr 1
      by_cases q:j≤nearF ss b
      · rw [if_pos q,if_pos (by omega)]
      · rw [if_neg q,if_neg (by omega)]
theorem ZlW {g:Pln} {S:List RS} (h1:g.kind ≠ "within") (h2:g.kind ≠ "apart") (hl:S.length=g.cfs.length) (b:Int):fetS g S b=freeF g.cfs S b:=by
  unfold fetS
  rw [if_neg h2]
  have hn:=ZcJ S b
  have lu:(useAt g.cfs S (nearF S b) b).length=S.length:=by
    unfold useAt
    split
    · exact List.length_set
    · rfl
  apply List.ext_getElem?
  intro j
  by_cases hj:j<S.length
  · have es:S[j]?=some S[j]:=List.getElem?_eq_getElem hj
    have ec:g.cfs[j]?=some g.cfs[j]:=List.getElem?_eq_getElem (by omega)
    generalize S[j]=s at es
    generalize g.cfs[j]=c at ec
    rw [ZhW _ _ _ _ _ _ ec es]
    have hb:∀ (i:Nat) (t:RS),i<nearF S b→(useAt g.cfs S (nearF S b) b)[i]?=some t→b∉t.1:=fun i t hi ht=>by
      rw [Zfk (by omega)] at ht
      exact Zey hi ht
    by_cases e:j=nearF S b
    · subst e
      have eu:(useAt g.cfs S (nearF S b) b)[nearF S b]?=some (useR c s b):=by
        unfold useAt
        rw [ec,es]
        exact List.getElem?_set_self hj
      have hm:b∈s.1:=by
        obtain ⟨s',q1,q2⟩:=ZcI hj
        rw [es] at q1; cases q1; exact q2
      rw [Zcp h1 _ _ (by rw [lu]; omega) hb (by rw [lu]; exact hn) _ _ _ ec eu,if_neg (Nat.lt_irrefl _),if_pos (Nat.le_refl _)]
      unfold askR
      rw [if_pos hm]
    · have eu:(useAt g.cfs S (nearF S b) b)[j]?=some s:=by rw [Zfk e]; exact es
      rw [Zcp h1 _ _ (by rw [lu]; omega) hb (by rw [lu]; exact hn) _ _ _ ec eu]
      congr 1
      by_cases q:j<nearF S b
      · rw [if_pos q,if_pos (by omega)]
      · rw [if_neg q,if_neg (by omega)]
  · rw [List.getElem?_eq_none (by rw [Zeg,lu]; omega),List.getElem?_eq_none (by rw [Zft]; omega)]
theorem Zfu {g:Pln} (h1:g.kind ≠ "within") (h2:g.kind ≠ "apart"):∀ (S:List RS) (row:List Int),S.length=g.cfs.length→Zay g S row=freeN g.cfs S row
  | _,[],_=>rfl
  | S,b :: row,hl=>by
    show nearF S b :: Zay g (fetS g S b) row=nearF S b :: freeN g.cfs (freeF g.cfs S b) row
    rw [ZlW h1 h2 hl,Zfu h1 h2 _ row (by rw [Zft]; exact hl)]
def ZcM:List Bool→List Nat→List Nat
  | true :: bs,ns=>0 :: ZcM bs ns
  | false :: bs,n :: ns=>(n+1) :: ZcM bs ns
  | _,_=>[]
theorem ZdX (c:Cf) (cs:List Cf):∀ (row:List Int) (s:RS) (ss:List RS),freeN (c :: cs) (s :: ss) row=ZcM (runB c s row) (freeN cs ss (leftR c s row))
  | [],_,_=>rfl
  | b :: row,s,ss=>by
    show nearF (s :: ss) b :: freeN (c :: cs) (askR c s b :: (if b∈s.1 then ss else freeF cs ss b)) row=ZcM (decide (b∈s.1) :: runB c (askR c s b) row) (freeN cs ss (if b∈s.1 then leftR c (askR c s b) row else b :: leftR c (askR c s b) row))
    rw [Zcz]
    by_cases e:b∈s.1
    · rw [if_pos e,if_pos e,if_pos e,decide_eq_true e,ZdX c cs row]
      rfl
    · rw [if_neg e,if_neg e,if_neg e,decide_eq_false e,ZdX c cs row]
      rfl
theorem ZeA (c:Cf):∀ (s:RS) (row:List Int),(runB c s row).length=row.length
  | _,[]=>rfl
  | s,b :: row=>by show (runB c _ row).length+1=row.length+1; rw [ZeA]
theorem ZhX {cfs:List Cf}:∀ (n:Nat) (S:List RS) (k:Nat) (b:Int) (j:Nat),j<k→(pushS cfs n S k b)[j]?=S[j]?
  | 0,_,_,_,_,_=>rfl
  | n+1,S,k,b,j,h=>by
    unfold pushS
    split
    · split
      · exact List.getElem?_set_ne (by omega)
      · rw [ZhX n _ _ _ j (by omega)]
        exact List.getElem?_set_ne (by omega)
    · rfl
theorem ZlX {cfs:List Cf} {c:Cf} {S:List RS} {s:RS} {b:Int} (hc:cfs[0]?=some c) (hs:S[0]?=some s) (hb:b∉s.1) {n:Nat} (hn:1≤n):(pushS cfs n S 0 b)[0]?=some (askR c s b):=by
  obtain ⟨n,rfl⟩:∃ m,n=m+1:=⟨n - 1,by omega⟩
  have hl:=(List.getElem?_eq_some_iff.mp hs).1
  unfold pushS askR
  rw [hc,hs,if_neg hb]
  show (match goneF c s b with | none=>S.set 0 (inR s b) | some g=>pushS cfs n (S.set 0 (inR (outR s g) b)) 1 g)[0]?=some (match goneF c s b with | none=>inR s b | some g=>inR (outR s g) b)
  cases goneF c s b with
  | none=>exact List.getElem?_set_self hl
  | some g =>
    show (pushS cfs n (S.set 0 (inR (outR s g) b)) 1 g)[0]?=some (inR (outR s g) b)
    rw [ZhX n _ 1 g 0 (by omega)]
    exact List.getElem?_set_self hl
theorem ZiP {g:Pln} (h:g.kind = "apart") {S:List RS} {c:Cf} {s:RS} (hl:S.length=g.cfs.length) (hc:g.cfs[0]?=some c) (hs:S[0]?=some s) (b:Int):(fetS g S b)[0]?=some (askR c s b):=by
  have h0:=(List.getElem?_eq_some_iff.mp hs).1
  unfold fetS
  rw [if_pos h]
  by_cases hb:b∈s.1
  · have hn:nearF S b=0:=by
      cases S with
      | nil=>simp at hs
      | cons s' ss=>cases hs; rw [Zcz,if_pos hb]
    unfold ZbN
    rw [hn,if_neg (by omega),hc,hs]
    show (if 0=0 then S.set 0 (useR c s b) else _)[0]?=_
    rw [if_pos rfl]
    unfold askR
    rw [if_pos hb]
    exact List.getElem?_set_self h0
  · have hn:nearF S b≠0:=by
      cases S with
      | nil=>simp at hs
      | cons s' ss=>cases hs; rw [Zcz,if_neg hb]; omega
    unfold ZbN
    split
    · exact ZlX hc hs hb (by omega)
    · have hk:nearF S b<S.length:=by have:=ZcJ S b; omega
      have es:S[nearF S b]?=some S[nearF S b]:=List.getElem?_eq_getElem hk
      have ec:g.cfs[nearF S b]?=some g.cfs[nearF S b]:=List.getElem?_eq_getElem (by omega)
      rw [es,ec]
      show (pushS g.cfs S.length (S.set (nearF S b) (outR _ b)) 0 b)[0]?=_
      exact ZlX hc (by rw [List.getElem?_set_ne hn]; exact hs) hb (by omega)
theorem ZdG {g:Pln} (h:g.kind = "apart") {c:Cf} (hc:g.cfs[0]?=some c):∀ (row:List Int) (S:List RS) (s:RS),S.length=g.cfs.length→S[0]?=some s→(Zay g S row).map (fun n=>decide (n=0))=runB c s row
  | [],_,_,_,_=>rfl
  | b :: row,S,s,hl,hs=>by
    show decide (nearF S b=0) :: (Zay g (fetS g S b) row).map _=decide (b∈s.1) :: runB c (askR c s b) row
    rw [ZdG h hc row (fetS g S b) (askR c s b) (by rw [ZgS]; exact hl) (ZiP h hl hc hs b)]
    congr 1
    cases S with
    | nil=>simp at hs
    | cons s' ss =>
      cases hs
      rw [Zcz]
      by_cases e:b∈s.1
      · rw [if_pos e]; simp [e]
      · rw [if_neg e]; simp [e]
def segL:List Nat→List Int→List (List Int)
  | [],_=>[]
  | p :: ps,M=>M.take p :: segL ps (M.drop p)
def revS (S:List RS):List (List Int):=S.map fun s=>s.1.reverse
noncomputable def pushL:List Cf→List RS→Int→List RS
  | c :: cs,s :: ss,b=>(match goneF c s b with | none=>inR s b :: ss | some g=>inR (outR s g) b :: pushL cs ss g)
  | _,ss,_=>ss
def Deep (c:Cf):Prop:=c.sh=1∧c.ru = "old" ∧ 1≤c.pl
def plsOf (cs:List Cf):List Nat:=cs.map fun c=>c.pl.toNat
theorem Znx (k:Int) (l:List Int):Zn 1 (k % 1) l=l:=by
  unfold Zn
  rw [List.filter_eq_self]
  intro x _
  exact decide_eq_true (by omega)
theorem ZjF {c:Cf} (d:Deep c) {s:RS} (b:Int) (h:s.1.length<c.pl.toNat):goneF c s b=none:=by
  refine Zev ?_
  rw [d.1,Znx]
  exact ⟨fun _=>rfl,fun q=>absurd (by omega) q⟩
theorem Zkq {c:Cf} (d:Deep c) {s:RS} (b:Int) {x:Int} {r:List Int} (e:s.1=x :: r) (h:c.pl.toNat≤s.1.length):goneF c s b=some x:=by
  refine Zev ?_
  rw [d.1,Znx]
  have d3:=d.2.2
  exact ⟨fun q=>by omega,fun _=>⟨x,r,rfl,by rw [e],fun q=>by rw [d.2.1] at q; exact absurd q (by decide),fun _=>e.symm⟩⟩
theorem ZlY:∀ ps:List Nat,segL ps []=ps.map fun _=>[]
  | []=>rfl
  | p :: ps=>by show List.take p [] :: segL ps (List.drop p [])=_; rw [List.take_nil,List.drop_nil,ZlY ps]; rfl
theorem ZlZ {ps:List Nat}:∀ {M:List Int} {R:List Int} {x:Int},R∈segL ps M→x∈R→x∈M:=by
  induction ps with
  | nil=>intro M R x h; cases h
  | cons p ps ih =>
    intro M R x h hx
    rcases List.mem_cons.mp h with rfl | h
    · exact List.mem_of_mem_take hx
    · exact List.mem_of_mem_drop (ih h hx)
theorem Zfv {ps:List Nat} {M:List Int} {b:Int} (h:b∉M):(segL ps M).map (·.erase b)=segL ps M:=by
  have:(segL ps M).map (·.erase b)=(segL ps M).map id:=List.map_congr_left fun R hR=>List.erase_of_not_mem fun m=>h (ZlZ hR m)
  rw [this,List.map_id]
theorem Zdj {M:List Int} {b:Int} {p:Nat} (nd:M.Nodup) (h:b∈M.take p):M.erase b=(M.take p).erase b++M.drop p∧b∉M.drop p:=by
  refine ⟨?_,fun m=>?_⟩
  · conv=>lhs; rw [← List.take_append_drop p M]
    exact List.erase_append_left _ h
  · have q:=nd
    rw [← List.take_append_drop p M] at q
    exact (List.nodup_append.mp q).2.2 b h b m rfl
theorem ZhY {M:List Int} {b:Int} {p:Nat} (h:b∉M.take p):M.erase b=M.take p++(M.drop p).erase b:=by
  conv=>lhs; rw [← List.take_append_drop p M]
  exact List.erase_append_right _ h
theorem ZgT {b:Int}:∀ (cs:List Cf) (T:List RS) (M:List Int) (y:Int),(∀ c∈cs,Deep c)→M.Nodup→revS T=(segL (plsOf cs) M).map (·.erase b)→revS (pushL cs T y)=segL (plsOf cs) (y :: M.erase b)
  | [],T,M,y,_,_,e=>by
    have:T=[]:=by
      cases T with
      | nil=>rfl
      | cons s ss=>cases e
    rw [this]; rfl
  | c :: cs,[],M,y,_,_,e=>by cases e
  | c :: cs,s :: ss,M,y,hd,nd,e=>by
    have d:=hd c List.mem_cons_self
    have d3:=d.2.2
    obtain ⟨q,hq⟩:∃ q,c.pl.toNat=q+1:=⟨c.pl.toNat - 1,by omega⟩
    have e1:s.1.reverse=(M.take c.pl.toNat).erase b:=List.head_eq_of_cons_eq e
    have e2:revS ss=(segL (plsOf cs) (M.drop c.pl.toNat)).map (·.erase b):=List.tail_eq_of_cons_eq e
    have el:s.1.length=((M.take c.pl.toNat).erase b).length:=by rw [← e1,List.length_reverse]
    have goal2:segL (plsOf (c :: cs)) (y :: M.erase b)=(y :: (M.erase b).take q) :: segL (plsOf cs) ((M.erase b).drop q):=by
      show List.take c.pl.toNat (y :: M.erase b) :: segL (plsOf cs) (List.drop c.pl.toNat (y :: M.erase b))=_
      rw [hq]; rfl
    rw [goal2]
    by_cases hlt:s.1.length<c.pl.toNat
    · have eg:pushL (c :: cs) (s :: ss) y=inR s y :: ss:=by
        show (match goneF c s y with | none=>inR s y :: ss | some g=>inR (outR s g) y :: pushL cs ss g)=_
        rw [ZjF d y hlt]
      rw [eg]
      show (s.1++[y]).reverse :: revS ss=_
      rw [List.reverse_append,e1,e2]
      show (y :: (M.take c.pl.toNat).erase b) :: _=_
      by_cases hb:b∈M.take c.pl.toNat
      · obtain ⟨s1,s2⟩:=Zdj nd hb
        rw [Zfv s2,s1]
        have l1:((M.take c.pl.toNat).erase b).length=(M.take c.pl.toNat).length - 1:=List.length_erase_of_mem hb
        rw [List.length_take] at l1
        by_cases hm:c.pl.toNat≤M.length
        · have l2:((M.take c.pl.toNat).erase b).length=q:=by omega
          rw [List.take_left' l2,List.drop_left' l2]
        · have z:M.drop c.pl.toNat=[]:=List.drop_eq_nil_of_le (by omega)
          have l2:((M.take c.pl.toNat).erase b).length≤q:=by rw [l1]; omega
          rw [z,List.append_nil,List.take_of_length_le l2,List.drop_eq_nil_of_le l2]
      · have eR:(M.take c.pl.toNat).erase b=M.take c.pl.toNat:=List.erase_of_not_mem hb
        rw [eR,List.length_take] at el
        have hm:M.length<c.pl.toNat:=by omega
        have z:M.drop c.pl.toNat=[]:=List.drop_eq_nil_of_le (by omega)
        have zt:M.take c.pl.toNat=M:=List.take_of_length_le (by omega)
        rw [zt] at hb
        rw [eR,zt,z,List.erase_of_not_mem hb,List.take_of_length_le (by omega),List.drop_eq_nil_of_le (by omega),Zfv (by simp)]
    · have hb:b∉M.take c.pl.toNat:=fun hb=>by
        have l1:((M.take c.pl.toNat).erase b).length=(M.take c.pl.toNat).length - 1:=List.length_erase_of_mem hb
        have l2:=List.length_pos_of_mem hb
        rw [List.length_take] at l1 l2
        omega
      have eR:(M.take c.pl.toNat).erase b=M.take c.pl.toNat:=List.erase_of_not_mem hb
      rw [eR] at e1 el
      rw [List.length_take] at el
      have hm:c.pl.toNat≤M.length:=by omega
      obtain ⟨x,r,ex⟩:∃ x r,s.1=x :: r:=by
        cases h:s.1 with
        | nil=>rw [h] at el; simp at el; omega
        | cons x r=>exact ⟨x,r,rfl⟩
      have eg:pushL (c :: cs) (s :: ss) y=inR (outR s x) y :: pushL cs ss x:=by
        show (match goneF c s y with | none=>inR s y :: ss | some g=>inR (outR s g) y :: pushL cs ss g)=_
        rw [Zkq d y ex (by omega)]
      rw [eg]
      have eo:(outR s x).1=r:=by
        show s.1.erase x=r
        rw [ex]; exact List.erase_cons_head ..
      show ((outR s x).1++[y]).reverse :: revS (pushL cs ss x)=_
      have ndd:(M.drop c.pl.toNat).Nodup:=nd.sublist (List.drop_sublist _ _)
      rw [eo,List.reverse_append,ZgT cs ss (M.drop c.pl.toNat) x (fun c' h=>hd c' (List.mem_cons_of_mem _ h)) ndd e2]
      rw [ex,List.reverse_cons] at e1
      have lr:r.reverse.length=q:=by rw [List.length_reverse]; rw [ex] at el; simp at el; omega
      rw [ZhY hb,← e1,List.append_assoc,List.take_left' lr,List.drop_left' lr]
      rfl
def ZbL:List Nat→Nat→Nat
  | [],_=>0
  | p :: ps,d=>if d<p then 0 else ZbL ps (d - p)+1
def ZdH (ps:List Nat) (M:List Int) (b:Int):Nat:=if b∈M then ZbL ps (M.idxOf b) else ps.length
theorem ZjG {b:Int}:∀ (ps:List Nat) (S:List RS) (M:List Int),revS S=segL ps M→nearF S b=ZdH ps M b
  | [],S,M,e=>by
    have:S=[]:=by
      cases S with
      | nil=>rfl
      | cons s ss=>cases e
    rw [this]
    unfold ZdH ZbL
    split <;> rfl
  | p :: ps,[],M,e=>by cases e
  | p :: ps,s :: ss,M,e=>by
    have e1:s.1.reverse=M.take p:=List.head_eq_of_cons_eq e
    have e2:revS ss=segL ps (M.drop p):=List.tail_eq_of_cons_eq e
    rw [Zcz,ZjG ps ss (M.drop p) e2]
    have hm:b∈s.1↔b∈M.take p:=by rw [← e1,List.mem_reverse]
    have hsp:M.take p++M.drop p=M:=List.take_append_drop p M
    by_cases h:b∈M.take p
    · rw [if_pos (hm.mpr h)]
      have hM:b∈M:=List.mem_of_mem_take h
      have hi:M.idxOf b<p:=by
        rw [← hsp,List.idxOf_append,if_pos h]
        have:=List.idxOf_lt_length_of_mem h
        rw [List.length_take] at this
        omega
      unfold ZdH ZbL
      rw [if_pos hM,if_pos hi]
    · rw [if_neg fun z=>h (hm.mp z)]
      unfold ZdH
      by_cases h2:b∈M.drop p
      · have hM:b∈M:=List.mem_of_mem_drop h2
        have hl:p<M.length:=by
          have:=List.length_pos_of_mem h2
          rw [List.length_drop] at this
          omega
        have hi:M.idxOf b=(M.drop p).idxOf b+p:=by
          conv=>lhs; rw [← hsp]
          rw [List.idxOf_append,if_neg h,List.length_take,Nat.min_eq_left (by omega)]
        rw [if_pos h2,if_pos hM,hi]
        show _=if (M.drop p).idxOf b+p<p then 0 else ZbL ps ((M.drop p).idxOf b+p - p)+1
        rw [if_neg (by omega),Nat.add_sub_cancel]
      · have hM:b∉M:=fun z=>by
          rw [← hsp] at z
          rcases List.mem_append.mp z with z | z
          · exact h z
          · exact h2 z
        rw [if_neg h2,if_neg hM]
        rfl
theorem Zny {l:List Int} (nd:l.Nodup):l.reverse.Nodup:=by
  unfold List.Nodup at *
  rw [List.pairwise_reverse]
  exact nd.imp fun h=>Ne.symm h
theorem Zma {l:List Int} (nd:l.Nodup) (b:Int):(l.erase b).reverse=l.reverse.erase b:=by
  rw [nd.erase_eq_filter,(Zny nd).erase_eq_filter,List.filter_reverse]
theorem Zmb {b:Int}:∀ (ps:List Nat) (S:List RS) (M:List Int) (k:Nat) (s:RS),revS S=segL ps M→M.Nodup→S[k]?=some s→b∈s.1→revS (S.set k (outR s b))=(segL ps M).map (·.erase b)
  | [],[],_,_,_,_,_,h,_=>by simp at h
  | [],_ :: _,_,_,_,e,_,_,_=>by cases e
  | _ :: _,[],_,_,_,e,_,_,_=>by cases e
  | p :: ps,s0 :: ss,M,0,s,e,nd,h,hb=>by
    cases h
    have e1:s0.1.reverse=M.take p:=List.head_eq_of_cons_eq e
    have e2:revS ss=segL ps (M.drop p):=List.tail_eq_of_cons_eq e
    have hm:b∈M.take p:=by rw [← e1,List.mem_reverse]; exact hb
    have nds:s0.1.Nodup:=by
      have:=Zny (e1 ▸ nd.sublist (List.take_sublist p M):s0.1.reverse.Nodup)
      rwa [List.reverse_reverse] at this
    show (s0.1.erase b).reverse :: revS ss=(M.take p).erase b :: (segL ps (M.drop p)).map (·.erase b)
    rw [Zma nds,e1,e2,Zfv (Zdj nd hm).2]
  | p :: ps,s0 :: ss,M,k+1,s,e,nd,h,hb=>by
    have h:ss[k]?=some s:=by simpa using h
    have e1:s0.1.reverse=M.take p:=List.head_eq_of_cons_eq e
    have e2:revS ss=segL ps (M.drop p):=List.tail_eq_of_cons_eq e
    have ms:s.1.reverse∈segL ps (M.drop p):=by rw [← e2]; exact List.mem_map.mpr ⟨s,List.mem_of_getElem? h,rfl⟩
    have md:b∈M.drop p:=ZlZ ms (List.mem_reverse.mpr hb)
    have nm:b∉M.take p:=fun z=>(Zdj nd z).2 md
    show s0.1.reverse :: revS (ss.set k (outR s b))=(M.take p).erase b :: (segL ps (M.drop p)).map (·.erase b)
    rw [Zmb ps ss (M.drop p) k s e2 (nd.sublist (List.drop_sublist _ _)) h hb,e1,List.erase_of_not_mem nm]
theorem Zmc {cfs:List Cf}:∀ (n:Nat) (S:List RS) (k:Nat) (b:Int),S.length≤k+n→pushS cfs n S k b=S.take k++pushL (cfs.drop k) (S.drop k) b
  | 0,S,k,b,h=>by
    have z:S.drop k=[]:=List.drop_eq_nil_of_le (by omega)
    have z2:pushL (cfs.drop k) [] b=[]:=by cases cfs.drop k <;> rfl
    rw [z,z2,List.append_nil,List.take_of_length_le (by omega)]
    rfl
  | n+1,S,k,b,h=>by
    unfold pushS
    cases ec:cfs[k]? with
    | none =>
      have z:cfs.drop k=[]:=List.drop_eq_nil_of_le (List.getElem?_eq_none_iff.mp ec)
      rw [z]
      show S=S.take k++S.drop k
      rw [List.take_append_drop]
    | some c =>
      cases es:S[k]? with
      | none =>
        have z:S.drop k=[]:=List.drop_eq_nil_of_le (List.getElem?_eq_none_iff.mp es)
        have z2:pushL (cfs.drop k) [] b=[]:=by cases cfs.drop k <;> rfl
        rw [z,z2,List.append_nil,List.take_of_length_le (List.getElem?_eq_none_iff.mp es)]
      | some s =>
        obtain ⟨hk,e2⟩:=List.getElem?_eq_some_iff.mp es
        obtain ⟨hc,e3⟩:=List.getElem?_eq_some_iff.mp ec
        have z1:cfs.drop k=c :: cfs.drop (k+1):=by rw [List.drop_eq_getElem_cons hc,e3]
        have z2:S.drop k=s :: S.drop (k+1):=by rw [List.drop_eq_getElem_cons hk,e2]
        rw [z1,z2]
        show (match goneF c s b with | none=>S.set k (inR s b) | some g=>pushS cfs n (S.set k (inR (outR s g) b)) (k+1) g)=S.take k++(match goneF c s b with | none=>inR s b :: S.drop (k+1) | some g=>inR (outR s g) b :: pushL (cfs.drop (k+1)) (S.drop (k+1)) g)
        cases goneF c s b with
        | none=>exact List.set_eq_take_append_cons_drop ▸ (by rw [if_pos hk])
        | some g =>
          show pushS cfs n (S.set k (inR (outR s g) b)) (k+1) g=S.take k++inR (outR s g) b :: pushL (cfs.drop (k+1)) (S.drop (k+1)) g
          rw [Zmc n _ (k+1) g (by rw [List.length_set]; omega),List.set_eq_take_append_cons_drop,if_pos hk]
          have lt:(S.take k).length=k:=by rw [List.length_take]; omega
          have t1:(S.take k++inR (outR s g) b :: S.drop (k+1)).take (k+1)=S.take k++[inR (outR s g) b]:=by
            rw [List.take_append,List.take_of_length_le (by omega),lt,show k+1 - k=1 by omega]; rfl
          have t2:(S.take k++inR (outR s g) b :: S.drop (k+1)).drop (k+1)=S.drop (k+1):=by
            rw [List.drop_append,List.drop_eq_nil_of_le (by omega),lt,show k+1 - k=1 by omega]; rfl
          rw [t1,t2,List.append_assoc]
          rfl
theorem Zmd {g:Pln} (h:g.kind = "apart") (hd:∀ c∈g.cfs,Deep c) {S:List RS} {M:List Int} (hl:S.length=g.cfs.length) (e:revS S=segL (plsOf g.cfs) M) (nd:M.Nodup) (b:Int):revS (fetS g S b)=segL (plsOf g.cfs) (b :: M.erase b):=by
  have p0:∀ T:List RS,T.length=S.length→pushS g.cfs S.length T 0 b=pushL g.cfs T b:=fun T hT=>by
    rw [Zmc _ _ _ _ (by omega)]; rfl
  unfold fetS ZbN
  rw [if_pos h]
  split
  · rename_i hn
    rw [p0 S rfl]
    refine ZgT _ _ _ _ hd nd ?_
    rw [← e]
    have:(revS S).map (·.erase b)=(revS S).map id:=List.map_congr_left fun R hR=>by
      obtain ⟨s,hs,rfl⟩:=List.mem_map.mp hR
      exact List.erase_of_not_mem fun z=>Zfm hn s hs (List.mem_reverse.mp z)
    rw [this,List.map_id]
  · rename_i hn
    have hk:nearF S b<S.length:=by have:=ZcJ S b; omega
    obtain ⟨s,es,hb⟩:=ZcI hk
    have ec:g.cfs[nearF S b]?=some g.cfs[nearF S b]:=List.getElem?_eq_getElem (by omega)
    generalize g.cfs[nearF S b]=c at ec
    have er:=Zmb _ S M _ s e nd es hb
    have ps:=ZgT (b:=b) g.cfs (S.set (nearF S b) (outR s b)) M b hd nd er
    rw [es,ec]
    show revS (if nearF S b=0 then S.set 0 (useR c s b) else pushS g.cfs S.length (S.set (nearF S b) (outR s b)) 0 b)=_
    by_cases z:nearF S b=0
    · rw [if_pos z,← ps,z]
      rw [z] at es ec
      cases hS:S with
      | nil=>rw [hS] at es; simp at es
      | cons s' ss =>
        cases hC:g.cfs with
        | nil=>rw [hC] at ec; simp at ec
        | cons c' cs =>
          rw [hS] at es; cases es
          rw [hC] at ec; cases ec
          have d:=hd c (by rw [hC]; exact List.mem_cons_self)
          have d3:=d.2.2
          have e1:s.1.reverse=M.take c.pl.toNat:=by rw [hS,hC] at e; exact List.head_eq_of_cons_eq e
          have l1:s.1.length≤c.pl.toNat:=by rw [← List.length_reverse,e1,List.length_take]; omega
          have l2:=List.length_pos_of_mem hb
          have l3:(outR s b).1.length<c.pl.toNat:=by
            show (s.1.erase b).length<_
            rw [List.length_erase_of_mem hb]; omega
          have eg:pushL (c :: cs) ((s :: ss).set 0 (outR s b)) b=inR (outR s b) b :: ss:=by
            show (match goneF c (outR s b) b with | none=>inR (outR s b) b :: ss | some g=>_)=_
            rw [ZjF d b l3]
          rw [eg]
          show (useR c s b).1.reverse :: revS ss=(s.1.erase b++[b]).reverse :: revS ss
          unfold useR
          rw [if_pos d.2.1]
    · rw [if_neg z,p0 _ List.length_set]
      exact ps
def deepN (ps:List Nat):List Int→List Int→List Nat
  | _,[]=>[]
  | M,b :: r=>ZdH ps M b :: deepN ps (b :: M.erase b) r
theorem Zfw {g:Pln} (h:g.kind = "apart") (hd:∀ c∈g.cfs,Deep c):∀ (row:List Int) (S:List RS) (M:List Int),S.length=g.cfs.length→revS S=segL (plsOf g.cfs) M→M.Nodup→Zay g S row=deepN (plsOf g.cfs) M row
  | [],_,_,_,_,_=>rfl
  | b :: row,S,M,hl,e,nd=>by
    show nearF S b :: Zay g (fetS g S b) row=ZdH (plsOf g.cfs) M b :: deepN (plsOf g.cfs) (b :: M.erase b) row
    rw [ZjG _ S M e,Zfw h hd row _ (b :: M.erase b) (by rw [ZgS]; exact hl) (Zmd h hd hl e nd b) (List.nodup_cons.mpr ⟨fun z=>(nd.mem_erase_iff.mp z).1 rfl,nd.erase _⟩)]
theorem ZhZ {g:Pln} (h:g.kind = "apart") (hd:∀ c∈g.cfs,Deep c) (row:List Int):Zay g (ZbO g) row=deepN (plsOf g.cfs) [] row:=by
  refine Zfw h hd row _ [] (ZdF g) ?_ List.nodup_nil
  rw [ZlY]
  unfold revS ZbO plsOf
  rw [List.map_replicate,List.map_map]
  exact (List.map_const' ..).symm
def dd:List Int→List Int
  | []=>[]
  | x :: xs=>x :: (dd xs).filter fun y=>decide (y≠x)
theorem mem_dd:∀ {xs:List Int} {y:Int},y∈dd xs↔y∈xs
  | [],y=>Iff.rfl
  | x :: xs,y=>by
    unfold dd
    rw [List.mem_cons,List.mem_cons,List.mem_filter,mem_dd (xs:=xs)]
    constructor
    · rintro (h | h)
      · exact .inl h
      · exact .inr h.1
    · rintro (h | h)
      · exact .inl h
      · by_cases e:y=x
        · exact .inl e
        · exact .inr ⟨h,by simpa using e⟩
theorem nd_dd:∀ xs:List Int,(dd xs).Nodup
  | []=>List.nodup_nil
  | x :: xs=>by
    unfold dd
    refine List.nodup_cons.mpr ⟨fun h=>?_,List.Nodup.sublist List.filter_sublist (nd_dd xs)⟩
    have:=(List.mem_filter.mp h).2
    simp at this
def Zbl (sh a b:Int):Bool:=decide (V.int (a % sh)=V.int (b % sh))
theorem sameSh_iff {sh a b:Int}:Zbl sh a b=true↔a % sh=b % sh:=by
  unfold Zbl
  rw [decide_eq_true_eq]
  exact ⟨fun h=>by injection h,fun h=>by rw [h]⟩
def hist (sh:Int) (row:List Int) (b:Int) (i:Nat):List Int:=(row.take i).reverse.filter fun x=>Zbl sh x b
theorem ZiQ (sh a:Int):Zbl sh a a=true:=sameSh_iff.mpr rfl
def benAt (sh:Int) (row:List Int) (j:Nat):Option Int:=if row.getD j 0∈hist sh row (row.getD j 0) j then some ((dd ((hist sh row (row.getD j 0) j).takeWhile fun y=>decide (y≠row.getD j 0))).length:Int) else none
def benF (sh:Int) (row:List Int):List (Option Int):=(List.range row.length).map (benAt sh row)
def spBen (K:PySem.W.Frag):Sp:=fun vs H Q _=>∃ (sh:Int) (a:Addr) (row:List Int),vs=[.int sh,.ref a]∧SqL K H a (row.map V.int)∧1≤sh∧sh≤64∧row.length≤400∧Bds 9999 row ∧
  ∀ (l:Addr) (H':Hp),H l=none→Same H H'→H' l=some (.lst ((benF sh row).map optV))→Q (.ref l) H'
theorem Zme (sh:Int) (row:List Int):(benF sh row).length=row.length:=by unfold benF; rw [List.length_map,List.length_range]
def seg (row:List Int) (p t:Nat):List Int:=((row.take p).drop t).reverse
theorem Zmf (row:List Int) (p t:Nat) (h:t≤p):(row.take p).reverse=seg row p t++(row.take t).reverse:=by
  unfold seg
  rw [← List.reverse_append]
  congr 1
  have e:row.take t=(row.take p).take t:=by rw [List.take_take,Nat.min_eq_left h]
  rw [e,List.take_append_drop]
theorem ZmY {row:List Int} {p t:Nat} {x:Int} (h:t<p) (hx:row[t]?=some x):seg row p t=seg row p (t+1)++[x]:=by
  unfold seg
  have hl:t<(row.take p).length:=by
    have:=(List.getElem?_eq_some_iff.mp hx).1
    rw [List.length_take]; omega
  rw [List.drop_eq_getElem_cons hl,List.reverse_cons]
  congr 1
  have e:(row.take p)[t]=x:=by
    rw [List.getElem_take]
    exact (List.getElem?_eq_some_iff.mp hx).2
  rw [e]
theorem Zmg (row:List Int) (p:Nat):seg row p p=[]:=by
  unfold seg
  rw [List.drop_eq_nil_of_le (List.length_take_le _ _)]
  rfl
theorem ZmZ {sh:Int} {row:List Int} {p:Nat} {b:Int} (hb:row.getD p 0=b) (h:b∉seg row p 0):benAt sh row p=none:=by
  unfold benAt
  rw [hb,if_neg]
  intro m
  have:=(List.mem_filter.mp m).1
  rw [Zmf row p 0 (Nat.zero_le _),List.take_zero,List.reverse_nil,List.append_nil] at this
  exact h this
theorem Zna {sh:Int} {row:List Int} {p t:Nat} {b:Int} {ks:List Int} (hb:row.getD p 0=b) (ht:t<p) (hx:row[t]?=some b) (h:b∉seg row p (t+1)) (hn:ks.Nodup) (hk:∀ x,x∈ks↔x∈(seg row p (t+1)).filter fun x=>Zbl sh x b):benAt sh row p=some (ks.length:Int):=by
  have e:hist sh row b p=((seg row p (t+1)).filter fun x=>Zbl sh x b)++b :: ((row.take t).reverse.filter fun x=>Zbl sh x b):=by
    unfold hist
    rw [Zmf row p (t+1) (by omega),List.take_succ,hx,List.reverse_append,List.filter_append]
    congr 1
    show List.filter _ (b :: (row.take t).reverse)=_
    rw [List.filter_cons,if_pos (ZiQ sh b)]
  unfold benAt
  rw [hb,e,if_pos (List.mem_append_right _ List.mem_cons_self)]
  congr 1
  have tw:(((seg row p (t+1)).filter fun x=>Zbl sh x b)++b :: ((row.take t).reverse.filter fun x=>Zbl sh x b)).takeWhile (fun y=>decide (y≠b))=(seg row p (t+1)).filter fun x=>Zbl sh x b:=by
    rw [List.takeWhile_append_of_pos,List.takeWhile_cons,if_neg (by simp),List.append_nil]
    intro y hy
    have:y≠b:=fun q=>h (q ▸ (List.mem_filter.mp hy).1)
    simpa using this
  rw [tw]
  have:=((List.perm_ext_iff_of_nodup hn (nd_dd ((seg row p (t+1)).filter fun x=>Zbl sh x b))).mpr fun x=>(hk x).trans mem_dd.symm).length_eq
  rw [this]
theorem Zok (ks:List Int) (x:Int):HO.set (fun k'=>decide (k'∈ks) || decide (k'=x)) (if decide (x∈ks)=true then ks.length else ks.length+1)=HO.set (fun k=>decide (k∈if x∈ks then ks else ks++[x])) (if x∈ks then ks else ks++[x]).length:=by
  by_cases c:x∈ks
  · rw [if_pos c,if_pos (decide_eq_true c)]
    congr 1
    funext k'
    rw [Bool.eq_iff_iff,Bool.or_eq_true,decide_eq_true_eq,decide_eq_true_eq]
    constructor
    · rintro (h | h)
      · exact h
      · rw [h]; exact c
    · exact fun h=>.inl h
  · rw [if_neg c,if_neg (by simpa using c),List.length_append]
    congr 1
    funext k'
    rw [Bool.eq_iff_iff,Bool.or_eq_true,decide_eq_true_eq,decide_eq_true_eq,decide_eq_true_eq,List.mem_append,List.mem_singleton]
section
variable {P:Program} {w:World} {K:PySem.W.Frag} {mg:Str→Option Value} {base:Heap}
def spAt (K:PySem.W.Frag):Sp:=fun vs H Q _=>∃ (sh:Int) (a:Addr) (row:List Int) (p:Nat),vs=[.int sh,.ref a,.int p]∧SqL K H a (row.map V.int)∧1≤sh∧p<row.length∧row.length≤400 ∧
  ∀ H',Same H H'→Q (optV (benAt sh row p)) H'
theorem ZgU {f:Addr} {fd:FuncData} (F:Fun K "beneath_at" "beneath_at" ZaZ f fd) (T:Txt K mg) (D_shelf_of:Def P w K mg base "shelf_of" 1 ZbU Zgx):FnOk P w K mg base CX0 2 f fd ZbG (spAt K):=by
  refine F.ok sc_beneath_at (fun vs H Q E h=>?_) (fun cdv A outer st H vs Q E hr h=>?_)
  · obtain ⟨sh,a,row,p,rfl,_⟩:=h
    rfl
  obtain ⟨sh,a,row,p,rfl,hS,hs0,hp,hl,k⟩:=h
  have nd:=sc_beneath_at.nd
  have hu:=hu_of hr
  refine ⟨_,(Zf (pst 3 nd (pe_ix (Zt (K:=K) rfl) (pv 1) (pv 2) (fun _ _=>rfl)))
      (Zf (pst 4 nd (ZjU Zlq rfl T.z_set Zlj))
      (Zf (ZcE PassesOwn.never rfl (ZeS rfl T.z_range (pc (pe_op ZeE (pv 2) Zj) (pc (pe_un ZeF Zj) (pc (pe_un ZeF Zj) Ze)))) (pgn 5 nd) (Zf (pst 6 nd (pe_ix (Zt (K:=K) rfl) (pv 1) (pv 5) (fun _ _=>rfl)))
      (Zf (ps_if (ZJ op_eq (pv 6) (pv 3) (ZF _)) (Zi (Zu (Zq Zlk rfl T.z_len PySem.boot_len (pc (pv 4) Ze)))) Zz)
      (Zi (ps_if (ZJ op_eq (Zp D_shelf_of hr.m rfl (pc (pv 0) (pc (pv 6) Ze))) (Zp D_shelf_of hr.m rfl (pc (pv 0) (pc (pv 3) Ze))) (ZF _)) (Zi (Zw (ZcW (K:=K) rfl (pe_bm PySem.F.plainAttrs_set PySem.F.slot_set_add PySem.F.type_set_add Zoa (pv 4) (pc (pv 6) Ze))))) Zz)))))
      (Zi (Zu Zkx))))),?_⟩
  have hgp:row[p]?=some row[p]:=List.getElem?_eq_getElem hp
  have hatp:atI (row.map V.int) (p:Int)=some (.int row[p]):=ZaQ (by rw [List.getElem?_map,hgp]; rfl)
  have eg:row.getD p 0=row[p]:=by rw [List.getD_eq_getElem?_getD,hgp]; rfl
  generalize row[p]=b at *
  refine ⟨_,rfl,_,rfl,a,_,_,_,rfl,rfl,hS,hatp,?_⟩
  refine ⟨rfl,fun d hd=>?_⟩
  have s0:=Zh hd (.set (fun _=>false) 0)
  have e0:(HO.set (fun _=>false) 0)=HO.set (fun k=>decide (k∈([]:List Int))) ([]:List Int).length:=by
    congr 1
  refine ⟨_,rfl,_,_,rfl,rfl,_,rfl,_,rfl,_,_,rfl,⟨by omega,by omega,by omega,by omega⟩,Zgi (hi:=(p:Int) - 1) (n:=((p:Int) - 1 - -1).toNat) (fun j σ G=>∃ (v5 v6:Option V) (ks:List Int),σ=[some (.int sh),some (.ref a),some (.int p),some (.int b),some (.ref d),v5,v6]∧b∉seg row p (p - j)∧ks.Nodup∧(∀ x,x∈ks↔x∈(seg row p (p - j)).filter fun x=>Zbl sh x b)∧G d=some (.set (fun k=>decide (k∈ks)) ks.length)∧Same H G)
    ⟨none,none,[],rfl,by rw [Nat.sub_zero,Zmg]; simp,List.nodup_nil,by rw [Nat.sub_zero,Zmg]; simp,by rw [Za,e0],s0⟩ ?_ ?_⟩
  · rintro j σ G hj ⟨v5,v6,ks,rfl,hseg,hnd,hks,hd2,s3⟩
    have hjp:j<p:=by omega
    have hml:p - 1 - j<row.length:=by omega
    have hget:row[p - 1 - j]?=some row[p - 1 - j]:=List.getElem?_eq_getElem hml
    have hat:atI (row.map V.int) ((p:Int) - 1 - (j:Int))=some (.int row[p - 1 - j]):=by
      have q:atI (row.map V.int) ((p - 1 - j:Nat):Int)=some (.int row[p - 1 - j]):=ZaQ (by rw [List.getElem?_map,hget]; rfl)
      rw [show ((p - 1 - j:Nat):Int)=(p:Int) - 1 - (j:Int) by omega] at q
      exact q
    rw [show p - j=(p - 1 - j)+1 by omega] at hseg hks
    generalize hm:p - 1 - j=m at *
    generalize row[m]=z at *
    refine ⟨_,rfl,_,rfl,a,_,_,_,rfl,rfl,s3.seq hS,hat,?_⟩
    refine ⟨_,rfl,_,rfl,rfl,_,rfl,?_⟩
    by_cases c:z=b
    · refine ifT (by simp [c]) ?_
      rw [c] at hget
      have hben:=Zna (sh:=sh) eg (by omega) hget hseg hnd hks
      refine ⟨_,rfl,d,_,_,rfl,hd2,?_⟩
      have q:=k G s3
      rw [hben] at q
      exact q
    · refine ifF (by simp [c]) ?_
      have est:=ZmY (p:=p) (by omega) hget
      have hseg':b∉seg row p m:=by
        rw [est]
        intro q
        rcases List.mem_append.mp q with q | q
        · exact hseg q
        · exact c (List.mem_singleton.mp q).symm
      have kl:ks.length≤400:=by
        have h1:=((List.perm_ext_iff_of_nodup hnd (nd_dd ((seg row p (m+1)).filter fun x=>Zbl sh x b))).mpr fun x=>(hks x).trans mem_dd.symm).length_eq
        have h2:∀ l:List Int,(dd l).length≤l.length:=fun l=>by
          induction l with
          | nil=>exact Nat.le_refl _
          | cons y l ih =>
            unfold dd
            have:=List.length_filter_le (fun z=>decide (z≠y)) (dd l)
            rw [List.length_cons,List.length_cons]; omega
        have h3:=h2 ((seg row p (m+1)).filter fun x=>Zbl sh x b)
        have h4:=List.length_filter_le (fun x=>Zbl sh x b) (seg row p (m+1))
        have h5:(seg row p (m+1)).length≤row.length:=by unfold seg; rw [List.length_reverse,List.length_drop,List.length_take]; omega
        omega
      have em:p - (j+1)=m:=by omega
      refine ⟨_,rfl,_,rfl,sh,z,rfl,hs0,_,rfl,_,rfl,sh,b,rfl,hs0,rfl,_,rfl,?_⟩
      refine ZmT (fun c2=>?_) (fun c2=>?_)
      · refine ⟨_,rfl,.inr (.inr (.inr ⟨rfl,_,_,hd2⟩)),_,rfl,d,_,_,z,rfl,rfl,hd2,by omega,?_⟩
        rw [Zok]
        refine ⟨_,_,(if z∈ks then ks else ks++[z]),rfl,by rw [em]; exact hseg',?_,fun x=>?_,Za,fun e u y=>by rw [Zb (Zd y hd)]; exact s3 _ _ y⟩
        · split
          · exact hnd
          · rename_i nin; exact ZdL hnd nin
        · rw [em,est,List.filter_append,List.mem_append,← hks x]
          have e1:List.filter (fun x=>Zbl sh x b) [z]=[z]:=by rw [List.filter_cons,if_pos (show Zbl sh z b=true from c2)]; rfl
          rw [e1]
          by_cases cin:z∈ks
          · rw [if_pos cin]
            constructor
            · exact fun q=>.inl q
            · rintro (q | q)
              · exact q
              · rw [List.mem_singleton.mp q]; exact cin
          · rw [if_neg cin,List.mem_append]
      · refine ⟨_,_,ks,rfl,by rw [em]; exact hseg',hnd,fun x=>?_,hd2,s3⟩
        rw [em,est,List.filter_append,List.mem_append,← hks x]
        have e1:List.filter (fun x=>Zbl sh x b) [z]=[]:=by rw [List.filter_cons,if_neg (show ¬ Zbl sh z b=true from c2)]; rfl
        rw [e1]
        simp
  · rintro σ G ⟨v5,v6,ks,rfl,hseg,hnd,hks,hd2,s3⟩
    rw [show p - ((p:Int) - 1 - -1).toNat=0 by omega] at hseg
    have hben:=ZmZ (sh:=sh) eg hseg
    have q:=k G s3
    rw [hben] at q
    exact q
theorem Zkr {f:Addr} {fd:FuncData} (F:Fun K "beneath" "beneath" Zch f fd) (T:Txt K mg) (D_beneath_at:Def P w K mg base "beneath_at" 2 ZbG (spAt K)):FnOk P w K mg base CX0 3 f fd ZcH (spBen K):=by
  refine F.ok sc_beneath (fun vs H Q E h=>?_) (fun cdv A outer st H vs Q E hr h=>?_)
  · obtain ⟨sh,a,row,rfl,_⟩:=h
    rfl
  obtain ⟨sh,a,row,rfl,hS,hs0,hs1,hl,bd,k⟩:=h
  have nd:=sc_beneath.nd
  refine ⟨_,(Zi (Zu (Zbz (ZK (osc:=(Zc Zch)) (oN:=ZhG) (N:=["at", "shelves", "row"]) (own:=1) (js:=[0,1]) (by decide +kernel) rfl rfl) rfl (Zcb rfl T.z_range (pc (Zq (Zy (K:=K) rfl) rfl T.z_len PySem.boot_len (pc (pv 1) Ze)) Ze)) (fun _ _ _ _ _ _=>(pgn 0 (show List.Nodup (["at", "shelves", "row"]:List Str) by decide +kernel))) (fun _ _ _ _ _ _=>(Zp D_beneath_at hr.m rfl (pc (pv 1) (pc (pv 2) (pc (pv 0) Ze)))))))),?_⟩
  have len:(row.map V.int).length=row.length:=List.length_map ..
  refine ⟨_,rfl,a,_,rfl,.inl hS,_,rfl,by omega,by omega,fun l hlf=>?_⟩
  rw [len,show ((row.length:Int)).toNat=row.length by omega]
  refine Zcs (lo:=0) (n:=row.length) (l:=l) (fun j ys σ' G'=>∃ v0:Option V,σ'=[v0,some (.int sh),some (.ref a)]∧ys=((List.range j).map (benAt sh row)).map optV∧G' l=some (.lst ys)∧Same H G')
    ⟨none,rfl,rfl,Za,Zh hlf _⟩ ?_ ?_
  · rintro j ys σ' G' hj hys ⟨v0,rfl,rfl,q1,q2⟩
    refine ⟨_,rfl,_,rfl,_,rfl,sh,a,row,j,by rw [Int.zero_add]; rfl,q2.seq hS,hs0,hj,hl,fun G2 t2=>?_⟩
    refine CNx.of (Nat.le_of_lt (Zv (by omega))) hj hys (t2 _ _ q1) ⟨_,rfl,?_,Za,fun e o y=>by rw [Zb (Zd y hlf)]; exact t2 _ _ (q2 _ _ y)⟩
    rw [List.range_succ,List.map_append,List.map_append]
    rfl
  rintro ys σ' G' _ ⟨v0,rfl,rfl,q1,q2⟩
  exact k l G' hlf q2 q1
end
section
variable {P:Program} {w:World} {K:PySem.W.Frag} {mg:Str→Option Value} {base:Heap}
def spAsk (K:PySem.W.Frag):Sp:=fun vs H Q _=>∃ (p:Addr) (b sh pl:Int) (ru:Str) (ls:Addr) (ads:List Addr) (du:Addr) (seq:List Int) (us:Int→Int) (n:Nat),vs=[.ref p,.int b]∧RoomAt K H p sh pl ru ls ads du seq us n∧Tb K H∧n≤900∧seq.length≤900∧1≤pl∧(Zn sh (b % sh) seq).length<64 ∧
  (∀ (t:Addr) (H':Hp),b∈seq→H t=none→RoomAt K H' p sh pl ru ls ads du (if ru = "old" then seq.erase b++[b] else seq) (bump us b) (n+1)→SR ads du H H'→H' t=some (.tup [.bl true,.non])→Q (.ref t) H') ∧
  ∀ (t:Addr) (gone:Option Int) (H':Hp),b∉seq→H t=none→goneP ru us pl (Zn sh (b % sh) seq) gone→RoomAt K H' p sh pl ru ls ads du (lessO seq gone++[b]) (zero us b) (n+1)→SR ads du H H'→H' t=some (.tup [.bl false,optV gone])→Q (.ref t) H'
theorem SR.free {ads:List Addr} {du:Addr} {H H':Hp} {p:Addr} {sh pl:Int} {ru:Str} {ls:Addr} {seq:List Int} {us:Int→Int} {n:Nat} (s:SR ads du H H') (R':RoomAt K H' p sh pl ru ls ads du seq us n) {t:Addr} (h:H' t=none):H t=none:=by
  cases q:H t with
  | none=>rfl
  | some o =>
    have n1:t≠du:=fun z=>by
      obtain ⟨kvs,e,_⟩:=R'.dc
      rw [z,e] at h; cases h
    have n2:t∉ads:=fun z=>by
      obtain ⟨xs,e⟩:=R'.st.one z
      rw [e] at h; cases h
    rw [s _ _ q n1 n2] at h
    cases h
theorem Zpg {f:Addr} {fd:FuncData} (F:Fun K "ask" "ask" s_ask f fd) (T:Txt K mg) (M_Room_has:MDef P w K mg base (clsOf K "Room") "has" 1 ZaU (spHas K)) (M_Room_use:MDef P w K mg base (clsOf K "Room") "use" 3 ZbX (spUse K)) (M_Room_bring:MDef P w K mg base (clsOf K "Room") "bring" 4 ZaW (ZgB K)):FnOk P w K mg base CX0 5 f fd P_ask (spAsk K):=by
  refine F.ok sc_ask (fun vs H Q E h=>?_) (fun cdv A outer st H vs Q E hr h=>?_)
  · obtain ⟨p,b,sh,pl,ru,ls,ads,du,seq,us,n,rfl,_⟩:=h
    rfl
  obtain ⟨p,b,sh,pl,ru,ls,ads,du,seq,us,n,rfl,R,tb,hn,hsl,hpl,h64,k1,k2⟩:=h
  have nd:=sc_ask.nd
  refine ⟨_,(Zf (ps_if (Zbb (Zk M_Room_has hr.m T.cl_Room (pv 0) (pc (pv 1) Ze))) (Zf (Zw (Zk M_Room_use hr.m T.cl_Room (pv 0) (pc (pv 1) Ze)))
      (Zi (Zu (Zbd (pc pe_bl (pc Zkx Ze)))))) Zz)
      (Zi (Zu (Zbd (pc pe_bl (pc (Zk M_Room_bring hr.m T.cl_Room (pv 0) (pc (pv 1) Ze)) Ze)))))),?_⟩
  obtain ⟨dx,h1⟩:=R.ob
  refine ⟨_,rfl,p,dx,_,rfl,h1,fl_no ..,_,rfl,p,b,sh,pl,ru,ls,ads,du,seq,us,n,rfl,R,_,rfl,?_⟩
  refine Zbn (fun c=>?_) (fun c=>?_)
  · refine ⟨_,rfl,p,dx,_,rfl,h1,fl_no ..,_,rfl,p,b,sh,pl,ru,ls,ads,du,seq,us,n,rfl,R,hn,c,hsl,fun H1 R1 s1=>?_⟩
    exact ⟨(by show 2≤sizeLine; decide),fun t ht=>k1 t _ c (s1.free R1 ht) (R1.same (Zh ht _)) (s1.trans (SR.of (Zh ht _))) Za⟩
  · refine ⟨_,rfl,p,dx,_,rfl,h1,fl_no ..,_,rfl,p,b,sh,pl,ru,ls,ads,du,seq,us,n,rfl,R,tb,hn,c,hpl,h64,fun gone H1 gp R1 s1=>?_⟩
    exact ⟨(by show 2≤sizeLine; decide),fun t ht=>k2 t gone _ c (s1.free R1 ht) gp (R1.same (Zh ht _)) (s1.trans (SR.of (Zh ht _))) Za⟩
end
noncomputable def runS (c:Cf):RS→List Int→RS
  | s,[]=>s
  | s,b :: r=>runS c (askR c s b) r
theorem ZjH (c:Cf) (b:Int):∀ (r:List Int) (s:RS),runS c s (r++[b])=askR c (runS c s r) b
  | [],_=>rfl
  | _ :: r,s=>ZjH c b r _
theorem ZjI (c:Cf) (b:Int):∀ (r:List Int) (s:RS),runB c s (r++[b])=runB c s r++[decide (b∈(runS c s r).1)]
  | [],_=>rfl
  | x :: r,s=>congrArg (decide (x∈s.1) :: ·) (ZjI c b r _)
def Zmh (K:PySem.W.Frag):Sp:=fun vs H Q _=>∃ (c:Cf) (a:Addr) (row:List Int),vs=[.int c.sh,.int c.pl,.str c.ru,.ref a]∧SqL K H a (row.map V.int)∧1≤c.sh∧c.sh≤64∧1≤c.pl∧c.pl≤16∧row.length≤400∧Tb K H ∧
  ∀ (l:Addr) (as:List Addr) (H':Hp),H l=none→Same H H'→H' l=some (.lst (as.map V.ref))→as.length=row.length→(∀ (m:Nat) (ad:Addr) (f:Bool),as[m]?=some ad→(runB c ([],fun _=>0) row)[m]?=some f→∃ o,H' ad=some (.tup [.bl f,optV o]))→Q (.ref l) H'
section
variable {P:Program} {w:World} {K:PySem.W.Frag} {mg:Str→Option Value} {base:Heap}
theorem Zks {f:Addr} {fd:FuncData} (F:Fun K "run_row" "run_row" Zcg f fd) (T:Txt K mg) (K_Room:KDef P w K mg base (clsOf K "Room") "Room" 1 Zbp (ZjA K)) (D_ask:Def P w K mg base "ask" 5 P_ask (spAsk K)):FnOk P w K mg base CX0 7 f fd ZcG (Zmh K):=by
  refine F.ok sc_run_row (fun vs H Q E h=>?_) (fun cdv A outer st H vs Q E hr h=>?_)
  · obtain ⟨c,a,row,rfl,_⟩:=h
    rfl
  obtain ⟨c,a,row,rfl,hS,hs0,hs1,hp0,hp1,hl,tb,k⟩:=h
  have nd:=sc_run_row.nd
  refine ⟨_,(Zf (pst 4 nd (Zds K_Room hr.m rfl (pc (pv 0) (pc (pv 1) (pc (pv 2) Ze)))))
      (Zi (Zu (Zbz (ZK (osc:=(Zc Zcg)) (oN:=ZhE) (N:=["board", "room"]) (own:=1) (js:=[4]) (by decide +kernel) rfl rfl) rfl (Zco (K:=K) rfl (pv 3)) (fun _ _ _ _ _ _=>(pgn 0 (show List.Nodup (["board", "room"]:List Str) by decide +kernel))) (fun _ _ _ _ _ _=>(Zp D_ask hr.m rfl (pc (pv 1) (pc (pv 0) Ze)))))))),?_⟩
  refine ⟨_,rfl,_,rfl,_,rfl,fun x dx nx ndx ne=>?_⟩
  have s0:Same H (upd (upd H dx (.own x)) x (.ins (clsOf K "Room") dx [])):=fun b o e=>by
    rw [Zb (Zd e nx),Zb (Zd e ndx)]
    exact e
  refine ⟨x,dx,c.sh,c.pl,c.ru,rfl,Za,hs0,hs1,fun ls ads du H1 R1 fl fd' fa o1=>⟨rfl,?_⟩⟩
  have s1:Same H H1:=fun b o e=>o1 b o (s0 b o e) (Zd e nx)
  have fls:=s0.free fl
  have fdu:=s0.free fd'
  have fads:∀ ad∈ads,H ad=none:=fun ad m=>s0.free (fa ad m)
  refine gN ?_
  dsimp only
  refine ⟨_,rfl,a,rfl,⟨_,s1.seq hS⟩,fun l hl'=>?_⟩
  have hlH:H l=none:=s1.free hl'
  have nll:l≠ls:=fun z'=>by rw [z',R1.st.top] at hl'; cases hl'
  have nlx:l∉ads∧l≠du:=by
    refine ⟨fun m=>?_,fun z=>?_⟩
    · obtain ⟨xs,e⟩:=R1.st.one m
      rw [e] at hl'; cases hl'
    · obtain ⟨kvs,e,_⟩:=R1.dc
      rw [z,e] at hl'; cases hl'
  refine Zct (K:=K) (a:=a) (xs:=row.map V.int) (l:=l) (fun j ys σ' G=>∃ (v0:Option V) (as:List Addr) (s:RS),σ'=[v0,some (.ref x)]∧ys=as.map V.ref∧as.length=j∧G l=some (.lst ys)∧s=runS c ([],fun _=>0) (row.take j)∧RoomAt K G x c.sh c.pl c.ru ls ads du s.1 s.2 j∧(∀ k,((Zn c.sh k s.1).length:Int)≤c.pl)∧s.1.length≤j ∧
      (∀ (m:Nat) (ad:Addr) (f:Bool),as[m]?=some ad→(runB c ([],fun _=>0) (row.take j))[m]?=some f→∃ o,G ad=some (.tup [.bl f,optV o]))∧Same H G)
    ⟨none,[],_,rfl,rfl,rfl,Za,rfl,R1.same (Zh hl' _),fun k=>by show ((0:Nat):Int)≤c.pl; omega,Nat.le_refl _,fun m ad f h=>(by simp at h),s1.trans (Zh hl' _)⟩ (fun j ys σ' G _ ⟨_,_,_,_,_,_,_,_,_,_,_,_,q⟩=>q.seq hS) ?_ ?_
  · rintro j y ys σ' G hj hy hys ⟨v0,as,s,rfl,rfl,hlen,g1,es,R,cap,lsq,q2,s2⟩
    obtain ⟨z,hz,rfl⟩:=Zgw hy
    have hjr:j<row.length:=(List.getElem?_eq_some_iff.mp hz).1
    have c64:(Zn c.sh (z % c.sh) s.1).length<64:=by have:=cap (z % c.sh); omega
    have tb2:Tb K G:=tb.same s2
    have tk:row.take (j+1)=row.take j++[z]:=by rw [List.take_succ,hz]; rfl
    have e1:runS c ([],fun _=>0) (row.take (j+1))=askR c s z:=by rw [tk,ZjH,es]
    have e2:runB c ([],fun _=>0) (row.take (j+1))=runB c ([],fun _=>0) (row.take j)++[decide (z∈s.1)]:=by rw [tk,ZjI,es]
    have rl:(runB c ([],fun _=>0) (row.take j)).length=j:=by rw [ZeA,List.length_take]; omega
    have fin:∀ (t:Addr) (H':Hp) (o:Option Int),G t=none→RoomAt K H' x c.sh c.pl c.ru ls ads du (askR c s z).1 (askR c s z).2 (j+1)→SR ads du G H'→H' t=some (.tup [.bl (decide (z∈s.1)),optV o])→(∀ k,((Zn c.sh k (askR c s z).1).length:Int)≤c.pl)→(askR c s z).1.length≤j+1 →
        CNx (row.map V.int).length l (fun j ys σ' G=>∃ (v0:Option V) (as:List Addr) (s:RS),σ'=[v0,some (.ref x)]∧ys=as.map V.ref∧as.length=j∧G l=some (.lst ys)∧s=runS c ([],fun _=>0) (row.take j)∧RoomAt K G x c.sh c.pl c.ru ls ads du s.1 s.2 j∧(∀ k,((Zn c.sh k s.1).length:Int)≤c.pl)∧s.1.length≤j ∧
          (∀ (m:Nat) (ad:Addr) (f:Bool),as[m]?=some ad→(runB c ([],fun _=>0) (row.take j))[m]?=some f→∃ o,G ad=some (.tup [.bl f,optV o]))∧Same H G) j (as.map V.ref) [some (.int z),some (.ref x)] (.ref t) H':=by
      intro t H' o ht R' sr hH' cap' ls'
      have ntl:l≠t:=Zd g1 ht
      have g1':=sr _ _ g1 nlx.2 nlx.1
      have sG:Same H H':=fun b o e=>sr _ _ (s2 _ _ e) (Zd e fdu) fun m=>by rw [fads b m] at e; cases e
      refine CNx.of (Nat.le_of_lt (Zv (by rw [List.length_map]; omega))) hj hys g1' ⟨_,as++[t],askR c s z,rfl,by rw [List.map_append]; rfl,by rw [List.length_append,hlen]; rfl,Za,e1.symm,?_,cap',ls',fun m ad f' hm hf'=>?_,?_⟩
      · obtain ⟨o1',o2',o3',o4',o5',o6'⟩:=R'.off
        obtain ⟨dx',w1⟩:=R'.ob
        obtain ⟨kvs,w2,w3⟩:=R'.dc
        have nxl:x≠l:=fun z'=>by rw [z',g1'] at w1; cases w1
        exact ⟨⟨dx',by rw [Zb nxl]; exact w1⟩,R'.st.other _ nll nlx.1,⟨kvs,by rw [Zb (Ne.symm nlx.2)]; exact w2,w3⟩,R'.nd,R'.s0,R'.s1⟩
      · rw [e2] at hf'
        by_cases hmj:m<as.length
        · rw [List.getElem?_append_left hmj] at hm
          rw [List.getElem?_append_left (by omega)] at hf'
          obtain ⟨o',q⟩:=q2 m ad f' hm hf'
          have nal:ad≠l:=fun e=>by rw [e,g1] at q; cases q
          refine ⟨o',?_⟩
          rw [Zb nal]
          exact sr.keep R q (fun _ e=>by cases e) fun _ e=>by cases e
        · rw [List.getElem?_append_right (by omega)] at hm
          have em:m=as.length:=by
            have:=(List.getElem?_eq_some_iff.mp hm).1
            simp at this; omega
          subst em
          rw [Nat.sub_self] at hm
          cases hm
          rw [List.getElem?_append_right (by omega),rl,hlen,Nat.sub_self] at hf'
          cases hf'
          refine ⟨o,?_⟩
          rw [Zb (Ne.symm ntl)]
          exact hH'
      · intro e o y'
        rw [Zb (Zd y' hlH)]
        exact sG _ _ y'
    refine ⟨_,rfl,_,rfl,x,z,c.sh,c.pl,c.ru,ls,ads,du,s.1,s.2,j,rfl,R,tb2,by omega,by omega,hp0,c64,fun t H' hin ht R' sr hH'=>?_,fun t gone H' hin ht gp R' sr hH'=>?_⟩
    · have ea:askR c s z=useR c s z:=by unfold askR; rw [if_pos hin]
      have pm:(useR c s z).1.Perm s.1:=by
        unfold useR
        show (if c.ru = "old" then s.1.erase z++[z] else s.1).Perm s.1
        split
        · exact (List.perm_append_comm.trans (List.perm_cons_erase hin).symm)
        · exact List.Perm.refl _
      refine fin t H' none ht (by rw [ea]; exact R') sr (by rw [decide_eq_true hin]; exact hH') (by rw [ea]; exact ZhR cap pm) ?_
      rw [ea,pm.length_eq]; omega
    · have eg:=Zev (c:=c) (s:=s) (b:=z) gp
      have ea:askR c s z=(lessO s.1 gone++[z],zero s.2 z):=by
        unfold askR
        rw [if_neg hin,eg]
        cases gone <;> rfl
      refine fin t H' gone ht (by rw [ea]; exact R') sr (by rw [decide_eq_false hin]; exact hH') ?_ ?_
      · rw [ea]
        refine ZlG (ZhQ cap less_sub) ?_
        by_cases cc:((Zn c.sh (z % c.sh) s.1).length:Int)<c.pl
        · rw [gp.1 cc]; exact cc
        · obtain ⟨g,rest,rfl,pm,_⟩:=gp.2 cc
          have mg:g∈Zn c.sh (z % c.sh) s.1:=pm.mem_iff.mp List.mem_cons_self
          have le:(Zn c.sh (z % c.sh) (s.1.erase g)).length<(Zn c.sh (z % c.sh) s.1).length:=by
            rw [Zba,List.length_erase_of_mem mg]
            have:=List.length_pos_of_mem mg
            omega
          have:=cap (z % c.sh)
          show ((Zn c.sh (z % c.sh) (s.1.erase g)).length:Int)<c.pl
          omega
      · rw [ea,List.length_append]
        have:=(less_sub (seq:=s.1) (g:=gone)).length_le
        have:[z].length=1:=rfl
        show (lessO s.1 gone).length+1≤j+1
        omega
  · rintro ys σ' G hys ⟨v0,as,s,rfl,rfl,hlen,g1,es,R,cap,lsq,q2,s2⟩
    rw [List.length_map] at hlen
    rw [List.length_map,List.take_length] at q2
    exact k l as G hlH s2 g1 hlen q2
end
def Sc:V→Prop
  | .int _=>True
  | .bl _=>True
  | .non=>True
  | .str _=>True
  | _=>False
def Eqv:Nat→Hp→V→V→Prop
  | 0,_,x,y=>x=y∧Sc x
  | n+1,H,x,y=>(x=y∧Sc x)∨∃ (a b:Addr) (xs ys:List V),x=.ref a∧y=.ref b∧((H a=some (.lst xs)∧H b=some (.lst ys))∨(H a=some (.tup xs)∧H b=some (.tup ys)))∧xs.length=ys.length∧xs.length≤1000∧∀ (i:Nat) (u v:V),xs[i]?=some u→ys[i]?=some v→Eqv n H u v
theorem Eqv.same:∀ {n:Nat} {H H':Hp} {x y:V},Eqv n H x y→Same H H'→Eqv n H' x y
  | 0,_,_,_,_,h,_=>h
  | n+1,H,H',x,y,h,s=>by
    rcases h with h | ⟨a,b,xs,ys,h1,h2,h3,h5,h6,h7⟩
    · exact .inl h
    · refine .inr ⟨a,b,xs,ys,h1,h2,?_,h5,h6,fun i u v e1 e2=>(h7 i u v e1 e2).same s⟩
      rcases h3 with ⟨h3,h4⟩ | ⟨h3,h4⟩
      · exact .inl ⟨s _ _ h3,s _ _ h4⟩
      · exact .inr ⟨s _ _ h3,s _ _ h4⟩
theorem Eqv.flat {H:Hp} {a b:Addr} {xs:List V} (ha:H a=some (.lst xs)) (hb:H b=some (.lst xs)) (hl:xs.length≤1000) (hs:∀ x∈xs,Sc x):Eqv 1 H (.ref a) (.ref b) :=
  .inr ⟨a,b,xs,xs,rfl,rfl,.inl ⟨ha,hb⟩,rfl,hl,fun i u v e1 e2=>by rw [e1] at e2; cases e2; exact ⟨rfl,hs u (List.mem_of_getElem? e1)⟩⟩
def ZgV (n:Nat):Sp:=fun vs H Q _=>∃ x y,vs=[x,y]∧Eqv n H x y∧∀ H',Same H H'→Q (.bl true) H'
theorem tyT {H:Hp} {a:Addr} {xs:List V} (h:H a=some (.tup xs)):tyN H (.ref a)=some "tuple" := by simp only [tyN,h]
theorem tyL {H:Hp} {a:Addr} {xs:List V} (h:H a=some (.lst xs)):tyN H (.ref a)=some "list" := by simp only [tyN,h]
section
variable {P:Program} {w:World} {K:PySem.W.Frag} {mg:Str→Option Value} {base:Heap}
theorem Zmi {n:Nat} {sp0:Sp} (hsp:∀ m,n=m+1→sp0=ZgV m) {f:Addr} {fd:FuncData} (F:Fun K "_law_same" "_law_same" Zed f fd) (T:Txt K mg) (D_same:Def P w K mg base "_law_same" n Zee sp0):FnOk P w K mg base CX0 (n+1) f fd Zee (ZgV n):=by
  refine F.ok sc_same (fun vs H Q E h=>?_) (fun cdv A outer st H vs Q E hr h=>?_)
  · obtain ⟨x,y,rfl,_⟩:=h
    rfl
  obtain ⟨x,y,rfl,h,k⟩:=h
  have nd:=sc_same.nd
  refine ⟨_,(Zf (ps_if (Zbb (Zq Zhp rfl T.z_isinstance ZbA (pc (pv 1) (pc (Zbd (pc (ZbI (v:=.ty "list") rfl T.z_list ZG rfl) (pc (ZbI (v:=.ty "tuple") rfl T.z_tuple ZcB rfl) Ze))) Ze)))) (Zf (ps_if (PW.pt (pw_or (ZeC (Zbb (Zq Zhp rfl T.z_isinstance ZbA (pc (pv 0) (pc (Zbd (pc (ZbI (v:=.ty "list") rfl T.z_list ZG rfl) (pc (ZbI (v:=.ty "tuple") rfl T.z_tuple ZcB rfl) Ze))) Ze))))) (ZiW (ZJ op_ne (Zq Zcn rfl T.z_isinstance ZbA (pc (pv 0) (pc (ZbI (v:=.ty "list") rfl T.z_list ZG rfl) Ze))) (Zq Zcn rfl T.z_isinstance ZbA (pc (pv 1) (pc (ZbI (v:=.ty "list") rfl T.z_list ZG rfl) Ze))) (ZF _))))) (Zi (Zu pe_bl)) Zz)
      (Zi (Zu (ZiY (ZbJ op_eq (Zq (Zy (K:=K) rfl) rfl T.z_len PySem.boot_len (pc (pv 0) Ze)) (Zq (Zy (K:=K) rfl) rfl T.z_len PySem.boot_len (pc (pv 1) Ze)) (ZF _)) (ZiX (Zq (ZkW rfl) rfl T.z_all ZmA (pc (Zbz (ZK (osc:=(Zc Zed)) (oN:=Znr) (N:=["_law_one", "_law_other"]) (own:=2) (js:=[]) (by decide +kernel) rfl rfl) rfl (ZnU rfl T.z_zip (pc (pv 0) (pc (pv 1) Ze))) (fun _ _ _ _ _ _=>(ZT (K:=K) (n:=2) rfl rfl (Zo (pgn 0 (show List.Nodup (["_law_one", "_law_other"]:List Str) by decide +kernel)) (Zo (pgn 1 (show List.Nodup (["_law_one", "_law_other"]:List Str) by decide +kernel)) ZS)))) (fun _ _ _ _ _ _=>(Zp D_same hr.m rfl (pc (pv 0) (pc (pv 1) Ze))))) Ze))))))) Zz)
      (Zf (ps_if (PW.pt (pw_or (ZgY (Zky (pv 1))) (ZiW (Zbb (Zq Zcn rfl T.z_isinstance ZbA (pc (pv 1) (pc (ZbI (v:=.ty "str") rfl T.z_str ZeR rfl) Ze))))))) (Zi (Zu (ZiY (ZbJ op_eq (pv 0) (pv 1) (ZF _)) (ZiX (ZbJ op_eq (Zq Zcn rfl T.z_isinstance ZbA (pc (pv 0) (pc (ZbI (v:=.ty "str") rfl T.z_str ZeR rfl) Ze))) (Zq Zcn rfl T.z_isinstance ZbA (pc (pv 1) (pc (ZbI (v:=.ty "str") rfl T.z_str ZeR rfl) Ze))) (ZF _)))))) Zz)
      (Zi (Zu (ZiY (Zq Zcn rfl T.z_isinstance ZbA (pc (pv 0) (pc (ZbI (v:=.ty "int") rfl T.z_int Zdn rfl) Ze))) (ZiY (ZbJ op_eq (Zq Zcn rfl T.z_isinstance ZbA (pc (pv 0) (pc (ZbI (v:=.ty "bool") rfl T.z_bool ZfN rfl) Ze))) (Zq Zcn rfl T.z_isinstance ZbA (pc (pv 1) (pc (ZbI (v:=.ty "bool") rfl T.z_bool ZfN rfl) Ze))) (ZF _)) (ZiX (ZbJ op_eq (pv 0) (pv 1) (ZF _))))))))),?_⟩
  have split:(x=y∧Sc x)∨∃ (m:Nat) (a b:Addr) (xs ys:List V),n=m+1∧x=.ref a∧y=.ref b∧((H a=some (.lst xs)∧H b=some (.lst ys))∨(H a=some (.tup xs)∧H b=some (.tup ys)))∧xs.length=ys.length∧xs.length≤1000∧∀ (i:Nat) (u v:V),xs[i]?=some u→ys[i]?=some v→Eqv m H u v:=by
    cases n with
    | zero=>exact .inl h
    | succ m =>
      rcases h with h | ⟨a,b,xs,ys,h1,h2,h3,h5,h6,h7⟩
      · exact .inl h
      · exact .inr ⟨m,a,b,xs,ys,rfl,h1,h2,h3,h5,h6,h7⟩
  rcases split with ⟨rfl,hs⟩ | ⟨m,a,b,xs,ys,rfl,rfl,rfl,⟨ha,hb⟩ | ⟨ha,hb⟩,hl,hlen,hi⟩
  · have key:∀ p,H p=none→∀ o,Same H (upd H p o):=fun p hp o=>Zh hp o
    cases x with
    | int j =>
      refine ⟨_,rfl,(by show 2≤sizeLine; decide),fun p hp=>⟨_,_,_,_,p,rfl,Za,rfl,by decide,by decide,_,rfl,ifF (by decide) ?_⟩⟩
      refine ⟨_,rfl,_,rfl,ifF (by simp) ⟨_,rfl,_,_,_,rfl,rfl,by decide,_,rfl,ifF (by decide) ?_⟩⟩
      refine ⟨_,rfl,_,_,_,rfl,rfl,by decide,_,rfl,ifT (by decide) ⟨_,rfl,_,_,_,rfl,rfl,by decide,_,rfl,_,_,_,rfl,rfl,by decide,rfl,_,rfl,ifT (by decide) ⟨_,rfl,_,rfl,rfl,?_⟩⟩⟩
      rw [decide_eq_true rfl]
      exact k _ (key p hp _)
    | bl j =>
      refine ⟨_,rfl,(by show 2≤sizeLine; decide),fun p hp=>⟨_,_,_,_,p,rfl,Za,rfl,by decide,by decide,_,rfl,ifF (by decide) ?_⟩⟩
      refine ⟨_,rfl,_,rfl,ifF (by simp) ⟨_,rfl,_,_,_,rfl,rfl,by decide,_,rfl,ifF (by decide) ?_⟩⟩
      refine ⟨_,rfl,_,_,_,rfl,rfl,by decide,_,rfl,ifT (by decide) ⟨_,rfl,_,_,_,rfl,rfl,by decide,_,rfl,_,_,_,rfl,rfl,by decide,rfl,_,rfl,ifT (by decide) ⟨_,rfl,_,rfl,rfl,?_⟩⟩⟩
      rw [decide_eq_true rfl]
      exact k _ (key p hp _)
    | non =>
      refine ⟨_,rfl,(by show 2≤sizeLine; decide),fun p hp=>⟨_,_,_,_,p,rfl,Za,rfl,by decide,by decide,_,rfl,ifF (by decide) ?_⟩⟩
      refine ⟨_,rfl,_,rfl,ifT (by simp) (ifT rfl ⟨_,rfl,_,rfl,rfl,_,rfl,ifT (by decide) ⟨_,rfl,_,_,_,rfl,rfl,by decide,_,rfl,_,_,_,rfl,rfl,by decide,rfl,?_⟩⟩)⟩
      rw [decide_eq_true rfl]
      exact k _ (key p hp _)
    | str z =>
      refine ⟨_,rfl,(by show 2≤sizeLine; decide),fun p hp=>⟨_,_,_,_,p,rfl,Za,rfl,by decide,by decide,_,rfl,ifF (by decide) ?_⟩⟩
      refine ⟨_,rfl,_,rfl,ifF (by simp) ⟨_,rfl,_,_,_,rfl,rfl,by decide,_,rfl,ifT (by decide) ⟨_,rfl,_,rfl,rfl,_,rfl,ifT (by simp) ⟨_,rfl,_,_,_,rfl,rfl,by decide,_,rfl,_,_,_,rfl,rfl,by decide,rfl,?_⟩⟩⟩⟩
      rw [decide_eq_true rfl]
      exact k _ (key p hp _)
    | _=>exact hs.elim
  · have he:=hsp m rfl
    subst he
    refine ⟨_,rfl,(by show 2≤sizeLine; decide),fun p hp=>?_⟩
    have s1:=Zh hp (.tup [.ty "list",.ty "tuple"])
    refine ⟨_,_,_,_,p,rfl,Za,tyL (s1 _ _ hb),by decide,by decide,_,rfl,ifT (by decide) ?_⟩
    refine ⟨_,rfl,(by show 2≤sizeLine; decide),fun p2 hp2=>?_⟩
    have s2:=s1.trans (Zh hp2 (.tup [.ty "list",.ty "tuple"]))
    refine ⟨_,_,_,_,p2,rfl,Za,tyL (s2 _ _ ha),by decide,by decide,_,rfl,ifF (by decide) ?_⟩
    refine ⟨_,rfl,_,_,_,rfl,tyL (s2 _ _ ha),by decide,_,rfl,_,_,_,rfl,tyL (s2 _ _ hb),by decide,rfl,_,rfl,ifF (by decide) ?_⟩
    refine ⟨_,rfl,a,_,rfl,.inl (SqL.of (s2 _ _ ha)),_,rfl,b,_,rfl,.inl (SqL.of (s2 _ _ hb)),rfl,_,rfl,?_⟩
    generalize upd (upd H p (.tup [.ty "list",.ty "tuple"])) p2 (.tup [.ty "list",.ty "tuple"])=H2 at *
    refine ifT (by rw [hl]; simp) ?_
    refine ⟨_,rfl,_,rfl,a,b,rfl,.inl ⟨_,_,SqL.of (s2 _ _ ha),SqL.of (s2 _ _ hb),fun l hl'=>?_⟩⟩
    have hlH:H l=none:=s2.free hl'
    refine Zge (K:=K) (a:=a) (b:=b) (xs:=xs) (zs:=ys) (l:=l) hl (fun i zs σ H'=>∃ v0 v1:Option V,σ=[v0,v1]∧zs=(List.replicate i true).map V.bl∧H' l=some (.lst zs)∧Same H H')
      ⟨none,none,rfl,by simp,Za,s2.trans (Zh hl' _)⟩ (fun i zs σ H' _ ⟨_,_,_,_,_,q⟩=>⟨SqL.of (q _ _ ha),SqL.of (q _ _ hb)⟩) ?_ ?_
    · rintro i x z t zs σ H' hii hxi hzi hzl ⟨v0,v1,rfl,rfl,h1,s3⟩ ht
      have s4:=s3.trans (Zh ht (.tup [x,z]))
      have ntl:l≠t:=Zd h1 ht
      refine ⟨t,_,rfl,SqT.of Za,rfl,_,_,rfl,_,_,rfl,rfl,?_⟩
      refine ⟨_,rfl,_,rfl,x,z,rfl,(hi i x z hxi hzi).same s4,fun H5 s5=>?_⟩
      refine CNx.of (Nat.le_of_lt (Zv hlen)) hii hzl (s5 _ _ (by rw [Zb ntl]; exact h1)) ⟨_,_,rfl,by rw [List.replicate_succ',List.map_append]; rfl,Za,?_⟩
      intro c o e
      rw [Zb (Zd e hlH)]
      exact s5 _ _ (s4 _ _ e)
    · rintro zs σ H' hzl ⟨v0,v1,rfl,rfl,h1,s3⟩
      refine ⟨l,_,rfl,SqL.of h1,?_⟩
      rw [show (List.replicate xs.length true).all id=true by rw [List.all_eq_true]; intro z hz; rw [(List.mem_replicate.mp hz).2]; rfl]
      exact k H' s3
  · have he:=hsp m rfl
    subst he
    refine ⟨_,rfl,(by show 2≤sizeLine; decide),fun p hp=>?_⟩
    have s1:=Zh hp (.tup [.ty "list",.ty "tuple"])
    refine ⟨_,_,_,_,p,rfl,Za,tyT (s1 _ _ hb),by decide,by decide,_,rfl,ifT (by decide) ?_⟩
    refine ⟨_,rfl,(by show 2≤sizeLine; decide),fun p2 hp2=>?_⟩
    have s2:=s1.trans (Zh hp2 (.tup [.ty "list",.ty "tuple"]))
    refine ⟨_,_,_,_,p2,rfl,Za,tyT (s2 _ _ ha),by decide,by decide,_,rfl,ifF (by decide) ?_⟩
    refine ⟨_,rfl,_,_,_,rfl,tyT (s2 _ _ ha),by decide,_,rfl,_,_,_,rfl,tyT (s2 _ _ hb),by decide,rfl,_,rfl,ifF (by decide) ?_⟩
    refine ⟨_,rfl,a,_,rfl,.inr (SqT.of (s2 _ _ ha)),_,rfl,b,_,rfl,.inr (SqT.of (s2 _ _ hb)),rfl,_,rfl,?_⟩
    generalize upd (upd H p (.tup [.ty "list",.ty "tuple"])) p2 (.tup [.ty "list",.ty "tuple"])=H2 at *
    refine ifT (by rw [hl]; simp) ?_
    refine ⟨_,rfl,_,rfl,a,b,rfl,.inr ⟨_,_,SqT.of (s2 _ _ ha),SqT.of (s2 _ _ hb),fun l hl'=>?_⟩⟩
    have hlH:H l=none:=s2.free hl'
    refine Zlg (K:=K) (a:=a) (b:=b) (xs:=xs) (zs:=ys) (l:=l) hl (fun i zs σ H'=>∃ v0 v1:Option V,σ=[v0,v1]∧zs=(List.replicate i true).map V.bl∧H' l=some (.lst zs)∧Same H H')
      ⟨none,none,rfl,by simp,Za,s2.trans (Zh hl' _)⟩ (fun i zs σ H' _ ⟨_,_,_,_,_,q⟩=>⟨SqT.of (q _ _ ha),SqT.of (q _ _ hb)⟩) ?_ ?_
    · rintro i x z t zs σ H' hii hxi hzi hzl ⟨v0,v1,rfl,rfl,h1,s3⟩ ht
      have s4:=s3.trans (Zh ht (.tup [x,z]))
      have ntl:l≠t:=Zd h1 ht
      refine ⟨t,_,rfl,SqT.of Za,rfl,_,_,rfl,_,_,rfl,rfl,?_⟩
      refine ⟨_,rfl,_,rfl,x,z,rfl,(hi i x z hxi hzi).same s4,fun H5 s5=>?_⟩
      refine CNx.of (Nat.le_of_lt (Zv hlen)) hii hzl (s5 _ _ (by rw [Zb ntl]; exact h1)) ⟨_,_,rfl,by rw [List.replicate_succ',List.map_append]; rfl,Za,?_⟩
      intro c o e
      rw [Zb (Zd e hlH)]
      exact s5 _ _ (s4 _ _ e)
    · rintro zs σ H' hzl ⟨v0,v1,rfl,rfl,h1,s3⟩
      refine ⟨l,_,rfl,SqL.of h1,?_⟩
      rw [show (List.replicate xs.length true).all id=true by rw [List.all_eq_true]; intro z hz; rw [(List.mem_replicate.mp hz).2]; rfl]
      exact k H' s3
def spNo:Sp:=fun _ _ _ _=>False
theorem ZjJ {f:Addr} {fd:FuncData} (F:Fun K "_law_same" "_law_same" Zed f fd) (bi:Binds K fd Zee []) (m:mg "_law_same" = some (.ref f)) (T:Txt K mg):∀ n,Def P w K mg base "_law_same" (n+1) Zee (ZgV n)
  | 0=>by
    have D0:Def P w K mg base "_law_same" 0 Zee spNo:=⟨f,fd,⟨fun _ _ _ _ h=>h.elim,fun _ _ _ _ _ _ _ _ _ _ _ _ _ h=>h.elim⟩,m,F.kp,bi⟩
    exact ⟨f,fd,Zmi (n:=0) (fun _ h=>by omega) F T D0,m,F.kp,bi⟩
  | n+1=>⟨f,fd,Zmi (n:=n+1) (fun j h=>by cases (show j=n by omega); rfl) F T (ZjJ F bi m T n),m,F.kp,bi⟩
end
abbrev eS:RS:=([],fun _=>0)
theorem ZjK (c:Cf):∀ (s:RS) (row:List Int),leftR c s row=((row.zip (runB c s row)).filter fun p=>!p.2).map Prod.fst
  | _,[]=>rfl
  | s,b :: row=>by
    show (if b∈s.1 then leftR c (askR c s b) row else b :: leftR c (askR c s b) row)=(((b,decide (b∈s.1)) :: row.zip (runB c (askR c s b) row)).filter fun p=>!p.2).map Prod.fst
    rw [List.filter_cons,ZjK c]
    by_cases e:b∈s.1
    · rw [if_pos e,decide_eq_true e]; rfl
    · rw [if_neg e,decide_eq_false e]; rfl
theorem ZeB (c:Cf):∀ (s:RS) (row:List Int),(leftR c s row).length=((runB c s row).filter fun b=>!b).length
  | _,[]=>rfl
  | s,b :: row=>by
    show (if b∈s.1 then leftR c (askR c s b) row else b :: leftR c (askR c s b) row).length=((decide (b∈s.1) :: runB c (askR c s b) row).filter fun b=>!b).length
    rw [List.filter_cons]
    by_cases e:b∈s.1
    · rw [if_pos e,decide_eq_true e,ZeB c]; rfl
    · rw [if_neg e,decide_eq_false e,List.length_cons,ZeB c]; rfl
theorem ZdI (cs:List Cf):∀ (row:List Int) (ss:List RS),(freeN cs ss row).length=row.length
  | [],_=>rfl
  | _ :: row,_=>congrArg (·+1) (ZdI cs row _)
theorem Zdk:∀ (bs:List Bool) (ns:List Nat),ns.length=(bs.filter fun b=>!b).length→bs=(ZcM bs ns).map (fun n=>decide (n=0))∧ns=((ZcM bs ns).filter fun n=>decide (n≠0)).map (· - 1)
  | [],ns,h=>by
    have:ns=[]:=List.length_eq_zero_iff.mp h
    rw [this]; exact ⟨rfl,rfl⟩
  | true :: bs,ns,h=>by
    obtain ⟨h1,h2⟩:=Zdk bs ns h
    refine ⟨?_,?_⟩
    · show true :: bs=decide (0=0) :: (ZcM bs ns).map _
      rw [← h1]; rfl
    · show ns=(((0 :: ZcM bs ns).filter fun n=>decide (n≠0))).map _
      rw [List.filter_cons,if_neg (by decide)]
      exact h2
  | false :: bs,[],h=>by simp at h
  | false :: bs,n :: ns,h=>by
    obtain ⟨h1,h2⟩:=Zdk bs ns (by simpa using h)
    refine ⟨?_,?_⟩
    · show false :: bs=decide (n+1=0) :: (ZcM bs ns).map _
      rw [← h1,decide_eq_false (by omega)]
    · show n :: ns=((((n+1) :: ZcM bs ns).filter fun n=>decide (n≠0))).map _
      rw [List.filter_cons,if_pos (decide_eq_true (by omega)),List.map_cons,← h2]
      rfl
section
variable {P:Program} {w:World} {K:PySem.W.Frag} {mg:Str→Option Value} {base:Heap}
def ZjL (K:PySem.W.Frag):Sp:=fun vs H Q _=>∃ (t a:Addr) (c:Cf) (wr:Str) (row:List Int),vs=[.ref t,.ref a]∧H t=some (.tup [.int c.sh,.int c.pl,.str c.ru,.str wr])∧SqL K H a (row.map V.int)∧1≤c.sh∧c.sh≤64∧1≤c.pl∧c.pl≤16∧row.length≤400∧Tb K H ∧
  ∀ (p lf lr:Addr) (H':Hp),H lf=none→H lr=none→Same H H'→H' p=some (.tup [.ref lf,.ref lr])→H' lf=some (.lst ((runB c eS row).map V.bl))→H' lr=some (.lst ((leftR c eS row).map V.int))→Q (.ref p) H'
theorem Zol {f:Addr} {fd:FuncData} (F:Fun K "_law_left" "_law_left" Zef f fd) (T:Txt K mg) (D_run_row:Def P w K mg base "run_row" 7 ZcG (Zmh K)):FnOk P w K mg base CX0 8 f fd ZfR (ZjL K):=by
  refine F.ok sc_left (fun vs H Q E h=>?_) (fun cdv A outer st H vs Q E hr h=>?_)
  · obtain ⟨t,a,c,wr,row,rfl,_⟩:=h
    rfl
  obtain ⟨t,a,c,wr,row,rfl,ht,hS,s0,s1,p0,p1,hl,tb,k⟩:=h
  have nd:=sc_left.nd
  refine ⟨_,(Zf (Zgd 2 (ZK (osc:=(Zc Zef)) (oN:=Zlu) (N:=["_law_pair"]) (own:=1) (js:=[]) (by decide +kernel) rfl rfl) rfl nd rfl rfl (Zco (K:=K) rfl (Zp D_run_row hr.m rfl (pc (pe_ix (ZbK (K:=K) rfl) (pv 0) Zj (fun _ _=>rfl)) (pc (pe_ix (ZbK (K:=K) rfl) (pv 0) Zj (fun _ _=>rfl)) (pc (pe_ix (ZbK (K:=K) rfl) (pv 0) Zj (fun _ _=>rfl)) (pc (pv 1) Ze)))))) (fun _ _ _ _ _ _=>(pgn 0 (show List.Nodup (["_law_pair"]:List Str) by decide +kernel))) (fun _ _ _ _ _ _=>(pe_ix (ZbK (K:=K) rfl) (pv 0) Zj (fun _ _=>rfl))))
      (Zi (Zu (Zbd (pc (pv 2) (pc (Zjh (ZK (osc:=(Zc Zef)) (oN:=Zlu) (N:=["_law_board", "_law_is_found"]) (own:=2) (js:=[]) (by decide +kernel) rfl rfl) rfl (ZkT rfl T.z_zip (pc (pv 1) (pc (pv 2) Ze))) (fun _ _ _ _ _ _=>(ZT (K:=K) (n:=2) rfl rfl (Zo (pgn 0 (show List.Nodup (["_law_board", "_law_is_found"]:List Str) by decide +kernel)) (Zo (pgn 1 (show List.Nodup (["_law_board", "_law_is_found"]:List Str) by decide +kernel)) ZS)))) (fun _ _ _ _ _ _=>(ZeC (Zbb (pv 1)))) (fun _ _ _ _ _ _=>(pv 0))) Ze)))))),?_⟩
  refine ⟨_,rfl,t,_,_,_,rfl,rfl,SqT.of ht,atI0,_,rfl,t,_,_,_,rfl,rfl,SqT.of ht,atI1,_,rfl,t,_,_,_,rfl,rfl,SqT.of ht,atI2,_,rfl,c,a,row,rfl,hS,s0,s1,p0,p1,hl,tb,fun l as H1 hl1 t1 e1 len fa=>⟨l,rfl,⟨_,SqL.of e1⟩,fun lf hlf=>?_⟩⟩
  have rl:(runB c eS row).length=row.length:=ZeA ..
  generalize hbs:runB c eS row=bs at *
  refine Zct (K:=K) (a:=l) (xs:=as.map V.ref) (l:=lf) (fun i ys σ G=>∃ v0:Option V,σ=[v0]∧ys=(bs.take i).map V.bl∧G=upd H1 lf (.lst ys)) ⟨none,rfl,rfl,rfl⟩ (fun i ys σ G _ ⟨_,_,_,e⟩=>by rw [e]; exact SqL.of (Zh hlf _ _ _ e1)) ?_ ?_
  · rintro i x ys σ G hi hxi hys ⟨v0,rfl,rfl,rfl⟩
    rw [List.length_map] at hi
    obtain ⟨ad,ead,eb⟩:∃ ad,x=V.ref ad∧as[i]?=some ad:=by
      rw [List.getElem?_map] at hxi
      cases e:as[i]? with
      | none=>rw [e] at hxi; cases hxi
      | some b=>rw [e] at hxi; exact ⟨b,(Option.some.inj hxi).symm,rfl⟩
    subst ead
    have ef:bs[i]?=some bs[i]:=List.getElem?_eq_getElem (by omega)
    generalize bs[i]=f at ef
    obtain ⟨o,eo⟩:=fa i ad f eb ef
    refine ⟨_,rfl,ad,_,_,_,rfl,rfl,SqT.of (Zh hlf _ _ _ eo),atI0,CNx.of (Nat.le_of_lt (Zv (by rw [List.length_map]; omega))) (by rw [List.length_map]; exact hi) hys Za ⟨_,rfl,by rw [List.take_succ,ef,List.map_append]; rfl,ZdK⟩⟩
  rintro ys σ G _ ⟨v0,rfl,rfl,rfl⟩
  rw [List.length_map,len,← rl,List.take_length]
  refine gN ?_
  try dsimp only
  have t2:=t1.trans (Zh hlf (.lst (bs.map V.bl)))
  have e2:upd H1 lf (.lst (bs.map V.bl)) lf=some (.lst (bs.map V.bl)):=Za
  have hlfH:H lf=none:=t1.free hlf
  generalize upd H1 lf (.lst (bs.map V.bl))=H2 at *
  have hS2:=t2.seq hS
  refine ⟨_,rfl,_,rfl,_,rfl,a,lf,rfl,⟨_,hS2⟩,⟨_,SqL.of e2⟩,fun lr hlr=>?_⟩
  have hlrH:H lr=none:=t2.free hlr
  refine Zge (K:=K) (a:=a) (b:=lf) (xs:=row.map V.int) (zs:=bs.map V.bl) (l:=lr) (by rw [List.length_map,List.length_map,rl]) (fun i ys σ G=>∃ v0 v1:Option V,σ=[v0,v1]∧ys=((((row.zip bs).take i).filter fun p=>!p.2).map Prod.fst).map V.int∧G lr=some (.lst ys)∧Same H2 G)
    ⟨none,none,rfl,rfl,Za,Zh hlr _⟩ (fun i ys σ G _ ⟨_,_,_,_,_,q⟩=>⟨q.seq hS2,SqL.of (q _ _ e2)⟩) ?_ ?_
  · rintro i x z tt ys σ G hi hx hz hys ⟨v0,v1,rfl,rfl,q1,q2⟩ htt
    obtain ⟨b,eb,rfl⟩:=Zgw hx
    obtain ⟨fl,ef,rfl⟩:∃ fl,bs[i]?=some fl∧z=V.bl fl:=by
      rw [List.getElem?_map] at hz
      cases e:bs[i]? with
      | none=>rw [e] at hz; cases hz
      | some b=>rw [e] at hz; exact ⟨b,rfl,(Option.some.inj hz).symm⟩
    have ez:(row.zip bs)[i]?=some (b,fl):=by rw [List.getElem?_zip_eq_some]; exact ⟨eb,ef⟩
    have q2':Same H2 (upd G tt (.tup [.int b,.bl fl])):=q2.trans (Zh htt _)
    refine ⟨tt,_,rfl,SqT.of Za,rfl,_,_,rfl,gN ⟨_,_,rfl,gN ⟨rfl,?_⟩⟩⟩
    try dsimp only
    refine ⟨_,rfl,_,rfl,?_⟩
    cases fl with
    | true =>
      refine ifF rfl (CNo.of hi hys ⟨_,_,rfl,?_,by rw [Zb (Zd q1 htt)]; exact q1,q2'⟩)
      rw [List.take_succ,ez,List.filter_append]
      show _=((_++List.filter (fun p=>!p.2) [(b,true)]).map Prod.fst).map V.int
      rw [show List.filter (fun p:Int×Bool=>!p.2) [(b,true)]=[] from rfl,List.append_nil]
    | false =>
      refine ifT rfl ⟨_,rfl,CNx.of (Nat.le_of_lt (Zv (by rw [List.length_map]; omega))) hi hys (by rw [Zb (Zd q1 htt)]; exact q1) ⟨_,_,rfl,?_,Za,fun e o y=>?_⟩⟩
      · rw [List.take_succ,ez,List.filter_append,List.map_append,List.map_append]
        rfl
      · rw [Zb (Zd y hlr)]
        exact q2' _ _ y
  rintro ys σ G _ ⟨v0,v1,rfl,rfl,q1,q2⟩
  rw [List.length_map,List.take_of_length_le (by rw [List.length_zip]; omega),← hbs,← ZjK] at q1
  refine ⟨(by show 2≤sizeLine; decide),fun p hp=>?_⟩
  have q3:=Zh hp (.tup [.ref lf,.ref lr])
  exact k p lf lr _ hlfH hlrH (t2.trans (q2.trans q3)) Za (q3 _ _ (q2 _ _ e2)) (q3 _ _ q1)
end
noncomputable def nF (cs:List Cf) (L:List Int):List Nat:=freeN cs (cs.map fun _=>eS) L
theorem Zmj (c:Cf) (cs:List Cf) (L:List Int):runB c eS L=(nF (c :: cs) L).map (fun n=>decide (n=0))∧nF cs (leftR c eS L)=((nF (c :: cs) L).filter fun n=>decide (n≠0)).map (· - 1):=by
  have e:nF (c :: cs) L=ZcM (runB c eS L) (nF cs (leftR c eS L)):=ZdX c cs L eS _
  rw [e]
  exact Zdk _ _ (by unfold nF; rw [ZdI,ZeB])
def opens (F:List Nat) (k:Nat):List Nat:=(List.range F.length).filter fun i=>decide (k≤F.getD i 0)
def dueK (F:List Nat) (n k:Nat) (done:List Nat):List Nat:=(List.range F.length).map fun i=>if F.getD i 0<k∨(F.getD i 0=k∧i∈done) then F.getD i 0 else n
structure Book (cs:List Cf) (F:List Nat) (k:Nat) (L:List Int):Prop where
  at_:nF cs L=(opens F k).map fun i=>F.getD i 0 - k
theorem Zph (cs:List Cf) (row:List Int):Book cs (nF cs row) 0 row:=by
  refine ⟨?_⟩
  have e:opens (nF cs row) 0=List.range (nF cs row).length:=by
    unfold opens
    rw [List.filter_eq_self]
    intro i _
    exact decide_eq_true (Nat.zero_le _)
  rw [e]
  apply List.ext_getElem?
  intro i
  rw [List.getElem?_map]
  by_cases h:i<(nF cs row).length
  · rw [List.getElem?_range h,List.getElem?_eq_getElem h]
    show some _=some ((nF cs row).getD i 0 - 0)
    rw [List.getD_eq_getElem?_getD,List.getElem?_eq_getElem h]; rfl
  · rw [List.getElem?_eq_none (by omega),List.getElem?_eq_none (by rw [List.length_range]; omega)]; rfl
theorem ZdJ {F:List Nat} {k i:Nat} (h:i∈opens F k):i<F.length∧k≤F.getD i 0:=by
  obtain ⟨h1,h2⟩:=List.mem_filter.mp h
  exact ⟨List.mem_range.mp h1,of_decide_eq_true h2⟩
theorem ZfW (F:List Nat) (k:Nat):(opens F k).filter (fun i=>decide (F.getD i 0 - k≠0))=opens F (k+1):=by
  unfold opens
  rw [List.filter_filter]
  refine List.filter_congr fun i _=>?_
  rw [Bool.eq_iff_iff,Bool.and_eq_true,decide_eq_true_eq,decide_eq_true_eq,decide_eq_true_eq]
  omega
theorem Book.run {c:Cf} {cs:List Cf} {F:List Nat} {k:Nat} {L:List Int} (b:Book (c :: cs) F k L):runB c eS L=(opens F k).map fun i=>decide (F.getD i 0=k):=by
  rw [(Zmj c cs L).1,b.at_,List.map_map]
  refine List.map_congr_left fun i hi=>?_
  have:=(ZdJ hi).2
  show decide (F.getD i 0 - k=0)=decide (F.getD i 0=k)
  rw [decide_eq_decide]
  omega
theorem Book.next {c:Cf} {cs:List Cf} {F:List Nat} {k:Nat} {L:List Int} (b:Book (c :: cs) F k L):Book cs F (k+1) (leftR c eS L):=by
  refine ⟨?_⟩
  rw [(Zmj c cs L).2,b.at_,List.filter_map,List.map_map,← ZfW]
  refine List.map_congr_left fun i hi=>?_
  show F.getD i 0 - k - 1=F.getD i 0 - (k+1)
  omega
theorem ZfX {α:Type} (g:α→Bool):∀ P:List α,(((P.zip (P.map g)).filter fun p=>!p.2).map Prod.fst)=P.filter fun i=>!g i
  | []=>rfl
  | x :: P=>by
    show (((x,g x) :: P.zip (P.map g)).filter fun p=>!p.2).map Prod.fst=_
    rw [List.filter_cons,List.filter_cons,← ZfX g P]
    cases g x <;> rfl
theorem Zkt (F:List Nat) (k:Nat):(((opens F k).zip ((opens F k).map fun i=>decide (F.getD i 0=k))).filter fun p=>!p.2).map Prod.fst=opens F (k+1):=by
  rw [ZfX,← ZfW]
  refine List.filter_congr fun i hi=>?_
  have:=(ZdJ hi).2
  rw [Bool.eq_iff_iff,Bool.not_eq_true',decide_eq_false_iff_not,decide_eq_true_eq]
  omega
theorem due_0 (F:List Nat) (n:Nat):dueK F n 0 []=List.replicate F.length n:=by
  rw [List.eq_replicate_iff]
  refine ⟨by unfold dueK; rw [List.length_map,List.length_range],fun x hx=>?_⟩
  obtain ⟨i,_,rfl⟩:=List.mem_map.mp hx
  exact if_neg (by simp)
theorem Znb (F:List Nat) (n k:Nat):dueK F n k (opens F k)=dueK F n (k+1) []:=by
  unfold dueK
  refine List.map_congr_left fun i hi=>?_
  have hr:=List.mem_range.mp hi
  by_cases c:F.getD i 0<k+1
  · rw [if_pos,if_pos (.inl c)]
    by_cases c2:F.getD i 0<k
    · exact .inl c2
    · exact .inr ⟨by omega,List.mem_filter.mpr ⟨hi,decide_eq_true (by omega)⟩⟩
  · rw [if_neg,if_neg]
    · rintro (h | h)
      · exact c h
      · simp at h
    · rintro (h | h)
      · omega
      · omega
theorem Znc {F:List Nat} {n k j p:Nat} (hp:(opens F k)[j]?=some p) (h:F.getD p 0≠k):dueK F n k ((opens F k).take (j+1))=dueK F n k ((opens F k).take j):=by
  unfold dueK
  refine List.map_congr_left fun i hi=>?_
  rw [List.take_succ,hp]
  by_cases e:i=p
  · subst e
    by_cases c:F.getD i 0<k
    · rw [if_pos (.inl c),if_pos (.inl c)]
    · rw [if_neg,if_neg]
      · rintro (z | z)
        · exact c z
        · exact h z.1
      · rintro (z | z)
        · exact c z
        · exact h z.1
  · have q:i∈(opens F k).take j++(some p).toList↔i∈(opens F k).take j:=by
      rw [List.mem_append]
      constructor
      · rintro (z | z)
        · exact z
        · exact absurd (by simpa using z) e
      · exact .inl
    simp only [q]
theorem Zom {F:List Nat} {n k j p:Nat} (hp:(opens F k)[j]?=some p) (h:F.getD p 0=k):dueK F n k ((opens F k).take (j+1))=(dueK F n k ((opens F k).take j)).set p k:=by
  have hpl:=(ZdJ (List.mem_of_getElem? hp)).1
  apply List.ext_getElem?
  intro i
  by_cases e:i=p
  · subst e
    rw [List.getElem?_set_self (by unfold dueK; rw [List.length_map,List.length_range]; exact hpl)]
    unfold dueK
    rw [List.getElem?_map,List.getElem?_range hpl]
    show some (if _ then _ else _)=_
    rw [if_pos (.inr ⟨h,by rw [List.take_succ,hp]; exact List.mem_append_right _ (by simp)⟩),h]
  · rw [List.getElem?_set_ne (fun z=>e z.symm)]
    unfold dueK
    rw [List.getElem?_map,List.getElem?_map]
    cases hi:(List.range F.length)[i]? with
    | none=>rfl
    | some i' =>
      have ei:i'=i:=by
        obtain ⟨h1,h2⟩:=List.getElem?_eq_some_iff.mp hi
        rw [← h2,List.getElem_range]
      subst ei
      have q:i'∈(opens F k).take (j+1)↔i'∈(opens F k).take j:=by
        rw [List.take_succ,hp,List.mem_append]
        constructor
        · rintro (z | z)
          · exact z
          · exact absurd (by simpa using z) e
        · exact .inl
      show some (if _ then _ else _)=some (if _ then _ else _)
      simp only [q]
theorem Zon {F:List Nat} {n:Nat} (h:∀ x∈F,x≤n):dueK F n n []=F:=by
  unfold dueK
  apply List.ext_getElem?
  intro i
  rw [List.getElem?_map]
  by_cases hi:i<F.length
  · rw [List.getElem?_range hi,List.getElem?_eq_getElem hi]
    have e:F.getD i 0=F[i]:=by rw [List.getD_eq_getElem?_getD,List.getElem?_eq_getElem hi]; rfl
    show some (if F.getD i 0<n∨_ then _ else n)=_
    have q:=h F[i] (List.getElem_mem hi)
    rw [e]
    by_cases c:F[i]<n
    · rw [if_pos (.inl c)]
    · rw [if_neg (by rintro (z | z); exact c z; simp at z)]
      congr 1
      omega
  · rw [List.getElem?_eq_none (by rw [List.length_range]; omega),List.getElem?_eq_none (by omega)]; rfl
theorem Znd (n m:Nat):(List.replicate m [V.int (n:Int)]).flatten=natsV (List.replicate m n):=by
  unfold natsV
  rw [List.map_replicate]
  induction m with
  | zero=>rfl
  | succ m ih=>rw [List.replicate_succ,List.flatten_cons,ih]; rfl
theorem Zne (ns:List Nat) (p k:Nat):(natsV ns).set p (V.int (k:Int))=natsV (ns.set p k):=by
  unfold natsV
  rw [List.map_set]
theorem ZgW {ns:List Nat} {i:Nat} {x:V} (h:(natsV ns)[i]?=some x):∃ n:Nat,ns[i]?=some n∧x=V.int (n:Int):=by
  unfold natsV at h
  rw [List.getElem?_map] at h
  cases e:ns[i]? with
  | none=>rw [e] at h; cases h
  | some n=>rw [e] at h; exact ⟨n,rfl,(Option.some.inj h).symm⟩
section
variable {P:Program} {w:World} {K:PySem.W.Frag} {mg:Str→Option Value} {base:Heap}
def Zmk (K:PySem.W.Frag):Sp:=fun vs H Q _=>∃ (tp a:Addr) (ts:List Addr) (cfs:List Cf) (row:List Int),vs=[.ref tp,.ref a]∧PlanAt K H tp ts cfs∧H a=some (.lst (row.map V.int))∧cfs.length≤4∧row.length≤400∧(∀ x∈nF cfs row,x≤cfs.length)∧Tb K H ∧
  ∀ (l:Addr) (H':Hp),H l=none→Same H H'→H' l=some (.lst (natsV (nF cfs row)))→Q (.ref l) H'
theorem ZiR {f:Addr} {fd:FuncData} (F:Fun K "_law_free_due" "_law_free_due" Zbx f fd) (T:Txt K mg) (D_left:Def P w K mg base "_law_left" 8 ZfR (ZjL K)):FnOk P w K mg base CX0 9 f fd Zcw (Zmk K):=by
  refine F.ok sc_free_due (fun vs H Q E h=>?_) (fun cdv A outer st H vs Q E hr h=>?_)
  · obtain ⟨tp,a,ts,cfs,row,rfl,_⟩:=h
    rfl
  obtain ⟨tp,a,ts,cfs,row,rfl,pa,ha,l4,hl,hF,tb,k⟩:=h
  have nd:=sc_free_due.nd
  refine ⟨_,(Zf (Znh (i:=2) (j:=3) rfl nd rfl rfl (by decide) rfl rfl (pc (pe_op ZoF (ZbM (pc (Zq (Zy (K:=K) rfl) rfl T.z_len PySem.boot_len (pc (pv 0) Ze)) Ze)) (Zq (Zy (K:=K) rfl) rfl T.z_len PySem.boot_len (pc (pv 1) Ze))) (pc (ZN (ZZ (K:=K) rfl) rfl T.z_list ZG (pc (pv 1) Ze)) Ze)) rfl)
      (Zf (pst 4 nd (Zgk rfl rfl T.z_list rfl T.z_range (pc (Zq (Zy (K:=K) rfl) rfl T.z_len PySem.boot_len (pc (pv 1) Ze)) Ze)))
      (Zf (ZcE PassesOwn.never rfl (ZmO rfl T.z_enumerate (pc (pv 0) Ze)) (ZT (K:=K) (n:=2) rfl rfl (Zo (pgn 5 nd) (Zo (pgn 6 nd) ZS))) (Zf (Zbc (Zp D_left hr.m rfl (pc (pv 6) (pc (pv 3) Ze))) (ZT (K:=K) (n:=2) rfl rfl (Zo (pgn 7 nd) (Zo (pgn 8 nd) ZS))))
      (Zf (ZcE PassesOwn.never rfl (ZkT rfl T.z_zip (pc (pv 4) (pc (pv 7) Ze))) (ZT (K:=K) (n:=2) rfl rfl (Zo (pgn 9 nd) (Zo (pgn 10 nd) ZS))) (Zi (ps_if (Zbb (pv 10)) (Zi (Zbc (pv 5) (ZeD (pv 2) (pv 9) ZcA))) Zz)))
      (Zf (Zmy 4 (ZK (osc:=(Zc Zbx)) (oN:=ZfS) (N:=["_law_place", "_law_is_found"]) (own:=2) (js:=[]) (by decide +kernel) rfl rfl) rfl nd rfl rfl (ZkT rfl T.z_zip (pc (pv 4) (pc (pv 7) Ze))) (fun _ _ _ _ _ _=>(ZT (K:=K) (n:=2) rfl rfl (Zo (pgn 0 (show List.Nodup (["_law_place", "_law_is_found"]:List Str) by decide +kernel)) (Zo (pgn 1 (show List.Nodup (["_law_place", "_law_is_found"]:List Str) by decide +kernel)) ZS)))) (fun _ _ _ _ _ _=>(ZeC (Zbb (pv 1)))) (fun _ _ _ _ _ _=>(pv 0)))
      (Zi (pst 3 nd (pv 8)))))))
      (Zi (Zu (pv 2)))))),?_⟩
  have Fl:(nF cfs row).length=row.length:=by unfold nF; rw [ZdI]
  have b0:=Zph cfs row
  generalize hFF:nF cfs row=FF at *
  have o0:opens FF 0=List.range FF.length:=by
    unfold opens
    rw [List.filter_eq_self]
    intro i _
    exact decide_eq_true (Nat.zero_le _)
  have tl:(ts.map V.ref).length=cfs.length:=by rw [List.length_map,pa.len]
  refine ⟨_,rfl,tp,_,rfl,.inr (SqT.of pa.top),(by show 1≤sizeLine; decide),fun l0 hl0=>?_⟩
  rw [tl]
  have s0:=Zh hl0 (.lst [V.int (cfs.length:Int)])
  refine ⟨_,rfl,a,_,rfl,.inl (SqL.of (s0 _ _ ha)),l0,_,_,rfl,rfl,Za,by omega,by rw [List.length_map]; omega,by rw [List.length_map,List.length_singleton]; exact Nat.le_of_lt (Zv (by omega)),fun ld hld=>?_⟩
  rw [List.length_map,show ((row.length:Int)).toNat=row.length by omega,Znd,← Fl,← due_0]
  have s1:=s0.trans (Zh hld (.lst (natsV (dueK FF cfs.length 0 []))))
  have eld:upd (upd H l0 (.lst [V.int (cfs.length:Int)])) ld (.lst (natsV (dueK FF cfs.length 0 []))) ld=some (.lst (natsV (dueK FF cfs.length 0 []))):=Za
  have hldH:H ld=none:=s0.free hld
  generalize upd (upd H l0 (.lst [V.int (cfs.length:Int)])) ld (.lst (natsV (dueK FF cfs.length 0 [])))=H1 at *
  refine ⟨_,rfl,a,_,rfl,.inl (SqL.of (s1 _ _ ha)),fun ll hll=>⟨_,_,rfl,?_⟩⟩
  try dsimp only
  have s2:=s1.trans (Zh hll (.lst (row.map V.int)))
  have ell:upd H1 ll (.lst (row.map V.int)) ll=some (.lst (row.map V.int)):=Za
  have eld2:=Zh hll (.lst (row.map V.int)) _ _ eld
  have nll:ld≠ll:=Zd eld hll
  generalize upd H1 ll (.lst (row.map V.int))=H2 at *
  refine ⟨_,rfl,a,_,rfl,.inl (SqL.of (s2 _ _ ha)),_,rfl,by omega,by rw [List.length_map]; omega,by rw [List.length_map]; exact Nat.le_of_lt (Zv (by omega)),fun lp hlp=>gN ?_⟩
  try dsimp only
  have er:((List.range (((row.map V.int).length:Int)).toNat).map fun k:Nat=>V.int (k:Int))=natsV (opens FF 0):=by
    rw [o0,Fl,List.length_map,show ((row.length:Int)).toNat=row.length by omega]; rfl
  rw [er]
  have s3:=s2.trans (Zh hlp (.lst (natsV (opens FF 0))))
  have elp:upd H2 lp (.lst (natsV (opens FF 0))) lp=some (.lst (natsV (opens FF 0))):=Za
  have ell3:=Zh hlp (.lst (natsV (opens FF 0))) _ _ ell
  have eld3:=Zh hlp (.lst (natsV (opens FF 0))) _ _ eld2
  have nlp:ld≠lp:=Zd eld2 hlp
  generalize upd H2 lp (.lst (natsV (opens FF 0)))=H3 at *
  refine ⟨_,rfl,tp,rfl,⟨_,SqT.of (s3 _ _ pa.top)⟩,Zls (K:=K) (a:=tp) (xs:=ts.map V.ref) (fun i σ G=>∃ (ll lp:Addr) (v5 v6 v7 v8 v9 v10:Option V) (L:List Int),σ=[some (.ref tp),some (.ref a),some (.ref ld),some (.ref ll),some (.ref lp),v5,v6,v7,v8,v9,v10]∧Same H G∧G ld=some (.lst (natsV (dueK FF cfs.length i [])))∧G ll=some (.lst (L.map V.int))∧G lp=some (.lst (natsV (opens FF i)))∧ld≠ll∧ld≠lp∧Book (cfs.drop i) FF i L∧L.length≤400)
    ⟨ll,lp,_,_,_,_,_,_,row,rfl,s3,eld3,ell3,elp,nll,nlp,b0,hl⟩ (fun i σ G _ ⟨_,_,_,_,_,_,_,_,_,_,s,_⟩=>SqT.of (s _ _ pa.top)) ?_ ?_⟩
  · rintro i x tt σ G hx ⟨ll,lp,v5,v6,v7,v8,v9,v10,L,rfl,s4,d4,e4,p4,n1,n2,bk,lL⟩ htt
    obtain ⟨t,rfl,et⟩:∃ t,x=V.ref t∧ts[i]?=some t:=by
      rw [List.getElem?_map] at hx
      cases e:ts[i]? with
      | none=>rw [e] at hx; cases hx
      | some b=>rw [e] at hx; exact ⟨b,(Option.some.inj hx).symm,rfl⟩
    have hi2:i<cfs.length:=by have:=(List.getElem?_eq_some_iff.mp et).1; rw [pa.len] at this; exact this
    have ec:cfs[i]?=some cfs[i]:=List.getElem?_eq_getElem hi2
    have edr:cfs.drop i=cfs[i] :: cfs.drop (i+1):=List.drop_eq_getElem_cons hi2
    rw [edr] at bk
    generalize cfs[i]=c at ec bk
    obtain ⟨wr,et1,_⟩:=pa.at_ i t c et ec
    obtain ⟨c0,c1,c2,c3⟩:=pa.cf c (List.mem_of_getElem? ec)
    have s5:=Zh htt (.tup [.int (i:Int),.ref t])
    refine ⟨tt,_,rfl,SqT.of Za,rfl,_,_,rfl,gN ⟨_,_,rfl,gN ⟨rfl,?_⟩⟩⟩
    try dsimp only
    have s45:=s4.trans s5
    have d5:=s5 _ _ d4
    have e5:=s5 _ _ e4
    have p5:=s5 _ _ p4
    generalize upd G tt (.tup [.int (i:Int),.ref t])=G5 at *
    refine ⟨_,rfl,_,rfl,t,ll,c,wr,L,rfl,s45 _ _ et1,SqL.of e5,c0,c1,c2,c3,lL,tb.same s45,fun p lf lr G6 hlf hlr s6 ep ef er=>⟨p,_,rfl,SqT.of ep,rfl,_,_,rfl,gN ⟨_,_,rfl,gN ⟨rfl,?_⟩⟩⟩⟩
    try dsimp only
    have nf:ld≠lf:=Zd d5 hlf
    have nr:ld≠lr:=Zd d5 hlr
    have d6:=s6 _ _ d5
    have p6:=s6 _ _ p5
    have s46:=s45.trans s6
    have br:=bk.run
    rw [br] at ef
    have ol:(opens FF i).length≤400:=by
      have h1:(opens FF i).length≤(List.range FF.length).length:=List.length_filter_le _ _
      rw [List.length_range] at h1
      omega
    refine ⟨_,rfl,_,rfl,lp,lf,rfl,⟨_,SqL.of p6⟩,⟨_,SqL.of ef⟩,ZnV (K:=K) (a:=lp) (b:=lf) (xs:=natsV (opens FF i)) (ys:=((opens FF i).map fun i'=>decide (FF.getD i' 0=i)).map V.bl) (fun j σ G=>∃ v9 v10:Option V,σ=[some (.ref tp),some (.ref a),some (.ref ld),some (.ref ll),some (.ref lp),some (.int (i:Int)),some (.ref t),some (.ref lf),some (.ref lr),v9,v10]∧G ld=some (.lst (natsV (dueK FF cfs.length i ((opens FF i).take j))))∧∀ x o,G6 x=some o→x≠ld→G x=some o)
      (by rw [ZaF,List.length_map,List.length_map]) ⟨_,_,rfl,d6,fun _ _ e _=>e⟩ (fun j σ G _ ⟨_,_,_,_,q⟩=>⟨SqL.of (q _ _ p6 (Ne.symm n2)),SqL.of (q _ _ ef (Ne.symm nf))⟩) ?_ ?_⟩
    · rintro j x y t2 σ G hx hy ⟨v9',v10',rfl,dj,kj⟩ ht2
      obtain ⟨pl,epl,rfl⟩:=ZgW hx
      have ey:y=V.bl (decide (FF.getD pl 0=i)):=by
        rw [List.getElem?_map,List.getElem?_map,epl] at hy
        exact (Option.some.inj hy).symm
      subst ey
      have kj':∀ x o,G6 x=some o→x≠ld→upd G t2 (.tup [.int (pl:Int),.bl (decide (FF.getD pl 0=i))]) x=some o:=fun x o e n=>by rw [Zb (Zd (kj x o e n) ht2)]; exact kj x o e n
      have dj':upd G t2 (.tup [.int (pl:Int),.bl (decide (FF.getD pl 0=i))]) ld=some (.lst (natsV (dueK FF cfs.length i ((opens FF i).take j)))):=by rw [Zb (Zd dj ht2)]; exact dj
      refine ⟨t2,_,rfl,SqT.of Za,rfl,_,_,rfl,gN ⟨_,_,rfl,gN ⟨rfl,?_⟩⟩⟩
      try dsimp only
      generalize upd G t2 (.tup [.int (pl:Int),.bl (decide (FF.getD pl 0=i))])=G8 at *
      refine ⟨_,rfl,_,rfl,?_⟩
      by_cases cc:FF.getD pl 0=i
      · refine ifT (decide_eq_true cc) ⟨_,rfl,_,rfl,_,rfl,ld,_,_,pl,rfl,rfl,dj',?_,?_⟩
        · have hp:=(ZdJ (List.mem_of_getElem? epl)).1
          rw [ZaF]
          have:(dueK FF cfs.length i ((opens FF i).take j)).length=FF.length:=by unfold dueK; rw [List.length_map,List.length_range]
          rw [this,Zjy (by omega) (by omega)]
          congr 1
        · refine ⟨_,_,rfl,?_,fun x o e n=>by rw [Zb n]; exact kj' x o e n⟩
          rw [Za,Zne,Zom epl cc]
      · refine ifF (decide_eq_false cc) ⟨_,_,rfl,?_,kj'⟩
        rw [Znc epl cc]
        exact dj'
    rintro σ G7 ⟨v9',v10',rfl,d7,k7⟩
    try dsimp only
    rw [ZaF,List.take_length,Znb] at d7
    have p7:=k7 _ _ p6 (Ne.symm n2)
    have f7:=k7 _ _ ef (Ne.symm nf)
    have r7:=k7 _ _ er (Ne.symm nr)
    have s47:Same H G7:=fun x o e=>k7 x o (s46 x o e) (Zd e hldH)
    refine ⟨_,rfl,_,rfl,lp,lf,rfl,⟨_,SqL.of p7⟩,⟨_,SqL.of f7⟩,fun ln hln=>?_⟩
    refine Zge (K:=K) (a:=lp) (b:=lf) (xs:=natsV (opens FF i)) (zs:=((opens FF i).map fun i'=>decide (FF.getD i' 0=i)).map V.bl) (l:=ln) (by rw [ZaF,List.length_map,List.length_map]) (fun j ys σ G=>∃ v0 v1:Option V,σ=[v0,v1]∧ys=natsV (((((opens FF i).zip ((opens FF i).map fun i'=>decide (FF.getD i' 0=i))).take j).filter fun p=>!p.2).map Prod.fst)∧G ln=some (.lst ys)∧Same G7 G)
      ⟨none,none,rfl,rfl,Za,Zh hln _⟩ (fun j ys σ G _ ⟨_,_,_,_,_,q⟩=>⟨SqL.of (q _ _ p7),SqL.of (q _ _ f7)⟩) ?_ ?_
    · rintro j x z t2 ys σ G hj hx hz hys ⟨v0,v1,rfl,rfl,q1,q2⟩ ht2
      obtain ⟨pl,epl,rfl⟩:=ZgW hx
      have eb:((opens FF i).map fun i'=>decide (FF.getD i' 0=i))[j]?=some (decide (FF.getD pl 0=i)):=by rw [List.getElem?_map,epl]; rfl
      have ey:z=V.bl (decide (FF.getD pl 0=i)):=by
        rw [List.getElem?_map,eb] at hz
        exact (Option.some.inj hz).symm
      subst ey
      have ez:((opens FF i).zip ((opens FF i).map fun i'=>decide (FF.getD i' 0=i)))[j]?=some (pl,decide (FF.getD pl 0=i)):=by rw [List.getElem?_zip_eq_some]; exact ⟨epl,eb⟩
      generalize decide (FF.getD pl 0=i)=fl at *
      have q2':Same G7 (upd G t2 (.tup [.int (pl:Int),.bl fl])):=q2.trans (Zh ht2 _)
      refine ⟨t2,_,rfl,SqT.of Za,rfl,_,_,rfl,gN ⟨_,_,rfl,gN ⟨rfl,?_⟩⟩⟩
      try dsimp only
      refine ⟨_,rfl,_,rfl,?_⟩
      cases fl with
      | true =>
        refine ifF rfl (CNo.of hj hys ⟨_,_,rfl,?_,by rw [Zb (Zd q1 ht2)]; exact q1,q2'⟩)
        rw [List.take_succ,ez,List.filter_append]
        show _=natsV ((_++List.filter (fun p:Nat×Bool=>!p.2) [(pl,true)]).map Prod.fst)
        rw [show List.filter (fun p:Nat×Bool=>!p.2) [(pl,true)]=[] from rfl,List.append_nil]
      | false =>
        refine ifT rfl ⟨_,rfl,CNx.of (Nat.le_of_lt (Zv (by rw [ZaF]; omega))) hj hys (by rw [Zb (Zd q1 ht2)]; exact q1) ⟨_,_,rfl,?_,Za,fun e o y=>?_⟩⟩
        · rw [List.take_succ,ez,List.filter_append,List.map_append]
          exact (Zfo _ _).symm
        · rw [Zb (Zd y hln)]
          exact q2' _ _ y
    rintro ys σ G8 _ ⟨v0,v1,rfl,rfl,q1,q2⟩
    rw [ZaF,List.take_of_length_le (by rw [List.length_zip,List.length_map]; omega),Zkt] at q1
    refine gN ?_
    try dsimp only
    refine ⟨_,rfl,gN ?_⟩
    try dsimp only
    refine ⟨lr,ln,_,_,_,_,_,_,leftR c eS L,rfl,s47.trans q2,q2 _ _ d7,q2 _ _ r7,q1,nr,Zd d7 hln,bk.next,?_⟩
    rw [ZeB]
    exact Nat.le_trans (List.length_filter_le _ _) (by rw [ZeA]; exact lL)
  · rintro σ G ⟨ll,lp,v5,v6,v7,v8,v9,v10,L,rfl,s4,d4,e4,p4,n1,n2,bk,lL⟩
    rw [tl,Zon hF] at d4
    exact ⟨_,rfl,k ld G hldH s4 d4⟩
end
theorem Zdl {z x:Int} (h:x≠z):∀ l:List Int,(l.filter fun y=>decide (y≠x)).takeWhile (fun y=>decide (y≠z))=(l.takeWhile fun y=>decide (y≠z)).filter fun y=>decide (y≠x)
  | []=>rfl
  | y :: l=>by
    rw [List.filter_cons,List.takeWhile_cons]
    by_cases e1:y=x
    · rw [if_neg (by simp [e1]),if_pos (by rw [e1]; simpa using h),List.filter_cons,if_neg (by simp [e1])]
      exact Zdl h l
    · rw [if_pos (by simpa using e1),List.takeWhile_cons]
      by_cases e2:y=z
      · rw [if_neg (by simp [e2]),if_neg (by simp [e2])]; rfl
      · rw [if_pos (by simpa using e2),if_pos (by simpa using e2),List.filter_cons,if_pos (by simpa using e1),Zdl h l]
theorem ZjM (z:Int):∀ l:List Int,(dd l).takeWhile (fun y=>decide (y≠z))=dd (l.takeWhile fun y=>decide (y≠z))
  | []=>rfl
  | x :: l=>by
    rw [dd,List.takeWhile_cons,List.takeWhile_cons]
    by_cases e:x=z
    · rw [if_neg (by simp [e]),if_neg (by simp [e])]; rfl
    · rw [if_pos (by simpa using e),if_pos (by simpa using e),Zdl e,ZjM z l]
      rfl
theorem Zia {z:Int}:∀ l:List Int,z∈l→l.idxOf z=(l.takeWhile fun y=>decide (y≠z)).length
  | [],h=>by simp at h
  | x :: l,h=>by
    rw [List.idxOf_cons,List.takeWhile_cons]
    by_cases e:x=z
    · rw [show (x == z)=true by simp [e],if_neg (by simp [e])]; rfl
    · have h':z∈l:=by
        rcases List.mem_cons.mp h with q | q
        · exact absurd q.symm e
        · exact q
      rw [show (x == z)=false by simp [e],if_pos (by simpa using e),List.length_cons,← Zia l h']
      rfl
def mru (M:List Int):List Int→List Int
  | []=>M
  | b :: r=>mru (b :: M.erase b) r
theorem Zml (b:Int):∀ (r:List Int) (M:List Int),mru M (r++[b])=b :: (mru M r).erase b
  | [],_=>rfl
  | x :: r,M=>Zml b r (x :: M.erase x)
theorem Zmm (row:List Int):∀ k,mru [] (row.take k)=dd (row.take k).reverse
  | 0=>by rw [List.take_zero]; rfl
  | k+1=>by
    rw [List.take_succ]
    cases e:row[k]? with
    | none=>show mru [] (row.take k++[])=dd (row.take k++[]).reverse; rw [List.append_nil]; exact Zmm row k
    | some b =>
      show mru [] (row.take k++[b])=dd (row.take k++[b]).reverse
      rw [Zml,Zmm row k,List.reverse_append]
      show _=b :: (dd (row.take k).reverse).filter fun y=>decide (y≠b)
      rw [(nd_dd _).erase_eq_filter]
      congr 1
      refine List.filter_congr fun x _=>?_
      rw [Bool.eq_iff_iff,decide_eq_true_eq]
      simp
theorem ZjN (ps:List Nat):∀ (row M:List Int) (k:Nat) (b:Int),row[k]?=some b→(deepN ps M row)[k]?=some (ZdH ps (mru M (row.take k)) b)
  | [],_,_,_,h=>by simp at h
  | x :: row,M,0,b,h=>by cases h; rfl
  | x :: row,M,k+1,b,h=>ZjN ps row (x :: M.erase x) k b (by simpa using h)
theorem Zfx (ps:List Nat):∀ (row M:List Int),(deepN ps M row).length=row.length
  | [],_=>rfl
  | _ :: row,_=>congrArg (·+1) (Zfx ps row _)
def deepO (ps:List Nat):Option Int→Nat
  | none=>ps.length
  | some d=>ZbL ps d.toNat
theorem Znf {row:List Int} {k:Nat} {b:Int} (h:row[k]?=some b) (ps:List Nat):deepO ps (benAt 1 row k)=ZdH ps (mru [] (row.take k)) b:=by
  have eb:row.getD k 0=b:=by rw [List.getD_eq_getElem?_getD,h]; rfl
  have eh:hist 1 row b k=(row.take k).reverse:=by
    unfold hist
    rw [List.filter_eq_self]
    intro x _
    exact sameSh_iff.mpr (by omega)
  unfold benAt ZdH
  rw [eb,eh,Zmm]
  by_cases c:b∈(row.take k).reverse
  · rw [if_pos c,if_pos (mem_dd.mpr c),Zia _ (mem_dd.mpr c),ZjM]
    show ZbL ps (((dd _).length:Nat):Int).toNat=_
    rw [Int.toNat_natCast]
  · rw [if_neg c,if_neg fun z=>c (mem_dd.mp z)]
    rfl
section
variable {P:Program} {w:World} {K:PySem.W.Frag} {mg:Str→Option Value} {base:Heap}
def ZiS (K:PySem.W.Frag):Sp:=fun vs H Q _=>∃ (tp a:Addr) (ts:List Addr) (cfs:List Cf) (row:List Int),vs=[.ref tp,.ref a]∧PlanAt K H tp ts cfs∧H a=some (.lst (row.map V.int))∧cfs.length≤4∧row.length≤400∧Bds 9999 row∧Tb K H ∧
  ∀ (l:Addr) (H':Hp),H l=none→Same H H'→H' l=some (.lst (natsV (deepN (plsOf cfs) [] row)))→Q (.ref l) H'
theorem cpT {t:TT} {σ:St} {H:Hp} {Q:Bool→Hp→Prop} (Post:Bool→Hp→Prop) (h1:∀ Q':Bool→Hp→Prop,(∀ v H1,Post v H1→Q' v H1)→t σ H Q') (h2:∀ v H1,Post v H1→Q v H1):t σ H Q:=h1 Q h2
def Walk (ps:List Nat) (o:Option Int) (k pl:Nat):Prop:=k≤ps.length∧match o with
  | none=>True
  | some d=>(pl:Int)≤d∧ZbL ps d.toNat=k+ZbL (ps.drop k) (d.toNat - pl)
def goOn (ps:List Nat) (o:Option Int) (k pl:Nat):Bool:=decide (k<ps.length) && (match o with | none=>true | some d=>decide (d ≥ (pl:Int)+(ps.getD k 0:Int)))
theorem Zib {ps:List Nat} {k:Nat} (h:k<ps.length):ps.drop k=ps.getD k 0 :: ps.drop (k+1):=by
  have e:ps[k]=ps.getD k 0:=by rw [List.getD_eq_getElem?_getD,List.getElem?_eq_getElem h]; rfl
  rw [List.drop_eq_getElem_cons h,e]
theorem Zoo {ps:List Nat} {o:Option Int} {k pl:Nat} (w:Walk ps o k pl) (h:goOn ps o k pl=true):Walk ps o (k+1) (pl+ps.getD k 0):=by
  unfold goOn at h
  rw [Bool.and_eq_true,decide_eq_true_eq] at h
  refine ⟨by omega,?_⟩
  cases o with
  | none=>trivial
  | some d =>
    obtain ⟨w1,w2,w3⟩:=w
    have h2:d ≥ (pl:Int)+(ps.getD k 0:Int):=of_decide_eq_true h.2
    refine ⟨by omega,?_⟩
    have ed:=Zib h.1
    rw [w3,ed]
    show k+(if d.toNat - pl<ps.getD k 0 then 0 else ZbL (ps.drop (k+1)) (d.toNat - pl - ps.getD k 0)+1)=_
    rw [if_neg (by omega),show d.toNat - pl - ps.getD k 0=d.toNat - (pl+ps.getD k 0) by omega]
    omega
theorem Zng {ps:List Nat} {o:Option Int} {k pl:Nat} (w:Walk ps o k pl) (h:goOn ps o k pl=false):deepO ps o=k:=by
  obtain ⟨w1,w2⟩:=w
  unfold goOn at h
  by_cases c:k<ps.length
  · rw [decide_eq_true c,Bool.true_and] at h
    cases o with
    | none=>cases h
    | some d =>
      have h2:¬ d ≥ (pl:Int)+(ps.getD k 0:Int):=of_decide_eq_false h
      obtain ⟨w2,w3⟩:=w2
      have ed:=Zib c
      show ZbL ps d.toNat=k
      rw [w3,ed]
      show k+(if d.toNat - pl<ps.getD k 0 then 0 else _)=k
      rw [if_pos (by omega)]
      omega
  · have ek:k=ps.length:=by omega
    cases o with
    | none=>exact ek.symm
    | some d =>
      obtain ⟨w2,w3⟩:=w2
      show ZbL ps d.toNat=k
      rw [w3,List.drop_eq_nil_of_le (by omega)]
      rfl
theorem ZiT {f:Addr} {fd:FuncData} (F:Fun K "_law_by_depth" "_law_by_depth" ZbZ f fd) (T:Txt K mg) (D_beneath:Def P w K mg base "beneath" 3 ZcH (spBen K)):FnOk P w K mg base CX0 4 f fd Zcx (ZiS K):=by
  refine F.ok sc_by_depth (fun vs H Q E h=>?_) (fun cdv A outer st H vs Q E hr h=>?_)
  · obtain ⟨tp,a,ts,cfs,row,rfl,_⟩:=h
    rfl
  obtain ⟨tp,a,ts,cfs,row,rfl,pa,ha,l4,hl,bd,tb,k⟩:=h
  have nd:=sc_by_depth.nd
  refine ⟨_,(Zf (pst 2 nd (ZbM Ze))
      (Zf (ZcE PassesOwn.never rfl (Zco (K:=K) rfl (Zp D_beneath hr.m rfl (pc Zj (pc (pv 1) Ze)))) (pgn 3 nd) (Zf (Zbc (Zbd (pc Zj (pc Zj Ze))) (ZT (K:=K) (n:=2) rfl rfl (Zo (pgn 4 nd) (Zo (pgn 5 nd) ZS))))
      (Zf (Zmp PassesOwn.never (PW.pt (ZkA (ZJ op_lt (pv 4) (Zq (Zy (K:=K) rfl) rfl T.z_len PySem.boot_len (pc (pv 0) Ze)) (ZF _)) (Zif (PW.pt (pw_or (ZgY (Zky (pv 3))) (ZiW (ZJ op_ge (pv 3) (pe_op Zaf (pv 5) (pe_ix (ZbK (K:=K) rfl) (pe_ix (ZbK (K:=K) rfl) (pv 0) (pv 4) (fun _ _=>rfl)) Zj (fun _ _=>rfl))) (ZF _)))))))) (Zf (pst 5 nd (pe_op Zaf (pv 5) (pe_ix (ZbK (K:=K) rfl) (pe_ix (ZbK (K:=K) rfl) (pv 0) (pv 4) (fun _ _=>rfl)) Zj (fun _ _=>rfl))))
      (Zi (pst 4 nd (pe_op Zaf (pv 4) Zj)))))
      (Zi (Zw (ZcW (K:=K) rfl (pe_bm PySem.F.plainAttrs_list PySem.F.slot_list_append PySem.F.type_list_append ZbC (pv 2) (pc (pv 4) Ze))))))))
      (Zi (Zu (pv 2))))),?_⟩
  have pl':(plsOf cfs).length=cfs.length:=by unfold plsOf; rw [List.length_map]
  have tl:(ts.map V.ref).length=cfs.length:=by rw [List.length_map,pa.len]
  refine ⟨(by show 0≤sizeLine; decide),fun ld hld=>gN ?_⟩
  try dsimp only
  have s1:=Zh hld (.lst [])
  have eld:upd H ld (.lst []) ld=some (.lst []):=Za
  generalize upd H ld (.lst [])=H1 at *
  refine ⟨_,rfl,1,a,row,rfl,SqL.of (s1 _ _ ha),by decide,by decide,hl,bd,fun lb H2 hlb s2 eb=>?_⟩
  have s12:=s1.trans s2
  have eld2:=s2 _ _ eld
  have nlb:lb≠ld:=Ne.symm (Zd eld hlb)
  refine ⟨lb,rfl,⟨_,SqL.of eb⟩,ZiZ (K:=K) (a:=lb) (xs:=(benF 1 row).map optV) (fun j σ G=>∃ v3 v4 v5:Option V,σ=[some (.ref tp),some (.ref a),some (.ref ld),v3,v4,v5]∧G ld=some (.lst (natsV ((deepN (plsOf cfs) [] row).take j)))∧∀ x o,H2 x=some o→x≠ld→G x=some o)
    ⟨_,_,_,rfl,eld2,fun _ _ e _=>e⟩ (fun j σ G _ ⟨_,_,_,_,_,q⟩=>SqL.of (q _ _ eb nlb)) ?_ ?_⟩
  · rintro j x σ G hx ⟨v3,v4,v5,rfl,dj,kj⟩
    have hj:j<row.length:=by
      have:=(List.getElem?_eq_some_iff.mp hx).1
      rwa [List.length_map,Zme] at this
    have ej:row[j]?=some row[j]:=List.getElem?_eq_getElem hj
    generalize row[j]=b at ej
    have ex:x=optV (benAt 1 row j):=by
      unfold benF at hx
      rw [List.getElem?_map,List.getElem?_map,List.getElem?_range hj] at hx
      exact (Option.some.inj hx).symm
    subst ex
    have dpt:=Znf ej (plsOf cfs)
    have dget:=ZjN (plsOf cfs) row [] j b ej
    have opos:∀ d,benAt 1 row j=some d→0≤d:=fun d hd=>by
      unfold benAt at hd
      split at hd
      · cases hd; omega
      · cases hd
    generalize benAt 1 row j=o at *
    refine gN ?_
    try dsimp only
    refine ⟨(by show 2≤sizeLine; decide),fun tt htt=>⟨tt,_,rfl,SqT.of Za,rfl,_,_,rfl,gN ⟨_,_,rfl,gN ⟨rfl,?_⟩⟩⟩⟩
    try dsimp only
    have dj5:upd G tt (.tup [.int 0,.int 0]) ld=some (.lst (natsV ((deepN (plsOf cfs) [] row).take j))):=by rw [Zb (Zd dj htt)]; exact dj
    have kj5:∀ x o,H2 x=some o→x≠ld→upd G tt (.tup [.int 0,.int 0]) x=some o:=fun x o e n=>by rw [Zb (Zd (kj x o e n) htt)]; exact kj x o e n
    generalize upd G tt (.tup [.int 0,.int 0])=G5 at *
    have kH:∀ x y,H x=some y→G5 x=some y:=fun x y e=>kj5 x y (s12 x y e) (Zd e hld)
    have pa5:PlanAt K G5 tp ts cfs:=pa.same kH
    refine ⟨fun m σ G=>∃ kk pp:Nat,m=cfs.length - kk∧σ=[some (.ref tp),some (.ref a),some (.ref ld),some (optV o),some (.int (kk:Int)),some (.int (pp:Int))]∧G=G5∧Walk (plsOf cfs) o kk pp,⟨_,0,0,rfl,rfl,rfl,Nat.zero_le _,?_⟩,?_⟩
    · cases o with
      | none=>trivial
      | some d =>
        have:=opos d rfl
        refine ⟨by omega,?_⟩
        rw [List.drop_zero,Nat.sub_zero,Nat.zero_add]
    · rintro m σ G ⟨kk,pp,rfl,rfl,rfl,wk⟩
      have at1:∀ h:kk<cfs.length,∃ t c wr,ts[kk]?=some t∧cfs[kk]?=some c∧G t=some (.tup [.int c.sh,.int c.pl,.str c.ru,.str wr])∧((plsOf cfs).getD kk 0:Int)=c.pl:=fun h=>by
        have ht:kk<ts.length:=by rw [pa.len]; exact h
        have et:ts[kk]?=some ts[kk]:=List.getElem?_eq_getElem ht
        have ec:cfs[kk]?=some cfs[kk]:=List.getElem?_eq_getElem h
        obtain ⟨wr,e1,_⟩:=pa5.at_ kk _ _ et ec
        refine ⟨_,_,wr,et,ec,e1,?_⟩
        have:=(pa.cf _ (List.mem_of_getElem? ec)).2.2.1
        unfold plsOf
        rw [List.getD_eq_getElem?_getD,List.getElem?_map,ec]
        show ((cfs[kk].pl.toNat:Nat):Int)=_
        omega
      have atk:∀ t,ts[kk]?=some t→atI (ts.map V.ref) (kk:Int)=some (.ref t):=fun t e=>ZaQ (by rw [List.getElem?_map,e]; rfl)
      refine cpT (fun c G'=>c=goOn (plsOf cfs) o kk pp∧G=G') (fun Q' k'=>?_) ?_
      · refine ⟨_,rfl,_,rfl,tp,_,rfl,.inr (SqT.of pa5.top),_,_,rfl,rfl,_,rfl,?_⟩
        rw [tl]
        by_cases c:kk<cfs.length
        · refine ifT (decide_eq_true (by omega)) ?_
          obtain ⟨t,cf,wr,et,ec,e1,ep⟩:=at1 c
          cases o with
          | none=>exact ⟨_,rfl,_,rfl,ifT rfl (k' _ _ ⟨by unfold goOn; rw [pl',decide_eq_true c]; rfl,rfl⟩)⟩
          | some d =>
            refine ⟨_,rfl,_,rfl,ifF rfl ⟨_,rfl,_,rfl,_,rfl,_,rfl,tp,_,_,_,rfl,rfl,SqT.of pa5.top,atk t et,t,_,_,_,rfl,rfl,SqT.of e1,atI1,_,_,rfl,rfl,_,_,rfl,rfl,_,rfl,k' _ _ ⟨?_,rfl⟩⟩⟩
            unfold goOn
            rw [pl',decide_eq_true c,Bool.true_and]
            show decide (d ≥ (pp:Int)+cf.pl)=decide (d ≥ (pp:Int)+((plsOf cfs).getD kk 0:Int))
            rw [ep]
        · exact ifF (decide_eq_false (by omega)) (k' _ _ ⟨by unfold goOn; rw [pl',decide_eq_false c]; rfl,rfl⟩)
      · rintro _ _ ⟨rfl,rfl⟩
        cases hg:goOn (plsOf cfs) o kk pp with
        | true =>
          have c:kk<cfs.length:=by
            unfold goOn at hg
            rw [Bool.and_eq_true,decide_eq_true_eq,pl'] at hg
            exact hg.1
          obtain ⟨t,cf,wr,et,ec,e1,ep⟩:=at1 c
          have wk':=Zoo wk hg
          refine ifT rfl ⟨fun σ' H'=>∃ m',m'<cfs.length - kk∧∃ kk pp:Nat,m'=cfs.length - kk∧σ'=[some (.ref tp),some (.ref a),some (.ref ld),some (optV o),some (.int (kk:Int)),some (.int (pp:Int))]∧H'=G∧Walk (plsOf cfs) o kk pp,fun _ _ h=>h,?_⟩
          refine ⟨_,rfl,_,rfl,_,rfl,tp,_,_,_,rfl,rfl,SqT.of pa5.top,atk t et,t,_,_,_,rfl,rfl,SqT.of e1,atI1,_,_,rfl,rfl,gN ?_⟩
          try dsimp only
          refine ⟨_,rfl,_,_,rfl,rfl,gN ?_⟩
          try dsimp only
          refine ⟨cfs.length - (kk+1),by omega,kk+1,pp+(plsOf cfs).getD kk 0,rfl,?_,rfl,wk'⟩
          rw [show ((pp+(plsOf cfs).getD kk 0:Nat):Int)=(pp:Int)+cf.pl by omega,show ((kk+1:Nat):Int)=(kk:Int)+1 by omega]
          rfl
        | false =>
          refine ifF rfl ?_
          try dsimp only
          have we:=Zng wk hg
          refine ⟨_,rfl,.inl ⟨rfl,_,SqL.of dj5⟩,_,rfl,ld,_,_,rfl,rfl,dj5,Zv (by rw [ZaF,List.length_take]; omega),?_⟩
          refine ⟨_,_,_,rfl,?_,fun x y e n=>by rw [Zb n]; exact kj5 x y e n⟩
          rw [Za,List.take_succ,dget,← dpt,we]
          show _=some (HO.lst (natsV (_++[kk])))
          rw [Zfo]
  · rintro σ G ⟨v3,v4,v5,rfl,dj,kj⟩
    rw [List.length_map,Zme,List.take_of_length_le (by rw [Zfx]; exact Nat.le_refl _)] at dj
    exact ⟨_,rfl,k ld G hld (fun x y e=>kj x y (s12 x y e) (Zd e hld)) dj⟩
end
theorem Zmn (z:Int) (cs:List Cf) (row:List Int):Zay ⟨z, "free",cs⟩ (ZbO ⟨z, "free",cs⟩) row=nF cs row:=by
  rw [Zfu (show ("free" : Str) ≠ "within" by decide) (show ("free" : Str) ≠ "apart" by decide) _ _ (ZdF _)]
  unfold nF ZbO
  rw [List.map_const']
theorem nF_le (cs:List Cf) (row:List Int):∀ x∈nF cs row,x≤cs.length:=fun x hx=>by
  rw [← Zmn 1 cs row] at hx
  obtain ⟨k,hk⟩:=List.getElem?_of_mem hx
  exact ZlV (g:=⟨1, "free",cs⟩) hk
theorem Zmo (ns:List Nat):∀ x∈natsV ns,Sc x:=fun x hx=>by
  unfold natsV at hx
  obtain ⟨n,_,rfl⟩:=List.mem_map.mp hx
  trivial
structure Bk (K:PySem.W.Frag) (G:Hp) (tp:Addr) (ts:List Addr) (cfs:List Cf) (lr:Addr) (ns:List Int):Prop where
  pa:PlanAt K G tp ts cfs
  tb:Tb K G
  elr:G lr=some (.lst (ns.map V.int))
theorem Bk.same {K:PySem.W.Frag} {G G':Hp} {tp:Addr} {ts:List Addr} {cfs:List Cf} {lr:Addr} {ns:List Int} (h:Bk K G tp ts cfs lr ns) (s:Same G G'):Bk K G' tp ts cfs lr ns:=⟨h.pa.same s,h.tb.same s,s _ _ h.elr⟩
def deepC (cs:List Cf):List Cf:=cs.map fun c=>⟨1,c.pl, "old",c.late⟩
section
variable {P:Program} {w:World} {K:PySem.W.Frag} {mg:Str→Option Value} {base:Heap}
def spLaw (K:PySem.W.Frag):Sp:=fun vs H Q _=>∃ (a:Addr) (ns:List Int),vs=[.ref a]∧SqL K H a (ns.map V.int)∧ns.length≤63∧Tb K H∧∀ H',Q (.bl true) H'
theorem Zpi {f:Addr} {fd:FuncData} (F:Fun K "law" "law" s_law f fd) (T:Txt K mg) (D_boxes:Def P w K mg base "_law_boxes" 2 ZeZ (Ziu K)) (D_plan:Def P w K mg base "_law_plan" 3 ZhH (ZiO K)) (D_row:Def P w K mg base "_law_row" 3 P_row ZlS) (D_founds:Def P w K mg base "founds" 17 Zdw (ZgR K)) (D_free_due:Def P w K mg base "_law_free_due" 9 Zcw (Zmk K)) (D_left:Def P w K mg base "_law_left" 8 ZfR (ZjL K)) (D_by_depth:Def P w K mg base "_law_by_depth" 4 Zcx (ZiS K)) (D_same':∀ n,Def P w K mg base "_law_same" (n+1) Zee (ZgV n)) :
    FnOk P w K mg base CX0 20 f fd P_law (spLaw K):=by
  refine F.ok sc_law (fun vs H Q E h=>?_) (fun cdv A outer st H vs Q E hr h=>?_)
  · obtain ⟨a,ns,rfl,_⟩:=h
    rfl
  obtain ⟨a,ns,rfl,hS,h63,tb,k⟩:=h
  have nd:=sc_law.nd
  have hu:=hu_of hr
  have D_same:=D_same' 1
  refine ⟨_,(Zf (ZcE PassesOwn.never rfl (Zco (K:=K) rfl (Zp D_boxes hr.m rfl (pc (pv 0) (pc Zj Ze)))) (pgn 1 nd) (Zf (Zbc (Zp D_plan hr.m rfl (pc (pv 1) Ze)) (ZT (K:=K) (n:=3) rfl rfl (Zo (pgn 2 nd) (Zo (pgn 3 nd) (Zo (pgn 4 nd) ZS)))))
      (Zf (pst 5 nd (Zp D_row hr.m rfl (pc (pv 1) (pc (pv 2) (pc Zj Ze)))))
      (Zf (ps_if (ZeC (Zbb (Zp D_same hr.m rfl (pc (Zp D_founds hr.m rfl (pc (Zbd (pc (pv 2) (pc ZaT (pc (pv 4) Ze)))) (pc (ZN (ZZ (K:=K) rfl) rfl T.z_list ZG (pc (pv 5) Ze)) Ze))) (pc (Zp D_free_due hr.m rfl (pc (pv 4) (pc (pv 5) Ze))) Ze))))) (Zi (Zu pe_bl)) Zz)
      (Zf (Zgd 6 (ZK (osc:=(Zc s_law)) (oN:=N_law) (N:=["_law_one"]) (own:=1) (js:=[]) (by decide +kernel) rfl rfl) rfl nd rfl rfl (Zco (K:=K) rfl (Zp D_founds hr.m rfl (pc (Zbd (pc (pv 2) (pc ZaT (pc (pv 4) Ze)))) (pc (ZN (ZZ (K:=K) rfl) rfl T.z_list ZG (pc (pv 5) Ze)) Ze)))) (fun _ _ _ _ _ _=>(pgn 0 (show List.Nodup (["_law_one"]:List Str) by decide +kernel))) (fun _ _ _ _ _ _=>(ZbJ op_eq (pv 0) Zj (ZF _))))
      (Zf (ps_if (ZJ (ZoO (K:=K) 0 (hu_to hr 0 (by decide)) rfl) (pv 6) (pe_ix (ZbK (K:=K) rfl) (Zp D_left hr.m rfl (pc (pe_ix (ZbK (K:=K) rfl) (pv 4) Zj (fun _ _=>rfl)) (pc (pv 5) Ze))) Zj (fun _ _=>rfl)) (ZF _)) (Zi (Zu pe_bl)) Zz)
      (Zf (pst 7 nd (ZN (ZcV (K:=K) rfl) rfl T.z_tuple ZcB (pc (Zbz (ZK (osc:=(Zc s_law)) (oN:=N_law) (N:=["_law_one"]) (own:=1) (js:=[]) (by decide +kernel) rfl rfl) rfl (Zlh (K:=K) rfl (pv 4)) (fun _ _ _ _ _ _=>(pgn 0 (show List.Nodup (["_law_one"]:List Str) by decide +kernel))) (fun _ _ _ _ _ _=>(Zbd (pc Zj (pc (pe_ix (ZbK (K:=K) rfl) (pv 0) Zj (fun _ _=>rfl)) (pc ZaT (pc (pe_ix (ZbK (K:=K) rfl) (pv 0) Zj (fun _ _=>rfl)) Ze))))))) Ze)))
      (Zi (ps_if (ZeC (Zbb (Zp D_same hr.m rfl (pc (Zp D_founds hr.m rfl (pc (Zbd (pc (pv 2) (pc ZaT (pc (pv 7) Ze)))) (pc (ZN (ZZ (K:=K) rfl) rfl T.z_list ZG (pc (pv 5) Ze)) Ze))) (pc (Zp D_by_depth hr.m rfl (pc (pv 7) (pc (pv 5) Ze))) Ze))))) (Zi (Zu pe_bl)) Zz)))))))))
      (Zi (Zu pe_bl))),?_⟩
  refine ⟨_,rfl,a,ns,3,rfl,hS,h63,by decide,by decide,fun r bs H1 hr1 e1 B hlen=>?_⟩
  refine ⟨r,rfl,⟨_,SqL.of B.at'⟩,ZiZ (K:=K) (a:=r) (xs:=bs.map V.ref) (fun i σ H'=>∃ v1 v2 v3 v4 v5 v6 v7:Option V,σ=[some (.ref a),v1,v2,v3,v4,v5,v6,v7]∧H' r=some (.lst (bs.map V.ref))∧Tb K H'∧∀ j b,i≤j→bs[j]?=some b→∃ a q,BoxAt H' b a q 0)
    ⟨_,_,_,_,_,_,_,rfl,B.at',tb.same e1,fun j b _ hj=>(B.new b (List.mem_of_getElem? hj)).2⟩ (fun i σ H' _ ⟨_,_,_,_,_,_,_,_,q,_⟩=>SqL.of q) ?_ ?_⟩
  · rintro i x σ H' hi ⟨v1,v2,v3,v4,v5,v6,v7,rfl,hr',tb',hbx⟩
    obtain ⟨b,rfl,hbi⟩:∃ b,x=V.ref b∧bs[i]?=some b:=by
      rw [List.getElem?_map] at hi
      cases e:bs[i]? with
      | none=>rw [e] at hi; cases hi
      | some b=>rw [e] at hi; exact ⟨b,(Option.some.inj hi).symm,rfl⟩
    obtain ⟨ba,bq,Bb⟩:=hbx i b (Nat.le_refl _) hbi
    have nrb:r≠b:=fun e=>by subst e; exact B.off (List.mem_of_getElem? hbi)
    refine gN ?_
    try dsimp only
    refine hide fun u1 e1=>?_
    refine ⟨_,rfl,b,ba,bq,0,rfl,Bb,by decide,fun pp tp ts g a1 c1 G1 epp pa z0 z1 l1 l4 B1 hc1 t1=>⟨pp,_,rfl,SqT.of epp,rfl,_,_,rfl,gN ⟨_,_,rfl,gN ⟨_,_,rfl,gN ⟨rfl,?_⟩⟩⟩⟩⟩
    subst e1
    try dsimp only
    refine hide fun u1 e1=>?_
    refine ⟨_,rfl,_,rfl,b,a1,bq,c1,g.size,300,rfl,B1,by omega,z0,z1,by decide,by decide,fun lr ns a2 c2 G2 hlr elr ln3 ln1 nsb B2 hc2 t2=>gN ?_⟩
    subst e1
    try dsimp only
    have ln:ns.length≤300:=by omega
    have pa2:=pa.sb B1 t2
    have ntb:tabOf K "Room" "going" ≠ b:=fun z=>by have t:=tb'; unfold Tb at t; rw [z,Bb.at'] at t; cases t
    have u2:=t1.trans t2
    have tb2:Tb K G2:=u2 _ _ ntb tb'
    have nsb':∀ x∈ns,0≤x∧x≤9999:=fun x hx=>by
      obtain ⟨x0,x1⟩:=nsb x hx
      refine ⟨x0,?_⟩
      have:(x+1) * 1≤(x+1) * g.size:=Int.mul_le_mul_of_nonneg_left z0 (by omega)
      omega
    have nsb6:∀ x∈ns,0≤x∧x≤1000000:=fun x hx=>⟨(nsb' x hx).1,by have:=(nsb' x hx).2; omega⟩
    have b2:Bk K G2 tp ts g.cfs lr ns:=⟨pa2,tb2,elr⟩
    clear epp pa Bb B1 B2 hc1 t1 hc2 t2 pa2 tb2 elr
    refine hide fun u1 e1=>?_
    refine ⟨_,rfl,_,rfl,(by show 3≤sizeLine; decide),fun p1 hp1=>?_⟩
    have s3:=Zh hp1 (.tup [.int g.size,.str "free",.ref tp])
    have ep1:upd G2 p1 (.tup [.int g.size,.str "free",.ref tp]) p1=some (.tup [.int g.size,.str "free",.ref tp]):=Za
    generalize upd G2 p1 (.tup [.int g.size,.str "free",.ref tp])=G3 at *
    have b3:=b2.same s3
    refine ⟨_,rfl,lr,_,rfl,.inl (SqL.of b3.elr),fun l5 hl5=>?_⟩
    have s4:=Zh hl5 (.lst (ns.map V.int))
    have el5:upd G3 l5 (.lst (ns.map V.int)) l5=some (.lst (ns.map V.int)):=Za
    generalize upd G3 l5 (.lst (ns.map V.int))=G4 at *
    have b4:=b3.same s4
    refine ⟨p1,tp,l5,⟨g.size, "free",g.cfs⟩,ts,ns,rfl,s4 _ _ ep1,b4.pa,z0,(by show g.size≤1000; omega),l1,l4,b4.tb,el5,by omega,nsb6,fun lf G5 hlf s5 elf=>?_⟩
    rw [Zmn] at elf
    have b5:=b4.same s5
    refine ⟨_,rfl,_,rfl,tp,lr,ts,g.cfs,ns,rfl,b5.pa,b5.elr,l4,by omega,nF_le _ _,b5.tb,fun lg G6 hlg s6 elg=>?_⟩
    have b6:=b5.same s6
    have nfl:(natsV (nF g.cfs ns)).length≤1000:=by rw [ZaF]; unfold nF; rw [ZdI]; omega
    refine ⟨.ref lf,.ref lg,rfl,Eqv.flat (s6 _ _ elf) elg nfl (Zmo _),fun G7 s7=>⟨_,rfl,ifF rfl ?_⟩⟩
    subst e1
    dsimp only [tNext]
    have b7:=b6.same s7
    have u7:=u2.trans ((((s3.trans s4).trans s5).trans (s6.trans s7)).sb b)
    clear s3 s4 s5 s6 s7 b2 b3 b4 b5 b6 ep1 el5 elf elg u2
    refine hide fun u1 e1=>?_
    refine ⟨_,rfl,_,rfl,(by show 3≤sizeLine; decide),fun p2 hp2=>?_⟩
    have s8:=Zh hp2 (.tup [.int g.size,.str "apart",.ref tp])
    have ep2:upd G7 p2 (.tup [.int g.size,.str "apart",.ref tp]) p2=some (.tup [.int g.size,.str "apart",.ref tp]):=Za
    generalize upd G7 p2 (.tup [.int g.size,.str "apart",.ref tp])=G8 at *
    have b8:=b7.same s8
    refine ⟨_,rfl,lr,_,rfl,.inl (SqL.of b8.elr),fun l9 hl9=>?_⟩
    have s9:=Zh hl9 (.lst (ns.map V.int))
    have el9:upd G8 l9 (.lst (ns.map V.int)) l9=some (.lst (ns.map V.int)):=Za
    generalize upd G8 l9 (.lst (ns.map V.int))=G9 at *
    have b9:=b8.same s9
    obtain ⟨c0,ec0⟩:∃ c,g.cfs[0]?=some c:=⟨_,List.getElem?_eq_getElem (by omega)⟩
    obtain ⟨t0,et0⟩:∃ t,ts[0]?=some t:=⟨_,List.getElem?_eq_getElem (by rw [b9.pa.len]; omega)⟩
    have fa0:=ZdG (g:=⟨g.size, "apart",g.cfs⟩) rfl ec0 ns (ZbO ⟨g.size, "apart",g.cfs⟩) eS (ZdF _) (by unfold ZbO; rw [List.getElem?_replicate,if_pos (by show 0<g.cfs.length; omega)])
    refine ⟨p2,tp,l9,⟨g.size, "apart",g.cfs⟩,ts,ns,rfl,s9 _ _ ep2,b9.pa,z0,(by show g.size≤1000; omega),l1,l4,b9.tb,el9,by omega,nsb6,fun lh G10 hlh s10 elh=>⟨lh,rfl,⟨_,SqL.of elh⟩,fun lc hlc=>?_⟩⟩
    have b10:=b9.same s10
    have fl:(Zay ⟨g.size, "apart",g.cfs⟩ (ZbO ⟨g.size, "apart",g.cfs⟩) ns).length=ns.length:=Zdi ..
    generalize Zay ⟨g.size, "apart",g.cfs⟩ (ZbO ⟨g.size, "apart",g.cfs⟩) ns=fs at *
    refine Zct (K:=K) (a:=lh) (xs:=natsV fs) (l:=lc) (fun i ys σ G=>∃ v0:Option V,σ=[v0]∧ys=((fs.map fun n=>decide (n=0)).take i).map V.bl∧G=upd G10 lc (.lst ys)) ⟨none,rfl,rfl,rfl⟩ (fun i ys σ G _ ⟨_,_,_,e⟩=>by rw [e]; exact SqL.of (Zh hlc _ _ _ elh)) ?_ ?_
    · rintro i x ys σ G hi hxi hys ⟨v0,rfl,rfl,rfl⟩
      obtain ⟨n,en,rfl⟩:=ZgW hxi
      have ed:decide (V.int (n:Int)=V.int 0)=decide (n=0):=by
        rw [decide_eq_decide]
        constructor
        · intro h; injection h with h; omega
        · intro h; rw [h]; rfl
      refine ⟨_,rfl,rfl,?_⟩
      rw [ed]
      exact CNx.of (Nat.le_of_lt (Zv (by rw [ZaF]; omega))) hi hys Za ⟨_,rfl,by rw [List.take_succ,List.getElem?_map,en,List.map_append]; rfl,ZdK⟩
    rintro ys σ G _ ⟨v0,rfl,rfl,rfl⟩
    rw [ZaF,List.take_of_length_le (by rw [List.length_map]; exact Nat.le_refl _),fa0]
    refine gN ?_
    subst e1
    try dsimp only
    have s11:=Zh hlc (.lst ((runB c0 eS ns).map V.bl))
    have elc:upd G10 lc (.lst ((runB c0 eS ns).map V.bl)) lc=some (.lst ((runB c0 eS ns).map V.bl)):=Za
    have b11:=b10.same s11
    generalize upd G10 lc (.lst ((runB c0 eS ns).map V.bl))=G11 at *
    obtain ⟨wr0,ht0,_⟩:=b11.pa.at_ 0 t0 c0 et0 ec0
    obtain ⟨d0,d1,d2,d3⟩:=b11.pa.cf c0 (List.mem_of_getElem? ec0)
    have at0:atI (ts.map V.ref) 0=some (.ref t0):=ZaQ (j:=0) (by rw [List.getElem?_map,et0]; rfl)
    refine hide fun u1 e1=>?_
    refine ⟨_,rfl,_,rfl,tp,_,_,_,rfl,rfl,SqT.of b11.pa.top,at0,_,rfl,t0,lr,c0,wr0,ns,rfl,ht0,SqL.of b11.elr,d0,d1,d2,d3,by omega,b11.tb,fun p lf' lr' G12 hlf' hlr' s12 ep ef er=>⟨p,_,_,_,rfl,rfl,SqT.of ep,atI0,lc,lf',_,_,fun _=>true,rfl,rfl,fun i u v h1 h2=>?_,SqL.of (s12 _ _ elc),SqL.of ef,.inl ⟨rfl,_,rfl,ifF (by simp) ?_⟩⟩⟩
    · rw [h1] at h2
      cases h2
      rw [List.getElem?_map] at h1
      cases e:(runB c0 eS ns)[i]? with
      | none=>rw [e] at h1; cases h1
      | some f=>rw [e] at h1; cases h1; exact ⟨rfl,rfl,(Zgg rfl).symm⟩
    subst e1
    dsimp only [tNext]
    have b12:=b11.same s12
    have u12:=u7.trans ((((s8.trans s9).trans s10).trans (s11.trans s12)).sb b)
    clear s8 s9 s10 s11 s12 b7 b8 b9 b10 b11 ep2 el9 elh elc u7 ht0 fa0 ep ef er
    refine hide fun u1 e1=>?_
    refine ⟨_,rfl,tp,rfl,⟨_,SqT.of b12.pa.top⟩,fun l hl=>?_⟩
    refine Zjo (K:=K) (a:=tp) (xs:=ts.map V.ref) (l:=l) (fun i ys σ G=>∃ (v0:Option V) (us:List Addr),σ=[v0]∧ys=us.map V.ref∧us.length=i∧(∀ (j:Nat) (t:Addr) (d:Cf),us[j]?=some t→(deepC g.cfs)[j]?=some d→∃ wr:Str,G t=some (.tup [.int d.sh,.int d.pl,.str d.ru,.str wr])∧d.late=decide (wr = "late"))∧G l=some (.lst ys)∧Same G12 G)
      ⟨none,[],rfl,rfl,rfl,(fun j t d h=>by simp at h),Za,Zh hl _⟩ (fun i ys σ G _ ⟨_,_,_,_,_,_,_,s⟩=>SqT.of (s _ _ b12.pa.top)) ?_ ?_
    · rintro i x ys σ G hi hxi hys ⟨v0,us,rfl,rfl,hus,hat,g1,s13⟩
      obtain ⟨t,rfl,et⟩:∃ t,x=V.ref t∧ts[i]?=some t:=by
        rw [List.getElem?_map] at hxi
        cases e:ts[i]? with
        | none=>rw [e] at hxi; cases hxi
        | some b=>rw [e] at hxi; exact ⟨b,(Option.some.inj hxi).symm,rfl⟩
      have hi2:i<g.cfs.length:=by have:=(List.getElem?_eq_some_iff.mp et).1; rw [b12.pa.len] at this; exact this
      have ec:g.cfs[i]?=some g.cfs[i]:=List.getElem?_eq_getElem hi2
      generalize g.cfs[i]=cf at ec
      obtain ⟨wr,e1',ew⟩:=b12.pa.at_ i t cf et ec
      have e2:=SqT.of (K:=K) (s13 _ _ e1')
      refine ⟨_,rfl,t,_,_,_,rfl,rfl,e2,atI1,_,rfl,t,_,_,_,rfl,rfl,e2,atI3,(by show 4≤sizeLine; decide),fun pt hpt=>?_⟩
      have s14:=Zh hpt (.tup [.int 1,.int cf.pl,.str "old",.str wr])
      have g2:=s14 _ _ g1
      have npl:pt≠l:=Ne.symm (Zd g1 hpt)
      refine CNx.of (Nat.le_trans (by rw [List.length_map,b12.pa.len]; exact l4:_≤4) (by decide)) hi hys g2 ⟨_,us++[pt],rfl,by rw [List.map_append]; rfl,by rw [List.length_append,hus]; rfl,fun j t' d h1 h2=>?_,Za,fun y o e=>?_⟩
      · by_cases hj:j<i
        · rw [List.getElem?_append_left (by omega)] at h1
          obtain ⟨wr',q1,q2⟩:=hat j t' d h1 h2
          refine ⟨wr',?_,q2⟩
          have q1':=s14 _ _ q1
          rw [Zb (fun z=>by rw [z,g2] at q1'; cases q1')]
          exact q1'
        · have hj2:j=i:=by have:=(List.getElem?_eq_some_iff.mp h1).1; rw [List.length_append,List.length_singleton] at this; omega
          subst hj2
          rw [List.getElem?_append_right (by omega),show j - us.length=0 by omega] at h1
          unfold deepC at h2
          rw [List.getElem?_map,ec] at h2
          cases h1; cases h2
          exact ⟨wr,by rw [Zb npl]; exact Za,ew⟩
      · rw [Zb (Zd e hl)]
        exact s14 _ _ (s13 _ _ e)
    rintro ys σ G13 _ ⟨v0,us,rfl,rfl,hus,hat,g1,s13⟩
    rw [List.length_map,b12.pa.len] at hus
    have dl:(deepC g.cfs).length=g.cfs.length:=by unfold deepC; rw [List.length_map]
    refine ⟨l,_,rfl,.inl ⟨SqL.of g1,fun td htd=>gN ?_⟩⟩
    subst e1
    try dsimp only
    have s14:=s13.trans (Zh htd (.tup (us.map V.ref)))
    have pd:PlanAt K (upd G13 td (.tup (us.map V.ref))) td us (deepC g.cfs):=⟨Za,by omega,fun j t d h1 h2=>by obtain ⟨wr,q1,q2⟩:=hat j t d h1 h2; exact ⟨wr,Zh htd _ _ _ q1,q2⟩,fun c hc=>by
      unfold deepC at hc
      obtain ⟨c',hc',rfl⟩:=List.mem_map.mp hc
      have:=b12.pa.cf c' hc'
      exact ⟨by show (1:Int)≤1; decide,by show (1:Int)≤64; decide,this.2.2.1,this.2.2.2⟩⟩
    generalize upd G13 td (.tup (us.map V.ref))=G14 at *
    have b14:=b12.same s14
    have hdeep:∀ c∈deepC g.cfs,Deep c:=fun c hc=>by
      have:=(pd.cf c hc).2.2.1
      unfold deepC at hc
      obtain ⟨c',hc',rfl⟩:=List.mem_map.mp hc
      exact ⟨rfl,rfl,this⟩
    refine ⟨_,rfl,_,rfl,(by show 3≤sizeLine; decide),fun p3 hp3=>?_⟩
    have s15:=Zh hp3 (.tup [.int g.size,.str "apart",.ref td])
    have ep3:upd G14 p3 (.tup [.int g.size,.str "apart",.ref td]) p3=some (.tup [.int g.size,.str "apart",.ref td]):=Za
    generalize upd G14 p3 (.tup [.int g.size,.str "apart",.ref td])=G15 at *
    have b15:=b14.same s15
    refine ⟨_,rfl,lr,_,rfl,.inl (SqL.of b15.elr),fun l6 hl6=>?_⟩
    have s16:=Zh hl6 (.lst (ns.map V.int))
    have el6:upd G15 l6 (.lst (ns.map V.int)) l6=some (.lst (ns.map V.int)):=Za
    generalize upd G15 l6 (.lst (ns.map V.int))=G16 at *
    have b16:=b15.same s16
    have pd16:=(pd.same s15).same s16
    refine ⟨p3,td,l6,⟨g.size, "apart",deepC g.cfs⟩,us,ns,rfl,s16 _ _ ep3,pd16,z0,(by show g.size≤1000; omega),(by show 1≤(deepC g.cfs).length; omega),(by show (deepC g.cfs).length≤4; omega),b16.tb,el6,by omega,nsb6,fun lf G17 hlf s17 elf=>?_⟩
    rw [ZhZ (g:=⟨g.size, "apart",deepC g.cfs⟩) rfl hdeep ns] at elf
    have b17:=b16.same s17
    refine ⟨_,rfl,_,rfl,td,lr,us,deepC g.cfs,ns,rfl,pd16.same s17,b17.elr,by omega,by omega,nsb',b17.tb,fun lg G18 hlg s18 elg=>?_⟩
    refine ⟨.ref lf,.ref lg,rfl,Eqv.flat (s18 _ _ elf) elg (by rw [ZaF,Zfx]; omega) (Zmo _),fun G19 s19=>⟨_,rfl,ifF rfl ?_⟩⟩
    have u19:=u12.trans ((((s14.trans s15).trans s16).trans ((s17.trans s18).trans s19)).sb b)
    refine ⟨_,_,_,_,_,_,_,rfl,u19 _ _ nrb hr',(b17.same (s18.trans s19)).tb,fun j' b' hj' hb'=>?_⟩
    obtain ⟨a1,q1,B1⟩:=hbx j' b' (by omega) hb'
    refine ⟨a1,q1,B1.sb u19 fun z=>?_⟩
    subst z
    have:=(List.getElem?_inj (List.getElem?_eq_some_iff.mp hb').1 B.nd).mp (hb'.trans hbi.symm)
    omega
  · rintro σ H' ⟨v1,v2,v3,v4,v5,v6,v7,rfl,hr',tb',hbx⟩
    exact k H'
end
theorem Zpj {l:PySem.W.OpenLaw} {w:World} {K:PySem.W.Frag} {h:Heap} {mg:Str→Option Value} {fa:Addr} {tp cg:Addr} (X:K.In h) (G:h.Ns mainGlobals mg) (hfa:mg "law" = some (.ref fa))
    {CaRoom:Addr} (aCRoom:PySem.W.nsIn K mainGlobals "Room" = some (some (.ref CaRoom)))
    {CaStore:Addr} (aCStore:PySem.W.nsIn K mainGlobals "Store" = some (some (.ref CaStore)))
    {CaMemory:Addr} (aCMemory:PySem.W.nsIn K mainGlobals "Memory" = some (some (.ref CaMemory)))
    {CaStairs:Addr} (aCStairs:PySem.W.nsIn K mainGlobals "Stairs" = some (some (.ref CaStairs)))
    {CaSteps:Addr} (aCSteps:PySem.W.nsIn K mainGlobals "Steps" = some (some (.ref CaSteps)))
    {f0:Addr} {od0 an0:Option Addr} {sl0:Array (Option Value)} {oc0 kV0 dc0 pm0 cd0 ct0:Value}
    (a0:PySem.W.nsIn K mainGlobals "_law_take" = some (some (.ref f0))) (l0:K.lookup f0=some ⟨oc0,od0,.func (PySem.W.fnOf "_law_take" "_law_take" (Zm ZfP) (Zl ZfP) (Zc ZfP) .none kV0 dc0 pm0 an0 cd0 ct0),sl0⟩) (c0:PySem.W.codeIn K cd0 "_law_take" = true) (k0:PySem.W.keepIn K (.ref f0)=true)
    {f1:Addr} {od1 an1:Option Addr} {sl1:Array (Option Value)} {oc1 kV1 dc1 pm1 cd1 ct1:Value}
    (a1:PySem.W.nsIn K mainGlobals "_law_box" = some (some (.ref f1))) (l1:K.lookup f1=some ⟨oc1,od1,.func (PySem.W.fnOf "_law_box" "_law_box" (Zm s_box) (Zl s_box) (Zc s_box) .none kV1 dc1 pm1 an1 cd1 ct1),sl1⟩) (c1:PySem.W.codeIn K cd1 "_law_box" = true) (k1:PySem.W.keepIn K (.ref f1)=true)
    {f2:Addr} {od2 an2:Option Addr} {sl2:Array (Option Value)} {oc2 kV2 dc2 pm2 cd2 ct2:Value}
    (a2:PySem.W.nsIn K mainGlobals "_law_folded" = some (some (.ref f2))) (l2:K.lookup f2=some ⟨oc2,od2,.func (PySem.W.fnOf "_law_folded" "_law_folded" (Zm ZcP) (Zl ZcP) (Zc ZcP) .none kV2 dc2 pm2 an2 cd2 ct2),sl2⟩) (c2:PySem.W.codeIn K cd2 "_law_folded" = true) (k2:PySem.W.keepIn K (.ref f2)=true)
    {f3:Addr} {od3 an3:Option Addr} {sl3:Array (Option Value)} {oc3 kV3 dc3 pm3 cd3 ct3:Value}
    (a3:PySem.W.nsIn K mainGlobals "_law_boxes" = some (some (.ref f3))) (l3:K.lookup f3=some ⟨oc3,od3,.func (PySem.W.fnOf "_law_boxes" "_law_boxes" (Zm Zdd) (Zl Zdd) (Zc Zdd) .none kV3 dc3 pm3 an3 cd3 ct3),sl3⟩) (c3:PySem.W.codeIn K cd3 "_law_boxes" = true) (k3:PySem.W.keepIn K (.ref f3)=true)
    {f4:Addr} {od4 an4:Option Addr} {sl4:Array (Option Value)} {oc4 kV4 dc4 pm4 cd4 ct4:Value}
    (a4:PySem.W.nsIn K mainGlobals "_law_some_boards" = some (some (.ref f4))) (l4:K.lookup f4=some ⟨oc4,od4,.func (PySem.W.fnOf "_law_some_boards" "_law_some_boards" (Zm Zao) (Zl Zao) (Zc Zao) .none kV4 dc4 pm4 an4 cd4 ct4),sl4⟩) (c4:PySem.W.codeIn K cd4 "_law_some_boards" = true) (k4:PySem.W.keepIn K (.ref f4)=true)
    {f5:Addr} {od5 an5:Option Addr} {sl5:Array (Option Value)} {oc5 kV5 dc5 pm5 cd5 ct5:Value}
    (a5:PySem.W.nsIn K mainGlobals "shelf_of" = some (some (.ref f5))) (l5:K.lookup f5=some ⟨oc5,od5,.func (PySem.W.fnOf "shelf_of" "shelf_of" (Zm ZbT) (Zl ZbT) (Zc ZbT) .none kV5 dc5 pm5 an5 cd5 ct5),sl5⟩) (c5:PySem.W.codeIn K cd5 "shelf_of" = true) (k5:PySem.W.keepIn K (.ref f5)=true)
    {f6:Addr} {od6 an6:Option Addr} {sl6:Array (Option Value)} {oc6 kV6 dc6 pm6 cd6 ct6:Value}
    (a6:PySem.W.findIn K (.ref CaRoom) "has" = some (some (.ref f6))) (i6:PySem.W.isFn K (.ref f6)=true) (l6:K.lookup f6=some ⟨oc6,od6,.func (PySem.W.fnOf "has" "Room.has" (Zm ZbV) (Zl ZbV) (Zc ZbV) .none kV6 dc6 pm6 an6 cd6 ct6),sl6⟩) (c6:PySem.W.codeIn K cd6 "Room.has" = true) (k6:PySem.W.keepIn K (.ref f6)=true)
    {f7:Addr} {od7 an7:Option Addr} {sl7:Array (Option Value)} {oc7 kV7 dc7 pm7 cd7 ct7:Value}
    (a7:PySem.W.findIn K (.ref CaRoom) "mates" = some (some (.ref f7))) (i7:PySem.W.isFn K (.ref f7)=true) (l7:K.lookup f7=some ⟨oc7,od7,.func (PySem.W.fnOf "mates" "Room.mates" (Zm ZaX) (Zl ZaX) (Zc ZaX) .none kV7 dc7 pm7 an7 cd7 ct7),sl7⟩) (c7:PySem.W.codeIn K cd7 "Room.mates" = true) (k7:PySem.W.keepIn K (.ref f7)=true)
    {f8:Addr} {od8 an8:Option Addr} {sl8:Array (Option Value)} {oc8 kV8 dc8 pm8 cd8 ct8:Value}
    (a8:PySem.W.findIn K (.ref CaRoom) "need" = some (some (.ref f8))) (i8:PySem.W.isFn K (.ref f8)=true) (l8:K.lookup f8=some ⟨oc8,od8,.func (PySem.W.fnOf "need" "Room.need" (Zm Zbs) (Zl Zbs) (Zc Zbs) .none kV8 dc8 pm8 an8 cd8 ct8),sl8⟩) (c8:PySem.W.codeIn K cd8 "Room.need" = true) (k8:PySem.W.keepIn K (.ref f8)=true)
    {f9:Addr} {od9 an9:Option Addr} {sl9:Array (Option Value)} {oc9 kV9 dc9 pm9 ct9:Value}
    (a9:PySem.W.findIn K (.ref CaRoom) "going" = some (some (.ref f9))) (i9:PySem.W.isFn K (.ref f9)=true) (l9:K.lookup f9=some ⟨oc9,od9,.func (PySem.W.fnOf "going" "Room.going" (Zm Zaa) (Zl Zaa) (Zc Zaa) .none kV9 dc9 pm9 an9 (.ref cg) ct9),sl9⟩) (c9:PySem.W.codeIn K (.ref cg) "Room.going" = true) (k9:PySem.W.keepIn K (.ref f9)=true)
    {f10:Addr} {od10 an10:Option Addr} {sl10:Array (Option Value)} {oc10 kV10 dc10 pm10 cd10 ct10:Value}
    (a10:PySem.W.findIn K (.ref CaRoom) "drop" = some (some (.ref f10))) (i10:PySem.W.isFn K (.ref f10)=true) (l10:K.lookup f10=some ⟨oc10,od10,.func (PySem.W.fnOf "drop" "Room.drop" (Zm Zbq) (Zl Zbq) (Zc Zbq) .none kV10 dc10 pm10 an10 cd10 ct10),sl10⟩) (c10:PySem.W.codeIn K cd10 "Room.drop" = true) (k10:PySem.W.keepIn K (.ref f10)=true)
    {f11:Addr} {od11 an11:Option Addr} {sl11:Array (Option Value)} {oc11 kV11 dc11 pm11 cd11 ct11:Value}
    (a11:PySem.W.findIn K (.ref CaRoom) "use" = some (some (.ref f11))) (i11:PySem.W.isFn K (.ref f11)=true) (l11:K.lookup f11=some ⟨oc11,od11,.func (PySem.W.fnOf "use" "Room.use" (Zm ZbW) (Zl ZbW) (Zc ZbW) .none kV11 dc11 pm11 an11 cd11 ct11),sl11⟩) (c11:PySem.W.codeIn K cd11 "Room.use" = true) (k11:PySem.W.keepIn K (.ref f11)=true)
    {f12:Addr} {od12 an12:Option Addr} {sl12:Array (Option Value)} {oc12 kV12 dc12 pm12 cd12 ct12:Value}
    (a12:PySem.W.findIn K (.ref CaRoom) "__init__" = some (some (.ref f12))) (i12:PySem.W.isFn K (.ref f12)=true) (l12:K.lookup f12=some ⟨oc12,od12,.func (PySem.W.fnOf "__init__" "Room.__init__" (Zm ZaR) (Zl ZaR) (Zc ZaR) .none kV12 dc12 pm12 an12 cd12 ct12),sl12⟩) (c12:PySem.W.codeIn K cd12 "Room.__init__" = true) (k12:PySem.W.keepIn K (.ref f12)=true)
    {f13:Addr} {od13 an13:Option Addr} {sl13:Array (Option Value)} {oc13 kV13 dc13 pm13 cd13 ct13:Value}
    (a13:PySem.W.findIn K (.ref CaRoom) "leaver_for" = some (some (.ref f13))) (i13:PySem.W.isFn K (.ref f13)=true) (l13:K.lookup f13=some ⟨oc13,od13,.func (PySem.W.fnOf "leaver_for" "Room.leaver_for" (Zm ZO) (Zl ZO) (Zc ZO) .none kV13 dc13 pm13 an13 cd13 ct13),sl13⟩) (c13:PySem.W.codeIn K cd13 "Room.leaver_for" = true) (k13:PySem.W.keepIn K (.ref f13)=true)
    {f14:Addr} {od14 an14:Option Addr} {sl14:Array (Option Value)} {oc14 kV14 dc14 pm14 cd14 ct14:Value}
    (a14:PySem.W.findIn K (.ref CaRoom) "bring" = some (some (.ref f14))) (i14:PySem.W.isFn K (.ref f14)=true) (l14:K.lookup f14=some ⟨oc14,od14,.func (PySem.W.fnOf "bring" "Room.bring" (Zm ZaV) (Zl ZaV) (Zc ZaV) .none kV14 dc14 pm14 an14 cd14 ct14),sl14⟩) (c14:PySem.W.codeIn K cd14 "Room.bring" = true) (k14:PySem.W.keepIn K (.ref f14)=true)
    {f15:Addr} {od15 an15:Option Addr} {sl15:Array (Option Value)} {oc15 kV15 dc15 pm15 cd15 ct15:Value}
    (a15:PySem.W.findIn K (.ref CaStore) "__init__" = some (some (.ref f15))) (i15:PySem.W.isFn K (.ref f15)=true) (l15:K.lookup f15=some ⟨oc15,od15,.func (PySem.W.fnOf "__init__" "Store.__init__" (Zm ZaY) (Zl ZaY) (Zc ZaY) .none kV15 dc15 pm15 an15 cd15 ct15),sl15⟩) (c15:PySem.W.codeIn K cd15 "Store.__init__" = true) (k15:PySem.W.keepIn K (.ref f15)=true)
    {f16:Addr} {od16 an16:Option Addr} {sl16:Array (Option Value)} {oc16 kV16 dc16 pm16 cd16 ct16:Value}
    (a16:PySem.W.findIn K (.ref CaStore) "has" = some (some (.ref f16))) (i16:PySem.W.isFn K (.ref f16)=true) (l16:K.lookup f16=some ⟨oc16,od16,.func (PySem.W.fnOf "has" "Store.has" (Zm Zbt) (Zl Zbt) (Zc Zbt) .none kV16 dc16 pm16 an16 cd16 ct16),sl16⟩) (c16:PySem.W.codeIn K cd16 "Store.has" = true) (k16:PySem.W.keepIn K (.ref f16)=true)
    {f17:Addr} {od17 an17:Option Addr} {sl17:Array (Option Value)} {oc17 kV17 dc17 pm17 cd17 ct17:Value}
    (a17:PySem.W.findIn K (.ref CaStore) "lay" = some (some (.ref f17))) (i17:PySem.W.isFn K (.ref f17)=true) (l17:K.lookup f17=some ⟨oc17,od17,.func (PySem.W.fnOf "lay" "Store.lay" (Zm Zbv) (Zl Zbv) (Zc Zbv) .none kV17 dc17 pm17 an17 cd17 ct17),sl17⟩) (c17:PySem.W.codeIn K cd17 "Store.lay" = true) (k17:PySem.W.keepIn K (.ref f17)=true)
    {f18:Addr} {od18 an18:Option Addr} {sl18:Array (Option Value)} {oc18 kV18 dc18 pm18 cd18 ct18:Value}
    (a18:PySem.W.findIn K (.ref CaStore) "take_in" = some (some (.ref f18))) (i18:PySem.W.isFn K (.ref f18)=true) (l18:K.lookup f18=some ⟨oc18,od18,.func (PySem.W.fnOf "take_in" "Store.take_in" (Zm Zag) (Zl Zag) (Zc Zag) .none kV18 dc18 pm18 an18 cd18 ct18),sl18⟩) (c18:PySem.W.codeIn K cd18 "Store.take_in" = true) (k18:PySem.W.keepIn K (.ref f18)=true)
    {f19:Addr} {od19 an19:Option Addr} {sl19:Array (Option Value)} {oc19 kV19 dc19 pm19 cd19 ct19:Value}
    (a19:PySem.W.findIn K (.ref CaStore) "give_out" = some (some (.ref f19))) (i19:PySem.W.isFn K (.ref f19)=true) (l19:K.lookup f19=some ⟨oc19,od19,.func (PySem.W.fnOf "give_out" "Store.give_out" (Zm ZU) (Zl ZU) (Zc ZU) .none kV19 dc19 pm19 an19 cd19 ct19),sl19⟩) (c19:PySem.W.codeIn K cd19 "Store.give_out" = true) (k19:PySem.W.keepIn K (.ref f19)=true)
    {f20:Addr} {od20 an20:Option Addr} {sl20:Array (Option Value)} {oc20 kV20 dc20 pm20 cd20 ct20:Value}
    (a20:PySem.W.findIn K (.ref CaStore) "words_of" = some (some (.ref f20))) (i20:PySem.W.isFn K (.ref f20)=true) (l20:K.lookup f20=some ⟨oc20,od20,.func (PySem.W.fnOf "words_of" "Store.words_of" (Zm ZV) (Zl ZV) (Zc ZV) .none kV20 dc20 pm20 an20 cd20 ct20),sl20⟩) (c20:PySem.W.codeIn K cd20 "Store.words_of" = true) (k20:PySem.W.keepIn K (.ref f20)=true)
    {f21:Addr} {od21 an21:Option Addr} {sl21:Array (Option Value)} {oc21 kV21 dc21 pm21 cd21 ct21:Value}
    (a21:PySem.W.nsIn K mainGlobals "board_of" = some (some (.ref f21))) (l21:K.lookup f21=some ⟨oc21,od21,.func (PySem.W.fnOf "board_of" "board_of" (Zm ZbP) (Zl ZbP) (Zc ZbP) .none kV21 dc21 pm21 an21 cd21 ct21),sl21⟩) (c21:PySem.W.codeIn K cd21 "board_of" = true) (k21:PySem.W.keepIn K (.ref f21)=true)
    {f22:Addr} {od22 an22:Option Addr} {sl22:Array (Option Value)} {oc22 kV22 dc22 pm22 cd22 ct22:Value}
    (a22:PySem.W.nsIn K mainGlobals "spots_of" = some (some (.ref f22))) (l22:K.lookup f22=some ⟨oc22,od22,.func (PySem.W.fnOf "spots_of" "spots_of" (Zm ZbR) (Zl ZbR) (Zc ZbR) .none kV22 dc22 pm22 an22 cd22 ct22),sl22⟩) (c22:PySem.W.codeIn K cd22 "spots_of" = true) (k22:PySem.W.keepIn K (.ref f22)=true)
    {f23:Addr} {od23 an23:Option Addr} {sl23:Array (Option Value)} {oc23 kV23 dc23 pm23 cd23 ct23:Value}
    (a23:PySem.W.findIn K (.ref CaMemory) "__init__" = some (some (.ref f23))) (i23:PySem.W.isFn K (.ref f23)=true) (l23:K.lookup f23=some ⟨oc23,od23,.func (PySem.W.fnOf "__init__" "Memory.__init__" (Zm ZaI) (Zl ZaI) (Zc ZaI) .none kV23 dc23 pm23 an23 cd23 ct23),sl23⟩) (c23:PySem.W.codeIn K cd23 "Memory.__init__" = true) (k23:PySem.W.keepIn K (.ref f23)=true)
    {f24:Addr} {od24 an24:Option Addr} {sl24:Array (Option Value)} {oc24 kV24 dc24 pm24 cd24 ct24:Value}
    (a24:PySem.W.findIn K (.ref CaMemory) "words_of" = some (some (.ref f24))) (i24:PySem.W.isFn K (.ref f24)=true) (l24:K.lookup f24=some ⟨oc24,od24,.func (PySem.W.fnOf "words_of" "Memory.words_of" (Zm ZB) (Zl ZB) (Zc ZB) .none kV24 dc24 pm24 an24 cd24 ct24),sl24⟩) (c24:PySem.W.codeIn K cd24 "Memory.words_of" = true) (k24:PySem.W.keepIn K (.ref f24)=true)
    {f25:Addr} {od25 an25:Option Addr} {sl25:Array (Option Value)} {oc25 kV25 dc25 pm25 cd25 ct25:Value}
    (a25:PySem.W.findIn K (.ref CaStairs) "store" = some (some (.ref f25))) (i25:PySem.W.isFn K (.ref f25)=true) (l25:K.lookup f25=some ⟨oc25,od25,.func (PySem.W.fnOf "store" "Steps.store" (Zm ZaL) (Zl ZaL) (Zc ZaL) .none kV25 dc25 pm25 an25 cd25 ct25),sl25⟩) (c25:PySem.W.codeIn K cd25 "Steps.store" = true) (k25:PySem.W.keepIn K (.ref f25)=true)
    {f26:Addr} {od26 an26:Option Addr} {sl26:Array (Option Value)} {oc26 kV26 dc26 pm26 cd26 ct26:Value}
    (a26:PySem.W.findIn K (.ref CaStairs) "words" = some (some (.ref f26))) (i26:PySem.W.isFn K (.ref f26)=true) (l26:K.lookup f26=some ⟨oc26,od26,.func (PySem.W.fnOf "words" "Steps.words" (Zm ZaJ) (Zl ZaJ) (Zc ZaJ) .none kV26 dc26 pm26 an26 cd26 ct26),sl26⟩) (c26:PySem.W.codeIn K cd26 "Steps.words" = true) (k26:PySem.W.keepIn K (.ref f26)=true)
    {f27:Addr} {od27 an27:Option Addr} {sl27:Array (Option Value)} {oc27 kV27 dc27 pm27 cd27 ct27:Value}
    (a27:PySem.W.findIn K (.ref CaStairs) "happened" = some (some (.ref f27))) (i27:PySem.W.isFn K (.ref f27)=true) (l27:K.lookup f27=some ⟨oc27,od27,.func (PySem.W.fnOf "happened" "Steps.happened" (Zm ZX) (Zl ZX) (Zc ZX) .none kV27 dc27 pm27 an27 cd27 ct27),sl27⟩) (c27:PySem.W.codeIn K cd27 "Steps.happened" = true) (k27:PySem.W.keepIn K (.ref f27)=true)
    {f28:Addr} {od28 an28:Option Addr} {sl28:Array (Option Value)} {oc28 kV28 dc28 pm28 cd28 ct28:Value}
    (a28:PySem.W.findIn K (.ref CaStairs) "leaver" = some (some (.ref f28))) (i28:PySem.W.isFn K (.ref f28)=true) (l28:K.lookup f28=some ⟨oc28,od28,.func (PySem.W.fnOf "leaver" "Steps.leaver" (Zm Zat) (Zl Zat) (Zc Zat) .none kV28 dc28 pm28 an28 cd28 ct28),sl28⟩) (c28:PySem.W.codeIn K cd28 "Steps.leaver" = true) (k28:PySem.W.keepIn K (.ref f28)=true)
    {f29:Addr} {od29 an29:Option Addr} {sl29:Array (Option Value)} {oc29 kV29 dc29 pm29 cd29 ct29:Value}
    (a29:PySem.W.findIn K (.ref CaStairs) "tell_found" = some (some (.ref f29))) (i29:PySem.W.isFn K (.ref f29)=true) (l29:K.lookup f29=some ⟨oc29,od29,.func (PySem.W.fnOf "tell_found" "Steps.tell_found" (Zm ZH) (Zl ZH) (Zc ZH) .none kV29 dc29 pm29 an29 cd29 ct29),sl29⟩) (c29:PySem.W.codeIn K cd29 "Steps.tell_found" = true) (k29:PySem.W.keepIn K (.ref f29)=true)
    {f30:Addr} {od30 an30:Option Addr} {sl30:Array (Option Value)} {oc30 kV30 dc30 pm30 cd30 ct30:Value}
    (a30:PySem.W.findIn K (.ref CaStairs) "use_in" = some (some (.ref f30))) (i30:PySem.W.isFn K (.ref f30)=true) (l30:K.lookup f30=some ⟨oc30,od30,.func (PySem.W.fnOf "use_in" "Steps.use_in" (Zm Zau) (Zl Zau) (Zc Zau) .none kV30 dc30 pm30 an30 cd30 ct30),sl30⟩) (c30:PySem.W.codeIn K cd30 "Steps.use_in" = true) (k30:PySem.W.keepIn K (.ref f30)=true)
    {f31:Addr} {od31 an31:Option Addr} {sl31:Array (Option Value)} {oc31 kV31 dc31 pm31 cd31 ct31:Value}
    (a31:PySem.W.findIn K (.ref CaStairs) "come_in" = some (some (.ref f31))) (i31:PySem.W.isFn K (.ref f31)=true) (l31:K.lookup f31=some ⟨oc31,od31,.func (PySem.W.fnOf "come_in" "Steps.come_in" (Zm Zai) (Zl Zai) (Zc Zai) .none kV31 dc31 pm31 an31 cd31 ct31),sl31⟩) (c31:PySem.W.codeIn K cd31 "Steps.come_in" = true) (k31:PySem.W.keepIn K (.ref f31)=true)
    {f32:Addr} {od32 an32:Option Addr} {sl32:Array (Option Value)} {oc32 kV32 dc32 pm32 cd32 ct32:Value}
    (a32:PySem.W.findIn K (.ref CaStairs) "go_out" = some (some (.ref f32))) (i32:PySem.W.isFn K (.ref f32)=true) (l32:K.lookup f32=some ⟨oc32,od32,.func (PySem.W.fnOf "go_out" "Steps.go_out" (Zm Zaw) (Zl Zaw) (Zc Zaw) .none kV32 dc32 pm32 an32 cd32 ct32),sl32⟩) (c32:PySem.W.codeIn K cd32 "Steps.go_out" = true) (k32:PySem.W.keepIn K (.ref f32)=true)
    {f33:Addr} {od33 an33:Option Addr} {sl33:Array (Option Value)} {oc33 kV33 dc33 pm33 cd33 ct33:Value}
    (a33:PySem.W.findIn K (.ref CaStairs) "word_in" = some (some (.ref f33))) (i33:PySem.W.isFn K (.ref f33)=true) (l33:K.lookup f33=some ⟨oc33,od33,.func (PySem.W.fnOf "word_in" "Steps.word_in" (Zm Zak) (Zl Zak) (Zc Zak) .none kV33 dc33 pm33 an33 cd33 ct33),sl33⟩) (c33:PySem.W.codeIn K cd33 "Steps.word_in" = true) (k33:PySem.W.keepIn K (.ref f33)=true)
    {f34:Addr} {od34 an34:Option Addr} {sl34:Array (Option Value)} {oc34 kV34 dc34 pm34 cd34 ct34:Value}
    (g34:PySem.W.specialIn K (.ref CaSteps) "__getattribute__" = some (some (.builtin "type.__getattribute__"))) (r34:PySem.W.readsIn K CaSteps (.type "type")=true) (a34:PySem.W.findCls K (.ref CaSteps) (.type "type") "__init__" = some (.val (.ref f34))) (l34:K.lookup f34=some ⟨oc34,od34,.func (PySem.W.fnOf "__init__" "Steps.__init__" (Zm ZaC) (Zl ZaC) (Zc ZaC) .none kV34 dc34 pm34 an34 cd34 ct34),sl34⟩) (c34:PySem.W.codeIn K cd34 "Steps.__init__" = true) (k34:PySem.W.keepIn K (.ref f34)=true)
    {f35:Addr} {od35 an35:Option Addr} {sl35:Array (Option Value)} {oc35 kV35 dc35 pm35 cd35 ct35:Value}
    (a35:PySem.W.findIn K (.ref CaStairs) "put" = some (some (.ref f35))) (i35:PySem.W.isFn K (.ref f35)=true) (l35:K.lookup f35=some ⟨oc35,od35,.func (PySem.W.fnOf "put" "Steps.put" (Zm Zce) (Zl Zce) (Zc Zce) .none kV35 dc35 pm35 an35 cd35 ct35),sl35⟩) (c35:PySem.W.codeIn K cd35 "Steps.put" = true) (k35:PySem.W.keepIn K (.ref f35)=true)
    {f36:Addr} {od36 an36:Option Addr} {sl36:Array (Option Value)} {oc36 kV36 dc36 pm36 cd36 ct36:Value}
    (a36:PySem.W.findIn K (.ref CaStairs) "go_on" = some (some (.ref f36))) (i36:PySem.W.isFn K (.ref f36)=true) (l36:K.lookup f36=some ⟨oc36,od36,.func (PySem.W.fnOf "go_on" "Stairs.go_on" (Zm ZaP) (Zl ZaP) (Zc ZaP) .none kV36 dc36 pm36 an36 cd36 ct36),sl36⟩) (c36:PySem.W.codeIn K cd36 "Stairs.go_on" = true) (k36:PySem.W.keepIn K (.ref f36)=true)
    {f37:Addr} {od37 an37:Option Addr} {sl37:Array (Option Value)} {oc37 kV37 dc37 pm37 cd37 ct37:Value}
    (a37:PySem.W.findIn K (.ref CaStairs) "change" = some (some (.ref f37))) (i37:PySem.W.isFn K (.ref f37)=true) (l37:K.lookup f37=some ⟨oc37,od37,.func (PySem.W.fnOf "change" "Stairs.change" (Zm ZaE) (Zl ZaE) (Zc ZaE) .none kV37 dc37 pm37 an37 cd37 ct37),sl37⟩) (c37:PySem.W.codeIn K cd37 "Stairs.change" = true) (k37:PySem.W.keepIn K (.ref f37)=true)
    {f38:Addr} {od38 an38:Option Addr} {sl38:Array (Option Value)} {oc38 kV38 dc38 pm38 cd38 ct38:Value}
    (a38:PySem.W.findIn K (.ref CaStairs) "nearest" = some (some (.ref f38))) (i38:PySem.W.isFn K (.ref f38)=true) (l38:K.lookup f38=some ⟨oc38,od38,.func (PySem.W.fnOf "nearest" "Stairs.nearest" (Zm ZY) (Zl ZY) (Zc ZY) .none kV38 dc38 pm38 an38 cd38 ct38),sl38⟩) (c38:PySem.W.codeIn K cd38 "Stairs.nearest" = true) (k38:PySem.W.keepIn K (.ref f38)=true)
    {f39:Addr} {od39 an39:Option Addr} {sl39:Array (Option Value)} {oc39 kV39 dc39 pm39 cd39 ct39:Value}
    (a39:PySem.W.findIn K (.ref CaStairs) "drive_out" = some (some (.ref f39))) (i39:PySem.W.isFn K (.ref f39)=true) (l39:K.lookup f39=some ⟨oc39,od39,.func (PySem.W.fnOf "drive_out" "Stairs.drive_out" (Zm ZI) (Zl ZI) (Zc ZI) .none kV39 dc39 pm39 an39 cd39 ct39),sl39⟩) (c39:PySem.W.codeIn K cd39 "Stairs.drive_out" = true) (k39:PySem.W.keepIn K (.ref f39)=true)
    {f40:Addr} {od40 an40:Option Addr} {sl40:Array (Option Value)} {oc40 kV40 dc40 pm40 cd40 ct40:Value}
    (a40:PySem.W.findIn K (.ref CaStairs) "fetch_down" = some (some (.ref f40))) (i40:PySem.W.isFn K (.ref f40)=true) (l40:K.lookup f40=some ⟨oc40,od40,.func (PySem.W.fnOf "fetch_down" "Stairs.fetch_down" (Zm ZC) (Zl ZC) (Zc ZC) .none kV40 dc40 pm40 an40 cd40 ct40),sl40⟩) (c40:PySem.W.codeIn K cd40 "Stairs.fetch_down" = true) (k40:PySem.W.keepIn K (.ref f40)=true)
    {f41:Addr} {od41 an41:Option Addr} {sl41:Array (Option Value)} {oc41 kV41 dc41 pm41 cd41 ct41:Value}
    (a41:PySem.W.findIn K (.ref CaStairs) "come_apart" = some (some (.ref f41))) (i41:PySem.W.isFn K (.ref f41)=true) (l41:K.lookup f41=some ⟨oc41,od41,.func (PySem.W.fnOf "come_apart" "Stairs.come_apart" (Zm ZD) (Zl ZD) (Zc ZD) .none kV41 dc41 pm41 an41 cd41 ct41),sl41⟩) (c41:PySem.W.codeIn K cd41 "Stairs.come_apart" = true) (k41:PySem.W.keepIn K (.ref f41)=true)
    {f42:Addr} {od42 an42:Option Addr} {sl42:Array (Option Value)} {oc42 kV42 dc42 pm42 cd42 ct42:Value}
    (a42:PySem.W.findIn K (.ref CaStairs) "push" = some (some (.ref f42))) (i42:PySem.W.isFn K (.ref f42)=true) (l42:K.lookup f42=some ⟨oc42,od42,.func (PySem.W.fnOf "push" "Stairs.push" (Zm Zan) (Zl Zan) (Zc Zan) .none kV42 dc42 pm42 an42 cd42 ct42),sl42⟩) (c42:PySem.W.codeIn K cd42 "Stairs.push" = true) (k42:PySem.W.keepIn K (.ref f42)=true)
    {f43:Addr} {od43 an43:Option Addr} {sl43:Array (Option Value)} {oc43 kV43 dc43 pm43 cd43 ct43:Value}
    (a43:PySem.W.findIn K (.ref CaStairs) "fetch_apart" = some (some (.ref f43))) (i43:PySem.W.isFn K (.ref f43)=true) (l43:K.lookup f43=some ⟨oc43,od43,.func (PySem.W.fnOf "fetch_apart" "Stairs.fetch_apart" (Zm ZA) (Zl ZA) (Zc ZA) .none kV43 dc43 pm43 an43 cd43 ct43),sl43⟩) (c43:PySem.W.codeIn K cd43 "Stairs.fetch_apart" = true) (k43:PySem.W.keepIn K (.ref f43)=true)
    {f44:Addr} {od44 an44:Option Addr} {sl44:Array (Option Value)} {oc44 kV44 dc44 pm44 cd44 ct44:Value}
    (a44:PySem.W.findIn K (.ref CaStairs) "fetch" = some (some (.ref f44))) (i44:PySem.W.isFn K (.ref f44)=true) (l44:K.lookup f44=some ⟨oc44,od44,.func (PySem.W.fnOf "fetch" "Stairs.fetch" (Zm Zax) (Zl Zax) (Zc Zax) .none kV44 dc44 pm44 an44 cd44 ct44),sl44⟩) (c44:PySem.W.codeIn K cd44 "Stairs.fetch" = true) (k44:PySem.W.keepIn K (.ref f44)=true)
    {f45:Addr} {od45 an45:Option Addr} {sl45:Array (Option Value)} {oc45 kV45 dc45 pm45 cd45 ct45:Value}
    (a45:PySem.W.findIn K (.ref CaStairs) "read" = some (some (.ref f45))) (i45:PySem.W.isFn K (.ref f45)=true) (l45:K.lookup f45=some ⟨oc45,od45,.func (PySem.W.fnOf "read" "Stairs.read" (Zm ZaN) (Zl ZaN) (Zc ZaN) .none kV45 dc45 pm45 an45 cd45 ct45),sl45⟩) (c45:PySem.W.codeIn K cd45 "Stairs.read" = true) (k45:PySem.W.keepIn K (.ref f45)=true)
    {f46:Addr} {od46 an46:Option Addr} {sl46:Array (Option Value)} {oc46 kV46 dc46 pm46 cd46 ct46:Value}
    (a46:PySem.W.findIn K (.ref CaStairs) "__init__" = some (some (.ref f46))) (i46:PySem.W.isFn K (.ref f46)=true) (l46:K.lookup f46=some ⟨oc46,od46,.func (PySem.W.fnOf "__init__" "Stairs.__init__" (Zm ZaM) (Zl ZaM) (Zc ZaM) .none kV46 dc46 pm46 an46 cd46 ct46),sl46⟩) (c46:PySem.W.codeIn K cd46 "Stairs.__init__" = true) (k46:PySem.W.keepIn K (.ref f46)=true)
    {f47:Addr} {od47 an47:Option Addr} {sl47:Array (Option Value)} {oc47 kV47 dc47 pm47 cd47 ct47:Value}
    (a47:PySem.W.nsIn K mainGlobals "found_by" = some (some (.ref f47))) (l47:K.lookup f47=some ⟨oc47,od47,.func (PySem.W.fnOf "found_by" "found_by" (Zm ZbY) (Zl ZbY) (Zc ZbY) .none kV47 dc47 pm47 an47 cd47 ct47),sl47⟩) (c47:PySem.W.codeIn K cd47 "found_by" = true) (k47:PySem.W.keepIn K (.ref f47)=true)
    {f48:Addr} {od48 an48:Option Addr} {sl48:Array (Option Value)} {oc48 kV48 dc48 pm48 cd48 ct48:Value}
    (a48:PySem.W.nsIn K mainGlobals "founds" = some (some (.ref f48))) (l48:K.lookup f48=some ⟨oc48,od48,.func (PySem.W.fnOf "founds" "founds" (Zm ZcD) (Zl ZcD) (Zc ZcD) .none kV48 dc48 pm48 an48 cd48 ct48),sl48⟩) (c48:PySem.W.codeIn K cd48 "founds" = true) (k48:PySem.W.keepIn K (.ref f48)=true)
    {f49:Addr} {od49 an49:Option Addr} {sl49:Array (Option Value)} {oc49 kV49 dc49 pm49 cd49 ct49:Value}
    (a49:PySem.W.nsIn K mainGlobals "_law_room_plan" = some (some (.ref f49))) (l49:K.lookup f49=some ⟨oc49,od49,.func (PySem.W.fnOf "_law_room_plan" "_law_room_plan" (Zm Zbw) (Zl Zbw) (Zc Zbw) .none kV49 dc49 pm49 an49 cd49 ct49),sl49⟩) (c49:PySem.W.codeIn K cd49 "_law_room_plan" = true) (k49:PySem.W.keepIn K (.ref f49)=true)
    {f50:Addr} {od50 an50:Option Addr} {sl50:Array (Option Value)} {oc50 kV50 dc50 pm50 cd50 ct50:Value}
    (a50:PySem.W.nsIn K mainGlobals "_law_plan" = some (some (.ref f50))) (l50:K.lookup f50=some ⟨oc50,od50,.func (PySem.W.fnOf "_law_plan" "_law_plan" (Zm ZeY) (Zl ZeY) (Zc ZeY) .none kV50 dc50 pm50 an50 cd50 ct50),sl50⟩) (c50:PySem.W.codeIn K cd50 "_law_plan" = true) (k50:PySem.W.keepIn K (.ref f50)=true)
    {f51:Addr} {od51 an51:Option Addr} {sl51:Array (Option Value)} {oc51 kV51 dc51 pm51 cd51 ct51:Value}
    (a51:PySem.W.nsIn K mainGlobals "_law_many" = some (some (.ref f51))) (l51:K.lookup f51=some ⟨oc51,od51,.func (PySem.W.fnOf "_law_many" "_law_many" (Zm ZfQ) (Zl ZfQ) (Zc ZfQ) .none kV51 dc51 pm51 an51 cd51 ct51),sl51⟩) (c51:PySem.W.codeIn K cd51 "_law_many" = true) (k51:PySem.W.keepIn K (.ref f51)=true)
    {f52:Addr} {od52 an52:Option Addr} {sl52:Array (Option Value)} {oc52 kV52 dc52 pm52 cd52 ct52:Value}
    (a52:PySem.W.nsIn K mainGlobals "_law_row" = some (some (.ref f52))) (l52:K.lookup f52=some ⟨oc52,od52,.func (PySem.W.fnOf "_law_row" "_law_row" (Zm s_row) (Zl s_row) (Zc s_row) .none kV52 dc52 pm52 an52 cd52 ct52),sl52⟩) (c52:PySem.W.codeIn K cd52 "_law_row" = true) (k52:PySem.W.keepIn K (.ref f52)=true)
    {f53:Addr} {od53 an53:Option Addr} {sl53:Array (Option Value)} {oc53 kV53 dc53 pm53 cd53 ct53:Value}
    (a53:PySem.W.nsIn K mainGlobals "beneath_at" = some (some (.ref f53))) (l53:K.lookup f53=some ⟨oc53,od53,.func (PySem.W.fnOf "beneath_at" "beneath_at" (Zm ZaZ) (Zl ZaZ) (Zc ZaZ) .none kV53 dc53 pm53 an53 cd53 ct53),sl53⟩) (c53:PySem.W.codeIn K cd53 "beneath_at" = true) (k53:PySem.W.keepIn K (.ref f53)=true)
    {f54:Addr} {od54 an54:Option Addr} {sl54:Array (Option Value)} {oc54 kV54 dc54 pm54 cd54 ct54:Value}
    (a54:PySem.W.nsIn K mainGlobals "beneath" = some (some (.ref f54))) (l54:K.lookup f54=some ⟨oc54,od54,.func (PySem.W.fnOf "beneath" "beneath" (Zm Zch) (Zl Zch) (Zc Zch) .none kV54 dc54 pm54 an54 cd54 ct54),sl54⟩) (c54:PySem.W.codeIn K cd54 "beneath" = true) (k54:PySem.W.keepIn K (.ref f54)=true)
    {f55:Addr} {od55 an55:Option Addr} {sl55:Array (Option Value)} {oc55 kV55 dc55 pm55 cd55 ct55:Value}
    (a55:PySem.W.nsIn K mainGlobals "ask" = some (some (.ref f55))) (l55:K.lookup f55=some ⟨oc55,od55,.func (PySem.W.fnOf "ask" "ask" (Zm s_ask) (Zl s_ask) (Zc s_ask) .none kV55 dc55 pm55 an55 cd55 ct55),sl55⟩) (c55:PySem.W.codeIn K cd55 "ask" = true) (k55:PySem.W.keepIn K (.ref f55)=true)
    {f56:Addr} {od56 an56:Option Addr} {sl56:Array (Option Value)} {oc56 kV56 dc56 pm56 cd56 ct56:Value}
    (a56:PySem.W.nsIn K mainGlobals "run_row" = some (some (.ref f56))) (l56:K.lookup f56=some ⟨oc56,od56,.func (PySem.W.fnOf "run_row" "run_row" (Zm Zcg) (Zl Zcg) (Zc Zcg) .none kV56 dc56 pm56 an56 cd56 ct56),sl56⟩) (c56:PySem.W.codeIn K cd56 "run_row" = true) (k56:PySem.W.keepIn K (.ref f56)=true)
    {f57:Addr} {od57 an57:Option Addr} {sl57:Array (Option Value)} {oc57 kV57 dc57 pm57 cd57 ct57:Value}
    (a57:PySem.W.nsIn K mainGlobals "_law_same" = some (some (.ref f57))) (l57:K.lookup f57=some ⟨oc57,od57,.func (PySem.W.fnOf "_law_same" "_law_same" (Zm Zed) (Zl Zed) (Zc Zed) .none kV57 dc57 pm57 an57 cd57 ct57),sl57⟩) (c57:PySem.W.codeIn K cd57 "_law_same" = true) (k57:PySem.W.keepIn K (.ref f57)=true)
    {f58:Addr} {od58 an58:Option Addr} {sl58:Array (Option Value)} {oc58 kV58 dc58 pm58 cd58 ct58:Value}
    (a58:PySem.W.nsIn K mainGlobals "_law_left" = some (some (.ref f58))) (l58:K.lookup f58=some ⟨oc58,od58,.func (PySem.W.fnOf "_law_left" "_law_left" (Zm Zef) (Zl Zef) (Zc Zef) .none kV58 dc58 pm58 an58 cd58 ct58),sl58⟩) (c58:PySem.W.codeIn K cd58 "_law_left" = true) (k58:PySem.W.keepIn K (.ref f58)=true)
    {f59:Addr} {od59 an59:Option Addr} {sl59:Array (Option Value)} {oc59 kV59 dc59 pm59 cd59 ct59:Value}
    (a59:PySem.W.nsIn K mainGlobals "_law_free_due" = some (some (.ref f59))) (l59:K.lookup f59=some ⟨oc59,od59,.func (PySem.W.fnOf "_law_free_due" "_law_free_due" (Zm Zbx) (Zl Zbx) (Zc Zbx) .none kV59 dc59 pm59 an59 cd59 ct59),sl59⟩) (c59:PySem.W.codeIn K cd59 "_law_free_due" = true) (k59:PySem.W.keepIn K (.ref f59)=true)
    {f60:Addr} {od60 an60:Option Addr} {sl60:Array (Option Value)} {oc60 kV60 dc60 pm60 cd60 ct60:Value}
    (a60:PySem.W.nsIn K mainGlobals "_law_by_depth" = some (some (.ref f60))) (l60:K.lookup f60=some ⟨oc60,od60,.func (PySem.W.fnOf "_law_by_depth" "_law_by_depth" (Zm ZbZ) (Zl ZbZ) (Zc ZbZ) .none kV60 dc60 pm60 an60 cd60 ct60),sl60⟩) (c60:PySem.W.codeIn K cd60 "_law_by_depth" = true) (k60:PySem.W.keepIn K (.ref f60)=true)
    {f61:Addr} {od61 an61:Option Addr} {sl61:Array (Option Value)} {oc61 kV61 dc61 pm61 cd61 ct61:Value}
    (a61:PySem.W.nsIn K mainGlobals "law" = some (some (.ref f61))) (l61:K.lookup f61=some ⟨oc61,od61,.func (PySem.W.fnOf "law" "law" (Zm s_law) (Zl s_law) (Zc s_law) .none kV61 dc61 pm61 an61 cd61 ct61),sl61⟩) (c61:PySem.W.codeIn K cd61 "law" = true) (k61:PySem.W.keepIn K (.ref f61)=true)
    (z_abs:PySem.W.nsIn K mainGlobals "abs" = some none)
    (z_all:PySem.W.nsIn K mainGlobals "all" = some none)
    (z_bool:PySem.W.nsIn K mainGlobals "bool" = some none)
    (z_divmod:PySem.W.nsIn K mainGlobals "divmod" = some none)
    (z_enumerate:PySem.W.nsIn K mainGlobals "enumerate" = some none)
    (z_int:PySem.W.nsIn K mainGlobals "int" = some none)
    (z_isinstance:PySem.W.nsIn K mainGlobals "isinstance" = some none)
    (z_len:PySem.W.nsIn K mainGlobals "len" = some none)
    (z_list:PySem.W.nsIn K mainGlobals "list" = some none)
    (z_max:PySem.W.nsIn K mainGlobals "max" = some none)
    (z_range:PySem.W.nsIn K mainGlobals "range" = some none)
    (z_set:PySem.W.nsIn K mainGlobals "set" = some none)
    (z_sorted:PySem.W.nsIn K mainGlobals "sorted" = some none)
    (z_str:PySem.W.nsIn K mainGlobals "str" = some none)
    (z_tuple:PySem.W.nsIn K mainGlobals "tuple" = some none)
    (z_zip:PySem.W.nsIn K mainGlobals "zip" = some none)
    (pgRoom:PySem.W.plainGet K CaRoom Str.empty=true) (hdRoom:PySem.W.hasDictIn K CaRoom=true) (poRoom:PySem.W.plainOver K CaRoom=true) (saRoom:PySem.W.findIn K (.ref CaRoom) "__setattr__" = some (some (.builtin "object.__setattr__"))) (mkRoom:PySem.W.makesIn K CaRoom=true) (kcRoom:PySem.W.keepIn K (.ref CaRoom)=true)
    (nRoom_places:PySem.W.findIn K (.ref CaRoom) "places" = some none)
    (nRoom_rule:PySem.W.findIn K (.ref CaRoom) "rule" = some none)
    (nRoom_shelves:PySem.W.findIn K (.ref CaRoom) "shelves" = some none)
    (nRoom_standing:PySem.W.findIn K (.ref CaRoom) "standing" = some none)
    (nRoom_uses:PySem.W.findIn K (.ref CaRoom) "uses" = some none)
    (pgStore:PySem.W.plainGet K CaStore Str.empty=true) (hdStore:PySem.W.hasDictIn K CaStore=true) (poStore:PySem.W.plainOver K CaStore=true) (saStore:PySem.W.findIn K (.ref CaStore) "__setattr__" = some (some (.builtin "object.__setattr__"))) (mkStore:PySem.W.makesIn K CaStore=true) (kcStore:PySem.W.keepIn K (.ref CaStore)=true)
    (nStore_fresh:PySem.W.findIn K (.ref CaStore) "fresh" = some none)
    (nStore_held:PySem.W.findIn K (.ref CaStore) "held" = some none)
    (nStore_late:PySem.W.findIn K (.ref CaStore) "late" = some none)
    (nStore_room:PySem.W.findIn K (.ref CaStore) "room" = some none)
    (pgMemory:PySem.W.plainGet K CaMemory Str.empty=true) (hdMemory:PySem.W.hasDictIn K CaMemory=true) (poMemory:PySem.W.plainOver K CaMemory=true) (saMemory:PySem.W.findIn K (.ref CaMemory) "__setattr__" = some (some (.builtin "object.__setattr__"))) (mkMemory:PySem.W.makesIn K CaMemory=true) (kcMemory:PySem.W.keepIn K (.ref CaMemory)=true)
    (nMemory_kept:PySem.W.findIn K (.ref CaMemory) "kept" = some none)
    (nMemory_size:PySem.W.findIn K (.ref CaMemory) "size" = some none)
    (pgStairs:PySem.W.plainGet K CaStairs Str.empty=true) (hdStairs:PySem.W.hasDictIn K CaStairs=true) (poStairs:PySem.W.plainOver K CaStairs=true) (saStairs:PySem.W.findIn K (.ref CaStairs) "__setattr__" = some (some (.builtin "object.__setattr__"))) (mkStairs:PySem.W.makesIn K CaStairs=true) (kcStairs:PySem.W.keepIn K (.ref CaStairs)=true)
    (nStairs_bottom:PySem.W.findIn K (.ref CaStairs) "bottom" = some none)
    (nStairs_events:PySem.W.findIn K (.ref CaStairs) "events" = some none)
    (nStairs_kind:PySem.W.findIn K (.ref CaStairs) "kind" = some none)
    (nStairs_last:PySem.W.findIn K (.ref CaStairs) "last" = some none)
    (nStairs_size:PySem.W.findIn K (.ref CaStairs) "size" = some none)
    (nStairs_stores:PySem.W.findIn K (.ref CaStairs) "stores" = some none)
    (ch:PySem.W.codeHdIn K cg tp=true) (kt:K.lookup tp=none)
    : tabOf K "Room" "going" = tp∧(∃ c0,PySem.W.codeHdIn K c0 tp=true)∧K.lookup tp=none∧∃ fd:FuncData,(∀ (s:Shared) (v:Value),BindsTo s fd ⟨[v],[]⟩ [("_law_script",v)])∧∀ base:Heap,K.In base→base.Ns mainGlobals mg→BMod base mg→FnOk l.prog w K mg base CX0 20 fa fd P_law (spLaw K):=by
  have e:=hfa.symm.trans (PySem.W.mg_of X G a61)
  cases e
  have hCRoom:=Zdt aCRoom
  subst hCRoom
  have hCStore:=Zdt aCStore
  subst hCStore
  have hCMemory:=Zdt aCMemory
  subst hCMemory
  have hCStairs:=Zdt aCStairs
  subst hCStairs
  have hCSteps:=Zdt aCSteps
  subst hCSteps
  have T:Txt K mg:=⟨PySem.W.mg_none_of X G z_abs,PySem.W.mg_none_of X G z_all,PySem.W.mg_none_of X G z_bool,PySem.W.mg_none_of X G z_divmod,PySem.W.mg_none_of X G z_enumerate,PySem.W.mg_none_of X G z_int,PySem.W.mg_none_of X G z_isinstance,PySem.W.mg_none_of X G z_len,PySem.W.mg_none_of X G z_list,PySem.W.mg_none_of X G z_max,PySem.W.mg_none_of X G z_range,PySem.W.mg_none_of X G z_set,PySem.W.mg_none_of X G z_sorted,PySem.W.mg_none_of X G z_str,PySem.W.mg_none_of X G z_tuple,PySem.W.mg_none_of X G z_zip,⟨pgRoom,hdRoom,poRoom,saRoom⟩,nRoom_places,nRoom_rule,nRoom_shelves,nRoom_standing,nRoom_uses,⟨pgStore,hdStore,poStore,saStore⟩,nStore_fresh,nStore_held,nStore_late,nStore_room,⟨pgMemory,hdMemory,poMemory,saMemory⟩,nMemory_kept,nMemory_size,⟨pgStairs,hdStairs,poStairs,saStairs⟩,nStairs_bottom,nStairs_events,nStairs_kind,nStairs_last,nStairs_size,nStairs_stores⟩
  have F0:=Zs (st:=ZfP) l0 c0 k0
  have b1000:=F0.binds (ps:=Zdx) fun _ _ _ _ _ _ us hl=>match us,hl with | [_,_],_=>rfl
  have F1:=Zs (st:=s_box) l1 c1 k1
  have b1001:=F1.binds (ps:=P_box) fun _ _ _ _ _ _ us hl=>match us,hl with | [_,_],_=>rfl
  have F2:=Zs (st:=ZcP) l2 c2 k2
  have b1002:=F2.binds (ps:=Zdy) fun _ _ _ _ _ _ us hl=>match us,hl with | [_,_],_=>rfl
  have F3:=Zs (st:=Zdd) l3 c3 k3
  have b1003:=F3.binds (ps:=ZeZ) fun _ _ _ _ _ _ us hl=>match us,hl with | [_,_],_=>rfl
  have F4:=Zs (st:=Zao) l4 c4 k4
  have b1004:=F4.binds (ps:=Zbk) fun _ _ _ _ _ _ us hl=>match us,hl with | [_,_],_=>rfl
  have F5:=Zs (st:=ZbT) l5 c5 k5
  have b1005:=F5.binds (ps:=ZbU) fun _ _ _ _ _ _ us hl=>match us,hl with | [_,_],_=>rfl
  have F6:=Zs (st:=ZbV) l6 c6 k6
  have b1006:=F6.binds (ps:=ZaU) fun _ _ _ _ _ _ us hl=>match us,hl with | [_,_],_=>rfl
  have F7:=Zs (st:=ZaX) l7 c7 k7
  have b1007:=F7.binds (ps:=Zal) fun _ _ _ _ _ _ us hl=>match us,hl with | [_,_],_=>rfl
  have F8:=Zs (st:=Zbs) l8 c8 k8
  have b1008:=F8.binds (ps:=ZaS) fun _ _ _ _ _ _ us hl=>match us,hl with | [_,_],_=>rfl
  have F9:=Zs (st:=Zaa) l9 c9 k9
  have b1009:=F9.binds (ps:=ZbD) fun _ _ _ _ _ _ us hl=>match us,hl with | [_,_],_=>rfl
  have F10:=Zs (st:=Zbq) l10 c10 k10
  have b1010:=F10.binds (ps:=Zbr) fun _ _ _ _ _ _ us hl=>match us,hl with | [_,_],_=>rfl
  have F11:=Zs (st:=ZbW) l11 c11 k11
  have b1011:=F11.binds (ps:=ZbX) fun _ _ _ _ _ _ us hl=>match us,hl with | [_,_],_=>rfl
  have F12:=Zs (st:=ZaR) l12 c12 k12
  have b1012:=F12.binds (ps:=Zbp) fun _ _ _ _ _ _ us hl=>match us,hl with | [_,_,_,_],_=>rfl
  have F13:=Zs (st:=ZO) l13 c13 k13
  have b1013:=F13.binds (ps:=ZP) fun _ _ _ _ _ _ us hl=>match us,hl with | [_,_],_=>rfl
  have F14:=Zs (st:=ZaV) l14 c14 k14
  have b1014:=F14.binds (ps:=ZaW) fun _ _ _ _ _ _ us hl=>match us,hl with | [_,_],_=>rfl
  have F15:=Zs (st:=ZaY) l15 c15 k15
  have b1015:=F15.binds (ps:=ZbE) fun _ _ _ _ _ _ us hl=>match us,hl with | [_,_],_=>rfl
  have F16:=Zs (st:=Zbt) l16 c16 k16
  have b1016:=F16.binds (ps:=Zbu) fun _ _ _ _ _ _ us hl=>match us,hl with | [_,_],_=>rfl
  have F17:=Zs (st:=Zbv) l17 c17 k17
  have b1017:=F17.binds (ps:=Zcd) fun _ _ _ _ _ _ us hl=>match us,hl with | [_,_,_],_=>rfl
  have F18:=Zs (st:=Zag) l18 c18 k18
  have b1018:=F18.binds (ps:=ZaB) fun _ _ _ _ _ _ us hl=>match us,hl with | [_,_,_],_=>rfl
  have F19:=Zs (st:=ZU) l19 c19 k19
  have b1019:=F19.binds (ps:=Zaq) fun _ _ _ _ _ _ us hl=>match us,hl with | [_,_],_=>rfl
  have F20:=Zs (st:=ZV) l20 c20 k20
  have b1020:=F20.binds (ps:=ZW) fun _ _ _ _ _ _ us hl=>match us,hl with | [_,_],_=>rfl
  have F21:=Zs (st:=ZbP) l21 c21 k21
  have b1021:=F21.binds (ps:=ZbQ) fun _ _ _ _ _ _ us hl=>match us,hl with | [_,_],_=>rfl
  have F22:=Zs (st:=ZbR) l22 c22 k22
  have b1022:=F22.binds (ps:=ZbS) fun _ _ _ _ _ _ us hl=>match us,hl with | [_,_],_=>rfl
  have F23:=Zs (st:=ZaI) l23 c23 k23
  have b1023:=F23.binds (ps:=Zbf) fun _ _ _ _ _ _ us hl=>match us,hl with | [_,_],_=>rfl
  have F24:=Zs (st:=ZB) l24 c24 k24
  have b1024:=F24.binds (ps:=Zah) fun _ _ _ _ _ _ us hl=>match us,hl with | [_,_],_=>rfl
  have F25:=Zs (st:=ZaL) l25 c25 k25
  have b1025:=F25.binds (ps:=Zbg) fun _ _ _ _ _ _ us hl=>match us,hl with | [_,_],_=>rfl
  have F26:=Zs (st:=ZaJ) l26 c26 k26
  have b1026:=F26.binds (ps:=ZaK) fun _ _ _ _ _ _ us hl=>match us,hl with | [_,_,_],_=>rfl
  have F27:=Zs (st:=ZX) l27 c27 k27
  have b1027:=F27.binds (ps:=Zar) fun _ _ _ _ _ _ us hl=>match us,hl with | [_],_=>rfl
  have F28:=Zs (st:=Zat) l28 c28 k28
  have b1028:=F28.binds (ps:=Zae) fun _ _ _ _ _ _ us hl=>match us,hl with | [_,_,_],_=>rfl
  have F29:=Zs (st:=ZH) l29 c29 k29
  have b1029:=F29.binds (ps:=Zab) fun _ _ _ _ _ _ us hl=>match us,hl with | [_,_],_=>rfl
  have F30:=Zs (st:=Zau) l30 c30 k30
  have b1030:=F30.binds (ps:=Zav) fun _ _ _ _ _ _ us hl=>match us,hl with | [_,_,_],_=>rfl
  have F31:=Zs (st:=Zai) l31 c31 k31
  have b1031:=F31.binds (ps:=Zaj) fun _ _ _ _ _ _ us hl=>match us,hl with | [_,_,_,_],_=>rfl
  have F32:=Zs (st:=Zaw) l32 c32 k32
  have b1032:=F32.binds (ps:=ZM) fun _ _ _ _ _ _ us hl=>match us,hl with | [_,_,_],_=>rfl
  have F33:=Zs (st:=Zak) l33 c33 k33
  have b1033:=F33.binds (ps:=ZaD) fun _ _ _ _ _ _ us hl=>match us,hl with | [_,_,_],_=>rfl
  have F34:=Zs (st:=ZaC) l34 c34 k34
  have b1034:=F34.binds (ps:=ZbF) fun _ _ _ _ _ _ us hl=>match us,hl with | [_,_,_],_=>rfl
  have F35:=Zs (st:=Zce) l35 c35 k35
  have b1035:=F35.binds (ps:=Zcf) fun _ _ _ _ _ _ us hl=>match us,hl with | [_,_,_,_],_=>rfl
  have F36:=Zs (st:=ZaP) l36 c36 k36
  have b1036:=F36.binds (ps:=ZbB) fun _ _ _ _ _ _ us hl=>match us,hl with | [_,_,_,_],_=>rfl
  have F37:=Zs (st:=ZaE) l37 c37 k37
  have b1037:=F37.binds (ps:=Zbj) fun _ _ _ _ _ _ us hl=>match us,hl with | [_,_,_],_=>rfl
  have F38:=Zs (st:=ZY) l38 c38 k38
  have b1038:=F38.binds (ps:=Zas) fun _ _ _ _ _ _ us hl=>match us,hl with | [_,_],_=>rfl
  have F39:=Zs (st:=ZI) l39 c39 k39
  have b1039:=F39.binds (ps:=Zac) fun _ _ _ _ _ _ us hl=>match us,hl with | [_,_,_],_=>rfl
  have F40:=Zs (st:=ZC) l40 c40 k40
  have b1040:=F40.binds (ps:=ZQ) fun _ _ _ _ _ _ us hl=>match us,hl with | [_,_,_],_=>rfl
  have F41:=Zs (st:=ZD) l41 c41 k41
  have b1041:=F41.binds (ps:=ZE) fun _ _ _ _ _ _ us hl=>match us,hl with | [_,_,_,_,_],_=>rfl
  have F42:=Zs (st:=Zan) l42 c42 k42
  have b1042:=F42.binds (ps:=Zad) fun _ _ _ _ _ _ us hl=>match us,hl with | [_,_,_,_,_],_=>rfl
  have F43:=Zs (st:=ZA) l43 c43 k43
  have b1043:=F43.binds (ps:=ZL) fun _ _ _ _ _ _ us hl=>match us,hl with | [_,_,_],_=>rfl
  have F44:=Zs (st:=Zax) l44 c44 k44
  have b1044:=F44.binds (ps:=ZaO) fun _ _ _ _ _ _ us hl=>match us,hl with | [_,_],_=>rfl
  have F45:=Zs (st:=ZaN) l45 c45 k45
  have b1045:=F45.binds (ps:=Zbi) fun _ _ _ _ _ _ us hl=>match us,hl with | [_,_],_=>rfl
  have F46:=Zs (st:=ZaM) l46 c46 k46
  have b1046:=F46.binds (ps:=Zbh) fun _ _ _ _ _ _ us hl=>match us,hl with | [_,_],_=>rfl
  have F47:=Zs (st:=ZbY) l47 c47 k47
  have b1047:=F47.binds (ps:=Zcv) fun _ _ _ _ _ _ us hl=>match us,hl with | [_,_],_=>rfl
  have F48:=Zs (st:=ZcD) l48 c48 k48
  have b1048:=F48.binds (ps:=Zdw) fun _ _ _ _ _ _ us hl=>match us,hl with | [_,_],_=>rfl
  have F49:=Zs (st:=Zbw) l49 c49 k49
  have b1049:=F49.binds (ps:=Zci) fun _ _ _ _ _ _ us hl=>match us,hl with | [_],_=>rfl
  have F50:=Zs (st:=ZeY) l50 c50 k50
  have b1050:=F50.binds (ps:=ZhH) fun _ _ _ _ _ _ us hl=>match us,hl with | [_],_=>rfl
  have F51:=Zs (st:=ZfQ) l51 c51 k51
  have b1051:=F51.binds (ps:=ZhI) fun _ _ _ _ _ _ us hl=>match us,hl with | [_,_,_],_=>rfl
  have F52:=Zs (st:=s_row) l52 c52 k52
  have b1052:=F52.binds (ps:=P_row) fun _ _ _ _ _ _ us hl=>match us,hl with | [_,_,_],_=>rfl
  have F53:=Zs (st:=ZaZ) l53 c53 k53
  have b1053:=F53.binds (ps:=ZbG) fun _ _ _ _ _ _ us hl=>match us,hl with | [_,_,_],_=>rfl
  have F54:=Zs (st:=Zch) l54 c54 k54
  have b1054:=F54.binds (ps:=ZcH) fun _ _ _ _ _ _ us hl=>match us,hl with | [_,_],_=>rfl
  have F55:=Zs (st:=s_ask) l55 c55 k55
  have b1055:=F55.binds (ps:=P_ask) fun _ _ _ _ _ _ us hl=>match us,hl with | [_,_],_=>rfl
  have F56:=Zs (st:=Zcg) l56 c56 k56
  have b1056:=F56.binds (ps:=ZcG) fun _ _ _ _ _ _ us hl=>match us,hl with | [_,_,_,_],_=>rfl
  have F57:=Zs (st:=Zed) l57 c57 k57
  have b1057:=F57.binds (ps:=Zee) fun _ _ _ _ _ _ us hl=>match us,hl with | [_,_],_=>rfl
  have F58:=Zs (st:=Zef) l58 c58 k58
  have b1058:=F58.binds (ps:=ZfR) fun _ _ _ _ _ _ us hl=>match us,hl with | [_,_],_=>rfl
  have F59:=Zs (st:=Zbx) l59 c59 k59
  have b1059:=F59.binds (ps:=Zcw) fun _ _ _ _ _ _ us hl=>match us,hl with | [_,_],_=>rfl
  have F60:=Zs (st:=ZbZ) l60 c60 k60
  have b1060:=F60.binds (ps:=Zcx) fun _ _ _ _ _ _ us hl=>match us,hl with | [_,_],_=>rfl
  have F61:=Zs (st:=s_law) l61 c61 k61
  have b1061:=F61.binds (ps:=P_law) fun _ _ _ _ _ _ us hl=>match us,hl with | [_],_=>rfl
  have tq:=ZmN a9 l9 rfl ch
  refine ⟨tq,⟨_,ch⟩,kt,?_⟩
  refine ⟨PySem.W.fnOf "law" "law" (Zm s_law) (Zl s_law) (Zc s_law) .none kV61 dc61 pm61 an61 cd61 ct61,fun s v=>.of_eq rfl,fun base _ _ bm=>?_⟩
  have D_take:Def l.prog w K mg base "_law_take" 1 Zdx Zfa:=⟨_,_,Zoc F0 T ,PySem.W.mg_of X G a0,F0.kp,b1000⟩
  have D_box:Def l.prog w K mg base "_law_box" 1 P_box (spBox K):=⟨_,_,ZoX F1 T ,PySem.W.mg_of X G a1,F1.kp,b1001⟩
  have D_folded:Def l.prog w K mg base "_law_folded" 1 Zdy (Zgs K):=⟨_,_,Zlx F2 T ,PySem.W.mg_of X G a2,F2.kp,b1002⟩
  have D_boxes:Def l.prog w K mg base "_law_boxes" 2 ZeZ (Ziu K):=⟨_,_,ZmQ F3 T D_folded D_box,PySem.W.mg_of X G a3,F3.kp,b1003⟩
  have D_some_boards:Def l.prog w K mg base "_law_some_boards" 2 Zbk Zgv:=⟨_,_,ZfD F4 T D_take,PySem.W.mg_of X G a4,F4.kp,b1004⟩
  have D_shelf_of:Def l.prog w K mg base "shelf_of" 1 ZbU Zgx:=⟨_,_,Ziy F5 T ,PySem.W.mg_of X G a5,F5.kp,b1005⟩
  have M_Room_has:MDef l.prog w K mg base (clsOf K "Room") "has" 1 ZaU (spHas K):=⟨_,_,Ziz F6 T ,⟨a6,i6,k6⟩,b1006⟩
  have M_Room_mates:MDef l.prog w K mg base (clsOf K "Room") "mates" 2 Zal (ZdN K):=⟨_,_,Zgy F7 T D_shelf_of,⟨a7,i7,k7⟩,b1007⟩
  have M_Room_need:MDef l.prog w K mg base (clsOf K "Room") "need" 2 ZaS (ZhK K):=⟨_,_,ZhL F8 T M_Room_has,⟨a8,i8,k8⟩,b1008⟩
  have M_Room_going:MDef l.prog w K mg base (clsOf K "Room") "going" 2 ZbD (ZiA K):=⟨_,_,Zgz F9 rfl tq ch bm T ,⟨a9,i9,k9⟩,b1009⟩
  have M_Room_drop:MDef l.prog w K mg base (clsOf K "Room") "drop" 3 Zbr (Zjz K):=⟨_,_,ZhM F10 T M_Room_need M_Room_mates,⟨a10,i10,k10⟩,b1010⟩
  have M_Room_use:MDef l.prog w K mg base (clsOf K "Room") "use" 3 ZbX (spUse K):=⟨_,_,ZiB F11 T M_Room_need M_Room_mates,⟨a11,i11,k11⟩,b1011⟩
  have K_Room:KDef l.prog w K mg base (clsOf K "Room") "Room" 1 Zbp (ZjA K):=⟨_,_,ZhN F12 T ,⟨mkRoom,a12,i12,kcRoom⟩,PySem.W.mg_of X G aCRoom,b1012⟩
  have M_Room_leaver_for:MDef l.prog w K mg base (clsOf K "Room") "leaver_for" 3 ZP (Zeu K):=⟨_,_,ZdA F13 T M_Room_mates M_Room_going,⟨a13,i13,k13⟩,b1013⟩
  have M_Room_bring:MDef l.prog w K mg base (clsOf K "Room") "bring" 4 ZaW (ZgB K):=⟨_,_,ZgC F14 T M_Room_has M_Room_leaver_for M_Room_mates M_Room_drop,⟨a14,i14,k14⟩,b1014⟩
  have K_Store:KDef l.prog w K mg base (clsOf K "Store") "Store" 3 ZbE (ZiD K):=⟨_,_,ZgD F15 T K_Room,⟨mkStore,a15,i15,kcStore⟩,PySem.W.mg_of X G aCStore,b1015⟩
  have M_Store_has:MDef l.prog w K mg base (clsOf K "Store") "has" 2 Zbu (ZjB K):=⟨_,_,ZhO F16 T M_Room_has,⟨a16,i16,k16⟩,b1016⟩
  have M_Store_lay:MDef l.prog w K mg base (clsOf K "Store") "lay" 1 Zcd (spLay K):=⟨_,_,ZhP F17 T ,⟨a17,i17,k17⟩,b1017⟩
  have M_Store_take_in:MDef l.prog w K mg base (clsOf K "Store") "take_in" 5 ZaB (ZgE K):=⟨_,_,Zel F18 T M_Room_bring M_Store_lay,⟨a18,i18,k18⟩,b1018⟩
  have M_Store_give_out:MDef l.prog w K mg base (clsOf K "Store") "give_out" 4 Zaq (Zfd K):=⟨_,_,ZdO F19 T M_Room_drop,⟨a19,i19,k19⟩,b1019⟩
  have M_Store_words_of:MDef l.prog w K mg base (clsOf K "Store") "words_of" 3 ZW (ZdB K):=⟨_,_,ZdP F20 T M_Room_need,⟨a20,i20,k20⟩,b1020⟩
  have D_board_of:Def l.prog w K mg base "board_of" 1 ZbQ ZgF:=⟨_,_,ZiE F21 T ,PySem.W.mg_of X G a21,F21.kp,b1021⟩
  have D_spots_of:Def l.prog w K mg base "spots_of" 1 ZbS ZgG:=⟨_,_,ZiF F22 T ,PySem.W.mg_of X G a22,F22.kp,b1022⟩
  have K_Memory:KDef l.prog w K mg base (clsOf K "Memory") "Memory" 1 Zbf (spMem K):=⟨_,_,ZfE F23 T ,⟨mkMemory,a23,i23,kcMemory⟩,PySem.W.mg_of X G aCMemory,b1023⟩
  have M_Memory_words_of:MDef l.prog w K mg base (clsOf K "Memory") "words_of" 2 Zah (ZgH K):=⟨_,_,ZdC F24 T D_spots_of,⟨a24,i24,k24⟩,b1024⟩
  have M_Steps_store:MDef l.prog w K mg base (clsOf K "Stairs") "store" 1 Zbg (ZgK K):=⟨_,_,ZfF F25 T ,⟨a25,i25,k25⟩,b1025⟩
  have M_Steps_words:MDef l.prog w K mg base (clsOf K "Stairs") "words" 4 ZaK (Zew K):=⟨_,_,ZfG F26 T M_Memory_words_of M_Steps_store M_Store_words_of,⟨a26,i26,k26⟩,b1026⟩
  have M_Steps_happened:MDef l.prog w K mg base (clsOf K "Stairs") "happened" 1 Zar (ZdS K):=⟨_,_,ZdT F27 T ,⟨a27,i27,k27⟩,b1027⟩
  have M_Steps_leaver:MDef l.prog w K mg base (clsOf K "Stairs") "leaver" 4 Zae (ZhS K):=⟨_,_,Zff F28 T M_Room_leaver_for,⟨a28,i28,k28⟩,b1028⟩
  have M_Steps_tell_found:MDef l.prog w K mg base (clsOf K "Stairs") "tell_found" 1 Zab (ZlH K):=⟨_,_,Zdg F29 T ,⟨a29,i29,k29⟩,b1029⟩
  have M_Steps_use_in:MDef l.prog w K mg base (clsOf K "Stairs") "use_in" 4 Zav (ZgL K):=⟨_,_,Zfg F30 T M_Room_use,⟨a30,i30,k30⟩,b1030⟩
  have M_Steps_come_in:MDef l.prog w K mg base (clsOf K "Stairs") "come_in" 6 Zaj (Zex K):=⟨_,_,Zem F31 T M_Store_take_in,⟨a31,i31,k31⟩,b1031⟩
  have M_Steps_go_out:MDef l.prog w K mg base (clsOf K "Stairs") "go_out" 5 ZM (ZdU K):=⟨_,_,Zfh F32 T M_Store_give_out,⟨a32,i32,k32⟩,b1032⟩
  have M_Steps_word_in:MDef l.prog w K mg base (clsOf K "Stairs") "word_in" 4 ZaD (ZgM K):=⟨_,_,Zen F33 T M_Store_words_of D_board_of,⟨a33,i33,k33⟩,b1033⟩
  have C_Steps_init:CDef l.prog w K mg base "Steps" "__init__" 5 ZbF (ZiH K):=⟨_,_,_,ZgO F34 T K_Store K_Memory,⟨g34,⟨_,r34,a34⟩,k34⟩,PySem.W.mg_of X G aCSteps,b1034⟩
  have M_Steps_put:MDef l.prog w K mg base (clsOf K "Stairs") "put" 1 Zcf Zcl:=⟨_,_,ZhT F35 T ,⟨a35,i35,k35⟩,b1035⟩
  have M_Stairs_go_on:MDef l.prog w K mg base (clsOf K "Stairs") "go_on" 1 ZbB Zcl:=⟨_,_,Zfi F36 T ,⟨a36,i36,k36⟩,b1036⟩
  have M_Stairs_change:MDef l.prog w K mg base (clsOf K "Stairs") "change" 1 Zbj Zcl:=⟨_,_,Zeo F37 T ,⟨a37,i37,k37⟩,b1037⟩
  have M_Stairs_nearest:MDef l.prog w K mg base (clsOf K "Stairs") "nearest" 3 Zas (Zfj K):=⟨_,_,ZdV F38 T M_Store_has,⟨a38,i38,k38⟩,b1038⟩
  have M_Stairs_drive_out:MDef l.prog w K mg base (clsOf K "Stairs") "drive_out" 6 Zac (ZiJ K):=⟨_,_,Zdh F39 T M_Steps_go_out M_Store_has M_Stairs_go_on,⟨a39,i39,k39⟩,b1039⟩
  have M_Stairs_fetch_down:MDef l.prog w K mg base (clsOf K "Stairs") "fetch_down" 7 ZQ (ZlL K):=⟨_,_,ZcS F40 T M_Steps_use_in M_Steps_words M_Steps_leaver M_Stairs_drive_out M_Steps_come_in,⟨a40,i40,k40⟩,b1040⟩
  have M_Stairs_come_apart:MDef l.prog w K mg base (clsOf K "Stairs") "come_apart" 7 ZE (ZgP K):=⟨_,_,ZcT F41 T M_Steps_come_in M_Stairs_change,⟨a41,i41,k41⟩,b1041⟩
  have M_Stairs_push:=ZcK (P:=l.prog) (w:=w) (base:=base) F42 b1042 ⟨a42,i42,k42⟩ T M_Steps_put M_Steps_leaver M_Stairs_come_apart M_Steps_go_out
  have M_Stairs_fetch_apart:MDef l.prog w K mg base (clsOf K "Stairs") "fetch_apart" 13 ZL (ZiL K):=⟨_,_,ZcL F43 T M_Steps_use_in M_Steps_words M_Steps_go_out M_Stairs_push,⟨a43,i43,k43⟩,b1043⟩
  have M_Stairs_fetch:MDef l.prog w K mg base (clsOf K "Stairs") "fetch" 14 ZaO (ZiM K):=⟨_,_,Zfn F44 T M_Stairs_nearest M_Steps_tell_found M_Stairs_fetch_apart M_Stairs_fetch_down,⟨a44,i44,k44⟩,b1044⟩
  have M_Stairs_read:MDef l.prog w K mg base (clsOf K "Stairs") "read" 15 Zbi (ZlN K):=⟨_,_,ZfH F45 T D_board_of M_Stairs_fetch M_Steps_word_in M_Steps_happened,⟨a45,i45,k45⟩,b1045⟩
  have K_Stairs:KDef l.prog w K mg base (clsOf K "Stairs") "Stairs" 6 Zbh (ZgQ K):=⟨_,_,ZfI F46 T C_Steps_init,⟨mkStairs,a46,i46,kcStairs⟩,PySem.W.mg_of X G aCStairs,b1046⟩
  have D_found_by:Def l.prog w K mg base "found_by" 16 Zcv (Zfq K):=⟨_,_,ZiN F47 T M_Stairs_read,PySem.W.mg_of X G a47,F47.kp,b1047⟩
  have D_founds:Def l.prog w K mg base "founds" 17 Zdw (ZgR K):=⟨_,_,ZlP F48 T K_Stairs D_found_by D_spots_of,PySem.W.mg_of X G a48,F48.kp,b1048⟩
  have D_room_plan:Def l.prog w K mg base "_law_room_plan" 2 Zci ZlQ:=⟨_,_,ZhV F49 T D_take,PySem.W.mg_of X G a49,F49.kp,b1049⟩
  have D_plan:Def l.prog w K mg base "_law_plan" 3 ZhH (ZiO K):=⟨_,_,Zoi F50 T D_take D_room_plan,PySem.W.mg_of X G a50,F50.kp,b1050⟩
  have D_many:Def l.prog w K mg base "_law_many" 2 ZhI ZlR:=⟨_,_,Zoj F51 T D_take,PySem.W.mg_of X G a51,F51.kp,b1051⟩
  have D_row:Def l.prog w K mg base "_law_row" 3 P_row ZlS:=⟨_,_,Zpf F52 T D_take D_some_boards D_many,PySem.W.mg_of X G a52,F52.kp,b1052⟩
  have D_beneath_at:Def l.prog w K mg base "beneath_at" 2 ZbG (spAt K):=⟨_,_,ZgU F53 T D_shelf_of,PySem.W.mg_of X G a53,F53.kp,b1053⟩
  have D_beneath:Def l.prog w K mg base "beneath" 3 ZcH (spBen K):=⟨_,_,Zkr F54 T D_beneath_at,PySem.W.mg_of X G a54,F54.kp,b1054⟩
  have D_ask:Def l.prog w K mg base "ask" 5 P_ask (spAsk K):=⟨_,_,Zpg F55 T M_Room_has M_Room_use M_Room_bring,PySem.W.mg_of X G a55,F55.kp,b1055⟩
  have D_run_row:Def l.prog w K mg base "run_row" 7 ZcG (Zmh K):=⟨_,_,Zks F56 T K_Room D_ask,PySem.W.mg_of X G a56,F56.kp,b1056⟩
  have D_same:=ZjJ (P:=l.prog) (w:=w) (base:=base) F57 b1057 (PySem.W.mg_of X G a57) T 
  have D_left:Def l.prog w K mg base "_law_left" 8 ZfR (ZjL K):=⟨_,_,Zol F58 T D_run_row,PySem.W.mg_of X G a58,F58.kp,b1058⟩
  have D_free_due:Def l.prog w K mg base "_law_free_due" 9 Zcw (Zmk K):=⟨_,_,ZiR F59 T D_left,PySem.W.mg_of X G a59,F59.kp,b1059⟩
  have D_by_depth:Def l.prog w K mg base "_law_by_depth" 4 Zcx (ZiS K):=⟨_,_,ZiT F60 T D_beneath,PySem.W.mg_of X G a60,F60.kp,b1060⟩
  exact Zpi F61 T D_boxes D_plan D_row D_founds D_free_due D_left D_by_depth D_same
theorem walk {l:PySem.W.OpenLaw} {q:Program} {loose:List Str} {XP:(Str→Option Value)→Heap→Prop} {YP:World→Heap→Prop} {d:DefRec} {K:Params→PySem.W.Frag} {tp:Addr} (hn:l.most=some 63) (hdf:d.params.defaults=[])
    (hY:∀ (w:World) (h:Heap),YP w h→(K w.params).In h∧h.get? tp=some { cls:=.none,data:=.fields #[] })
    (F:∀ (w:World) (mg:Str→Option Value) (fa:Addr) (h:Heap),(K w.params).In h→h.Ns mainGlobals mg→mg d.name=some (.ref fa) →
      tabOf (K w.params) "Room" "going" = tp∧(∃ c0,PySem.W.codeHdIn (K w.params) c0 tp=true)∧(K w.params).lookup tp=none∧∃ fd:FuncData,(∀ (s:Shared) (u:Value),BindsTo s fd ⟨[u],[]⟩ [("_law_script",u)])∧∀ base:Heap,(K w.params).In base→base.Ns mainGlobals mg→BMod base mg→FnOk l.prog w (K w.params) mg base CX0 20 fa fd P_law (spLaw (K w.params))) :
    PySem.W.WalkO q loose XP YP l.row.toRowW d [] (fun f vs=>PySem.call f vs) :=
  L2.ZmM (tp:=tp) (pos:=tpos) (qual:=tqual) (G:=fun w=>tabOf (K w.params) "Room" "going" = tp) (n:=63) (k:=20) (x := "_law_script") (CX:=fun _=>CX0) (sp:=fun w=>spLaw (K w.params)) hn (by decide) hdf ⟨rfl,by decide,by decide⟩ hY F (fun _ _ a ns g hl hT hS=>⟨a,ns,rfl,hS,hl,(by unfold Tb; rw [g]; exact hT),fun _=>rfl⟩) fun _ _ _ _ _ z=>z
end Mine
namespace PySem.W.Fast
def tw10071299881795030147:=0
def tw10127139904774265305:=0
def tw10129850149793049754:=0
def tw10137049945152139593:=0
def tw10142708192998763408:=0
def tw10150920842618153725:=0
def tw10176538747310057933:=0
def tw10183842513866937216:=0
def tw10208813125931971616:=0
def tw10225366985281331221:=0
def tw1024498200359006963:=0
def tw10255380267043043119:=0
def tw10327474656653508466:=0
def tw10346298832519837694:=0
def tw10365126487612679787:=0
def tw10377236689501742051:=0
def tw10420255427543193372:=0
def tw10423050031941885446:=0
def tw10423838275364237937:=0
def tw10466339231272784787:=0
def tw1049147215542871273:=0
def tw10526956096333632294:=0
def tw10541448400866829136:=0
def tw10546884605076191941:=0
def tw1055355634346052442:=0
def tw10558755880554222848:=0
def tw10565521970202036650:=0
def tw10570032000892708211:=0
def tw10579729137279531542:=0
def tw10596538448580773766:=0
def tw10650074761985275696:=0
def tw10688325050663978602:=0
def tw10706786558481678507:=0
def tw10716498577198777351:=0
def tw1073175238380114424:=0
def tw1074495150375739333:=0
def tw1076698247610478309:=0
def tw10771224156571414952:=0
def tw10806895133068152131:=0
def tw10809911601697633249:=0
def tw10843618817346326215:=0
def tw10846770076320165714:=0
def tw1085717031462366786:=0
def tw10881970699314591560:=0
def tw10890514107933283116:=0
def tw10921335557668252586:=0
def tw10958955430492627479:=0
def tw10979491361824227990:=0
def tw1101934276774562552:=0
def tw11040061207485262351:=0
def tw11043917736593603690:=0
def tw11063900318437317299:=0
def tw1106638275516798410:=0
def tw1113828043433256055:=0
def tw11139152757416810818:=0
def tw11170307173300206949:=0
def tw11190242584444461029:=0
def tw11218030086944981521:=0
def tw11220757098705155665:=0
def tw11234855320311369317:=0
def tw11273291880866514651:=0
def tw112830692905347152:=0
def tw11283966865149040444:=0
def tw11336989205379100337:=0
def tw11488049951812164199:=0
def tw11509716570883027630:=0
def tw11510844409021548569:=0
def tw11512209258848050750:=0
def tw11557732541332701606:=0
def tw11622258188381042884:=0
def tw11622273079397734500:=0
def tw11674124028888459030:=0
def tw11715662488438856974:=0
def tw11719659859108889724:=0
def tw11746441326173735297:=0
def tw11770181175716576458:=0
def tw1184063707026191065:=0
def tw11847111454969790240:=0
def tw11854669251311337553:=0
def tw11860251827986105328:=0
def tw11878555259474307453:=0
def tw11883577443272460278:=0
def tw11900587748013235005:=0
def tw11903449173368470279:=0
def tw11980078025096730441:=0
def tw11990741948617736036:=0
def tw12008089219435489722:=0
def tw12026790030237927858:=0
def tw12086432640538127376:=0
def tw12133290443068185858:=0
def tw12141460423586542459:=0
def tw12179423089350550514:=0
def tw1219788885558226100:=0
def tw12209697458573023135:=0
def tw12224365066756201061:=0
def tw12227498899320773102:=0
def tw12265914731162061405:=0
def tw12266101731628245264:=0
def tw1227918732855468697:=0
def tw12303116743361072595:=0
def tw12313707108691824869:=0
def tw1232166463094440700:=0
def tw12326528875425665351:=0
def tw12327011026992750082:=0
def tw12385817278316569089:=0
def tw12416254474998271264:=0
def tw12417600588938324178:=0
def tw12441169262180824447:=0
def tw12469552705562265814:=0
def tw12512255333925073494:=0
def tw12521613320611716529:=0
def tw1252626375223923181:=0
def tw12556074589700898759:=0
def tw12569258787097008266:=0
def tw12593444942771501670:=0
def tw12612196797966283483:=0
def tw12625414781144672351:=0
def tw12642013121951483218:=0
def tw12697294651147315902:=0
def tw12699842156279051483:=0
def tw12700879280570800043:=0
def tw12727564246743695743:=0
def tw12775613313373574800:=0
def tw12785949425335010996:=0
def tw12803467449520040655:=0
def tw12859503131536808734:=0
def tw12875893054754883701:=0
def tw12906255797715430445:=0
def tw12922108626822400491:=0
def tw12949088524168681071:=0
def tw12956364490823605209:=0
def tw1298912281675099831:=0
def tw13001931741511504679:=0
def tw13018805328989927296:=0
def tw13045200274925643498:=0
def tw1304550655679334247:=0
def tw13049666636090646915:=0
def tw13051855413513955844:=0
def tw13100944533666982523:=0
def tw13192474517852052666:=0
def tw13199107362640389001:=0
def tw13205793108095327598:=0
def tw1322831170728971802:=0
def tw13251125083660128455:=0
def tw13257121201439574348:=0
def tw13277740852077641345:=0
def tw13285206592180204178:=0
def tw13292981680073198643:=0
def tw13311510339130063965:=0
def tw13323416124023000126:=0
def tw13325792545875717873:=0
def tw13326729274952404992:=0
def tw13329248331157234766:=0
def tw13347882438112717881:=0
def tw13377667093489686808:=0
def tw1338218727606785454:=0
def tw13404974224672059645:=0
def tw13405205931977147540:=0
def tw13456234051996155788:=0
def tw13493437019626073820:=0
def tw13536085518391014903:=0
def tw13561495760544531242:=0
def tw13577894774700674203:=0
def tw13624383076963768573:=0
def tw13693693239606814993:=0
def tw1369440589565156439:=0
def tw13698203104936483277:=0
def tw13702959900640011997:=0
def tw1370619990238207273:=0
def tw13712522936596596804:=0
def tw13714837242812112854:=0
def tw13725300692334418588:=0
def tw13736072624016753260:=0
def tw1376239243935774602:=0
def tw13763720136003646799:=0
def tw13770976316556404352:=0
def tw13774341101654682685:=0
def tw13784673257717511548:=0
def tw1380517468321437312:=0
def tw13818166639530035962:=0
def tw13823312803247145199:=0
def tw13847272164170545904:=0
def tw13852865203573657749:=0
def tw13862390280805908826:=0
def tw13886321006762169101:=0
def tw13912970888838312150:=0
def tw1391789514002931213:=0
def tw13941414754936594855:=0
def tw13942425971742144885:=0
def tw13989256741797856284:=0
def tw13990456644017895113:=0
def tw14000988946664739375:=0
def tw14013325876712866089:=0
def tw14023308891312691724:=0
def tw14037619992426370502:=0
def tw14065796359769844280:=0
def tw14067687274730562024:=0
def tw14106829468212755456:=0
def tw14107392767694336908:=0
def tw14147185847573518055:=0
def tw1415228076265183374:=0
def tw14187135964287980294:=0
def tw14189685990539068528:=0
def tw14195705417059422040:=0
def tw14238185090724296001:=0
def tw14239523561640853414:=0
def tw14254019992143588027:=0
def tw14259057355379353790:=0
def tw14276743034742536381:=0
def tw142790073004815451:=0
def tw14283708235756662432:=0
def tw14286847682000476507:=0
def tw14307441959117422960:=0
def tw14313588597529843318:=0
def tw14316690513905517200:=0
def tw14337209789174261598:=0
def tw14359858994711342429:=0
def tw1436486280196943230:=0
def tw14405694976419966053:=0
def tw1441762759127953944:=0
def tw14461470574535907554:=0
def tw14469400228232254884:=0
def tw14499277141218245983:=0
def tw14549062328125129140:=0
def tw14567081055097017666:=0
def tw14615637550595185214:=0
def tw14667069082592320712:=0
def tw14672414238976141460:=0
def tw14682987968959343119:=0
def tw14686306815864537121:=0
def tw14701035723026871622:=0
def tw14714407454949083031:=0
def tw14726672543169706602:=0
def tw14780220754224276774:=0
def tw14780660806412618535:=0
def tw14781089549326550895:=0
def tw14789606534702289240:=0
def tw14824134052279753734:=0
def tw14830840479791936794:=0
def tw14835867043666929989:=0
def tw14839664255399690085:=0
def tw14848773215321411184:=0
def tw14861254387632776665:=0
def tw14862030577054212751:=0
def tw14865994061207650038:=0
def tw14901301714820068935:=0
def tw14901878737945829589:=0
def tw14903185507672903779:=0
def tw14928357752322620590:=0
def tw14942922632022121589:=0
def tw14949600179663238647:=0
def tw14952314280900092849:=0
def tw14960677475485554844:=0
def tw14989109399837713557:=0
def tw14992293231560675691:=0
def tw14994733763492511886:=0
def tw14998095298100770622:=0
def tw15020931200414192460:=0
def tw15056844423050784706:=0
def tw15075378905118566408:=0
def tw15075461448832705842:=0
def tw15101402746544719163:=0
def tw15105204064973748588:=0
def tw15126358026380347882:=0
def tw15136156824114621976:=0
def tw15149827751867496978:=0
def tw15209630323381017528:=0
def tw15211436014932917523:=0
def tw15212221399292542860:=0
def tw15212966227699591570:=0
def tw15217065888780875931:=0
def tw15241432846069155373:=0
def tw15252872668513353571:=0
def tw15255968476423719495:=0
def tw15264582208839647992:=0
def tw15268781514498972183:=0
def tw15284438427906653966:=0
def tw15290827138255870562:=0
def tw1529930327682283351:=0
def tw15324785007643880385:=0
def tw15327819923416441863:=0
def tw15337051834961103580:=0
def tw15388276076835849559:=0
def tw15446090859484762896:=0
def tw15450873541417956041:=0
def tw15485973444547556802:=0
def tw15509758756238791604:=0
def tw15524696470439492540:=0
def tw15538673428678681803:=0
def tw1555350230786739569:=0
def tw15557814889870027362:=0
def tw15558483310898050063:=0
def tw15577637247849907448:=0
def tw15608006629775940274:=0
def tw15623879455031595353:=0
def tw15626360069631082754:=0
def tw15628387383854687899:=0
def tw15675803192588498724:=0
def tw15686222361288161109:=0
def tw15694993753291715426:=0
def tw15724228298634007329:=0
def tw15755315261723254927:=0
def tw15756372369636375737:=0
def tw15760673821005098189:=0
def tw15763386016991415584:=0
def tw15764821879870609248:=0
def tw15765100103601382348:=0
def tw15781757975683706083:=0
def tw15789408134709608456:=0
def tw15794390393462792186:=0
def tw15802667065416690608:=0
def tw15818179212595408497:=0
def tw15823202233868264415:=0
def tw15834411116375506351:=0
def tw15837030083841929613:=0
def tw15839309766282310634:=0
def tw1586004233443068360:=0
def tw15869432996048623615:=0
def tw15886309829849194703:=0
def tw15897818785618912948:=0
def tw15911294565057810181:=0
def tw15931962142260395650:=0
def tw15956160624090860190:=0
def tw15958476692014763487:=0
def tw15973797697765330930:=0
def tw16114433979113416537:=0
def tw16134623208245247454:=0
def tw16164337580713921091:=0
def tw16187332789081610351:=0
def tw16195398640349769292:=0
def tw16218891891821856609:=0
def tw16253168647191125176:=0
def tw16265047039527933099:=0
def tw16275202674679393822:=0
def tw16289552883827529964:=0
def tw16315052929104011712:=0
def tw16317105558410737684:=0
def tw16324990213132464117:=0
def tw16327477826553297744:=0
def tw16410995961012941701:=0
def tw16442981828414025788:=0
def tw16457275009986354956:=0
def tw16465894577626797349:=0
def tw16494761435279809574:=0
def tw1653340699463790177:=0
def tw16543323744559635299:=0
def tw16547856448648468052:=0
def tw16587893295621031276:=0
def tw16592315045655321415:=0
def tw16605493507421259157:=0
def tw16666556809340563835:=0
def tw16666853404630259453:=0
def tw1666776507140987421:=0
def tw16668321611557388434:=0
def tw16694933922532245131:=0
def tw16721191314279626718:=0
def tw16730900242462847600:=0
def tw16738190809946377746:=0
def tw16751211550692062104:=0
def tw16775847800779793831:=0
def tw16776402652478118172:=0
def tw16778546438465652843:=0
def tw16804659711448002086:=0
def tw16817907308170694388:=0
def tw1681893706829195841:=0
def tw16861697442895521492:=0
def tw16880605430671525493:=0
def tw16897405735470988121:=0
def tw16944737673463828225:=0
def tw16971698459849486067:=0
def tw16997031529933494211:=0
def tw17006611025871107059:=0
def tw17015897717302444399:=0
def tw17034687040143126777:=0
def tw1703907456597966514:=0
def tw17048491552812306559:=0
def tw17049436749247092251:=0
def tw17117302857407660775:=0
def tw17139650024008291239:=0
def tw17167773782173336821:=0
def tw17168408911612873906:=0
def tw17200772390159940208:=0
def tw17224641808974479630:=0
def tw17241147982638534962:=0
def tw17246372060302811160:=0
def tw17256968372472059980:=0
def tw1726650673778108529:=0
def tw17271671178880630611:=0
def tw17274250246669200105:=0
def tw17303569036174262343:=0
def tw17304194400388053633:=0
def tw17361606322656371655:=0
def tw173751088466075722:=0
def tw17375652233499559944:=0
def tw17376440381060938846:=0
def tw17404229127585972662:=0
def tw174278208306239370:=0
def tw17449514748882134304:=0
def tw17454982338054001098:=0
def tw17455063645869274695:=0
def tw17466683949588933567:=0
def tw17466729027270467032:=0
def tw17471873863678951865:=0
def tw17474404535212958116:=0
def tw17478874322126587735:=0
def tw174898875609739374:=0
def tw17497832348924507630:=0
def tw17511352520401939634:=0
def tw17523618986295875146:=0
def tw17542745391660868208:=0
def tw17552551439476514624:=0
def tw17558929382824873703:=0
def tw17590224847570063251:=0
def tw17593589497882774808:=0
def tw17602583402518510161:=0
def tw17616405115486493489:=0
def tw17632016875610497252:=0
def tw17685168506886130974:=0
def tw17688817501303116652:=0
def tw17731981058785685099:=0
def tw17766423643876771959:=0
def tw17777641065919320094:=0
def tw17789808561295763871:=0
def tw17796203374303806055:=0
def tw17799240125888832625:=0
def tw17801638817638465336:=0
def tw17804212906857253822:=0
def tw17804631189793912614:=0
def tw17814250825382666000:=0
def tw17816838569996862505:=0
def tw1783603414247238317:=0
def tw17836575968966300903:=0
def tw17849608737452031679:=0
def tw17864103961118465814:=0
def tw17868151766730477710:=0
def tw17875146968295722097:=0
def tw17921307499009140772:=0
def tw17924100962367826992:=0
def tw17938608812260949327:=0
def tw17960024772722140147:=0
def tw17979175431737451059:=0
def tw17987665222302630529:=0
def tw17993543472638879709:=0
def tw18013987305678703419:=0
def tw18047452590812724603:=0
def tw18052017061066997273:=0
def tw18067040345537620870:=0
def tw18073674488046422546:=0
def tw18086934602420309343:=0
def tw18112256846971332773:=0
def tw18115780870831335427:=0
def tw18152973286958872431:=0
def tw18180190197134029859:=0
def tw18234617279978501774:=0
def tw18264700147034372424:=0
def tw18268493560960033540:=0
def tw18285008846009448239:=0
def tw18288419281666623273:=0
def tw18311821773184571551:=0
def tw18328584414320650969:=0
def tw18335935700404224884:=0
def tw18343109732705747351:=0
def tw18343449614949672103:=0
def tw18353254671349931327:=0
def tw1835880506825536326:=0
def tw1836676958992890035:=0
def tw18393728394362579527:=0
def tw18414175791702703377:=0
def tw18426019852176470642:=0
def tw1843108428378716481:=0
def tw1866129881292623971:=0
def tw1893946027002882676:=0
def tw1894816385050577829:=0
def tw1906653646373649586:=0
def tw1917786927856072462:=0
def tw1971224481918297411:=0
def tw1991912316533118171:=0
def tw201639290356817878:=0
def tw2053027527836089484:=0
def tw2071856667341162561:=0
def tw2095094690191569297:=0
def tw2117011087635193845:=0
def tw2143264169266878932:=0
def tw2160874169207695881:=0
def tw2168070834748860881:=0
def tw218452734767112256:=0
def tw2223397239814398310:=0
def tw222748297784321669:=0
def tw2228177513147542941:=0
def tw2242827833768013745:=0
def tw2253694005190924517:=0
def tw2284614954797907533:=0
def tw2313550051062821504:=0
def tw2335016554706894269:=0
def tw2342755653234478445:=0
def tw2376966112185836206:=0
def tw2415175668373807665:=0
def tw2420800956271119167:=0
def tw2433613809840256353:=0
def tw2459536186069771570:=0
def tw2473933672099222443:=0
def tw2476906976686484207:=0
def tw2483554330311326725:=0
def tw2519410422718346260:=0
def tw2526133761002730649:=0
def tw2527545237807803346:=0
def tw253202538320995993:=0
def tw2574140712613301740:=0
def tw257995885582064453:=0
def tw2634820690326119292:=0
def tw2677812478510440273:=0
def tw2678709091973597928:=0
def tw2679439951508983437:=0
def tw2686766909440494384:=0
def tw2691416982954732650:=0
def tw2708142897573678280:=0
def tw2721675986918356372:=0
def tw2732709591558663513:=0
def tw2738697094945084276:=0
def tw2766910721180378444:=0
def tw2778384458476059637:=0
def tw2796567056579071201:=0
def tw2804656192243255717:=0
def tw2809736728664792455:=0
def tw2826340048709812790:=0
def tw2829126843869650453:=0
def tw2859882201253196582:=0
def tw2863953315302392671:=0
def tw2906294671215641912:=0
def tw2920003331508250730:=0
def tw2938775093548319925:=0
def tw2942904107858382005:=0
def tw2976279175108987564:=0
def tw3022794601505554152:=0
def tw3027304705467946583:=0
def tw3047881585259516834:=0
def tw3060275862083380076:=0
def tw3116046358964636420:=0
def tw311946436261303191:=0
def tw3143029628048066792:=0
def tw3200864853440154118:=0
def tw3204169889093779411:=0
def tw3257416829887110378:=0
def tw3269600897442072043:=0
def tw3294143219879151204:=0
def tw329542317897610751:=0
def tw3312890094781557447:=0
def tw3323374163289112583:=0
def tw3359052623240424388:=0
def tw3366476787294458730:=0
def tw3371653597803188374:=0
def tw3392232550977279107:=0
def tw3392731531028072448:=0
def tw3413973540904540278:=0
def tw3435811103338520416:=0
def tw3445521737860262119:=0
def tw3446329980466805686:=0
def tw3452769642927586921:=0
def tw3465408762824043610:=0
def tw3541269257613733572:=0
def tw3568788971101788762:=0
def tw3575540747780253714:=0
def tw3585144999636884804:=0
def tw3586665971612042893:=0
def tw3597281654674940937:=0
def tw3604215576593027926:=0
def tw360934047649756597:=0
def tw3614311675310696720:=0
def tw3616547579589927157:=0
def tw3620001524742206605:=0
def tw3657550676855658150:=0
def tw3677530774610031612:=0
def tw3715814117441211413:=0
def tw3716229823269952248:=0
def tw3729191640881834496:=0
def tw3729371251768307506:=0
def tw373301370413532854:=0
def tw3739443439368818256:=0
def tw3746173501048915145:=0
def tw3763294930283506763:=0
def tw3807374148292934264:=0
def tw381851261941093982:=0
def tw3833058349891125541:=0
def tw3841964304197389154:=0
def tw3858015663630423519:=0
def tw3860099935251577964:=0
def tw3907022619743429307:=0
def tw3916179713608545564:=0
def tw3934056419311915406:=0
def tw3945666142577483601:=0
def tw3987564816673816917:=0
def tw3992107147663193645:=0
def tw3995733839295689218:=0
def tw4031888822768921297:=0
def tw4051434087745580465:=0
def tw4105080221567497988:=0
def tw4135055616809452104:=0
def tw415897656094053533:=0
def tw4181136085007185923:=0
def tw4204029471665571798:=0
def tw4204933503314853462:=0
def tw423786489351984594:=0
def tw429223707890856141:=0
def tw4353167072045331645:=0
def tw4371764734176503929:=0
def tw43808100256162813:=0
def tw438581285575208138:=0
def tw4388852155608024448:=0
def tw4391900391962059338:=0
def tw4392134537828110055:=0
def tw4430911799970886774:=0
def tw4440214784643809476:=0
def tw4481292236612372800:=0
def tw452309850562224279:=0
def tw4538127421644779172:=0
def tw4559409477332804727:=0
def tw4578137328315846944:=0
def tw4584144892138303040:=0
def tw4637949390166545934:=0
def tw4645315125155243347:=0
def tw4671035528898696903:=0
def tw4700386967331747005:=0
def tw4738107487358201942:=0
def tw4785145598854652704:=0
def tw4813756269553025087:=0
def tw4836581743555285530:=0
def tw4862758116794561458:=0
def tw4877862597771590631:=0
def tw4893485866668591895:=0
def tw4897258681473949295:=0
def tw4908400745905031107:=0
def tw4915128914181687425:=0
def tw4932133064171928577:=0
def tw4995918885832442982:=0
def tw5037718816350154559:=0
def tw5041322022739232382:=0
def tw5055529556730938377:=0
def tw5063218708461379110:=0
def tw5065267362750031568:=0
def tw5080875334309113841:=0
def tw5083081641529080144:=0
def tw5094852586912694094:=0
def tw5147166321968955209:=0
def tw5203744917072316760:=0
def tw5222614903010169058:=0
def tw5222790817810699377:=0
def tw5231133318156768508:=0
def tw5271584849723541300:=0
def tw5284544835865409603:=0
def tw5312608744839625253:=0
def tw5319844875696366876:=0
def tw5350125405567479951:=0
def tw5351490905244784161:=0
def tw5363788215883242920:=0
def tw5450219411386308311:=0
def tw5475026352480294921:=0
def tw5519636348749842616:=0
def tw5550331673595468867:=0
def tw5558520966098222145:=0
def tw5566236341088784059:=0
def tw5571995422912753595:=0
def tw5590985260962512144:=0
def tw563314847553311906:=0
def tw5679376271694786599:=0
def tw5685356990823988099:=0
def tw5714557565319673393:=0
def tw5717709720907592486:=0
def tw574276244663915108:=0
def tw5766623231405012973:=0
def tw578125183901357431:=0
def tw5815605482928738327:=0
def tw5834463180891539564:=0
def tw583662955311704213:=0
def tw5853289922672707078:=0
def tw5951737045698469112:=0
def tw5963262466536492652:=0
def tw5963793050966307747:=0
def tw5990277192422485038:=0
def tw6006813715627809739:=0
def tw6025931626991756724:=0
def tw6041080949796537054:=0
def tw605082730424547851:=0
def tw6062759778056192581:=0
def tw6073164802605365220:=0
def tw609053651901079281:=0
def tw613310458014107800:=0
def tw6161545455735242992:=0
def tw6175051121222569733:=0
def tw6190530398287117900:=0
def tw6268123373889630220:=0
def tw6342426876963151654:=0
def tw6344715566346180920:=0
def tw6361672955991277474:=0
def tw6363465992462222290:=0
def tw6372561342025520344:=0
def tw6399301925225442700:=0
def tw6402773374292475746:=0
def tw6411101358415569457:=0
def tw6425194215067545503:=0
def tw6427163010850142627:=0
def tw6438510289833996600:=0
def tw644134025200865074:=0
def tw6446400136939704345:=0
def tw6447976881073687921:=0
def tw6504739247263167070:=0
def tw6540692087153039750:=0
def tw6543423311252995050:=0
def tw6577645756623945771:=0
def tw6603971686280244998:=0
def tw6617388021032715895:=0
def tw6620046763197370880:=0
def tw6644604559607972828:=0
def tw6657932327201317020:=0
def tw6659494664714122694:=0
def tw6696686700460921359:=0
def tw6708168341278435202:=0
def tw6747220572000613882:=0
def tw675076178962707707:=0
def tw6765850623326093404:=0
def tw6793294143970916386:=0
def tw6809899666623048170:=0
def tw6811013737294133434:=0
def tw6857505102021564263:=0
def tw6864458719810109517:=0
def tw6895332381965960126:=0
def tw6923255931200115160:=0
def tw6935023233372998558:=0
def tw6953895389891988560:=0
def tw695886756584297762:=0
def tw6962085245167420707:=0
def tw6982152191500033351:=0
def tw698775715050660956:=0
def tw6992530314491912504:=0
def tw7007602858252305185:=0
def tw7008963636830796364:=0
def tw7017997218597764114:=0
def tw7031047519330057950:=0
def tw7053826244417339209:=0
def tw705649180566370439:=0
def tw70576936380035716:=0
def tw7070840327293890146:=0
def tw7074443065866827703:=0
def tw7077499677628327298:=0
def tw7080996247391567916:=0
def tw7084522243737322980:=0
def tw7093461502941338349:=0
def tw7124059646850969202:=0
def tw7151051824642183207:=0
def tw7203148055434891129:=0
def tw720587915672261988:=0
def tw7218539924373326469:=0
def tw7240976026579622738:=0
def tw7244572880948010078:=0
def tw732657840014769094:=0
def tw7339142786133727027:=0
def tw7350414394911679863:=0
def tw7357881071862737647:=0
def tw7358490733149756903:=0
def tw7362058629715399194:=0
def tw7363740506803481596:=0
def tw7401811413259634658:=0
def tw7479375425764339487:=0
def tw7518494336936661657:=0
def tw7530138993657837705:=0
def tw7534954348657485497:=0
def tw7540395315402597467:=0
def tw7567663407029417963:=0
def tw7597326020194829505:=0
def tw7637461631348436851:=0
def tw767079041459215807:=0
def tw7684006795634211547:=0
def tw7790739258302675984:=0
def tw7810281067663730458:=0
def tw7822441294199119007:=0
def tw7829052949568739461:=0
def tw7882229907053702149:=0
def tw7886535025436449949:=0
def tw7908341603848954597:=0
def tw7921630093120305159:=0
def tw7932524244805883218:=0
def tw7936195163283233701:=0
def tw7954890572045170671:=0
def tw7960812456009008600:=0
def tw7994026898445485171:=0
def tw8009909563581282321:=0
def tw8017042946333930684:=0
def tw8020977782396763841:=0
def tw8028787458838951549:=0
def tw8079010006607933953:=0
def tw809945430717809095:=0
def tw8118926247685983773:=0
def tw8157174825257201328:=0
def tw8160505119177918660:=0
def tw821116760433354327:=0
def tw8233902755298239941:=0
def tw8237415494024422553:=0
def tw8239081346721230817:=0
def tw8275795997200120367:=0
def tw829855963238494050:=0
def tw8305104874954677906:=0
def tw8319903754430936960:=0
def tw8321739980008901890:=0
def tw8357087245844067611:=0
def tw8385817315202172011:=0
def tw8419407989687423823:=0
def tw8434344775045027783:=0
def tw8483330213599815212:=0
def tw8505686122402078746:=0
def tw8552532090976415802:=0
def tw8554046825275101558:=0
def tw8619280373987219714:=0
def tw8634884686298151415:=0
def tw8657000596358674508:=0
def tw8671114228857520984:=0
def tw8677750279671732512:=0
def tw8721110078141173160:=0
def tw8759179930636134544:=0
def tw8764213329688490326:=0
def tw8825629693755635695:=0
def tw8846528011085294419:=0
def tw8882151999600477457:=0
def tw8889492738664256918:=0
def tw8905883995524528306:=0
def tw8906990163061156515:=0
def tw8930292571930367805:=0
def tw8942952876729366753:=0
def tw8942967003509665632:=0
def tw8971367644554286439:=0
def tw8998803540869733670:=0
def tw9029421995910694521:=0
def tw9062979519505545482:=0
def tw9071755000097642076:=0
def tw9104067660091457966:=0
def tw9126054945384490454:=0
def tw913768296212886075:=0
def tw9159177177906030105:=0
def tw9174027827539786459:=0
def tw9215693113022034985:=0
def tw9257539923603405275:=0
def tw9277215268430883488:=0
def tw9280478007916678237:=0
def tw9284934617237587059:=0
def tw9289331501233231104:=0
def tw9293022015767548834:=0
def tw9306739459826916891:=0
def tw9316182565736833010:=0
def tw9327242639402188634:=0
def tw9331151462048922830:=0
def tw9334937835552068184:=0
def tw9366689004536196844:=0
def tw9400371416726757379:=0
def tw9432423666149804227:=0
def tw9441176995070283382:=0
def tw9444667079614345593:=0
def tw9454281311977166094:=0
def tw946407377304349202:=0
def tw9469518788566898968:=0
def tw9515099420405823159:=0
def tw9547811837752497607:=0
def tw9575462688968078225:=0
def tw9611561528307421673:=0
def tw9618609839680535689:=0
def tw9620218454356246252:=0
def tw9644806716384486888:=0
def tw9647928231100607679:=0
def tw9664934329622237275:=0
def tw9679458309814406498:=0
def tw9722002569838457469:=0
def tw9752021804836812498:=0
def tw9775238902890755826:=0
def tw9775756732912865033:=0
def tw9807730223661986154:=0
def tw9824107113314278045:=0
def tw9837861582763814276:=0
def tw9838722275293289159:=0
def tw9845846217841208643:=0
def tw9845905998227182175:=0
def tw9855365151569867649:=0
def tw9865881652533238242:=0
def tw9873803925623879099:=0
def tw9877514807240544748:=0
def tw9902931541875308634:=0
def tw9903298409639944422:=0
def tw9903517884187344643:=0
def tw9919594231871784764:=0
def tw9946044202204739936:=0
def tw9957752027061846653:=0
def tw9978454962380646276:=0
def tw9979385257631936499:=0
def tw9989376600966439354:=0
end PySem.W.Fast
open PySem PySem.W PyProof.Rows
set_option maxRecDepth 100000 in
set_option maxHeartbeats 0 in
theorem PySem.Challenge.cw_nearstairs_k37_founds_stair_by_stair_holds : PySem.Challenge.rw_nearstairs_k37_founds_stair_by_stair.Holds := by
  w_on; o_law; k_head; (case hw=>w_witness2)
  k_fill
  refine Mine.walk (l:=PySem.Challenge.rw_nearstairs_k37_founds_stair_by_stair) rfl rfl (fun w h Y=>⟨PySem.W.km_in_of Y,PySem.W.km_tabs_of Y _ List.mem_cons_self⟩) ?F
  case F =>
    intro w mg fa h KX G hmg
    refine' Mine.Zpj KX G hmg ?_ ?_ ?_ ?_ ?_ ?_ ?_ ?_ ?_ ?_ ?_ ?_ ?_ ?_ ?_ ?_ ?_ ?_ ?_ ?_ ?_ ?_ ?_ ?_ ?_ ?_ ?_ ?_ ?_ ?_ ?_ ?_ ?_ ?_ ?_ ?_ ?_ ?_ ?_ ?_ ?_ ?_ ?_ ?_ ?_ ?_ ?_ ?_ ?_ ?_ ?_ ?_ ?_ ?_ ?_ ?_ ?_ ?_ ?_ ?_ ?_ ?_ ?_ ?_ ?_ ?_ ?_ ?_ ?_ ?_ ?_ ?_ ?_ ?_ ?_ ?_ ?_ ?_ ?_ ?_ ?_ ?_ ?_ ?_ ?_ ?_ ?_ ?_ ?_ ?_ ?_ ?_ ?_ ?_ ?_ ?_ ?_ ?_ ?_ ?_ ?_ ?_ ?_ ?_ ?_ ?_ ?_ ?_ ?_ ?_ ?_ ?_ ?_ ?_ ?_ ?_ ?_ ?_ ?_ ?_ ?_ ?_ ?_ ?_ ?_ ?_ ?_ ?_ ?_ ?_ ?_ ?_ ?_ ?_ ?_ ?_ ?_ ?_ ?_ ?_ ?_ ?_ ?_ ?_ ?_ ?_ ?_ ?_ ?_ ?_ ?_ ?_ ?_ ?_ ?_ ?_ ?_ ?_ ?_ ?_ ?_ ?_ ?_ ?_ ?_ ?_ ?_ ?_ ?_ ?_ ?_ ?_ ?_ ?_ ?_ ?_ ?_ ?_ ?_ ?_ ?_ ?_ ?_ ?_ ?_ ?_ ?_ ?_ ?_ ?_ ?_ ?_ ?_ ?_ ?_ ?_ ?_ ?_ ?_ ?_ ?_ ?_ ?_ ?_ ?_ ?_ ?_ ?_ ?_ ?_ ?_ ?_ ?_ ?_ ?_ ?_ ?_ ?_ ?_ ?_ ?_ ?_ ?_ ?_ ?_ ?_ ?_ ?_ ?_ ?_ ?_ ?_ ?_ ?_ ?_ ?_ ?_ ?_ ?_ ?_ ?_ ?_ ?_ ?_ ?_ ?_ ?_ ?_ ?_ ?_ ?_ ?_ ?_ ?_ ?_ ?_ ?_ ?_ ?_ ?_ ?_ ?_ ?_ ?_ ?_ ?_ ?_ ?_ ?_ ?_ ?_ ?_ ?_ ?_ ?_ ?_ ?_ ?_ ?_ ?_ ?_ ?_ ?_ ?_ ?_ ?_ ?_ ?_ ?_ ?_ ?_ ?_ ?_ ?_ ?_ ?_ ?_ ?_ ?_ ?_ ?_ ?_ ?_ ?_ ?_ ?_ ?_ ?_ ?_ ?_ ?_ ?_ ?_ ?_ ?_ ?_ ?_ ?_ ?_ ?_ ?_ ?_ ?_ ?_ ?_ ?_ ?_ ?_ ?_ ?_ ?_ ?_ ?_ ?_ ?_ ?_ ?_ ?_ ?_ ?_ ?_ ?_ ?_ ?_ ?_ ?_ ?_ ?_ ?_ ?_ ?_ ?_
    all_goals try k_is
    all_goals kernel_rfl
