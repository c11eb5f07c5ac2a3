import PyProof.Rows.All
import Wide.All
import OpenK.AllK
import Wide.FinOn
import Lean
import PyProof.EqAt
import PyProof.EqKinds
import PyProof.TupleCall
import KE.KDictSum
import KE.KTryDeep
import KE.KTryMore
import PyProof.NsDelKeeps
import PyProof.FString
import PySem.Challenge.RW_nearstairs_k36_founds_by_boards_alone
set_option Elab.async false
set_option linter.all false
set_option maxRecDepth 100000
namespace L2
open PySem PySem.Spec PyProof.Rows
abbrev Key := Sum Int Str
def keyIs : Key → Value → Bool
  | .inl k, v => Value.isInt k v
  | .inr x, v => Value.isStrOf x v
def keyH (w : World) : Key → Int
  | .inl k => hashInt k
  | .inr x => hashStr w x
theorem keyIs_shape : ∀ {k : Key} {v : Value}, keyIs k v = true → (∃ i t, k = Sum.inl i ∧ v = Value.int i t) ∨ (∃ x t, k = Sum.inr x ∧ v = Value.str x t)
  | .inl i, v, h => by
    obtain ⟨t, e⟩ := Value.isInt_shape (k := i) (v := v) h
    exact .inl ⟨i, t, rfl, e⟩
  | .inr x, v, h => by
    obtain ⟨t, e⟩ := Value.isStrOf_shape (x := x) (v := v) h
    exact .inr ⟨x, t, rfl, e⟩
theorem keyIs_int (i : Int) (t : Tok) : keyIs (.inl i) (.int i t) = true := by simp [keyIs, Value.isInt]
theorem keyIs_str (x : Str) (t : Tok) : keyIs (.inr x) (.str x t) = true := by simp [keyIs, Value.isStrOf]
theorem key_ll (a b : Int) : decide ((Sum.inl a : Key) = Sum.inl b) = (a == b) := by
  by_cases e : a = b
  · subst e; simp
  · have h : ¬ (Sum.inl a : Key) = Sum.inl b := fun q => e (Sum.inl.inj q)
    rw [decide_eq_false h]
    exact (beq_eq_false_iff_ne.mpr e).symm
theorem key_rr (a b : Str) : decide ((Sum.inr a : Key) = Sum.inr b) = decide (a = b) := by
  by_cases e : a = b
  · subst e; simp
  · have h : ¬ (Sum.inr a : Key) = Sum.inr b := fun q => e (Sum.inr.inj q)
    rw [decide_eq_false h, decide_eq_false e]
theorem key_lr (a : Int) (b : Str) : decide ((Sum.inl a : Key) = Sum.inr b) = false := decide_eq_false (fun q => nomatch q)
theorem key_rl (a : Str) (b : Int) : decide ((Sum.inr a : Key) = Sum.inl b) = false := decide_eq_false (fun q => nomatch q)
def mixKind (prog : Program) (w : World) : PySem.KeyKind prog w Key where
  is := keyIs
  hash := keyH w
  inj := fun v a b ha hb => by
    rcases keyIs_shape ha with ⟨i, t, rfl, rfl⟩ | ⟨x, t, rfl, rfl⟩
    · rcases keyIs_shape hb with ⟨j, u, rfl, e⟩ | ⟨y, u, rfl, e⟩
      · injection e with e1 _; rw [e1]
      · exact nomatch e
    · rcases keyIs_shape hb with ⟨j, u, rfl, e⟩ | ⟨y, u, rfl, e⟩
      · exact nomatch e
      · injection e with e1 _; rw [e1]
  byValue := fun k v h => by
    rcases keyIs_shape h with ⟨i, t, rfl, rfl⟩ | ⟨x, t, rfl, rfl⟩ <;> rfl
  pyHash := fun hv h => by
    rcases keyIs_shape hv with ⟨i, t, rfl, rfl⟩ | ⟨x, t, rfl, rfl⟩
    · exact wpAny_pyHash_int h
    · exact wpAny_pyHash_str h
  eqBool := fun hu hv h => by
    rcases keyIs_shape hu with ⟨i, t, rfl, rfl⟩ | ⟨x, t, rfl, rfl⟩
    · rcases keyIs_shape hv with ⟨j, u, rfl, rfl⟩ | ⟨y, u, rfl, rfl⟩
      · rw [key_ll] at h; exact wpAny_eqBool_int h
      · rw [key_lr] at h; exact SeqAt.EqAt.int_str i t y u _ _ _ _ h
    · rcases keyIs_shape hv with ⟨j, u, rfl, rfl⟩ | ⟨y, u, rfl, rfl⟩
      · rw [key_rl] at h; exact SeqAt.EqAt.str_int x t j u _ _ _ _ h
      · rw [key_rr] at h; exact wpAny_eqBool_str h
  «strs» := fun k x t v h => by
    rcases keyIs_shape h with ⟨i, u, rfl, e⟩ | ⟨y, u, rfl, e⟩
    · exact nomatch e
    · injection e with e1 _
      subst e1
      cases v <;> rfl
theorem mixKind_int (prog : Program) (w : World) (i : Int) (t : Tok) : (mixKind prog w).is (.inl i) (.int i t) = true := keyIs_int i t
theorem mixKind_str (prog : Program) (w : World) (x : Str) (t : Tok) : (mixKind prog w).is (.inr x) (.str x t) = true := keyIs_str x t
end L2
namespace L2
open PySem PySem.Spec PyProof.Rows
inductive V where
  | non | bl (b : Bool) | int (i : Int) | str (x : Str) | byt (b : Array UInt8) | flt (b : UInt64) | ref (a : Addr) | ty (n : String)
  deriving DecidableEq
def RelV : V → Value → Prop
  | .non, u => u = Value.none
  | .bl b, u => u = Value.bool b
  | .int i, u => ∃ t, u = Value.int i t
  | .str x, u => ∃ t, u = Value.str x t
  | .byt b, u => ∃ t, u = Value.bytes b t
  | .flt b, u => ∃ t, u = Value.float b t
  | .ref a, u => u = Value.ref a
  | .ty n, u => u = Value.type n
abbrev Vals : List V → List Value → Prop := Paired RelV
theorem Vals.length {xs : List V} {us : List Value} (r : Vals xs us) : xs.length = us.length := Paired.length r
theorem Vals.get : ∀ {xs : List V} {us : List Value} {i : Nat} {x : V}, Vals xs us → xs[i]? = some x → ∃ u, us[i]? = some u ∧ RelV x u
  | _, _, _, _, .nil, e => by simp at e
  | _, _, 0, _, .cons r _, e => by simp at e; subst e; exact ⟨_, rfl, r⟩
  | _, _, i + 1, x, .cons _ t, e => by
    obtain ⟨u, h1, h2⟩ := Vals.get (i := i) (x := x) t (by simpa using e)
    exact ⟨u, by simpa using h1, h2⟩
theorem Vals.set {x : V} {u : Value} (r : RelV x u) : ∀ {xs : List V} {us : List Value} (i : Nat), Vals xs us → Vals (xs.set i x) (us.set i u)
  | _, _, _, .nil => .nil
  | _, _, 0, .cons _ t => .cons r t
  | _, _, i + 1, .cons q t => .cons q (Vals.set r i t)
theorem Vals.append : ∀ {xs ys : List V} {us ws : List Value}, Vals xs us → Vals ys ws → Vals (xs ++ ys) (us ++ ws)
  | _, _, _, _, .nil, s => s
  | _, _, _, _, .cons r t, s => .cons r (Vals.append t s)
theorem Vals.take : ∀ {xs : List V} {us : List Value} (n : Nat), Vals xs us → Vals (xs.take n) (us.take n)
  | _, _, 0, _ => .nil
  | _, _, _ + 1, .nil => .nil
  | _, _, n + 1, .cons r t => .cons r (Vals.take n t)
theorem Vals.drop : ∀ {xs : List V} {us : List Value} (n : Nat), Vals xs us → Vals (xs.drop n) (us.drop n)
  | _, _, 0, r => r
  | _, _, _ + 1, .nil => .nil
  | _, _, n + 1, .cons _ t => Vals.drop n t
def RelO : Option V → Option Value → Prop
  | some v, some u => RelV v u
  | none, none => True
  | _, _ => False
def KV {κ : Type} : List (κ × V) → List (κ × Value) → Prop := Paired fun (p : κ × V) (q : κ × Value) => p.1 = q.1 ∧ RelV p.2 q.2
def kV : Key → V
  | .inl i => .int i
  | .inr x => .str x
inductive HO where
    | lst (xs : List V)
    | tup (xs : List V)
    | dK (kvs : List (Key × V)) | dT (kvs : List (List Key × V))
    | set (S : Int → Bool) (n : Nat)
    | ins (C dx : Addr) (fs : List (Str × V))
    | own (x : Addr)
    | xd (fs : List (Str × V))
    | met (f x : Addr)
    | rng (lo hi : Int)
    | frz (o : Obj) (u : HO)
    | tbl (pos : Pos) (qual : Str)
    | ext (φ : Heap → Prop)
abbrev Hp := Addr → Option HO
def upd (H : Hp) (a : Addr) (o : HO) : Hp := fun b => if b = a then some o else H b
theorem upd_same {H : Hp} {a : Addr} {o : HO} : upd H a o a = some o := by unfold upd; rw [if_pos rfl]
theorem upd_ne {H : Hp} {a b : Addr} {o : HO} (h : b ≠ a) : upd H a o b = H b := by unfold upd; rw [if_neg h]
theorem upd_upd {H : Hp} {a : Addr} {o u : HO} : upd (upd H a o) a u = upd H a u := by
  funext b; unfold upd; split <;> rfl
theorem ne_of {H : Hp} {a b : Addr} {o u : HO} (h : H a = some o) (h' : H b = some u) (d : o ≠ u) : a ≠ b := by
  intro e; subst e; rw [h] at h'; exact d (Option.some.inj h')
theorem ne_of_none {H : Hp} {a b : Addr} {o : HO} (h : H a = some o) (h' : H b = none) : a ≠ b := by
  intro e; subst e; rw [h] at h'; cases h'
section
variable (P : Program) (w : World)
def ObjOk (H : Hp) (h : Heap) (a : Addr) : HO → Prop
  | .lst xs => xs.length ≤ sizeLine ∧ ∃ (its : List Value) (n : Nat), Vals xs its ∧ h.get? a = some { cls := .type "list", data := .seq its.toArray n }
  | .tup xs => xs.length ≤ sizeLine ∧ ∃ its : List Value, Vals xs its ∧ IsTup h a its.toArray
  | .dK kvs => kvs.length ≤ sizeLine ∧ (a == sysModules) = false ∧ ∃ vs, KV kvs vs ∧ h.DictOf (mixKind P w) a vs
  | .dT kvs => kvs.length ≤ sizeLine ∧ (a == sysModules) = false ∧ ∃ xs : List (List Key × Addr × Value),
      Paired (fun (p : List Key × V) (q : List Key × Addr × Value) => p.1 = q.1 ∧ H q.2.1 = some (.tup (p.1.map kV)) ∧ RelV p.2 q.2.2) kvs xs ∧
      ∃ o es ep, h.get? a = some o ∧ o.ExactDict ∧ o.data = .dict es ep ∧ es.toList = xs.map (entryOfKey (tupleKind (mixKind P w))) ∧ (xs.map (·.1)).Nodup
  | .set S n => h.SetOf (intKind P w) a S n
  | .ins C dx fs => H dx = some (.own a) ∧ fs.length ≤ 1000 ∧ dx ≠ a ∧ h.get? a = some (PySem.W.instObj C dx) ∧
      ∃ mA, h.Ns1 dx mA ∧ (∀ f, RelO (fs.lookup f) (mA f)) ∧ PySem.Within mA (fs.map (·.1))
  | .own _ => ∃ o, h.get? a = some o
  | .xd fs => ∃ mA, h.Ns1 a mA ∧ ∀ f, RelO (fs.lookup f) (mA f)
  | .rng lo hi => ∃ t u v, h.get? a = some { cls := .type "range", data := .fields #[.int lo t, .int hi u, .int 1 v] }
  | .frz o u => h.get? a = some o ∧ ObjOk H h a u
  | .tbl pos qual => ∃ ps, h.get? a = some { cls := .none, data := .fields ps } ∧ TriplesOk ps.toList ∧ ∀ cv, codeAmong pos ps.toList = some cv → ∃ c oc vs t, cv = .ref c ∧ H c = some (.frz oc (.own a)) ∧ oc.data = .fields vs ∧ vs[1]? = some (.str qual t)
  | .met f x => h.get? a = some (PySem.W.methodObj (.ref f) (.ref x))
  | .ext φ => φ h ∧ (∃ o, h.get? a = some o) ∧ ∀ h1 h2 : Heap, φ h1 → (∀ o, h1.get? a = some o → h2.get? a = some o) → φ h2
def HOk (H : Hp) (h : Heap) : Prop := ∀ a o, H a = some o → ObjOk P w H h a o
end
section
variable {P : Program} {w : World} {H H' : Hp} {h h' : Heap} {a : Addr} {o : HO}
theorem ObjOk.lt (x : ObjOk P w H h a o) : a < h.objs.size := by
  cases o with
  | lst xs => obtain ⟨_, _, _, _, e⟩ := x; exact Heap.lt_size e
  | tup xs => obtain ⟨_, _, _, p⟩ := x; exact p.lt
  | dK kvs => obtain ⟨_, _, _, _, o, _, _, e, _⟩ := x; exact Heap.lt_size e
  | dT kvs => obtain ⟨_, _, _, _, o, _, _, e, _⟩ := x; exact Heap.lt_size e
  | set S n => obtain ⟨o, _, _, _, e, _⟩ := x; exact Heap.lt_size e
  | ins C dx fs => obtain ⟨_, _, _, e, _⟩ := x; exact Heap.lt_size e
  | own y => obtain ⟨_, e⟩ := x; exact Heap.lt_size e
  | xd fs => obtain ⟨_, ⟨_, _, _, e, _⟩, _⟩ := x; exact Heap.lt_size e
  | rng lo hi => obtain ⟨_, _, _, e⟩ := x; exact Heap.lt_size e
  | frz ob u => obtain ⟨e, _⟩ := x; exact Heap.lt_size e
  | tbl p q => obtain ⟨_, e, _⟩ := x; exact Heap.lt_size e
  | met f y => exact Heap.lt_size (show h.get? a = some _ from x)
  | ext φ => obtain ⟨_, ⟨_, e⟩, _⟩ := x; exact Heap.lt_size e
theorem Paired.mapP {α β : Type} {F G : α → β → Prop} : ∀ {l₁ : List α} {l₂ : List β}, Paired F l₁ l₂ → (∀ a b, F a b → G a b) → Paired G l₁ l₂
  | _, _, .nil, _ => .nil
  | _, _, .cons r t, f => .cons (f _ _ r) (Paired.mapP t f)
theorem ObjOk.stay (x : ObjOk P w H h a o) (k : ∀ b u, (b = a ∨ H b = some (.own a)) → h.get? b = some u → h'.get? b = some u)
    (ho : ∀ b, H b = some (.own a) → H' b = some (.own a)) (ht : ∀ b xs, H b = some (.tup xs) → H' b = some (.tup xs))
    (hz : ∀ b oz, H b = some (.frz oz (.own a)) → H' b = some (.frz oz (.own a)) := by exact fun _ _ q => q) : ObjOk P w H' h' a o := by
  induction o with
  | lst xs => obtain ⟨z, its, n, r, e⟩ := x; exact ⟨z, its, n, r, k _ _ (.inl rfl) e⟩
  | tup xs => obtain ⟨z, its, r, ob, e, c⟩ := x; exact ⟨z, its, r, ob, k _ _ (.inl rfl) e, c⟩
  | dK kvs => obtain ⟨z, y, vs, r, ob, es, ep, e, c⟩ := x; exact ⟨z, y, vs, r, ob, es, ep, k _ _ (.inl rfl) e, c⟩
  | dT kvs =>
    obtain ⟨z, y, xs, r, ob, es, ep, e, c⟩ := x
    exact ⟨z, y, xs, Paired.mapP r fun p q z => ⟨z.1, ht _ _ z.2.1, z.2.2⟩, ob, es, ep, k _ _ (.inl rfl) e, c⟩
  | set S n => obtain ⟨ob, es, ep, t, e, c⟩ := x; exact ⟨ob, es, ep, t, k _ _ (.inl rfl) e, c⟩
  | ins C dx fs =>
    obtain ⟨d, z, ne, e, mA, ⟨od, es, ep, e2, c⟩, r⟩ := x
    exact ⟨ho _ d, z, ne, k _ _ (.inl rfl) e, mA, ⟨od, es, ep, k _ _ (.inr d) e2, c⟩, r⟩
  | own y => obtain ⟨ob, e⟩ := x; exact ⟨ob, k _ _ (.inl rfl) e⟩
  | xd fs => obtain ⟨mA, ⟨od, es, ep, e, c⟩, r⟩ := x; exact ⟨mA, ⟨od, es, ep, k _ _ (.inl rfl) e, c⟩, r⟩
  | rng lo hi => obtain ⟨t, u, v, e⟩ := x; exact ⟨t, u, v, k _ _ (.inl rfl) e⟩
  | frz ob u ih => obtain ⟨e, q⟩ := x; exact ⟨k _ _ (.inl rfl) e, ih q⟩
  | tbl p q =>
    obtain ⟨ps, e, tr, hc⟩ := x
    refine ⟨ps, k a _ (.inl rfl) e, tr, fun cv e1 => ?_⟩
    obtain ⟨c, oc, vs, tt, z, e2, r⟩ := hc cv e1
    exact ⟨c, oc, vs, tt, z, hz _ _ e2, r⟩
  | met f y =>
    have e : h.get? a = some (PySem.W.methodObj (.ref f) (.ref y)) := x
    show h'.get? a = some (PySem.W.methodObj (.ref f) (.ref y))
    exact k a _ (.inl rfl) e
  | ext φ => obtain ⟨p, ⟨o, e⟩, st⟩ := x; exact ⟨st _ _ p fun o q => k _ _ (.inl rfl) q, ⟨o, k _ _ (.inl rfl) e⟩, st⟩
theorem HOk.lt (x : HOk P w H h) (e : H a = some o) : a < h.objs.size := (x a o e).lt
theorem HOk.fresh (x : HOk P w H h) (e : h.objs.size ≤ a) : H a = none := by
  cases q : H a with
  | none => rfl
  | some u => exact absurd (Nat.lt_of_lt_of_le (x.lt q) e) (Nat.lt_irrefl _)
theorem HOk.kept (x : HOk P w H h) (k : ∀ b u, h.get? b = some u → h'.get? b = some u) : HOk P w H h' := fun a o e =>
  (x a o e).stay (fun b u _ q => k b u q) (fun _ q => q) fun _ _ q => q
theorem HOk.laid (x : HOk P w H h) (k : ∀ b u, h.get? b = some u → h'.get? b = some u) (hp : h.objs.size ≤ a) (new : ObjOk P w (upd H a o) h' a o) : HOk P w (upd H a o) h' := fun b u e => by
  have hn := x.fresh hp
  by_cases hb : b = a
  · subst hb; rw [upd_same] at e; cases e; exact new
  · rw [upd_ne hb] at e
    exact (x b u e).stay (fun c v _ q => k c v q) (fun c q => by rw [upd_ne (ne_of_none q hn)]; exact q) (fun c xs q => by rw [upd_ne (ne_of_none q hn)]; exact q) fun c oz q => by rw [upd_ne (ne_of_none q hn)]; exact q
end
def Rd (H : Hp) (a : Addr) (u : HO) : Prop := H a = some u ∨ ∃ o, H a = some (.frz o u)
theorem Rd.ok {P : Program} {w : World} {H : Hp} {h : Heap} {a : Addr} {u : HO} (r : Rd H a u) (x : HOk P w H h) : ObjOk P w H h a u := by
  rcases r with r | ⟨o, r⟩
  · exact x a u r
  · obtain ⟨_, q⟩ := x a _ r
    exact q
def Mut : Option HO → Prop
  | some (.lst _) => True
  | some (.dK _) => True
  | some (.dT _) => True
  | some (.set _ _) => True
  | some (.ins _ _ _) => True
  | some (.ext _) => True
  | _ => False
section
variable {P : Program} {w : World} {H : Hp} {h h' : Heap} {x e : Addr} {o' : HO}
theorem HOk.write (ok : HOk P w H h) (mu : Mut (H x)) (he : e = x ∨ H e = some (.own x)) (k : ∀ b u, b ≠ e → h.get? b = some u → h'.get? b = some u) (heo : ∃ u, h'.get? e = some u)
    (new : ObjOk P w (upd H x o') h' x o') : HOk P w (upd H x o') h' := fun b u q => by
  have nown : ∀ c y, H c = some (.own y) → c ≠ x := fun c y r z => by subst z; rw [r] at mu; exact mu
  have ntup : ∀ c xs, H c = some (.tup xs) → c ≠ x := fun c xs r z => by subst z; rw [r] at mu; exact mu
  by_cases hb : b = x
  · subst hb; rw [upd_same] at q; cases q; exact new
  · rw [upd_ne hb] at q
    by_cases hbe : b = e
    · have q' : H b = some (.own x) := by
        rcases he with z | z
        · exact absurd (hbe.trans z) hb
        · rw [hbe]; exact z
      rw [q] at q'; cases q'
      obtain ⟨v, hv⟩ := heo
      exact ⟨v, by rw [hbe]; exact hv⟩
    · refine (ok b u q).stay (fun c v hc r => k c v ?_ r) (fun c r => by rw [upd_ne (nown c b r)]; exact r) (fun c xs r => by rw [upd_ne (ntup c xs r)]; exact r) fun c oz r => by rw [upd_ne (fun z => by subst z; rw [r] at mu; exact mu)]; exact r
      rcases hc with rfl | hc
      · exact hbe
      · rintro rfl
        rcases he with z | z
        · exact nown c b hc z
        · rw [hc] at z; cases z; exact hb rfl
end
structure Un (fs ex : List Addr) (H H' : Hp) (h h' : Heap) : Prop where
  keep : ∀ b o, h.get? b = some o → H b = none → b ∉ fs → b ∉ ex → h'.get? b = some o
  slot : ∀ b o, h.get? b = some o → H b = none → b ∈ fs → b ∉ ex → ∃ sl, h'.get? b = some { o with slots := sl }
  free : ∀ b o, h.get? b = some o → H b = none → b ∉ ex → H' b = none
  there : ∀ b o, h.get? b = some o → b ∉ ex → ∃ o', h'.get? b = some o'
  tups : ∀ b xs, H b = some (.tup xs) → H' b = some (.tup xs)
  frzs : ∀ b o u, H b = some (.frz o u) → H' b = some (.frz o u)
  tbls : ∀ b p q, H b = some (.tbl p q) → H' b = some (.tbl p q)
section
variable {fs fs' ex ex' : List Addr} {H H1 H2 : Hp} {h h1 h2 h' : Heap} {a x e : Addr} {o : HO}
theorem Un.any (u : Un fs ex H H1 h h1) {b : Addr} {ob : Obj} (q : h.get? b = some ob) (n : H b = none) (hx : b ∉ ex) : ∃ sl, h1.get? b = some { ob with slots := sl } := by
  by_cases hb : b ∈ fs
  · exact u.slot b ob q n hb hx
  · exact ⟨ob.slots, u.keep b ob q n hb hx⟩
theorem Un.kept (k : ∀ b u, h.get? b = some u → h'.get? b = some u) : Un fs ex H H h h' :=
  ⟨fun b ob q _ _ _ => k b ob q, fun b ob q _ _ _ => ⟨ob.slots, k b ob q⟩, fun _ _ _ n _ => n, fun b ob q _ => ⟨ob, k b ob q⟩, fun _ _ q => q, fun _ _ _ q => q, fun _ _ _ q => q⟩
theorem Un.refl : Un fs ex H H h h := Un.kept fun _ _ q => q
theorem Un.laid (k : ∀ b u, h.get? b = some u → h'.get? b = some u) (hp : h.objs.size ≤ a) (hn : H a = none) : Un fs ex H (upd H a o) h h' where
  keep := fun b u q _ _ _ => k b u q
  slot := fun b u q _ _ _ => ⟨u.slots, k b u q⟩
  free := fun b u q n _ => by rw [upd_ne (Nat.ne_of_lt (Nat.lt_of_lt_of_le (Heap.lt_size q) hp))]; exact n
  there := fun b u q _ => ⟨u, k b u q⟩
  tups := fun b xs q => by rw [upd_ne (ne_of_none q hn)]; exact q
  frzs := fun b u xs q => by rw [upd_ne (ne_of_none q hn)]; exact q
  tbls := fun b _ _ q => by rw [upd_ne (ne_of_none q hn)]; exact q
theorem Un.write (mu : Mut (H x)) (he : e = x ∨ H e = some (.own x)) (k : ∀ b u, b ≠ e → h.get? b = some u → h'.get? b = some u) (heo : ∃ u, h'.get? e = some u) : Un fs ex H (upd H x o) h h' := by
  have hx : ∀ b, H b = none → b ≠ x := fun b n z => by subst z; rw [n] at mu; exact mu
  have hb : ∀ b, H b = none → b ≠ e := fun b n z => by
    subst z
    rcases he with r | r
    · exact hx b n r
    · rw [n] at r; cases r
  have hm : ∀ b u, H b = some u → ¬ Mut (some u) → b ≠ x := fun b u q nm z => by subst z; rw [q] at mu; exact nm mu
  refine ⟨fun b u q n _ _ => k b u (hb b n) q, fun b u q n _ _ => ⟨u.slots, k b u (hb b n) q⟩, fun b u q n _ => by rw [upd_ne (hx b n)]; exact n, fun b u q _ => ?_,
    fun b xs q => by rw [upd_ne (hm b _ q fun z => z)]; exact q, fun b u xs q => by rw [upd_ne (hm b _ q fun z => z)]; exact q, fun b _ _ q => by rw [upd_ne (hm b _ q fun z => z)]; exact q⟩
  by_cases hbe : b = e
  · subst hbe; exact heo
  · exact ⟨u, k b u hbe q⟩
end
def trk (h : Heap) (H : Hp) : List Addr := (List.range h.objs.size).filter fun a => (H a).isSome
def hidT (h : Heap) (H : Hp) : Heap := PySem.W.hideAll h (trk h H)
theorem hidT_size (h : Heap) (H : Hp) : (hidT h H).objs.size = h.objs.size := PySem.W.hideAll_size _ _
theorem hidT_get {h : Heap} {H : Hp} {b : Addr} {o : Obj} (e : h.get? b = some o) (n : H b = none) : (hidT h H).get? b = some o :=
  PySem.W.hideAll_get _ e fun hm => by
    have q : (H b).isSome = true := (List.mem_filter.mp hm).2
    rw [n] at q; simp at q
theorem of_hidT {h : Heap} {H : Hp} {b : Addr} {o : Obj} (e : (hidT h H).get? b = some o) : h.get? b = some o ∧ H b = none := by
  have e' : h.get? b = some o := PySem.W.of_hideAll (trk h H) e
  refine ⟨e', ?_⟩
  cases q : H b with
  | none => rfl
  | some x =>
    have hm : b ∈ trk h H := List.mem_filter.mpr ⟨List.mem_range.mpr (Heap.lt_size e'), by simp [q]⟩
    have z : (hidT h H).get? b = none := PySem.W.hideAll_none (trk h H) hm
    rw [z] at e; cases e
end L2
namespace L2
open PySem PySem.Spec PyProof.Rows
structure Mod (K : PySem.W.Frag) (mg : Str → Option Value) (base : Heap) : Prop where
  kin : K.In base
  glob : base.Ns mainGlobals mg
  blt : ∃ mb, base.Ns builtinsNs mb ∧ ∀ x : Str, x ≠ "__name__" → mb x = bootBuiltins x
  nolimit : base.NoLimit
structure Cx where
  prog : Program
  w : World
  K : PySem.W.Frag
  mg : Str → Option Value
  base : Heap
  A : Around
  N : List Str
  s₀ : Shared
  H₀ : Hp
  env : Env
  outer : List Env
  stack : List Env
  ex : List Addr
  fn : Str → Bool
  calm : Bool
  pn : List (Addr × Obj)
  xe : Value → Shared → Prop
def frs (l : List Env) : List Addr := l.filterMap (·.frame)
abbrev Cx.fs (X : Cx) : List Addr := frs X.outer
def Vis (sc : Scope) (x : Str) : Prop := sc.names.lookup x = some .local ∨ sc.names.lookup x = some .cell ∨ sc.names.lookup x = some .free
def Loc (sc : Scope) (x : Str) : Prop := sc.names.lookup x = some .local ∨ sc.names.lookup x = some .cell
def Look (env : Env) (h : Heap) (m : Str → Option Value) (x : Str) (u : Value) : Prop :=
  (env.kindOf x = some .local ∧ m x = some u) ∨ ((env.kindOf x = some .cell ∨ env.kindOf x = some .free) ∧ ∃ c, env.cells.lookup x = some c ∧ h.IsCell c (some u))
structure Cx.Ok (X : Cx) : Prop where
  mod : Mod X.K X.mg X.base
  kind : X.env.scope.kind = .function
  glob : X.env.globals = mainGlobals
  blt : X.env.builtins = builtinsNs
  above : X.s₀.heap.objs.size ≤ X.env.locals
  inj : ∀ x y c, X.env.cells.lookup x = some c → X.env.cells.lookup y = some c → x = y
  has : ∀ x, (X.env.kindOf x = some .cell ∨ X.env.kindOf x = some .free) → ∃ c, X.env.cells.lookup x = some c
  cab : ∀ x c, X.fn x = true → X.env.cells.lookup x = some c → X.s₀.heap.objs.size ≤ c
  hd : X.calm = true → X.A.handled = none
  frames : X.A.frames = some X.stack
  stk : X.stack = X.outer ∨ (X.stack = X.env :: X.outer ∧ X.env.frame = some X.env.locals)
  exf : ∀ b ∈ X.ex, b ≠ X.env.locals ∧ ∀ x c, X.env.cells.lookup x = some c → c ≠ b
  bs : ∀ b o, X.base.get? b = some o → X.s₀.heap.get? b = some o ∧ X.H₀ b = none
  bsz : X.base.objs.size ≤ X.s₀.heap.objs.size
  noex : ∀ b o, X.base.get? b = some o → b ∉ X.ex
  exfs : ∀ b ∈ X.ex, b ∉ X.fs
  funs : X.s₀.heap.FunFrames X.base X.outer
  frf : ∀ b ∈ X.fs, X.H₀ b = none
structure Inv (X : Cx) (pins : List (Addr × Obj)) (σ : List (Option V)) (H : Hp) (s : Shared) : Prop where
  ok : X.Ok
  os : s.os = X.s₀.os
  bare : AllBare s.gens
  base : Un X.fs X.ex X.H₀ H X.s₀.heap s.heap
  loc : ∃ m, s.heap.Ns X.env.locals m ∧ ∀ (i : Nat) (x : Str) (v : V), X.N[i]? = some x → σ[i]? = some (some v) → Vis X.env.scope x → ∃ u, RelV v u ∧ Look X.env s.heap m x u
  cell : ∀ x c, X.env.cells.lookup x = some c → ∃ v, s.heap.IsCell c v
  free : H X.env.locals = none
  freeC : ∀ x c, X.env.cells.lookup x = some c → H c = none
  pin : ∀ p ∈ X.pn ++ pins, s.heap.get? p.1 = some p.2 ∧ H p.1 = none ∧ p.1 ≠ X.env.locals ∧ p.1 ∉ X.fs ∧ ∀ v, p.2.data ≠ .cell v
  hok : HOk X.prog X.w H s.heap
  len : σ.length = X.N.length
section
variable {X : Cx} {pins : List (Addr × Obj)} {σ : List (Option V)} {H H' : Hp} {s : Shared} {h' : Heap}
theorem Cx.Ok.nofr (ok : X.Ok) {b : Addr} {o : Obj} (e : X.base.get? b = some o) : b ∉ X.fs := fun hb => by
  have := (ok.funs.mem hb).1
  rw [e] at this; cases this
theorem Inv.bs (I : Inv X pins σ H s) : ∀ b o, X.base.get? b = some o → s.heap.get? b = some o ∧ H b = none := fun b o e =>
  ⟨I.base.keep b o (I.ok.bs b o e).1 (I.ok.bs b o e).2 (I.ok.nofr e) (I.ok.noex b o e), I.base.free b o (I.ok.bs b o e).1 (I.ok.bs b o e).2 (I.ok.noex b o e)⟩
theorem Inv.bk (I : Inv X pins σ H s) : ∀ b o, X.base.get? b = some o → s.heap.get? b = some o := fun b o e => (I.bs b o e).1
theorem Inv.mod (I : Inv X pins σ H s) : Mod X.K X.mg X.base := I.ok.mod
theorem Inv.kIn (I : Inv X pins σ H s) : X.K.In s.heap := I.ok.mod.kin.keeps I.bk
theorem Inv.nolimit (I : Inv X pins σ H s) : s.heap.NoLimit := I.ok.mod.nolimit.keeps I.bk
theorem Inv.lt (I : Inv X pins σ H s) : X.env.locals < s.heap.objs.size := let ⟨_, hn, _⟩ := I.loc; hn.lt
theorem Inv.sz (I : Inv X pins σ H s) : X.s₀.heap.objs.size ≤ s.heap.objs.size := Nat.le_trans I.ok.above (Nat.le_of_lt I.lt)
theorem Inv.nofs (I : Inv X pins σ H s) {a : Addr} (h : s.heap.objs.size ≤ a) : a ∉ X.fs := fun hb => by
  obtain ⟨_, o, ho, _⟩ := I.ok.funs.mem hb
  exact absurd (Nat.lt_of_lt_of_le (Heap.lt_size ho) (Nat.le_trans I.sz h)) (Nat.lt_irrefl _)
theorem Inv.cne (I : Inv X pins σ H s) : ∀ x c, X.env.cells.lookup x = some c → c ≠ X.env.locals := fun x c e z => by
  obtain ⟨v, o, ho, hd⟩ := I.cell x c e
  obtain ⟨m, ⟨o', es, ep, ho', hd', _⟩, _⟩ := I.loc
  rw [z, ho'] at ho; cases ho; rw [hd'] at hd; cases hd
theorem Inv.funs (I : Inv X pins σ H s) : s.heap.FunFrames X.base X.outer := by
  have all : ∀ (l : List Env), (∀ b ∈ frs l, b ∈ X.fs) → X.s₀.heap.FunFrames X.base l → s.heap.FunFrames X.base l := by
    intro l
    induction l with
    | nil => intro _ _; trivial
    | cons env r ih =>
      intro hs hl
      obtain ⟨hk, ⟨L, o, hf, hn, ho, hd⟩, hr⟩ := hl
      have hL : L ∈ X.fs := hs L (by unfold frs; rw [List.filterMap_cons, hf]; exact List.mem_cons_self)
      obtain ⟨sl, e⟩ := I.base.slot L o ho (I.ok.frf L hL) hL fun z => I.ok.exfs L z hL
      exact ⟨hk, ⟨L, _, hf, hn, e, hd⟩, ih (fun b hb => hs b (by unfold frs; rw [List.filterMap_cons, hf]; exact List.mem_cons_of_mem _ hb)) hr⟩
  exact all X.outer (fun _ hb => hb) I.ok.funs
theorem Inv.stack (I : Inv X pins σ H s) : s.heap.FunFrames X.base X.stack := by
  rcases I.ok.stk with e | ⟨e, hf⟩
  · rw [e]; exact I.funs
  · rw [e]
    obtain ⟨m, hn, _⟩ := I.loc
    refine .cons (by rw [I.ok.kind]; decide) hf hn ?_ I.funs
    exact Heap.get?_none_of_le (Nat.le_trans I.ok.bsz I.ok.above)
theorem Inv.stkSub (I : Inv X pins σ H s) : ∀ b ∈ frs X.stack, b ∈ X.env.locals :: X.fs := fun b hb => by
  rcases I.ok.stk with e | ⟨e, hf⟩
  · rw [e] at hb; exact List.mem_cons_of_mem _ hb
  · rw [e] at hb
    unfold frs at hb
    rw [List.filterMap_cons, hf] at hb
    exact hb
theorem Inv.stkFree (I : Inv X pins σ H s) : ∀ b ∈ frs X.stack, H b = none := fun b hb => by
  rcases List.mem_cons.mp (I.stkSub b hb) with e | hb
  · rw [e]; exact I.free
  · obtain ⟨_, o, ho, _⟩ := I.ok.funs.mem hb
    exact I.base.free b o ho (I.ok.frf b hb) fun z => I.ok.exfs b z hb
theorem Inv.step {g' : Array GenState} {t' : Nat} {d' : Drawn} {ch : List Addr} (I : Inv X pins σ H s)
    (hch : ∀ b ∈ ch, (b ∈ X.ex ∨ X.s₀.heap.objs.size ≤ b) ∧ b ≠ X.env.locals ∧ (∀ x c, X.env.cells.lookup x = some c → c ≠ b) ∧ ∀ p ∈ X.pn ++ pins, p.1 ≠ b)
    (keep : ∀ b o, b ≠ X.env.locals → b ∉ X.fs → b ∉ ch → s.heap.get? b = some o → H b = none → h'.get? b = some o)
    (slot : ∀ b o, b ≠ X.env.locals → b ∈ X.fs → b ∉ ch → s.heap.get? b = some o → H b = none → ∃ sl, h'.get? b = some { o with slots := sl }) (free : ∀ b o, b ∉ ch → s.heap.get? b = some o → H b = none → H' b = none)
    (there : ∀ b o, b ∉ ch → s.heap.get? b = some o → ∃ o', h'.get? b = some o')
    (tups : ∀ b xs, H b = some (.tup xs) → H' b = some (.tup xs)) (frzs : ∀ b o u, H b = some (.frz o u) → H' b = some (.frz o u)) (tbls : ∀ b p q, H b = some (.tbl p q) → H' b = some (.tbl p q))
    (ns : ∀ m, s.heap.Ns X.env.locals m → h'.Ns X.env.locals m) (hok : HOk X.prog X.w H' h') (hg : AllBare g') :
    Inv X pins σ H' { s with heap := h', gens := g', drawn := d', toks := t' } := by
  have neL : ∀ b o, X.s₀.heap.get? b = some o → b ≠ X.env.locals := fun b o e => Nat.ne_of_lt (Nat.lt_of_lt_of_le (Heap.lt_size e) I.ok.above)
  have neC : ∀ b o, X.s₀.heap.get? b = some o → b ∉ X.ex → b ∉ ch := fun b o e hx hb => by
    rcases (hch b hb).1 with z | z
    · exact hx z
    · exact absurd (Nat.lt_of_lt_of_le (Heap.lt_size e) z) (Nat.lt_irrefl _)
  have cellK : ∀ x c, X.env.cells.lookup x = some c → ∀ v, s.heap.IsCell c v → h'.IsCell c v := fun x c e v ⟨o, ho, hd⟩ => by
    have nch : c ∉ ch := fun z => (hch c z).2.2.1 x c e rfl
    by_cases hc : c ∈ X.fs
    · obtain ⟨sl, q⟩ := slot c o (I.cne x c e) hc nch ho (I.freeC x c e)
      exact ⟨_, q, hd⟩
    · exact ⟨o, keep c o (I.cne x c e) hc nch ho (I.freeC x c e), hd⟩
  refine ⟨I.ok, I.os, hg, ⟨fun b o e n hb hx => ?_, fun b o e n hb hx => ?_, fun b o e n hx => ?_, fun b o e hx => ?_, fun b xs e => tups b xs (I.base.tups b xs e), fun b o xs e => frzs b o xs (I.base.frzs b o xs e), fun b p r e => tbls b p r (I.base.tbls b p r e)⟩, ?_, fun x c e => ?_, ?_, fun x c e => ?_, fun p hp => ?_, hok, I.len⟩
  · exact keep b o (neL b o e) hb (neC b o e hx) (I.base.keep b o e n hb hx) (I.base.free b o e n hx)
  · obtain ⟨sl, e1⟩ := I.base.slot b o e n hb hx
    obtain ⟨sl', e2⟩ := slot b _ (neL b o e) hb (neC b o e hx) e1 (I.base.free b o e n hx)
    exact ⟨sl', e2⟩
  · obtain ⟨o', e1⟩ := I.base.there b o e hx
    exact free b o' (neC b o e hx) e1 (I.base.free b o e n hx)
  · obtain ⟨o', e1⟩ := I.base.there b o e hx
    exact there b o' (neC b o e hx) e1
  · obtain ⟨m, hn, hl⟩ := I.loc
    refine ⟨m, ns m hn, fun i x v e1 e2 e3 => ?_⟩
    obtain ⟨u, r, l⟩ := hl i x v e1 e2 e3
    refine ⟨u, r, ?_⟩
    rcases l with l | ⟨k, c, e, z⟩
    · exact .inl l
    · exact .inr ⟨k, c, e, cellK x c e _ z⟩
  · obtain ⟨v, z⟩ := I.cell x c e
    exact ⟨v, cellK x c e v z⟩
  · obtain ⟨m, ⟨o, _, _, ho, _⟩, _⟩ := I.loc
    exact free _ o (fun z => (hch _ z).2.1 rfl) ho I.free
  · obtain ⟨v, o, ho, hd⟩ := I.cell x c e
    exact free c o (fun z => (hch c z).2.2.1 x c e rfl) ho (I.freeC x c e)
  · obtain ⟨e, n, ne, nf, d⟩ := I.pin p hp
    have nch : p.1 ∉ ch := fun z => (hch p.1 z).2.2.2 p hp rfl
    exact ⟨keep p.1 p.2 ne nf nch e n, free p.1 p.2 nch e n, ne, nf, d⟩
theorem Inv.un {t' : Nat} (I : Inv X pins σ H s) (u : Un X.fs [] H H' s.heap h') (hok : HOk X.prog X.w H' h') : Inv X pins σ H' { s with heap := h', toks := t' } := by
  obtain ⟨m, ⟨o, es, ep, ho, r⟩, _⟩ := id I.loc
  obtain ⟨sl, hL⟩ := u.any ho I.free (by simp)
  exact I.step (g' := s.gens) (d' := s.drawn) (ch := []) (fun _ z => nomatch z) (fun b o _ hb _ e n => u.keep b o e n hb (by simp)) (fun b o _ hb _ e n => u.slot b o e n hb (by simp)) (fun b o _ e n => u.free b o e n (by simp)) (fun b o _ e => u.there b o e (by simp)) u.tups u.frzs u.tbls (fun m' hm => by
    obtain ⟨o', es', ep', ho', r'⟩ := hm
    rw [ho] at ho'; cases ho'
    exact ⟨_, es', ep', hL, r'⟩) hok I.bare
theorem Inv.call {g' : Array GenState} {t' : Nat} {d' : Drawn} {ch : List Addr} (I : Inv X pins σ H s) (u : Un (frs X.stack) ch H H' s.heap h') (hok : HOk X.prog X.w H' h') (hg : AllBare g')
    (hch : ∀ b ∈ ch, (b ∈ X.ex ∨ X.s₀.heap.objs.size ≤ b) ∧ b ≠ X.env.locals ∧ (∀ x c, X.env.cells.lookup x = some c → c ≠ b) ∧ ∀ p ∈ X.pn ++ pins, p.1 ≠ b) :
    Inv X pins σ H' { s with heap := h', gens := g', drawn := d', toks := t' } := by
  obtain ⟨m, ⟨o, es, ep, ho, r⟩, _⟩ := id I.loc
  obtain ⟨sl, hL⟩ := u.any ho I.free fun z => (hch _ z).2.1 rfl
  exact I.step (ch := ch) hch (fun b o hL hb hc e n => u.keep b o e n (fun z => (List.mem_cons.mp (I.stkSub b z)).elim hL hb) hc) (fun b o _ _ hc e n => u.any e n hc) (fun b o hc e n => u.free b o e n hc) (fun b o hc e => u.there b o e hc) u.tups u.frzs u.tbls (fun m' hm => by
    obtain ⟨o', es', ep', ho', r'⟩ := hm
    rw [ho] at ho'; cases ho'
    exact ⟨_, es', ep', hL, r'⟩) hok hg
theorem Inv.turned {t' : Nat} {it : Addr} (I : Inv X pins σ H s) (k : ∀ b o, b ≠ it → s.heap.get? b = some o → h'.get? b = some o) (hn : H it = none) (hL : it ≠ X.env.locals)
    (h1 : it ∈ X.ex ∨ X.s₀.heap.objs.size ≤ it) (h2 : ∀ x c, X.env.cells.lookup x = some c → c ≠ it) (h3 : ∀ p ∈ X.pn ++ pins, p.1 ≠ it) : Inv X pins σ H { s with heap := h', toks := t' } := by
  have nit : ∀ b u, H b = some u → b ≠ it := fun b u e z => by rw [z, hn] at e; cases e
  refine I.step (g' := s.gens) (d' := s.drawn) (ch := [it]) (fun b hb => ?_) (fun b o _ _ hc e _ => k b o (fun z => hc (by simp [z])) e) (fun b o _ _ hc e _ => ⟨o.slots, k b o (fun z => hc (by simp [z])) e⟩) (fun _ _ _ _ n => n)
    (fun b o hc e => ⟨o, k b o (fun z => hc (by simp [z])) e⟩) (fun _ _ e => e) (fun _ _ _ e => e) (fun _ _ _ e => e) (fun m hm => ?_) (fun b u e => ?_) I.bare
  · have e : b = it := by simpa using hb
    subst e
    exact ⟨h1, hL, h2, h3⟩
  · obtain ⟨o, es, ep, ho, r⟩ := hm
    exact ⟨o, es, ep, k _ o (Ne.symm hL) ho, r⟩
  · refine (I.hok b u e).stay (fun c v hc q => k c v ?_ q) (fun _ q => q) fun _ _ q => q
    rcases hc with z | z
    · rw [z]; exact nit b u e
    · exact nit c _ z
theorem Inv.tok (I : Inv X pins σ H s) (t : Nat) : Inv X pins σ H { s with toks := t } := I.un (h' := s.heap) (t' := t) Un.refl I.hok
theorem Inv.kept {t' : Nat} (I : Inv X pins σ H s) (k : ∀ b u, s.heap.get? b = some u → h'.get? b = some u) : Inv X pins σ H { s with heap := h', toks := t' } := I.un (Un.kept k) (I.hok.kept k)
theorem Inv.laid {a : Addr} {o : HO} {t' : Nat} (I : Inv X pins σ H s) (k : ∀ b u, s.heap.get? b = some u → h'.get? b = some u) (hp : s.heap.objs.size ≤ a) (new : ObjOk X.prog X.w (upd H a o) h' a o) :
    Inv X pins σ (upd H a o) { s with heap := h', toks := t' } := I.un (Un.laid k hp (I.hok.fresh hp)) (I.hok.laid k hp new)
theorem Inv.write {x e : Addr} {o : HO} {t' : Nat} (I : Inv X pins σ H s) (mu : Mut (H x)) (he : e = x ∨ H e = some (.own x)) (k : ∀ b u, b ≠ e → s.heap.get? b = some u → h'.get? b = some u) (heo : ∃ u, h'.get? e = some u)
    (new : ObjOk X.prog X.w (upd H x o) h' x o) : Inv X pins σ (upd H x o) { s with heap := h', toks := t' } := I.un (Un.write mu he k heo) (I.hok.write mu he k heo new)
theorem Inv.pins_of {pins' : List (Addr × Obj)} (I : Inv X pins σ H s) (h : ∀ p ∈ pins', s.heap.get? p.1 = some p.2 ∧ H p.1 = none ∧ p.1 ≠ X.env.locals ∧ p.1 ∉ X.fs ∧ ∀ v, p.2.data ≠ .cell v) : Inv X pins' σ H s :=
  ⟨I.ok, I.os, I.bare, I.base, I.loc, I.cell, I.free, I.freeC, fun p hp => (List.mem_append.mp hp).elim (fun z => I.pin p (List.mem_append_left _ z)) (h p), I.hok, I.len⟩
theorem nodup_ix {N : List Str} (hN : N.Nodup) {i j : Nat} {x : Str} (a : N[i]? = some x) (b : N[j]? = some x) : i = j := by
  obtain ⟨h1, e1⟩ := List.getElem?_eq_some_iff.mp a
  obtain ⟨h2, e2⟩ := List.getElem?_eq_some_iff.mp b
  exact (List.getElem_inj hN).mp (e1.trans e2.symm)
theorem store_ok2 {M : Model} {A : Around} {E : Value → Shared → Prop} {i : Nat} {x : Str} {v : V} {u : Value} {Q : Unit → Shared → Prop} (I : Inv X pins σ H s) (hN : X.N.Nodup) (hi : X.N[i]? = some x) (hx : Loc X.env.scope x) (r : RelV v u)
    (h : ∀ s', Inv X pins (σ.set i (some v)) H s' → (∃ a, Heap.SameBut a s.heap s'.heap ∧ (a = X.env.locals ∨ X.env.cells.lookup x = some a)) → Q () s') (hf : X.fn x = true ∨ X.env.scope.names.lookup x = some .local := by first | exact .inl rfl | exact .inr rfl | assumption) : wpAny M A (storeName X.env x u) Q E s := by
  obtain ⟨m, hn, hl⟩ := id I.loc
  have hcls : (X.env.scope.kind == .class || (X.env.scope.kind == .module && X.env.locals != X.env.globals)) = false := by rw [I.ok.kind]; rfl
  have hiσ : i < σ.length := by rw [I.len]; exact (List.getElem?_eq_some_iff.mp hi).1
  have cne := I.cne
  have tracked : ∀ {a : Addr} {h' : Heap}, (∃ o, s.heap.get? a = some o ∧ H a = none) → Heap.SameBut a s.heap h' → HOk X.prog X.w H h' := fun {a h'} ha hs b ob e => by
    obtain ⟨_, _, hfree⟩ := ha
    refine (I.hok b ob e).stay (fun c w' hc q => (hs.2 c ?_).trans q) (fun _ q => q) fun _ _ q => q
    rintro rfl
    rcases hc with rfl | hc
    · rw [hfree] at e; cases e
    · rw [hfree] at hc; cases hc
  rcases hx with hk | hk
  · refine wpAny_storeName_local hk hn (fun h' hn' hs => ?_) hcls
    obtain ⟨oL, _, _, hoL, _⟩ := id hn
    refine h _ ⟨I.ok, I.os, I.bare, ⟨fun b o e n hb hx => ?_, fun b o e n hb hx => ?_, I.base.free, fun b o e hx => ?_, I.base.tups, I.base.frzs, I.base.tbls⟩, ⟨_, hn', fun j y v' e1 e2 e3 => ?_⟩, fun y c e => ?_, I.free, I.freeC, fun p hp => ?_, tracked ⟨oL, hoL, I.free⟩ hs, by simpa using I.len⟩ ⟨_, hs, .inl rfl⟩
    · exact (hs.2 b (Nat.ne_of_lt (Nat.lt_of_lt_of_le (Heap.lt_size e) I.ok.above))).trans (I.base.keep b o e n hb hx)
    · obtain ⟨sl, e1⟩ := I.base.slot b o e n hb hx
      exact ⟨sl, (hs.2 b (Nat.ne_of_lt (Nat.lt_of_lt_of_le (Heap.lt_size e) I.ok.above))).trans e1⟩
    · obtain ⟨o', e1⟩ := I.base.there b o e hx
      exact ⟨o', (hs.2 b (Nat.ne_of_lt (Nat.lt_of_lt_of_le (Heap.lt_size e) I.ok.above))).trans e1⟩
    · by_cases hj : j = i
      · subst hj
        rw [hi] at e1; cases e1
        rw [List.getElem?_set_self hiσ] at e2
        cases e2
        exact ⟨u, r, .inl ⟨hk, by simp⟩⟩
      · rw [List.getElem?_set_ne (Ne.symm hj)] at e2
        obtain ⟨u', r', q⟩ := hl j y v' e1 e2 e3
        refine ⟨u', r', ?_⟩
        rcases q with ⟨k, e⟩ | ⟨k, c, e, z⟩
        · refine .inl ⟨k, ?_⟩
          have : y ≠ x := fun e => hj (nodup_ix hN e1 (e ▸ hi))
          simp [this, e]
        · exact .inr ⟨k, c, e, z.sameBut hs (cne y c e)⟩
    · obtain ⟨w', z⟩ := I.cell y c e
      exact ⟨w', z.sameBut hs (cne y c e)⟩
    · obtain ⟨e, n, ne, nf, d⟩ := I.pin p hp
      exact ⟨(hs.2 p.1 ne).trans e, n, ne, nf, d⟩
  · have hfn : X.fn x = true := by
      rcases hf with z | z
      · exact z
      · rw [z] at hk; cases hk
    obtain ⟨c, hc⟩ := I.ok.has x (.inl hk)
    obtain ⟨w', z⟩ := I.cell x c hc
    refine wpAny_storeName_cell I.ok.kind hk hc z (fun h' hc' hs => ?_)
    obtain ⟨oc, hoc, hocd⟩ := id z
    refine h { s with heap := h' } ⟨I.ok, I.os, I.bare, ⟨fun b o e n hb hx => ?_, fun b o e n hb hx => ?_, I.base.free, fun b o e hx => ?_, I.base.tups, I.base.frzs, I.base.tbls⟩, ⟨m, hn.sameBut hs (Ne.symm (cne x c hc)), fun j y v' e1 e2 e3 => ?_⟩, fun y c' e => ?_, I.free, I.freeC, fun p hp => ?_, tracked ⟨oc, hoc, I.freeC x c hc⟩ hs, by simpa using I.len⟩ ⟨c, hs, .inr hc⟩
    · exact (hs.2 b (Nat.ne_of_lt (Nat.lt_of_lt_of_le (Heap.lt_size e) (I.ok.cab x c hfn hc)))).trans (I.base.keep b o e n hb hx)
    · obtain ⟨sl, e1⟩ := I.base.slot b o e n hb hx
      exact ⟨sl, (hs.2 b (Nat.ne_of_lt (Nat.lt_of_lt_of_le (Heap.lt_size e) (I.ok.cab x c hfn hc)))).trans e1⟩
    · obtain ⟨o', e1⟩ := I.base.there b o e hx
      exact ⟨o', (hs.2 b (Nat.ne_of_lt (Nat.lt_of_lt_of_le (Heap.lt_size e) (I.ok.cab x c hfn hc)))).trans e1⟩
    · by_cases hj : j = i
      · subst hj
        rw [hi] at e1; cases e1
        rw [List.getElem?_set_self hiσ] at e2
        cases e2
        exact ⟨u, r, .inr ⟨.inl hk, c, hc, hc'⟩⟩
      · rw [List.getElem?_set_ne (Ne.symm hj)] at e2
        obtain ⟨u', r', q⟩ := hl j y v' e1 e2 e3
        refine ⟨u', r', ?_⟩
        rcases q with q | ⟨k, c', e, z'⟩
        · exact .inl q
        · refine .inr ⟨k, c', e, z'.sameBut hs ?_⟩
          rintro rfl
          exact hj (nodup_ix hN e1 (I.ok.inj _ _ _ e hc ▸ hi))
    · by_cases hcc : c' = c
      · subst hcc; exact ⟨_, hc'⟩
      · obtain ⟨w2, z2⟩ := I.cell y c' e
        exact ⟨w2, z2.sameBut hs hcc⟩
    · obtain ⟨e, n, ne, nf, d⟩ := I.pin p hp
      refine ⟨(hs.2 p.1 ?_).trans e, n, ne, nf, d⟩
      intro q
      rw [q, hoc] at e
      have q' : oc = p.2 := Option.some.inj e
      exact d w' (by rw [← q']; exact hocd)
theorem store_ok {M : Model} {A : Around} {E : Value → Shared → Prop} {i : Nat} {x : Str} {v : V} {u : Value} {Q : Unit → Shared → Prop} (I : Inv X pins σ H s) (hN : X.N.Nodup) (hi : X.N[i]? = some x) (hx : Loc X.env.scope x) (r : RelV v u)
    (h : ∀ s', Inv X pins (σ.set i (some v)) H s' → Q () s') (hf : X.fn x = true ∨ X.env.scope.names.lookup x = some .local := by first | exact .inl rfl | exact .inr rfl | assumption) : wpAny M A (storeName X.env x u) Q E s :=
  store_ok2 I hN hi hx r (fun s' I' _ => h s' I') hf
theorem Inv.call' {s' : Shared} {ch : List Addr} (I : Inv X pins σ H s) (ho : s'.os = s.os) (u : Un (frs X.stack) ch H H' s.heap s'.heap) (hok : HOk X.prog X.w H' s'.heap) (hg : AllBare s'.gens)
    (hch : ∀ b ∈ ch, (b ∈ X.ex ∨ X.s₀.heap.objs.size ≤ b) ∧ b ≠ X.env.locals ∧ (∀ x c, X.env.cells.lookup x = some c → c ≠ b) ∧ ∀ p ∈ X.pn ++ pins, p.1 ≠ b) : Inv X pins σ H' s' := by
  obtain ⟨h', g', d', t', o'⟩ := s'
  have e : o' = s.os := ho
  subst e
  exact I.call (g' := g') (t' := t') (d' := d') u hok hg hch
end
abbrev XK := Value → Option Addr → Hp → Prop
abbrev St := List (Option V)
abbrev VK := V → Hp → Prop
abbrev TE := St → Hp → VK → Prop
abbrev TT := St → Hp → (Bool → Hp → Prop) → Prop
abbrev TA := St → Hp → (List V → Hp → Prop) → Prop
structure Ends where
  nx : St → Hp → Prop
  rt : VK
  bk : St → Hp → Prop := fun _ _ => False
  ct : St → Hp → Prop := fun _ _ => False
abbrev TS := Ends → St → Hp → Prop
def EP (X : Cx) (pins : List (Addr × Obj)) (σ : St) (Q : VK) (u : Value) (s' : Shared) : Prop := ∃ v H', Inv X pins σ H' s' ∧ RelV v u ∧ Q v H'
def TP (X : Cx) (pins : List (Addr × Obj)) (σ : St) (Q : Bool → Hp → Prop) (b : Bool) (s' : Shared) : Prop := ∃ H', Inv X pins σ H' s' ∧ Q b H'
def AP (X : Cx) (pins : List (Addr × Obj)) (σ : St) (Q : List V → Hp → Prop) (us : List Value) (s' : Shared) : Prop := ∃ vs H', Inv X pins σ H' s' ∧ Vals vs us ∧ Q vs H'
def SP (X : Cx) (pins : List (Addr × Obj)) (D : Ends) (f : Flow) (s' : Shared) : Prop :=
  match f with
  | .next => ∃ σ' H', Inv X pins σ' H' s' ∧ D.nx σ' H'
  | .brk => ∃ σ' H', Inv X pins σ' H' s' ∧ D.bk σ' H'
  | .cont => ∃ σ' H', Inv X pins σ' H' s' ∧ D.ct σ' H'
  | .ret u => ∃ v σ' H', Inv X pins σ' H' s' ∧ RelV v u ∧ D.rt v H'
def PE (X : Cx) (e : Expr) (t : TE) : Prop :=
  ∀ (pins : List (Addr × Obj)) (s : Shared) (σ : St) (H : Hp) (Q : VK), Inv X pins σ H s → t σ H Q → wpAny (model X.prog X.w) X.A (eval e X.env) (EP X pins σ Q) X.xe s
def PT (X : Cx) (e : Expr) (t : TT) : Prop :=
  ∀ (pins : List (Addr × Obj)) (s : Shared) (σ : St) (H : Hp) (Q : Bool → Hp → Prop), Inv X pins σ H s → t σ H Q → wpAny (model X.prog X.w) X.A (isTrue e X.env (eval e X.env)) (TP X pins σ Q) X.xe s
def PW (X : Cx) (e : Expr) (t : TT) : Prop :=
  ∀ (whole : Sem Value) (pins : List (Addr × Obj)) (s : Shared) (σ : St) (H : Hp) (Q : Bool → Hp → Prop), Inv X pins σ H s → t σ H Q → wpAny (model X.prog X.w) X.A (isTrue e X.env whole) (TP X pins σ Q) X.xe s
theorem PW.pt {X : Cx} {e : Expr} {t : TT} (h : PW X e t) : PT X e t := h _
def PA (X : Cx) (es : List Expr) (t : TA) : Prop :=
  ∀ (pos : Pos) (pins : List (Addr × Obj)) (s : Shared) (σ : St) (H : Hp) (Q : List V → Hp → Prop), Inv X pins σ H s → t σ H Q → wpAny (model X.prog X.w) X.A (spliced (backTo pos (starEach es X.env))) (AP X pins σ Q) X.xe s
def PS (X : Cx) (st : Stmt) (t : TS) : Prop :=
  ∀ (pins : List (Addr × Obj)) (s : Shared) (σ : St) (H : Hp) (D : Ends), Inv X pins σ H s → t D σ H → wpAny (model X.prog X.w) X.A (exec st X.env) (SP X pins D) X.xe s
def PSs (X : Cx) (st : List Stmt) (t : TS) : Prop :=
  ∀ (pins : List (Addr × Obj)) (s : Shared) (σ : St) (H : Hp) (D : Ends), Inv X pins σ H s → t D σ H → wpAny (model X.prog X.w) X.A (execs st X.env) (SP X pins D) X.xe s
theorem thn {α : Type} {t : Sem α} {Q Q' : α → Shared → Prop} {M : Model} {A : Around} {E : Value → Shared → Prop} {s : Shared} (h : wpAny M A t Q E s) (hQ : ∀ a s, Q a s → Q' a s) : wpAny M A t Q' E s := wpAny_mono h hQ fun _ _ x => x
end L2
namespace L2
open PySem PySem.Spec PyProof.Rows
section
variable {X : Cx}
def tVar (i : Nat) : TE := fun σ H Q => ∃ v, σ[i]? = some (some v) ∧ Q v H
def tC (v : V) : TE := fun _ H Q => Q v H
theorem pe_var {i : Nat} {x : Str} {pos : Pos} (hN : X.N[i]? = some x) (hv : Vis X.env.scope x) (hd : (x == ("__debug__" : Str)) = false := by decide) (hcd : (x == ("__classdict__" : Str)) = false := by decide) : PE X (.Name x pos) (tVar i) := by
  intro pins s σ H Q I h
  obtain ⟨v, e, h⟩ := h
  obtain ⟨m, hn, hl⟩ := I.loc
  obtain ⟨u, r, l⟩ := hl i x v hN e hv
  have fin : EP X pins σ Q u s := ⟨v, H, I, r, h⟩
  rcases l with ⟨hk, hm⟩ | ⟨hk, c, hc, hcell⟩
  · exact wpAny_Name (wpAny_loadName_local I.ok.kind hk hn hm fin) hd
  · rcases hk with hk | hk
    · exact wpAny_Name (wpAny_loadName_cell I.ok.kind hk hc hcell fin) hd
    · exact wpAny_Name (wpAny_loadName_free I.ok.kind hk hc hcell fin hcd) hd
theorem pe_int {i j pos} : PE X (.Constant (.int i) j pos) (tC (.int i)) := fun _ _ _ H _ I h => wpAny_Constant_int ⟨.int i, H, I.tok _, ⟨_, rfl⟩, h⟩
theorem pe_bl {b j pos} : PE X (.Constant (.bool b) j pos) (tC (.bl b)) := fun _ _ _ H _ I h => Constant_bool ⟨.bl b, H, I, rfl, h⟩
theorem pe_non {j pos} : PE X (.Constant .none j pos) (tC .non) := fun _ _ _ H _ I h => Constant_none ⟨.non, H, I, rfl, h⟩
theorem pe_str {x j pos} : PE X (.Constant (.str x) j pos) (tC (.str x)) := fun _ _ _ H _ I h => Calls.Constant_str ⟨.str x, H, I.tok _, ⟨_, rfl⟩, h⟩
def Gl (X : Cx) (x : Str) : Prop := X.env.kindOf x = some .globalImplicit
theorem ld_glob {E : Value → Shared → Prop} {pins : List (Addr × Obj)} {s : Shared} {σ : St} {H : Hp} {x : Str} {u : Value} {pos : Pos} {Q : Value → Shared → Prop} (I : Inv X pins σ H s) (hg : Gl X x) (hm : X.mg x = some u) (h : Q u s)
    (hd : (x == ("__debug__" : Str)) = false := by decide) : wpAny (model X.prog X.w) X.A (eval (.Name x pos) X.env) Q E s :=
  Calls.Name_function_global I.ok.kind hg (Calls.loadGlobal_global (by rw [I.ok.glob]; exact I.mod.glob.keeps I.bk) hm h) hd
theorem ld_blt {E : Value → Shared → Prop} {pins : List (Addr × Obj)} {s : Shared} {σ : St} {H : Hp} {x : Str} {u : Value} {pos : Pos} {Q : Value → Shared → Prop} (I : Inv X pins σ H s) (hg : Gl X x) (hm : X.mg x = none) (hv : bootBuiltins x = some u) (h : Q u s)
    (hn : x ≠ "__name__" := by decide) (hd : (x == ("__debug__" : Str)) = false := by decide) : wpAny (model X.prog X.w) X.A (eval (.Name x pos) X.env) Q E s := by
  obtain ⟨mb, h1, h2⟩ := I.mod.blt
  exact Calls.Name_function_global I.ok.kind hg (Calls.loadGlobal_builtin (by rw [I.ok.glob]; exact I.mod.glob.keeps I.bk) hm (by rw [I.ok.blt]; exact h1.keeps I.bk) ((h2 x hn).trans hv) h) hd
theorem pe_glob {x : Str} {v : V} {u : Value} {pos : Pos} (hg : Gl X x) (hm : X.mg x = some u) (r : RelV v u) (hd : (x == ("__debug__" : Str)) = false := by decide) : PE X (.Name x pos) (tC v) :=
  fun _ _ _ H _ I h => ld_glob I hg hm ⟨v, H, I, r, h⟩ hd
variable {a b : Expr} {ta tb : TE} {pos : Pos}
def PC (X : Cx) (op : CmpOp) (a b : Expr) (t : TE) : Prop :=
  ∀ (pins : List (Addr × Obj)) (s : Shared) (σ : St) (H : Hp) (Q : VK), Inv X pins σ H s → t σ H Q →
    wpAny (model X.prog X.w) X.A (eval a X.env) (fun v s₁ => wpAny (model X.prog X.w) X.A (eval b X.env) (fun u s₂ => wpAny (model X.prog X.w) X.A (compareOp op v u) (EP X pins σ Q) X.xe s₂) X.xe s₁) X.xe s
theorem nobehind (b : Expr) {op : CmpOp} (h : op ≠ .In) (h2 : op ≠ .NotIn) : behindInMarks op b = false := by
  have e1 : (op == CmpOp.In) = false := by cases op <;> first | rfl | exact absurd rfl h
  have e2 : (op == CmpOp.NotIn) = false := by cases op <;> first | rfl | exact absurd rfl h2
  cases b <;> simp [behindInMarks, e1, e2]
def tIsN (ta : TE) : TE := fun σ H Q => ta σ H fun x H1 => Q (.bl (decide (x = .non))) H1
def tNotN (ta : TE) : TE := fun σ H Q => ta σ H fun x H1 => Q (.bl (!decide (x = .non))) H1
theorem RelV.none_iff {x : V} {v : Value} (r : RelV x v) : (v == Value.none) = decide (x = .non) := by
  cases x with
  | non => cases r; rfl
  | bl _ => cases r; rfl
  | int _ => obtain ⟨t, rfl⟩ := r; rfl
  | str _ => obtain ⟨t, rfl⟩ := r; rfl
  | byt _ => obtain ⟨t, rfl⟩ := r; rfl
  | flt _ => obtain ⟨t, rfl⟩ := r; rfl
  | ref _ => cases r; rfl
  | ty _ => cases r; rfl
theorem pc_isN {j pos'} (ha : PE X a ta) : PC X .Is a (.Constant .none j pos') (tIsN ta) := by
  intro pins s σ H Q I h
  refine thn (ha pins s σ H _ I h) fun v s1 ⟨x, H1, I1, r1, q1⟩ => ?_
  exact Constant_none (is_none_gen ⟨.bl _, H1, I1, by rw [r1.none_iff]; rfl, q1⟩)
theorem pc_notN {j pos'} (ha : PE X a ta) : PC X .IsNot a (.Constant .none j pos') (tNotN ta) := by
  intro pins s σ H Q I h
  refine thn (ha pins s σ H _ I h) fun v s1 ⟨x, H1, I1, r1, q1⟩ => ?_
  exact Constant_none (isnot_none_gen ⟨.bl _, H1, I1, by rw [r1.none_iff]; rfl, q1⟩)
def tB (t : TE) : TT := fun σ H Q => t σ H fun x H1 => ∃ c, x = .bl c ∧ Q c H1
theorem pe_cmp {op : CmpOp} {t : TE} (h : PC X op a b t) (h1 : behindInMarks op b = false := by first | exact nobehind _ (by decide) (by decide) | rfl) : PE X (.Compare a [op] [b] pos) t := fun pins s σ H Q I hw => wpAny_Compare1 (h pins s σ H Q I hw) h1
theorem pt_cmp {op : CmpOp} {t : TE} (h : PC X op a b t) (h1 : behindInMarks op b = false := by first | exact nobehind _ (by decide) (by decide) | rfl) : PT X (.Compare a [op] [b] pos) (tB t) := by
  intro pins s σ H Q I hw
  refine wpAny_isTrue_Compare1 (thn (h pins s σ H _ I hw) fun v s1 h1 => thn h1 fun u s2 h2 => thn h2 fun c s3 ⟨x, H1, I1, r1, q1⟩ => ?_) h1
  obtain ⟨d, rfl, q⟩ := q1
  cases r1
  exact wpAny_truthy_bool ⟨H1, I1, q⟩
theorem pt_val {e : Expr} {t : TE} (h : PE X e t) (he : ∀ whole, isTrue e X.env whole = (do let v ← whole; standAt e.pos; holding [v] (truthy v)) := by intro _; rfl) : PT X e (tB t) := by
  intro pins s σ H Q I hw
  refine isTrue_plain (thn (h pins s σ H _ I hw) fun v s1 ⟨x, H1, I1, r1, q1⟩ => ?_) (he _)
  obtain ⟨d, rfl, q⟩ := q1
  cases r1
  exact wpAny_truthy_bool ⟨H1, I1, q⟩
variable {tA tB' : TT} {rest : List Expr}
def tAnd (t u : TT) : TT := fun σ H Q => t σ H fun c H1 => if c = true then u σ H1 Q else Q false H1
def tOr (t u : TT) : TT := fun σ H Q => t σ H fun c H1 => if c = true then Q true H1 else u σ H1 Q
def tNot (t : TT) : TT := fun σ H Q => t σ H fun c H1 => Q (!c) H1
theorem pw_and1 (ha : PT X a tA) : PW X (.BoolOp .And [a] pos) tA := by
  intro wh pins s σ H Q I h
  refine isTrue_and (thn (ha pins s σ H Q I h) fun c s1 e => ?_)
  cases c with
  | true => exact isTrue_and_nil e
  | false => exact e
theorem pw_or1 (ha : PT X a tA) : PW X (.BoolOp .Or [a] pos) tA := by
  intro wh pins s σ H Q I h
  refine isTrue_or (thn (ha pins s σ H Q I h) fun c s1 e => ?_)
  cases c with
  | false => exact isTrue_or_nil e
  | true => exact e
theorem pw_and (ha : PT X a tA) (hb : PW X (.BoolOp .And (b :: rest) pos) tB') : PW X (.BoolOp .And (a :: b :: rest) pos) (tAnd tA tB') := by
  intro wh pins s σ H Q I h
  refine isTrue_and (thn (ha pins s σ H _ I h) fun c s1 ⟨H1, I1, q1⟩ => ?_)
  cases c with
  | true => exact hb wh pins s1 σ H1 Q I1 q1
  | false => exact ⟨H1, I1, q1⟩
theorem pw_or (ha : PT X a tA) (hb : PW X (.BoolOp .Or (b :: rest) pos) tB') : PW X (.BoolOp .Or (a :: b :: rest) pos) (tOr tA tB') := by
  intro wh pins s σ H Q I h
  refine isTrue_or (thn (ha pins s σ H _ I h) fun c s1 ⟨H1, I1, q1⟩ => ?_)
  cases c with
  | true => exact ⟨H1, I1, q1⟩
  | false => exact hb wh pins s1 σ H1 Q I1 q1
theorem pt_not (ha : PT X a tA) : PT X (.UnaryOp .Not a pos) (tNot tA) := by
  intro pins s σ H Q I h
  exact isTrue_not (ha pins s σ H (fun c H1 => Q (!c) H1) I h)
def tOrV (ta tb : TE) : TE := fun σ H Q => ta σ H fun x H1 => ∃ c, x = .bl c ∧ if c = true then Q (.bl true) H1 else tb σ H1 Q
theorem pe_one {op} {t : TE} (h : PE X a t) : PE X (.BoolOp op [a] pos) t := fun pins s σ H Q I hw => BoolOp_one (h pins s σ H Q I hw)
theorem pe_or (ha : PE X a ta) (hb : PE X (.BoolOp .Or (b :: rest) pos) tb) : PE X (.BoolOp .Or (a :: b :: rest) pos) (tOrV ta tb) := by
  intro pins s σ H Q I h
  refine BoolOp_or (thn (ha pins s σ H _ I h) fun v s1 ⟨x, H1, I1, r1, q1⟩ => ?_)
  obtain ⟨c, rfl, q1⟩ := q1
  cases r1
  refine wpAny_truthy_bool ?_
  cases c with
  | false => exact hb pins s1 σ H1 Q I1 q1
  | true => exact ⟨.bl true, H1, I1, rfl, q1⟩
def tIf (t : TT) (ta tb : TE) : TE := fun σ H Q => t σ H fun c H1 => if c = true then ta σ H1 Q else tb σ H1 Q
theorem pe_ifExp {c : Expr} (hc : PT X c tA) (ha : PE X a ta) (hb : PE X b tb) : PE X (.IfExp c a b pos) (tIf tA ta tb) := by
  intro pins s σ H Q I h
  refine wpAny_IfExp (thn (hc pins s σ H _ I h) fun d s1 ⟨H1, I1, q1⟩ => ?_)
  cases d with
  | true => exact ha pins s1 σ H1 Q I1 q1
  | false => exact hb pins s1 σ H1 Q I1 q1
end
end L2
namespace L2
open PySem PySem.Spec PyProof.Rows
def SqL (K : PySem.W.Frag) (H : Hp) (a : Addr) (xs : List V) : Prop :=
  Rd H a (.lst xs) ∨
    ∃ (o : Obj) (its : Array Value) (n : Nat), K.lookup a = some o ∧ o.cls = .type "list" ∧ o.dict = none ∧ o.data = .seq its n ∧ its.size ≤ sizeLine ∧ Vals xs its.toList
def SqT (K : PySem.W.Frag) (H : Hp) (a : Addr) (xs : List V) : Prop :=
  Rd H a (.tup xs) ∨
    ∃ (o : Obj) (its : Array Value) (n : Nat), K.lookup a = some o ∧ o.cls = .type "tuple" ∧ o.data = .seq its n ∧ its.size ≤ sizeLine ∧ Vals xs its.toList
def absV : Value → Option V
  | .none => some .non
  | .bool b => some (.bl b)
  | .int i _ => some (.int i)
  | .str x _ => some (.str x)
  | .bytes b _ => some (.byt b)
  | .float b _ => some (.flt b)
  | .ref a => some (.ref a)
  | .type n => some (.ty n)
  | _ => none
theorem RelV.abs {x : V} {u : Value} (r : RelV x u) : absV u = some x := by
  cases x with
  | non => cases r; rfl
  | bl _ => cases r; rfl
  | int _ => obtain ⟨t, rfl⟩ := r; rfl
  | str _ => obtain ⟨t, rfl⟩ := r; rfl
  | byt _ => obtain ⟨t, rfl⟩ := r; rfl
  | flt _ => obtain ⟨t, rfl⟩ := r; rfl
  | ref _ => cases r; rfl
  | ty _ => cases r; rfl
theorem RelV.inj {x y : V} {u : Value} (r : RelV x u) (q : RelV y u) : x = y := Option.some.inj (r.abs.symm.trans q.abs)
theorem Vals.inj : ∀ {xs ys : List V} {us : List Value}, Vals xs us → Vals ys us → xs = ys
  | _, _, _, .nil, .nil => rfl
  | _, _, _, .cons r t, .cons r' t' => by rw [r.inj r', Vals.inj t t']
section
variable {X : Cx} {pins : List (Addr × Obj)} {σ : St} {H : Hp} {s : Shared} {a : Addr} {xs ys : List V}
theorem SqL.of {K : PySem.W.Frag} (h : H a = some (.lst xs)) : SqL K H a xs := .inl (.inl h)
theorem SqT.of {K : PySem.W.Frag} (h : H a = some (.tup xs)) : SqT K H a xs := .inl (.inl h)
theorem Inv.list (I : Inv X pins σ H s) (h : SqL X.K H a xs) : ∃ its : List Value, Vals xs its ∧ PlainL s.heap a its.toArray ∧ xs.length ≤ sizeLine := by
  rcases h with h | ⟨o, its, n, hk, hc, hd, hs, hz, r⟩
  · obtain ⟨z, its, n, r, e⟩ := h.ok I.hok
    exact ⟨its, r, ⟨_, n, e, rfl, rfl, rfl⟩, z⟩
  · refine ⟨its.toList, r, ⟨o, n, I.kIn a o hk, hc, hd, by simpa using hs⟩, ?_⟩
    have e := r.length
    simp only [Array.length_toList] at e
    omega
theorem Inv.tuple (I : Inv X pins σ H s) (h : SqT X.K H a xs) : ∃ its : List Value, Vals xs its ∧ IsTup s.heap a its.toArray ∧ xs.length ≤ sizeLine := by
  rcases h with h | ⟨o, its, n, hk, hc, hs, hz, r⟩
  · obtain ⟨z, its, r, p⟩ := h.ok I.hok
    exact ⟨its, r, p, z⟩
  · refine ⟨its.toList, r, ⟨o, I.kIn a o hk, hc, n, by simpa using hs⟩, ?_⟩
    have e := r.length
    simp only [Array.length_toList] at e
    omega
theorem Inv.list_inj (I : Inv X pins σ H s) (h : SqL X.K H a xs) (h' : SqL X.K H a ys) : xs = ys := by
  obtain ⟨its, r, ⟨o, n, e, _, _, d⟩, _⟩ := I.list h
  obtain ⟨its', r', ⟨o', n', e', _, _, d'⟩, _⟩ := I.list h'
  rw [e] at e'; cases e'
  rw [d] at d'
  injection d' with d1 _
  have : its = its' := by simpa using congrArg Array.toList d1
  subst this
  exact r.inj r'
theorem Inv.tuple_inj (I : Inv X pins σ H s) (h : SqT X.K H a xs) (h' : SqT X.K H a ys) : xs = ys := by
  obtain ⟨its, r, ⟨o, e, _, n, d⟩, _⟩ := I.tuple h
  obtain ⟨its', r', ⟨o', e', _, n', d'⟩, _⟩ := I.tuple h'
  rw [e] at e'; cases e'
  rw [d] at d'
  injection d' with d1 _
  have : its = its' := by simpa using congrArg Array.toList d1
  subst this
  exact r.inj r'
end
abbrev Cx.wish (X : Cx) (E : Value → Shared → Prop) : Cx := { X with xe := E }
abbrev Cx.nox (X : Cx) : Cx := X.wish fun _ _ => False
theorem Cx.Ok.wish {X : Cx} (ok : X.Ok) (E : Value → Shared → Prop) : (X.wish E).Ok :=
  ⟨ok.mod, ok.kind, ok.glob, ok.blt, ok.above, ok.inj, ok.has, ok.cab, ok.hd, ok.frames, ok.stk, ok.exf, ok.bs, ok.bsz, ok.noex, ok.exfs, ok.funs, ok.frf⟩
theorem Cx.Ok.unwish {X : Cx} {E : Value → Shared → Prop} (ok : (X.wish E).Ok) : X.Ok :=
  ⟨ok.mod, ok.kind, ok.glob, ok.blt, ok.above, ok.inj, ok.has, ok.cab, ok.hd, ok.frames, ok.stk, ok.exf, ok.bs, ok.bsz, ok.noex, ok.exfs, ok.funs, ok.frf⟩
section
variable {X : Cx} {pins : List (Addr × Obj)} {σ : St} {H : Hp} {s : Shared} {E : Value → Shared → Prop}
theorem Inv.wish (I : Inv X pins σ H s) (E : Value → Shared → Prop) : Inv (X.wish E) pins σ H s := ⟨I.ok.wish E, I.os, I.bare, I.base, I.loc, I.cell, I.free, I.freeC, I.pin, I.hok, I.len⟩
theorem Inv.unwish (I : Inv (X.wish E) pins σ H s) : Inv X pins σ H s := ⟨I.ok.unwish, I.os, I.bare, I.base, I.loc, I.cell, I.free, I.freeC, I.pin, I.hok, I.len⟩
theorem SP.unwish {D : Ends} {f : Flow} {s' : Shared} (h : SP (X.wish E) pins D f s') : SP X pins D f s' := by
  cases f with
  | next => obtain ⟨σ', H', I, q⟩ := h; exact ⟨σ', H', I.unwish, q⟩
  | brk => obtain ⟨σ', H', I, q⟩ := h; exact ⟨σ', H', I.unwish, q⟩
  | cont => obtain ⟨σ', H', I, q⟩ := h; exact ⟨σ', H', I.unwish, q⟩
  | ret u => obtain ⟨v, σ', H', I, r, q⟩ := h; exact ⟨v, σ', H', I.unwish, r, q⟩
theorem PSs.nox {st : List Stmt} {t : TS} (h : PSs X.nox st t) : PSs X st t := fun pins s σ H D I hw =>
  wpAny_mono (h pins s σ H D (I.wish _) hw) (fun _ _ q => q.unwish) fun _ _ z => False.elim z
end
section
variable {X : Cx} {st : Stmt} {rest : List Stmt} {t u : TS} {e : Expr} {te : TE} {pos : Pos}
def tNext : TS := fun D σ H => D.nx σ H
def tSeq (t u : TS) : TS := fun D σ H => t { D with nx := u D } σ H
theorem pss_nil : PSs X [] tNext := fun _ _ σ H _ I h => wpAny_execs_nil ⟨σ, H, I, h⟩
theorem pss_cons (h1 : PS X st t) (h2 : PSs X rest u) : PSs X (st :: rest) (tSeq t u) := by
  intro pins s σ H D I h
  refine wpAny_execs_cons (thn (h1 pins s σ H { D with nx := u D } I h) fun f s1 q => ?_)
  cases f with
  | next =>
    obtain ⟨σ', H', I', q⟩ := q
    exact h2 pins s1 σ' H' D I' q
  | ret v => exact q
  | brk => exact q
  | cont => exact q
theorem pss_one (h1 : PS X st t) : PSs X [st] t := by
  intro pins s σ H D I h
  refine wpAny_execs_cons (thn (h1 pins s σ H D I h) fun f s1 q => ?_)
  cases f with
  | next => exact wpAny_execs_nil q
  | ret v => exact q
  | brk => exact q
  | cont => exact q
theorem Inv.quiet {pins : List (Addr × Obj)} {σ : St} {H : Hp} {s : Shared} (I : Inv X pins σ H s) : interactive X.env = false := by simp [interactive, I.ok.kind]
def tDrop (te : TE) : TS := fun D σ H => te σ H fun _ H1 => D.nx σ H1
theorem ps_expr (he : PE X e te) (hs : swapsWith e none pos.line X.env = pure false := by rfl) : PS X (.Expr e pos) (tDrop te) := by
  intro pins s σ H D I h
  exact wpAny_Expr_any (thn (he pins s σ H _ I h) fun v s1 ⟨x, H1, I1, r1, q1⟩ => ⟨σ, H1, I1, q1⟩) I.quiet hs
def tRet (te : TE) : TS := fun D σ H => te σ H D.rt
theorem ps_ret (he : PE X e te) : PS X (.Return (some e) pos) (tRet te) := by
  intro pins s σ H D I h
  exact wpAny_Return_some (thn (he pins s σ H _ I h) fun v s1 ⟨x, H1, I1, r1, q1⟩ => ⟨x, σ, H1, I1, r1, q1⟩)
def tRetN : TS := fun D _ H => D.rt .non H
theorem ps_retN : PS X (.Return none pos) tRetN := fun _ _ σ H _ I h => wpAny_Return_none ⟨.non, σ, H, I, rfl, h⟩
def tIfS (c : TT) (t u : TS) : TS := fun D σ H => c σ H fun b H1 => if b = true then t D σ H1 else u D σ H1
theorem ps_if {c : Expr} {a b : List Stmt} {tc : TT} (hc : PT X c tc) (ha : PSs X a t) (hb : PSs X b u) : PS X (.If c a b pos) (tIfS tc t u) := by
  intro pins s σ H D I h
  refine wpAny_If (thn (hc pins s σ H _ I h) fun d s1 ⟨H1, I1, q1⟩ => ?_)
  cases d with
  | true => exact ha pins s1 σ H1 D I1 q1
  | false => exact hb pins s1 σ H1 D I1 q1
end
abbrev TG := V → St → Hp → (St → Hp → Prop) → Prop
abbrev TGs := List V → St → Hp → (St → Hp → Prop) → Prop
def PG (X : Cx) (target : Expr) (t : TG) : Prop :=
  ∀ (pins : List (Addr × Obj)) (s : Shared) (σ : St) (H : Hp) (v : V) (u : Value) (Q : St → Hp → Prop), Inv X pins σ H s → RelV v u → t v σ H Q →
    wpAny (model X.prog X.w) X.A (assign target X.env u) (fun _ s' => ∃ σ' H', Inv X pins σ' H' s' ∧ Q σ' H') X.xe s
def PGs (X : Cx) (ts : List Expr) (t : TGs) : Prop :=
  ∀ (pins : List (Addr × Obj)) (s : Shared) (σ : St) (H : Hp) (vs : List V) (us : List Value) (Q : St → Hp → Prop), Inv X pins σ H s → Vals vs us → t vs σ H Q →
    wpAny (model X.prog X.w) X.A (assignInOrder ((assignEach ts X.env).map (·.2)) us) (fun _ s' => ∃ σ' H', Inv X pins σ' H' s' ∧ Q σ' H') X.xe s
abbrev TSet := V → V → V → Hp → (Hp → Prop) → Prop
def PSet (X : Cx) (t : TSet) : Prop :=
  ∀ (pins : List (Addr × Obj)) (s : Shared) (σ : St) (H : Hp) (o i v : V) (ov iv u : Value) (Q : Hp → Prop), Inv X pins σ H s → RelV o ov → RelV i iv → RelV v u → t o i v H Q →
    wpAny (model X.prog X.w) X.A (setItem ov iv u) (fun _ s' => ∃ H', Inv X pins σ H' s' ∧ Q H') X.xe s
section
variable {X : Cx} {pos : Pos}
def gName (i : Nat) : TG := fun v σ H Q => Q (σ.set i (some v)) H
theorem pg_name {i : Nat} {x : Str} (hN : X.N.Nodup) (hi : X.N[i]? = some x) (hx : Loc X.env.scope x) (hf : X.fn x = true ∨ X.env.scope.names.lookup x = some .local := by first | exact .inl rfl | exact .inr rfl | assumption) : PG X (.Name x pos) (gName i) := by
  intro pins s σ H v u Q I r h
  exact wpAny_assign_Name (store_ok I hN hi hx r (fun s' I' => ⟨_, H, I', h⟩) hf)
def gNil : TGs := fun vs σ H Q => vs = [] ∧ Q σ H
def gCons (t : TG) (u : TGs) : TGs := fun vs σ H Q => ∃ v r, vs = v :: r ∧ t v σ H fun σ' H' => u r σ' H' Q
theorem pgs_nil : PGs X [] gNil := by
  intro pins s σ H vs us Q I r h
  obtain ⟨e, h⟩ := h
  subst e
  cases r
  exact assignInOrder_nil ⟨σ, H, I, h⟩
theorem pgs_cons {e : Expr} {es : List Expr} {t : TG} {u : TGs} (h1 : PG X e t) (h2 : PGs X es u)
    (hs : (assignEach (e :: es) X.env).map (·.2) = assign e X.env :: (assignEach es X.env).map (·.2) := by rfl) : PGs X (e :: es) (gCons t u) := by
  intro pins s σ H vs us Q I r h
  obtain ⟨v, vr, e1, h⟩ := h
  subst e1
  cases r with
  | cons r rr =>
    rw [hs]
    refine assignInOrder_cons (thn (h1 pins s σ H _ _ _ I r h) fun _ s1 ⟨σ1, H1, I1, q1⟩ => ?_)
    exact h2 pins s1 σ1 H1 _ _ Q I1 rr q1
def gTup (K : PySem.W.Frag) (n : Nat) (t : TGs) : TG := fun v σ H Q => ∃ a xs, v = .ref a ∧ SqT K H a xs ∧ xs.length = n ∧ t xs σ H Q
theorem pg_tup {es : List Expr} {k : Nat} {t : TGs} {n : Nat} (hc : X.calm = true) (h : PGs X es t)
    (hn : (assignEach es X.env).length = n := by rfl) (hst : (assignEach es X.env).findIdx? (·.1) = none := by rfl) : PG X (.Tuple es k pos) (gTup X.K n t) := by
  intro pins s σ H v u Q I r hw
  obtain ⟨a, xs, e1, hq, hl, hw⟩ := hw
  subst e1
  cases r
  obtain ⟨its, rv, ht, hz⟩ := I.tuple hq
  refine assign_Tuple_tuple (I.ok.hd hc) ht (by simp [hn, ← hl, rv.length]) hst fun h' hx => ?_
  have I1 : Inv X pins σ H { s with heap := h' } := I.kept (t' := s.toks) fun b o e => hx b o (Nat.ne_of_lt (Heap.lt_size e)) e
  exact h pins _ σ H xs _ Q I1 (by simpa using rv) hw
def gSub (to ti : TE) (t : TSet) : TG := fun v σ H Q => to σ H fun o H1 => ti σ H1 fun i H2 => t o i v H2 fun H3 => Q σ H3
theorem pg_sub {o i : Expr} {to ti : TE} {t : TSet} (ho : PE X o to) (hi : PE X i ti) (hs : PSet X t)
    (ha : ∀ v, assign (.Subscript o i pos) X.env v = (do
      let ov ← holding [v] (eval o X.env)
      let iv ← holding [v, ov] (eval i X.env)
      standAt pos
      holding [v, ov, iv] (setItem ov iv v)
      release [v, ov, iv] []) := by intro _; rfl) : PG X (.Subscript o i pos) (gSub to ti t) := by
  intro pins s σ H v u Q I r h
  rw [ha]
  refine wpAny_bind (wpAny_holding (thn (ho pins s σ H _ I h) fun ov s1 ⟨x, H1, I1, r1, q1⟩ => ?_))
  refine wpAny_bind (wpAny_holding (thn (hi pins s1 σ H1 _ I1 q1) fun iv s2 ⟨y, H2, I2, r2, q2⟩ => ?_))
  refine wpAny_bind (wpAny_standAt (wpAny_bind (wpAny_holding (thn (hs pins s2 σ H2 x y v ov iv u _ I2 r1 r2 r q2) fun _ s3 ⟨H3, I3, q3⟩ => ?_))))
  exact wpAny_release ⟨σ, H3, I3, q3⟩
def tAsg (te : TE) (g : TG) : TS := fun D σ H => te σ H fun x H1 => g x σ H1 D.nx
theorem ps_asg {tg e : Expr} {te : TE} {g : TG} (he : PE X e te) (hg : PG X tg g) (hs : swapsWithSole [tg] e pos.line X.env = pure false := by rfl) (hw : swappedStores [tg] e X.env = pure none := by rfl)
    (h1 : (assignEach [tg] X.env).map (·.2) = [assign tg X.env] := by rfl) : PS X (.Assign [tg] e pos) (tAsg te g) := by
  intro pins s σ H D I h
  refine wpAny_Assign_stores (thn (he pins s σ H _ I h) fun v s1 ⟨x, H1, I1, r1, q1⟩ => ?_) hs hw
  rw [h1]
  exact thn (hg pins s1 σ H1 x v _ I1 r1 q1) fun _ s2 q => q
theorem ps_set {i : Nat} {x : Str} {e : Expr} {te : TE} {pos' : Pos} (hN : X.N.Nodup) (hi : X.N[i]? = some x) (hx : Loc X.env.scope x) (he : PE X e te) (hs : swapsWith e (some (.Name x pos')) pos.line X.env = pure false := by rfl) (hf : X.fn x = true ∨ X.env.scope.names.lookup x = some .local := by first | exact .inl rfl | exact .inr rfl | assumption) :
    PS X (.Assign [.Name x pos'] e pos) (tAsg te (gName i)) := by
  intro pins s σ H D I h
  refine wpAny_Assign_Name (thn (he pins s σ H _ I h) fun v s1 ⟨y, H1, I1, r1, q1⟩ => ?_) hs
  exact store_ok I1 hN hi hx r1 (fun s2 I2 => ⟨_, H1, I2, q1⟩) hf
def tPar (i j : Nat) (ta : TA) : TS := fun D σ H => ta σ H fun vs H1 => ∃ v w, vs = [v, w] ∧ D.nx ((σ.set i (some v)).set j (some w)) H1
theorem ps_par {i j : Nat} {x y : Str} {a b : Expr} {ta : TA} {px py pt : Pos} {kt k2 pt2} (hc : X.calm = true) (hN : X.N.Nodup) (hi : X.N[i]? = some x) (hj : X.N[j]? = some y) (hij : i ≠ j)
    (hx : X.env.scope.names.lookup x = some .local) (hy : X.env.scope.names.lookup y = some .local) (ha : PA X [a, b] ta)
    (hw : swappedStores [.Tuple [.Name x px, .Name y py] kt pt] (.Tuple [a, b] k2 pt2) X.env = pure (some [x, y]))
    (hs : swapsWithSole [.Tuple [.Name x px, .Name y py] kt pt] (.Tuple [a, b] k2 pt2) pos.line X.env = pure false := by rfl) :
    PS X (.Assign [.Tuple [.Name x px, .Name y py] kt pt] (.Tuple [a, b] k2 pt2) pos) (tPar i j ta) := by
  intro pins s σ H D I h
  rw [exec_Assign_arm]
  refine wpAny_bind (wpAny_standAt ?_)
  rw [hs]
  refine wpAny_bind (wpAny_pure ?_)
  rw [if_neg (by decide)]
  refine wpAny_bind (Tuple_ (thn (ha _ pins s σ H _ I h) fun us s1 ⟨vs, H1, I1, r1, q1⟩ => ?_))
  obtain ⟨v, w, e1, q1⟩ := q1
  subst e1
  obtain ⟨u1, u2, rfl, rv, rw'⟩ : ∃ u1 u2, us = [u1, u2] ∧ RelV v u1 ∧ RelV w u2 := by
    cases r1 with
    | cons p q =>
      cases q with
      | cons p' q' =>
        cases q'
        exact ⟨_, _, rfl, p, p'⟩
  refine wpAny_newObj_type ?_ (by show 2 ≤ sizeLine; decide)
  have I2 : Inv X pins σ H1 { s1 with heap := s1.heap.push { cls := .type "tuple", data := .seq [u1, u2].toArray } } := I1.kept (t' := s1.toks) fun b o e => Heap.get?_push_of_some _ e
  rw [hw]
  refine wpAny_bind (wpAny_pure ?_)
  show wpAny (model X.prog X.w) X.A (do rule "assign.swapped-stores"; let items ← unpackItems (.ref s1.heap.objs.size) 2 none; assignInOrder [fun v => bindName X.env y v, fun v => bindName X.env x v] items.reverse; pure Flow.next) _ _ _
  refine wpAny_bind (wpAny_rule (wpAny_bind (unpackItems_tuple (items := #[u1, u2]) (I.ok.hd hc) (IsTup.new s1.heap _) fun h' hx' => ?_)))
  have I3 := I2.kept (h' := h') (t' := s1.toks) fun b o e => hx' b o (Nat.ne_of_lt (Heap.lt_size e)) e
  show wpAny _ _ (assignInOrder [fun v => bindName X.env y v, fun v => bindName X.env x v] [u2, u1] >>= fun _ => pure Flow.next) _ _ _
  refine wpAny_bind (assignInOrder_cons (wpAny_bindName (store_ok I3 hN hj (.inl hy) rw' (fun s2 I4 => ?_) (.inr hy))))
  refine assignInOrder_cons (wpAny_bindName (store_ok I4 hN hi (.inl hx) rv (fun s3 I5 => assignInOrder_nil (wpAny_pure ?_)) (.inr hx)))
  rw [List.set_comm _ _ (Ne.symm hij)] at I5
  exact ⟨_, H1, I5, q1⟩
end
structure It where
  go : Nat → Hp → Prop
  yld : Nat → Hp → V → Hp → Prop
  stop : Nat → Hp → Prop
def FpOk (X : Cx) (pins : List (Addr × Obj)) (H : Hp) (b : Addr) : Prop :=
  H b = none ∧ b ≠ X.env.locals ∧ b ∉ X.fs ∧ (b ∈ X.ex ∨ X.s₀.heap.objs.size ≤ b) ∧ (∀ x c, X.env.cells.lookup x = some c → c ≠ b) ∧ ∀ p ∈ X.pn ++ pins, p.1 ≠ b
theorem Inv.fpOk {X : Cx} {pins : List (Addr × Obj)} {σ : St} {H H' : Hp} {s : Shared} {b : Addr} (I : Inv X pins σ H s) (hb : s.heap.objs.size ≤ b) (hn : H' b = none) : FpOk X pins H' b := by
  refine ⟨hn, Nat.ne_of_gt (Nat.lt_of_lt_of_le I.lt hb), I.nofs hb, .inr (Nat.le_trans I.sz hb), fun x c e z => ?_, fun p hp z => ?_⟩
  · obtain ⟨v, q⟩ := I.cell x c e
    exact absurd (Nat.lt_of_lt_of_le q.lt (by rw [z]; exact hb)) (Nat.lt_irrefl _)
  · exact absurd (Nat.lt_of_lt_of_le (Heap.lt_size (I.pin p hp).1) (by rw [z]; exact hb)) (Nat.lt_irrefl _)
structure Turn (P : Program) (w : World) (K : PySem.W.Frag) (tg : Expr) (J : It) (fp : List Addr) (it : Addr) (tn : Nat → Heap → Prop) : Prop where
  mem : it ∈ fp
  obj : ∀ i h, tn i h → ∀ b ∈ fp, ∃ o, h.get? b = some o ∧ ∀ v, o.data ≠ .cell v
  keep : ∀ i h h', tn i h → (∀ b ∈ fp, ∀ o, h.get? b = some o → h'.get? b = some o) → tn i h'
  item : ∀ (X : Cx), X.prog = P → X.w = w → X.K = K → X.calm = true → ∀ (i : Nat) (pins : List (Addr × Obj)) (s : Shared) (σ : St) (H : Hp) (E : Value → Shared → Prop), Inv X pins σ H s → (∀ b ∈ fp, FpOk X pins H b) → tn i s.heap → J.go i H →
    wpAny (model P w) X.A (pyNext (.ref it)) (fun r s1 => ∃ u, r = some u ∧
      wpAny (model P w) X.A (letOwnedTupleGo tg (.ref it) u) (fun _ s2 => ∃ x H', Inv X pins σ H' s2 ∧ RelV x u ∧ J.yld i H x H' ∧ tn (i + 1) s2.heap ∧ ∀ b ∈ fp, H' b = none) E s1) E s
  done : ∀ (X : Cx), X.prog = P → X.w = w → X.K = K → X.calm = true → ∀ (i : Nat) (pins : List (Addr × Obj)) (s : Shared) (σ : St) (H : Hp) (E : Value → Shared → Prop), Inv X pins σ H s → (∀ b ∈ fp, FpOk X pins H b) → tn i s.heap → J.stop i H →
    wpAny (model P w) X.A (pyNext (.ref it)) (fun r s1 => r = none ∧ Inv X pins σ H s1) E s
  self : ∀ (A : Around) (i : Nat) (s : Shared) (Q : Value → Shared → Prop) (E : Value → Shared → Prop), tn i s.heap → Q (.ref it) s → wpAny (model P w) A (pyIter (.ref it)) Q E s
abbrev TI := St → Hp → (It → Hp → Prop) → Prop
def PIE (X : Cx) (pins : List (Addr × Obj)) (σ : St) (tg : Expr) (R : It → Hp → Prop) (itv : Value) (s2 : Shared) : Prop :=
  ∃ (it : Addr) (fp : List Addr) (tn : Nat → Heap → Prop) (J : It) (H' : Hp), itv = .ref it ∧ Inv X pins σ H' s2 ∧ Turn X.prog X.w X.K tg J fp it tn ∧ tn 0 s2.heap ∧ (∀ b ∈ fp, FpOk X pins H' b) ∧ R J H'
def PI (X : Cx) (tg iter : Expr) (wi : TI) : Prop :=
  ∀ (pins : List (Addr × Obj)) (s : Shared) (σ : St) (H : Hp) (R : It → Hp → Prop), Inv X pins σ H s → wi σ H R →
    wpAny (model X.prog X.w) X.A (eval iter X.env) (fun v s1 => wpAny (model X.prog X.w) X.A (pyIter v) (PIE X pins σ tg R) X.xe s1) X.xe s
theorem go_of {M : Model} {A : Around} {E : Value → Shared → Prop} {s : Shared} {tg : Expr} {it : Addr} {u : Value} {o : Obj} {n : String} {vs : Array Value} {Q : Unit → Shared → Prop} (ho : s.heap.get? it = some o) (hc : o.cls = .type n) (hd : o.data = .fields vs)
    (hn : ["enumerate", "zip", "dict_itemiterator", "dict_reverseitemiterator", "odict_iterator", "itertools.zip_longest", "itertools.pairwise"].contains n = false) (hQ : Q () s) : wpAny M A (letOwnedTupleGo tg (.ref it) u) Q E s := by
  unfold letOwnedTupleGo
  cases tg <;> first
    | exact wpAny_pure hQ
    | (cases u <;> first
        | exact wpAny_pure hQ
        | (refine wpAny_bind (wpAny_load ho ?_)
           rw [hc, hd]
           show wpAny M A (if (["enumerate", "zip", "dict_itemiterator", "dict_reverseitemiterator", "odict_iterator", "itertools.zip_longest", "itertools.pairwise"].contains n && vs[0]? == some (rawInt _)) = true then _ else _) Q E s
           rw [if_neg (by intro h; rw [hn, Bool.false_and] at h; cases h)]
           exact wpAny_pure hQ))
def Itl (K : PySem.W.Frag) (a : Addr) : It :=
  ⟨fun i H => ∃ xs x, SqL K H a xs ∧ xs[i]? = some x, fun i H x H' => H' = H ∧ ∀ xs, SqL K H a xs → xs[i]? = some x, fun i H => ∃ xs, SqL K H a xs ∧ xs.length ≤ i⟩
def Itt (K : PySem.W.Frag) (a : Addr) : It :=
  ⟨fun i H => ∃ xs x, SqT K H a xs ∧ xs[i]? = some x, fun i H x H' => H' = H ∧ ∀ xs, SqT K H a xs → xs[i]? = some x, fun i H => ∃ xs, SqT K H a xs ∧ xs.length ≤ i⟩
def Itr (lo : Int) (n : Nat) : It := ⟨fun i _ => i < n, fun i H x H' => H' = H ∧ x = .int (lo + i), fun i _ => n ≤ i⟩
theorem turn_list {P : Program} {w : World} {K : PySem.W.Frag} {tg : Expr} (a it : Addr) : Turn P w K tg (Itl K a) [it] it (fun i h => h.IsListIter it a i) where
  mem := by simp
  obj := fun i h st b hb => by
    have e : b = it := by simpa using hb
    subst e
    obtain ⟨o, e, c, d⟩ := st
    exact ⟨o, e, fun v z => by rw [d] at z; cases z⟩
  keep := fun i h h' st k => st.at fun o e => k it (by simp) o e
  item := by
    intro X hP hw hK hc i pins s σ H E I hf st hg
    subst hP hw hK
    obtain ⟨xs, x, hq, hx⟩ := hg
    obtain ⟨its, rv, p, hz⟩ := I.list hq
    obtain ⟨u, hu, ru⟩ := rv.get hx
    obtain ⟨f0, f1, f2, f3, f4, f5⟩ := hf it (by simp)
    refine wpAny_pyNext_list_item st p.isList (x := u) (by simpa using hu) fun h' st' sb => ?_
    have I1 : Inv X pins σ H { s with heap := h' } := I.turned (t' := s.toks) (fun b o hb e => (sb.2 b hb).trans e) f0 f1 f3 f4 f5
    obtain ⟨o, e, c, d⟩ := id st'
    exact ⟨u, rfl, go_of (s := { s with heap := h' }) e c d (by decide) ⟨x, H, I1, ru, ⟨rfl, fun ys hy => by rw [I.list_inj hy hq]; exact hx⟩, st', fun b hb => (hf b hb).1⟩⟩
  done := by
    intro X hP hw hK hc i pins s σ H E I hf st hg
    subst hP hw hK
    obtain ⟨xs, hq, hx⟩ := hg
    obtain ⟨its, rv, p, hz⟩ := I.list hq
    obtain ⟨f0, f1, f2, f3, f4, f5⟩ := hf it (by simp)
    have hl := rv.length
    exact wpAny_pyNext_list_end (I.ok.hd hc) st p.isList (by simp; omega) fun h' eb => ⟨rfl, I.turned (t' := s.toks) (fun b o hb e => eb b o hb e) f0 f1 f3 f4 f5⟩
  self := fun _ _ _ _ _ st h => wpAny_pyIter_listiter st h
theorem turn_tuple {P : Program} {w : World} {K : PySem.W.Frag} {tg : Expr} (a it : Addr) : Turn P w K tg (Itt K a) [it] it (fun i h => h.IsTupleIter it a i) where
  mem := by simp
  obj := fun i h st b hb => by
    have e : b = it := by simpa using hb
    subst e
    obtain ⟨o, e, c, d⟩ := st
    exact ⟨o, e, fun v z => by rw [d] at z; cases z⟩
  keep := fun i h h' st k => st.at fun o e => k it (by simp) o e
  item := by
    intro X hP hw hK hc i pins s σ H E I hf st hg
    subst hP hw hK
    obtain ⟨xs, x, hq, hx⟩ := hg
    obtain ⟨its, rv, p, hz⟩ := I.tuple hq
    obtain ⟨u, hu, ru⟩ := rv.get hx
    obtain ⟨f0, f1, f2, f3, f4, f5⟩ := hf it (by simp)
    refine wpAny_pyNext_tuple_item st (show s.heap.IsTuple a its.toArray from p) (x := u) (by simpa using hu) fun h' st' sb => ?_
    have I1 : Inv X pins σ H { s with heap := h' } := I.turned (t' := s.toks) (fun b o hb e => (sb.2 b hb).trans e) f0 f1 f3 f4 f5
    obtain ⟨o, e, c, d⟩ := id st'
    exact ⟨u, rfl, go_of (s := { s with heap := h' }) e c d (by decide) ⟨x, H, I1, ru, ⟨rfl, fun ys hy => by rw [I.tuple_inj hy hq]; exact hx⟩, st', fun b hb => (hf b hb).1⟩⟩
  done := by
    intro X hP hw hK hc i pins s σ H E I hf st hg
    subst hP hw hK
    obtain ⟨xs, hq, hx⟩ := hg
    obtain ⟨its, rv, p, hz⟩ := I.tuple hq
    obtain ⟨f0, f1, f2, f3, f4, f5⟩ := hf it (by simp)
    have hl := rv.length
    exact wpAny_pyNext_tuple_end (I.ok.hd hc) st (show s.heap.IsTuple a its.toArray from p) (by simp; omega) fun h' eb => ⟨rfl, I.turned (t' := s.toks) (fun b o hb e => eb b o hb e) f0 f1 f3 f4 f5⟩
  self := fun _ _ _ _ _ st h => wpAny_pyIter_tupleiter st h
theorem turn_range {P : Program} {w : World} {K : PySem.W.Frag} {tg : Expr} (it : Addr) (lo : Int) (n : Nat) : Turn P w K tg (Itr lo n) [it] it (fun i h => IsRangeIter h it (lo + (i : Nat) * 1) ((n : Int) - (i : Nat)) 1) where
  mem := by simp
  obj := fun i h st b hb => by
    have e : b = it := by simpa using hb
    subst e
    exact ⟨_, st, fun v z => by
      have z' : Data.fields _ = Data.cell v := z
      cases z'⟩
  keep := fun i h h' st k => k it (by simp) _ st
  item := by
    intro X hP hw hK hc i pins s σ H E I hf st hg
    subst hP hw hK
    obtain ⟨f0, f1, f2, f3, f4, f5⟩ := hf it (by simp)
    have W := Walks.range (prog := X.prog) (w := X.w) (I.ok.hd hc) it lo 1 n
    refine W.item i s _ _ hg st fun v h' tk hv st' kk => ?_
    obtain ⟨t, rfl⟩ := hv
    have I1 : Inv X pins σ H { s with heap := h', toks := tk } := I.turned (fun b o hb e => kk b o (by simpa using hb) e) f0 f1 f3 f4 f5
    refine ⟨_, rfl, go_of (s := { s with heap := h', toks := tk }) (n := "range_iterator") st' rfl rfl (by decide) ⟨.int (lo + i), H, I1, ⟨t, ?_⟩, ⟨rfl, rfl⟩, st', fun b hb => (hf b hb).1⟩⟩
    rw [Int.mul_one]
  done := by
    intro X hP hw hK hc i pins s σ H E I hf st hg
    subst hP hw hK
    obtain ⟨f0, f1, f2, f3, f4, f5⟩ := hf it (by simp)
    exact wpAny_pyNext_range_end (I.ok.hd hc) st (by have : n ≤ i := hg; omega) fun h' eb => ⟨rfl, I.turned (t' := s.toks) (fun b o hb e => eb b o hb e) f0 f1 f3 f4 f5⟩
  self := fun _ _ _ _ _ st h => wpAny_pyIter_rangeiter st h
end L2
namespace L2
open PySem PySem.Spec PyProof.Rows
section
variable {X : Cx} {tg : Expr}
def iList (K : PySem.W.Frag) (tl : TE) : TI := fun σ H R => tl σ H fun x H1 => ∃ a, x = .ref a ∧ (∃ xs, SqL K H1 a xs) ∧ R (Itl K a) H1
def iTup (K : PySem.W.Frag) (tl : TE) : TI := fun σ H R => tl σ H fun x H1 => ∃ a, x = .ref a ∧ (∃ xs, SqT K H1 a xs) ∧ R (Itt K a) H1
theorem pi_list {l : Expr} {tl : TE} (hl : PE X l tl) : PI X tg l (iList X.K tl) := by
  intro pins s σ H R I h
  refine thn (hl pins s σ H _ I h) fun v s1 ⟨x, H1, I1, r1, q1⟩ => ?_
  obtain ⟨a, e, ⟨xs, hq⟩, q⟩ := q1
  subst e
  cases r1
  obtain ⟨its, rv, p, hz⟩ := I1.list hq
  refine wpAny_pyIter_list p.isList ?_
  refine ⟨s1.heap.objs.size, [s1.heap.objs.size], _, _, H1, rfl, I1.kept (t' := s1.toks) fun b o e => Heap.get?_push_of_some _ e, turn_list a _, ⟨_, Heap.get?_push_size _ rfl, rfl, rfl⟩, fun b hb => ?_, q⟩
  have e : b = s1.heap.objs.size := by simpa using hb
  subst e
  exact I1.fpOk (Nat.le_refl _) (I1.hok.fresh (Nat.le_refl _))
theorem pi_tup {l : Expr} {tl : TE} (hl : PE X l tl) : PI X tg l (iTup X.K tl) := by
  intro pins s σ H R I h
  refine thn (hl pins s σ H _ I h) fun v s1 ⟨x, H1, I1, r1, q1⟩ => ?_
  obtain ⟨a, e, ⟨xs, hq⟩, q⟩ := q1
  subst e
  cases r1
  obtain ⟨its, rv, p, hz⟩ := I1.tuple hq
  refine wpAny_pyIter_tuple (show s1.heap.IsTuple a its.toArray from p) ?_
  refine ⟨s1.heap.objs.size, [s1.heap.objs.size], _, _, H1, rfl, I1.kept (t' := s1.toks) fun b o e => Heap.get?_push_of_some _ e, turn_tuple a _, ⟨_, Heap.get?_push_size _ rfl, rfl, rfl⟩, fun b hb => ?_, q⟩
  have e : b = s1.heap.objs.size := by simpa using hb
  subst e
  exact I1.fpOk (Nat.le_refl _) (I1.hok.fresh (Nat.le_refl _))
theorem range_it {pins : List (Addr × Obj)} {σ : St} {H : Hp} {s : Shared} {R : It → Hp → Prop} {E : Value → Shared → Prop} {lo hi : Int} {t u v : Tok} {tk : Nat} (I : Inv X pins σ H s) (h1 : -(2 ^ 62) ≤ lo) (h2 : lo < 2 ^ 62) (h3 : -(2 ^ 62) ≤ hi) (h4 : hi < 2 ^ 62)
    (q : R (Itr lo (hi - lo).toNat) H) : wpAny (model X.prog X.w) X.A (pyIter (.ref s.heap.objs.size)) (PIE X pins σ tg R) E { s with heap := s.heap.push { cls := .type "range", data := .fields #[.int lo t, .int hi u, .int 1 v] }, toks := tk } := by
  refine wpAny_pyIter_range (IsRange.new ..) (small_one h1 h2 h3 h4) ?_
  have I1 : Inv X pins σ H { s with heap := s.heap.push { cls := .type "range", data := .fields #[.int lo t, .int hi u, .int 1 v] }, toks := tk } := I.kept fun b o e => Heap.get?_push_of_some _ e
  refine ⟨(s.heap.push { cls := .type "range", data := .fields #[.int lo t, .int hi u, .int 1 v] }).objs.size, [(s.heap.push { cls := .type "range", data := .fields #[.int lo t, .int hi u, .int 1 v] }).objs.size], _, _, H, rfl,
    I1.kept (t' := tk) fun b o e => Heap.get?_push_of_some _ e, turn_range _ lo (hi - lo).toNat, ?_, fun b hb => ?_, q⟩
  · have e1 : lo + ((0 : Nat) : Int) * 1 = lo := by simp
    have e2 : (((hi - lo).toNat : Nat) : Int) - ((0 : Nat) : Int) = Builtin.Range.rangeSize lo hi 1 := by rw [rangeSize_one]; split <;> omega
    show IsRangeIter _ _ (lo + ((0 : Nat) : Int) * 1) ((((hi - lo).toNat : Nat) : Int) - ((0 : Nat) : Int)) 1
    rw [e1, e2]
    exact Heap.get?_push_size _ rfl
  · have e : b = (s.heap.push { cls := .type "range", data := .fields #[.int lo t, .int hi u, .int 1 v] }).objs.size := by simpa using hb
    subst e
    exact I1.fpOk (Nat.le_refl _) (I1.hok.fresh (Nat.le_refl _))
def iRng1 (ta : TA) : TI := fun σ H R => ta σ H fun vs H1 => ∃ j : Int, vs = [.int j] ∧ -(2 ^ 62) ≤ j ∧ j < 2 ^ 62 ∧ R (Itr 0 j.toNat) H1
theorem pi_range1 {a : Expr} {ta : TA} {p pos : Pos} (hg : Gl X "range") (hm : X.mg "range" = none) (ha : PA X [a] ta) (hs : starEach [a] X.env = [(false, eval a X.env)] := by rfl) : PI X tg (.Call (.Name "range" p) [a] [] pos) (iRng1 ta) := by
  intro pins s σ H R I h
  refine Call_ (ld_blt I hg hm boot_range (PyProof.Rows.callWith_type1 (thn (ha pos pins s σ H _ I h) fun us s1 ⟨vs, H1, I1, r1, q1⟩ => ?_) hs rfl))
  obtain ⟨j, e, q1, q2, q⟩ := q1
  subst e
  cases r1 with
  | cons r rr =>
    cases rr
    obtain ⟨t, rfl⟩ := r
    exact call_range_1 (range_it I1 (by omega) (by omega) q1 q2 (by simpa using q))
def tFor (wi : TI) (g : TG) (tb : TS) : TS := fun D σ H => wi σ H fun J H1 => ∃ W : Nat → Nat → St → Hp → Prop, (∃ m, W 0 m σ H1) ∧ ∀ i m σ H, W i m σ H →
  (J.stop i H ∧ D.nx σ H) ∨ (J.go i H ∧ ∃ N : St → Hp → Prop, (∀ σ' H', N σ' H' → ∃ m', m' < m ∧ W (i + 1) m' σ' H') ∧ ∀ x H', J.yld i H x H' → g x σ H' fun σ2 H2 => tb { D with nx := N, ct := N, bk := D.nx } σ2 H2)
def pinsAt (fp : List Addr) (h : Heap) : List (Addr × Obj) := fp.filterMap fun b => (h.get? b).map fun o => (b, o)
theorem mem_pinsAt {fp : List Addr} {h : Heap} {b : Addr} {o : Obj} (hb : b ∈ fp) (e : h.get? b = some o) : (b, o) ∈ pinsAt fp h := List.mem_filterMap.mpr ⟨b, hb, by rw [e]; rfl⟩
theorem of_pinsAt {fp : List Addr} {h : Heap} {p : Addr × Obj} (hp : p ∈ pinsAt fp h) : p.1 ∈ fp ∧ h.get? p.1 = some p.2 := by
  obtain ⟨b, hb, e⟩ := List.mem_filterMap.mp hp
  cases q : h.get? b with
  | none => rw [q] at e; cases e
  | some o =>
    rw [q] at e
    have e' : (b, o) = p := Option.some.inj e
    subst e'
    exact ⟨hb, q⟩
theorem Inv.pinned {pins : List (Addr × Obj)} {σ : St} {H : Hp} {s : Shared} {fp : List Addr} (I : Inv X pins σ H s) (hf : ∀ b ∈ fp, FpOk X pins H b) (ho : ∀ b ∈ fp, ∃ o, s.heap.get? b = some o ∧ ∀ v, o.data ≠ .cell v) : Inv X (pins ++ pinsAt fp s.heap) σ H s :=
  I.pins_of fun p hp => (List.mem_append.mp hp).elim (fun z => I.pin p (List.mem_append_right _ z)) fun z => by
    obtain ⟨hb, e⟩ := of_pinsAt z
    obtain ⟨f0, f1, f2, _⟩ := hf p.1 hb
    obtain ⟨o, e', d⟩ := ho p.1 hb
    rw [e] at e'; cases e'
    exact ⟨e, f0, f1, f2, d⟩
theorem Inv.unpinned {pins pl : List (Addr × Obj)} {σ : St} {H : Hp} {s : Shared} (I : Inv X (pins ++ pl) σ H s) : Inv X pins σ H s := I.pins_of fun p hp => I.pin p (List.mem_append_right _ (List.mem_append_left _ hp))
theorem ps_for {iter : Expr} {body : List Stmt} {wi : TI} {g : TG} {tb : TS} {pos : Pos} (hp : PassesOwn (model X.prog X.w) X.A X.env X.xe) (hc : X.calm = true) (hi : PI X tg iter wi) (hg : PG X tg g) (hb : PSs X body tb)
    (hs : ∀ x, foldedSetIterable iter X.env x = pure x := by intro _; rfl) : PS X (.For tg iter body [] pos) (tFor wi g tb) := by
  intro pins s σ H D I h
  refine wpAny_For (thn (hi pins s σ H _ I h) fun v s1 h1 => thn h1 fun itv s2 h2 => ?_) hs
  obtain ⟨it, fp, tn, J, H2, e, I2, T, st2, f2, W, ⟨m0, w0⟩, turn⟩ := h2
  subst e
  have stat : ∀ {H' : Hp}, (∀ b ∈ fp, H' b = none) → ∀ b ∈ fp, FpOk X pins H' b := fun hn b hb => ⟨hn b hb, (f2 b hb).2⟩
  refine codeAny_forLoop_any (fun n s' => ∃ i σ' H', Inv X pins σ' H' s' ∧ tn i s'.heap ∧ (∀ b ∈ fp, H' b = none) ∧ W i n σ' H') ?_ m0 ⟨0, σ, H2, I2, st2, fun b hb => (f2 b hb).1, w0⟩
  rintro n s3 ⟨i, σ3, H3, I3, st3, fr3, w3⟩
  rcases turn i n σ3 H3 w3 with ⟨stop, qn⟩ | ⟨go, N, hN, step⟩
  · refine wpAny_passesOwn hp (thn (T.done X rfl rfl rfl hc i pins s3 σ3 H3 X.xe I3 (stat fr3) st3 stop) fun r s4 ⟨hr, I4⟩ => ?_)
    subst hr
    exact wpAny_execs_nil ⟨σ3, H3, I4, qn⟩
  · refine wpAny_passesOwn hp (thn (T.item X rfl rfl rfl hc i pins s3 σ3 H3 X.xe I3 (stat fr3) st3 go) fun r s4 ⟨u, hr, h4⟩ => ?_)
    subst hr
    refine wpAny_passesOwn hp (thn h4 fun _ s5 ⟨x, H5, I5, r5, y5, st5, fr5⟩ => ?_)
    have I5' := I5.pinned (stat fr5) (T.obj _ _ st5)
    refine wpAny_passesOwn hp (thn (hg _ s5 σ3 H5 x u _ I5' r5 (step x H5 y5)) fun _ s6 ⟨σ6, H6, I6, q6⟩ => ?_)
    refine wpAny_passesOwn hp (thn (hb _ s6 σ6 H6 _ I6 q6) fun f s7 q7 => ?_)
    have again : ∀ {σ7 : St} {H7 : Hp}, Inv X (pins ++ pinsAt fp s5.heap) σ7 H7 s7 → N σ7 H7 → ∃ m, m < n ∧ ∃ i σ' H', Inv X pins σ' H' s7 ∧ tn i s7.heap ∧ (∀ b ∈ fp, H' b = none) ∧ W i m σ' H' := fun {σ7 H7} I7 n7 => by
      obtain ⟨m', hm, w7⟩ := hN σ7 H7 n7
      refine ⟨m', hm, i + 1, σ7, H7, I7.unpinned, T.keep _ _ _ st5 fun b hb o e => (I7.pin (b, o) (List.mem_append_right _ (List.mem_append_right _ (mem_pinsAt hb e)))).1, fun b hb => ?_, w7⟩
      obtain ⟨o, e, d⟩ := T.obj _ _ st5 b hb
      exact (I7.pin (b, o) (List.mem_append_right _ (List.mem_append_right _ (mem_pinsAt hb e)))).2.1
    cases f with
    | next => obtain ⟨σ7, H7, I7, n7⟩ := q7; exact again I7 n7
    | cont => obtain ⟨σ7, H7, I7, n7⟩ := q7; exact again I7 n7
    | brk => obtain ⟨σ7, H7, I7, q7⟩ := q7; exact ⟨σ7, H7, I7.unpinned, q7⟩
    | ret v => obtain ⟨x7, σ7, H7, I7, r7, q7⟩ := q7; exact ⟨x7, σ7, H7, I7.unpinned, r7, q7⟩
end
theorem for_list {K : PySem.W.Frag} {a : Addr} {xs : List V} {g : TG} {tb : TS} {D : Ends} {σ : St} {H : Hp} (Pv : Nat → St → Hp → Prop) (h0 : Pv 0 σ H) (hl : ∀ i σ H, i ≤ xs.length → Pv i σ H → SqL K H a xs)
    (hs : ∀ i x σ H, xs[i]? = some x → Pv i σ H → g x σ H fun σ2 H2 => tb { D with nx := Pv (i + 1), ct := Pv (i + 1), bk := D.nx } σ2 H2) (hd : ∀ σ H, Pv xs.length σ H → D.nx σ H) :
    ∃ W : Nat → Nat → St → Hp → Prop, (∃ m, W 0 m σ H) ∧ ∀ i m σ H, W i m σ H →
      ((Itl K a).stop i H ∧ D.nx σ H) ∨ ((Itl K a).go i H ∧ ∃ N : St → Hp → Prop, (∀ σ' H', N σ' H' → ∃ m', m' < m ∧ W (i + 1) m' σ' H') ∧ ∀ x H', (Itl K a).yld i H x H' → g x σ H' fun σ2 H2 => tb { D with nx := N, ct := N, bk := D.nx } σ2 H2) := by
  refine ⟨fun i m σ H => m = xs.length - i ∧ i ≤ xs.length ∧ Pv i σ H, ⟨xs.length, by simp, Nat.zero_le _, h0⟩, ?_⟩
  rintro i m σ H ⟨rfl, hi, p⟩
  have q := hl i σ H hi p
  by_cases hlt : i < xs.length
  · refine .inr ⟨⟨xs, xs[i], q, by simp [hlt]⟩, Pv (i + 1), fun σ' H' p' => ⟨xs.length - (i + 1), by omega, rfl, hlt, p'⟩, fun x H' y => ?_⟩
    obtain ⟨e, y⟩ := y
    subst e
    exact hs i x σ _ (y xs q) p
  · have e : i = xs.length := by omega
    subst e
    exact .inl ⟨⟨xs, q, Nat.le_refl _⟩, hd σ H p⟩
theorem for_tup {K : PySem.W.Frag} {a : Addr} {xs : List V} {g : TG} {tb : TS} {D : Ends} {σ : St} {H : Hp} (Pv : Nat → St → Hp → Prop) (h0 : Pv 0 σ H) (hl : ∀ i σ H, i ≤ xs.length → Pv i σ H → SqT K H a xs)
    (hs : ∀ i x σ H, xs[i]? = some x → Pv i σ H → g x σ H fun σ2 H2 => tb { D with nx := Pv (i + 1), ct := Pv (i + 1), bk := D.nx } σ2 H2) (hd : ∀ σ H, Pv xs.length σ H → D.nx σ H) :
    ∃ W : Nat → Nat → St → Hp → Prop, (∃ m, W 0 m σ H) ∧ ∀ i m σ H, W i m σ H →
      ((Itt K a).stop i H ∧ D.nx σ H) ∨ ((Itt K a).go i H ∧ ∃ N : St → Hp → Prop, (∀ σ' H', N σ' H' → ∃ m', m' < m ∧ W (i + 1) m' σ' H') ∧ ∀ x H', (Itt K a).yld i H x H' → g x σ H' fun σ2 H2 => tb { D with nx := N, ct := N, bk := D.nx } σ2 H2) := by
  refine ⟨fun i m σ H => m = xs.length - i ∧ i ≤ xs.length ∧ Pv i σ H, ⟨xs.length, by simp, Nat.zero_le _, h0⟩, ?_⟩
  rintro i m σ H ⟨rfl, hi, p⟩
  have q := hl i σ H hi p
  by_cases hlt : i < xs.length
  · refine .inr ⟨⟨xs, xs[i], q, by simp [hlt]⟩, Pv (i + 1), fun σ' H' p' => ⟨xs.length - (i + 1), by omega, rfl, hlt, p'⟩, fun x H' y => ?_⟩
    obtain ⟨e, y⟩ := y
    subst e
    exact hs i x σ _ (y xs q) p
  · have e : i = xs.length := by omega
    subst e
    exact .inl ⟨⟨xs, q, Nat.le_refl _⟩, hd σ H p⟩
theorem for_range {lo : Int} {n : Nat} {g : TG} {tb : TS} {D : Ends} {σ : St} {H : Hp} (Pv : Nat → St → Hp → Prop) (h0 : Pv 0 σ H)
    (hs : ∀ i σ H, i < n → Pv i σ H → g (.int (lo + i)) σ H fun σ2 H2 => tb { D with nx := Pv (i + 1), ct := Pv (i + 1), bk := D.nx } σ2 H2) (hd : ∀ σ H, Pv n σ H → D.nx σ H) :
    ∃ W : Nat → Nat → St → Hp → Prop, (∃ m, W 0 m σ H) ∧ ∀ i m σ H, W i m σ H →
      ((Itr lo n).stop i H ∧ D.nx σ H) ∨ ((Itr lo n).go i H ∧ ∃ N : St → Hp → Prop, (∀ σ' H', N σ' H' → ∃ m', m' < m ∧ W (i + 1) m' σ' H') ∧ ∀ x H', (Itr lo n).yld i H x H' → g x σ H' fun σ2 H2 => tb { D with nx := N, ct := N, bk := D.nx } σ2 H2) := by
  refine ⟨fun i m σ H => m = n - i ∧ i ≤ n ∧ Pv i σ H, ⟨n, by simp, Nat.zero_le _, h0⟩, ?_⟩
  rintro i m σ H ⟨rfl, hi, p⟩
  by_cases hlt : i < n
  · refine .inr ⟨hlt, Pv (i + 1), fun σ' H' p' => ⟨n - (i + 1), by omega, rfl, hlt, p'⟩, fun x H' y => ?_⟩
    obtain ⟨e, y⟩ := y
    subst e y
    exact hs i σ _ hlt p
  · have e : i = n := by omega
    subst e
    exact .inl ⟨Nat.le_refl _, hd σ H p⟩
end L2
namespace L2
open PySem PySem.Spec PyProof.Rows
abbrev R2 := V → V → Hp → VK → Prop
def OpR (X : Cx) (f : Value → Value → Sem Value) (r : R2) : Prop :=
  ∀ (pins : List (Addr × Obj)) (s : Shared) (σ : St) (H : Hp) (x y : V) (v u : Value) (Q : VK), Inv X pins σ H s → RelV x v → RelV y u → r x y H Q →
    wpAny (model X.prog X.w) X.A (f v u) (EP X pins σ Q) X.xe s
def UnR (X : Cx) (f : Value → Sem Value) (r : V → Hp → VK → Prop) : Prop :=
  ∀ (pins : List (Addr × Obj)) (s : Shared) (σ : St) (H : Hp) (x : V) (v : Value) (Q : VK), Inv X pins σ H s → RelV x v → r x H Q →
    wpAny (model X.prog X.w) X.A (f v) (EP X pins σ Q) X.xe s
def CallR (X : Cx) (f : Value) (r : List V → Hp → VK → Prop) : Prop :=
  ∀ (pins : List (Addr × Obj)) (s : Shared) (σ : St) (H : Hp) (xs : List V) (us : List Value) (Q : VK), Inv X pins σ H s → Vals xs us → r xs H Q →
    wpAny (model X.prog X.w) X.A (call f us) (EP X pins σ Q) X.xe s
def tOp (r : R2) (ta tb : TE) : TE := fun σ H Q => ta σ H fun x H1 => tb σ H1 fun y H2 => r x y H2 Q
def tUn (r : V → Hp → VK → Prop) (ta : TE) : TE := fun σ H Q => ta σ H fun x H1 => r x H1 Q
def rI (C : Int → Int → Prop) (g : Int → Int → V) : R2 := fun x y H Q => ∃ i j, x = .int i ∧ y = .int j ∧ C i j ∧ Q (g i j) H
def rI0 (g : Int → Int → V) : R2 := fun x y H Q => ∃ i j, x = .int i ∧ y = .int j ∧ Q (g i j) H
def rU (g : Int → V) : V → Hp → VK → Prop := fun x H Q => ∃ i, x = .int i ∧ Q (g i) H
section
variable {X : Cx} {a b c : Expr} {ta tb tc : TE} {pos : Pos}
theorem binT (ha : PE X a ta) (hb : PE X b tb) {pins : List (Addr × Obj)} {s : Shared} {σ : St} {H : Hp} {R : V → V → Hp → Prop} (I : Inv X pins σ H s)
    (h : ta σ H fun x H1 => tb σ H1 fun y H2 => R x y H2) {Q : Value → Shared → Prop} {f : Value → Value → Sem Value}
    (hf : ∀ v u s2 x y H2, Inv X pins σ H2 s2 → RelV x v → RelV y u → R x y H2 → wpAny (model X.prog X.w) X.A (f v u) Q X.xe s2) :
    wpAny (model X.prog X.w) X.A (eval a X.env) (fun v s₁ => wpAny (model X.prog X.w) X.A (eval b X.env) (fun u s₂ => wpAny (model X.prog X.w) X.A (f v u) Q X.xe s₂) X.xe s₁) X.xe s := by
  refine thn (ha pins s σ H _ I h) fun v s1 ⟨x, H1, I1, r1, q1⟩ => ?_
  refine thn (hb pins s1 σ H1 _ I1 q1) fun u s2 ⟨y, H2, I2, r2, q2⟩ => ?_
  exact hf v u s2 x y H2 I2 r1 r2 q2
theorem pe_op {op : Operator} {r : R2} (ho : OpR X (binaryOp op) r) (ha : PE X a ta) (hb : PE X b tb) : PE X (.BinOp a op b pos) (tOp r ta tb) := by
  intro pins s σ H Q I h
  exact wpAny_BinOp (binT ha hb I h fun v u s2 x y H2 I2 rx ry q => ho pins s2 σ H2 x y v u Q I2 rx ry q)
theorem pe_un {op : UnaryOp} {r : V → Hp → VK → Prop} (ho : UnR X (unaryOp op) r) (ha : PE X a ta) : PE X (.UnaryOp op a pos) (tUn r ta) := by
  intro pins s σ H Q I h
  exact UnaryOp_ (thn (ha pins s σ H _ I h) fun v s1 ⟨x, H1, I1, r1, q1⟩ => ho pins s1 σ H1 x v Q I1 r1 q1)
theorem opI {f : Value → Value → Sem Value} {C : Int → Int → Prop} {g : Int → Int → Int}
    (rule : ∀ (i j : Int) (t u : Tok) (s : Shared) (Q : Value → Shared → Prop) (E : Value → Shared → Prop), C i j → Q (.int (g i j) s.toks) { s with toks := s.toks + 1 } → wpAny (model X.prog X.w) X.A (f (.int i t) (.int j u)) Q E s) :
    OpR X f (rI C fun i j => .int (g i j)) := by
  intro pins s σ H x y v u Q I rx ry h
  obtain ⟨i, j, rfl, rfl, hc, q⟩ := h
  obtain ⟨t, rfl⟩ := rx
  obtain ⟨t', rfl⟩ := ry
  exact rule i j t t' s _ _ hc ⟨.int (g i j), H, I.tok _, ⟨_, rfl⟩, q⟩
theorem opI0 {f : Value → Value → Sem Value} {g : Int → Int → Int}
    (rule : ∀ (i j : Int) (t u : Tok) (s : Shared) (Q : Value → Shared → Prop) (E : Value → Shared → Prop), Q (.int (g i j) s.toks) { s with toks := s.toks + 1 } → wpAny (model X.prog X.w) X.A (f (.int i t) (.int j u)) Q E s) :
    OpR X f (rI0 fun i j => .int (g i j)) := by
  intro pins s σ H x y v u Q I rx ry h
  obtain ⟨i, j, rfl, rfl, q⟩ := h
  obtain ⟨t, rfl⟩ := rx
  obtain ⟨t', rfl⟩ := ry
  exact rule i j t t' s _ _ ⟨.int (g i j), H, I.tok _, ⟨_, rfl⟩, q⟩
theorem opB0 {f : Value → Value → Sem Value} {g : Int → Int → Bool}
    (rule : ∀ (i j : Int) (t u : Tok) (s : Shared) (Q : Value → Shared → Prop) (E : Value → Shared → Prop), Q (.bool (g i j)) s → wpAny (model X.prog X.w) X.A (f (.int i t) (.int j u)) Q E s) :
    OpR X f (rI0 fun i j => .bl (g i j)) := by
  intro pins s σ H x y v u Q I rx ry h
  obtain ⟨i, j, rfl, rfl, q⟩ := h
  obtain ⟨t, rfl⟩ := rx
  obtain ⟨t', rfl⟩ := ry
  exact rule i j t t' s _ _ ⟨.bl (g i j), H, I, rfl, q⟩
def CDiv (i j : Int) : Prop := 0 < j ∧ j < 1073741824
def CPow (i j : Int) : Prop := 0 ≤ j ∧ j ≤ 1000000 ∧ i.natAbs < 2 ^ 64
def CMul (i j : Int) : Prop := (-(2 ^ 64) < i ∧ i < 2 ^ 64) ∨ (-(2 ^ 64) < j ∧ j < 2 ^ 64)
theorem CMul.ok {i j : Int} (h : CMul i j) : IntMulOk i j := by
  rcases h with ⟨h1, h2⟩ | ⟨h1, h2⟩
  · exact .of_left (intBits_le_64 h1 h2)
  · exact .of_right (intBits_le_64 h1 h2)
theorem op_add : OpR X (binaryOp .Add) (rI0 fun i j => .int (i + j)) := opI0 fun _ _ _ _ _ _ _ q => add_int q
theorem op_sub : OpR X (binaryOp .Sub) (rI0 fun i j => .int (i - j)) := opI0 fun _ _ _ _ _ _ _ q => sub_int q
theorem op_mul : OpR X (binaryOp .Mult) (rI CMul fun i j => .int (i * j)) := opI fun _ _ _ _ _ _ _ hc q => mul_int q hc.ok
theorem op_fdiv : OpR X (binaryOp .FloorDiv) (rI CDiv fun i j => .int (i / j)) := opI fun i j _ _ _ _ _ hc q => by
  have h1 : (0 : Int) < j := hc.1
  have h2 : j < 1073741824 := hc.2
  exact floordiv_int (by omega) (by rw [Int.fdiv_eq_ediv_of_nonneg i (by omega)]; exact q) (.inl (PyProof.noPylong_small (by omega)))
theorem op_mod : OpR X (binaryOp .Mod) (rI (fun _ j => 0 < j) fun i j => .int (i % j)) := opI fun i j _ _ _ _ _ hc q => by
  have h1 : (0 : Int) < j := hc
  exact mod_int' (by omega) (by rw [Int.fmod_eq_emod_of_nonneg i (by omega)]; exact q)
theorem op_pow : OpR X (binaryOp .Pow) (rI CPow fun i j => .int (i ^ j.toNat)) := opI fun _ _ _ _ _ _ _ hc q => pow_int_small hc.1 hc.2.1 hc.2.2 q
theorem unI {f : Value → Sem Value} {g : Int → Int}
    (rule : ∀ (i : Int) (t : Tok) (s : Shared) (Q : Value → Shared → Prop) (E : Value → Shared → Prop), Q (.int (g i) s.toks) { s with toks := s.toks + 1 } → wpAny (model X.prog X.w) X.A (f (.int i t)) Q E s) :
    UnR X f (rU fun i => .int (g i)) := by
  intro pins s σ H x v Q I rx h
  obtain ⟨i, rfl, q⟩ := h
  obtain ⟨t, rfl⟩ := rx
  exact rule i t s _ _ ⟨.int (g i), H, I.tok _, ⟨_, rfl⟩, q⟩
theorem un_neg : UnR X (unaryOp .USub) (rU fun i => .int (-i)) := unI fun _ _ _ _ _ q => neg_int q
end
def scal : V → V → Bool
  | .non, .non => true | .non, .int _ => true | .int _, .non => true | .non, .bl _ => true | .bl _, .non => true | .non, .str _ => true | .str _, .non => true
  | .int _, .int _ => true | .bl _, .bl _ => true | .str _, .str _ => true | .byt _, .byt _ => true
  | .int _, .str _ => true | .str _, .int _ => true | .bl _, .str _ => true | .str _, .bl _ => true
  | _, _ => false
def rEq : R2 := fun x y H Q => scal x y = true ∧ Q (.bl (decide (x = y))) H
def rNe : R2 := fun x y H Q => scal x y = true ∧ Q (.bl (!decide (x = y))) H
theorem dec_int {i j : Int} : decide (V.int i = V.int j) = (i == j) := by
  rw [Bool.eq_iff_iff]
  simp
theorem dec_bl {i j : Bool} : decide (V.bl i = V.bl j) = (i == j) := by
  rw [Bool.eq_iff_iff]
  simp
theorem dec_str {i j : Str} : decide (V.str i = V.str j) = (i == j) := by
  rw [Bool.eq_iff_iff]
  simp
theorem dec_byt {i j : Array UInt8} : decide (V.byt i = V.byt j) = (i.toList == j.toList) := by
  rw [Bool.eq_iff_iff]
  cases i
  cases j
  simp
section
variable {X : Cx} {a b c : Expr} {ta tb tc : TE} {pos : Pos}
theorem fin_bl {pins : List (Addr × Obj)} {σ : St} {H : Hp} {s : Shared} {Q : VK} {k k' : Bool} (I : Inv X pins σ H s) (q : Q (.bl k) H) (e : k = k') : EP X pins σ Q (.bool k') s := by
  subst e
  exact ⟨.bl k, H, I, rfl, q⟩
theorem op_eq : OpR X (compareOp .Eq) rEq := by
  intro pins s σ H x y v u Q I rx ry h
  obtain ⟨hs, q⟩ := h
  cases x with
  | non =>
    cases rx
    cases y with
    | non => cases ry; exact PySem.EqNone.eq_none_none (fin_bl I q (by simp))
    | bl j => cases ry; exact PySem.EqNone.eq_none_bool (fin_bl I q (by simp))
    | int j => obtain ⟨t', rfl⟩ := ry; exact PySem.EqNone.eq_none_int (fin_bl I q (by simp))
    | str j => obtain ⟨t', rfl⟩ := ry; exact PySem.EqNone.eq_none_str (fin_bl I q (by simp))
    | _ => exact absurd (show false = true from hs) Bool.false_ne_true
  | bl i =>
    cases rx
    cases y with
    | non => cases ry; exact PySem.EqNone.eq_bool_none (fin_bl I q (by simp))
    | bl j => cases ry; exact eq_bool (fin_bl I q dec_bl)
    | str j => obtain ⟨t', rfl⟩ := ry; exact PySem.EqMixed.eq_bool_str (fin_bl I q (by simp))
    | _ => exact absurd (show false = true from hs) Bool.false_ne_true
  | int i =>
    obtain ⟨t, rfl⟩ := rx
    cases y with
    | non => cases ry; exact PySem.EqNone.eq_int_none (fin_bl I q (by simp))
    | int j => obtain ⟨t', rfl⟩ := ry; exact eq_int (fin_bl I q dec_int)
    | str j => obtain ⟨t', rfl⟩ := ry; exact PySem.EqMixed.eq_int_str (fin_bl I q (by simp))
    | _ => exact absurd (show false = true from hs) Bool.false_ne_true
  | str i =>
    obtain ⟨t, rfl⟩ := rx
    cases y with
    | non => cases ry; exact PySem.EqNone.eq_str_none (fin_bl I q (by simp))
    | bl j => cases ry; exact PySem.EqMixed.eq_str_bool (fin_bl I q (by simp))
    | int j => obtain ⟨t', rfl⟩ := ry; exact PySem.EqMixed.eq_str_int (fin_bl I q (by simp))
    | str j => obtain ⟨t', rfl⟩ := ry; exact eq_str (fin_bl I q dec_str)
    | _ => exact absurd (show false = true from hs) Bool.false_ne_true
  | byt i =>
    obtain ⟨t, rfl⟩ := rx
    cases y with
    | byt j => obtain ⟨t', rfl⟩ := ry; exact PySem.W.eq_bytes (fin_bl I q dec_byt)
    | _ => exact absurd (show false = true from hs) Bool.false_ne_true
  | _ => cases y <;> exact absurd (show false = true from hs) Bool.false_ne_true
theorem op_ne : OpR X (compareOp .NotEq) rNe := by
  intro pins s σ H x y v u Q I rx ry h
  obtain ⟨hs, q⟩ := h
  cases x with
  | non =>
    cases rx
    cases y with
    | non => cases ry; exact PySem.EqNone.ne_none_none (fin_bl I q (by simp))
    | bl j => cases ry; exact PySem.EqNone.ne_none_bool (fin_bl I q (by simp))
    | int j => obtain ⟨t', rfl⟩ := ry; exact PySem.EqNone.ne_none_int (fin_bl I q (by simp))
    | str j => obtain ⟨t', rfl⟩ := ry; exact PySem.EqNone.ne_none_str (fin_bl I q (by simp))
    | _ => exact absurd (show false = true from hs) Bool.false_ne_true
  | bl i =>
    cases rx
    cases y with
    | non => cases ry; exact PySem.EqNone.ne_bool_none (fin_bl I q (by simp))
    | bl j => cases ry; exact ne_bool (fin_bl I q (congrArg not dec_bl))
    | str j => obtain ⟨t', rfl⟩ := ry; exact PySem.EqMixed.ne_bool_str (fin_bl I q (by simp))
    | _ => exact absurd (show false = true from hs) Bool.false_ne_true
  | int i =>
    obtain ⟨t, rfl⟩ := rx
    cases y with
    | non => cases ry; exact PySem.EqNone.ne_int_none (fin_bl I q (by simp))
    | int j => obtain ⟨t', rfl⟩ := ry; exact ne_int (fin_bl I q (congrArg not dec_int))
    | str j => obtain ⟨t', rfl⟩ := ry; exact PySem.EqMixed.ne_int_str (fin_bl I q (by simp))
    | _ => exact absurd (show false = true from hs) Bool.false_ne_true
  | str i =>
    obtain ⟨t, rfl⟩ := rx
    cases y with
    | non => cases ry; exact PySem.EqNone.ne_str_none (fin_bl I q (by simp))
    | bl j => cases ry; exact PySem.EqMixed.ne_str_bool (fin_bl I q (by simp))
    | int j => obtain ⟨t', rfl⟩ := ry; exact PySem.EqMixed.ne_str_int (fin_bl I q (by simp))
    | str j => obtain ⟨t', rfl⟩ := ry; exact ne_str (fin_bl I q (congrArg not dec_str))
    | _ => exact absurd (show false = true from hs) Bool.false_ne_true
  | byt i =>
    obtain ⟨t, rfl⟩ := rx
    cases y with
    | byt j => obtain ⟨t', rfl⟩ := ry; exact PySem.W.ne_bytes (fin_bl I q (congrArg not dec_byt))
    | _ => exact absurd (show false = true from hs) Bool.false_ne_true
  | _ => cases y <;> exact absurd (show false = true from hs) Bool.false_ne_true
theorem op_lt : OpR X (compareOp .Lt) (rI0 fun i j => .bl (decide (i < j))) := opB0 fun _ _ _ _ _ _ _ q => lt_int q
theorem op_le : OpR X (compareOp .LtE) (rI0 fun i j => .bl (decide (i ≤ j))) := opB0 fun _ _ _ _ _ _ _ q => le_int q
theorem op_gt : OpR X (compareOp .Gt) (rI0 fun i j => .bl (decide (j < i))) := opB0 fun _ _ _ _ _ _ _ q => gt_int q
theorem op_ge : OpR X (compareOp .GtE) (rI0 fun i j => .bl (decide (j ≤ i))) := opB0 fun _ _ _ _ _ _ _ q => ge_int q
theorem nomark (b : Expr) {op : CmpOp} (h : op ≠ .In := by decide) (h2 : op ≠ .NotIn := by decide) : behindInMarks op b = false := by
  have e1 : (op == CmpOp.In) = false := by cases op <;> first | rfl | exact absurd rfl h
  have e2 : (op == CmpOp.NotIn) = false := by cases op <;> first | rfl | exact absurd rfl h2
  cases b <;> simp [behindInMarks, e1, e2]
theorem pe_cmpR {op : CmpOp} {r : R2} (ho : OpR X (compareOp op) r) (ha : PE X a ta) (hb : PE X b tb) (hm : behindInMarks op b = false) : PE X (.Compare a [op] [b] pos) (tOp r ta tb) := by
  intro pins s σ H Q I h
  exact wpAny_Compare1 (binT ha hb I h fun v u s2 x y H2 I2 rx ry q => ho pins s2 σ H2 x y v u Q I2 rx ry q) hm
def tTest (t : TE) : TT := fun σ H Q => t σ H fun x H' => ∃ k, x = .bl k ∧ Q k H'
theorem pt_cmpR {op : CmpOp} {r : R2} (ho : OpR X (compareOp op) r) (ha : PE X a ta) (hb : PE X b tb) (hm : behindInMarks op b = false) : PT X (.Compare a [op] [b] pos) (tTest (tOp r ta tb)) := by
  intro pins s σ H Q I h
  refine wpAny_isTrue_Compare1 (thn (ha pins s σ H _ I h) fun v s1 ⟨x, H1, I1, r1, q1⟩ => thn (hb pins s1 σ H1 _ I1 q1) fun u s2 ⟨y, H2, I2, r2, q2⟩ =>
    thn (ho pins s2 σ H2 x y v u _ I2 r1 r2 q2) fun c s3 ⟨z, H3, I3, r3, k, e, q3⟩ => ?_) hm
  subst e
  cases r3
  exact wpAny_truthy_bool ⟨H3, I3, q3⟩
def tChain (r r' : R2) (ta tb tc : TE) : TE := fun σ H Q => ta σ H fun x H1 => tb σ H1 fun y H2 => r x y H2 fun z H3 => ∃ k, z = .bl k ∧
  (if k = true then tc σ H3 fun w' H4 => r' y w' H4 Q else Q (.bl false) H3)
theorem pe_chain {op op' : CmpOp} {r r' : R2} (ho : OpR X (compareOp op) r) (ho' : OpR X (compareOp op') r') (ha : PE X a ta) (hb : PE X b tb) (hc : PE X c tc)
    (hm : lastMarks [op, op'] [b, c] = false := by with_unfolding_all rfl) : PE X (.Compare a [op, op'] [b, c] pos) (tChain r r' ta tb tc) := by
  intro pins s σ H Q I h
  refine Compare_chain (thn (ha pins s σ H _ I h) fun v s1 ⟨x, H1, I1, r1, q1⟩ => chain_link (thn (hb pins s1 σ H1 _ I1 q1) fun u s2 ⟨y, H2, I2, r2, q2⟩ =>
    thn (ho pins s2 σ H2 x y v u _ I2 r1 r2 q2) fun d s3 ⟨z, H3, I3, r3, k, e, q3⟩ => ?_)) hm
  subst e
  cases r3
  refine wpAny_truthy_bool ?_
  cases k with
  | false => exact ite_ff ⟨.bl false, H3, I3, rfl, q3⟩
  | true => exact ite_tt (chain_last (thn (hc pins s3 σ H3 _ I3 q3) fun w' s4 ⟨z', H4, I4, r4, q4⟩ => ho' pins s4 σ H4 y z' u w' Q I4 r2 r4 q4))
theorem pt_chain {op op' : CmpOp} {r r' : R2} (ho : OpR X (compareOp op) r) (ho' : OpR X (compareOp op') r') (ha : PE X a ta) (hb : PE X b tb) (hc : PE X c tc)
    (hm : lastMarks [op, op'] [b, c] = false := by with_unfolding_all rfl) : PT X (.Compare a [op, op'] [b, c] pos) (tTest (tChain r r' ta tb tc)) := by
  intro pins s σ H Q I h
  refine isTrue_chain (thn (ha pins s σ H _ I h) fun v s1 ⟨x, H1, I1, r1, q1⟩ => test_link (thn (hb pins s1 σ H1 _ I1 q1) fun u s2 ⟨y, H2, I2, r2, q2⟩ =>
    thn (ho pins s2 σ H2 x y v u _ I2 r1 r2 q2) fun d s3 ⟨z, H3, I3, r3, k, e, q3⟩ => ?_)) hm
  subst e
  cases r3
  refine wpAny_truthy_bool ?_
  cases k with
  | false =>
    obtain ⟨k', e', q'⟩ := q3
    cases e'
    exact ite_ff ⟨H3, I3, q'⟩
  | true =>
    refine ite_tt (test_last (thn (hc pins s3 σ H3 _ I3 q3) fun w' s4 ⟨z', H4, I4, r4, q4⟩ => thn (ho' pins s4 σ H4 y z' u w' _ I4 r2 r4 q4) fun d' s5 ⟨z2, H5, I5, r5, k2, e2, q5⟩ => ?_))
    subst e2
    cases r5
    exact wpAny_truthy_bool ⟨H5, I5, q5⟩
theorem line63 : (sizeLine : Nat) < 2 ^ 63 := by rw [sizeLine_eq]; decide
theorem vals1 {x : V} {us : List Value} (r : Vals [x] us) : ∃ u, us = [u] ∧ RelV x u := by
  cases r with
  | cons r1 r2 => cases r2; exact ⟨_, rfl, r1⟩
theorem vals2 {x y : V} {us : List Value} (r : Vals [x, y] us) : ∃ u w', us = [u, w'] ∧ RelV x u ∧ RelV y w' := by
  cases r with
  | cons r1 r2 =>
    cases r2 with
    | cons r3 r4 => cases r4; exact ⟨_, _, rfl, r1, r3⟩
theorem call_abs : CallR X (.builtin "abs") (fun xs H Q => ∃ i, xs = [.int i] ∧ Q (.int (if i < 0 then -i else i)) H) := by
  intro pins s σ H xs us Q I r h
  obtain ⟨i, rfl, q⟩ := h
  obtain ⟨u, rfl, t, rfl⟩ := vals1 r
  exact call_abs_int fun u tk => ⟨.int (if i < 0 then -i else i), H, I.tok _, ⟨_, rfl⟩, q⟩
theorem call_max2 (hc : X.calm = true) : CallR X (.builtin "max") (fun xs H Q => ∃ i j, xs = [.int i, .int j] ∧ Q (.int (if j > i then j else i)) H) := by
  intro pins s σ H xs us Q I r h
  obtain ⟨i, j, rfl, q⟩ := h
  obtain ⟨u, w', rfl, ⟨t, rfl⟩, ⟨t', rfl⟩⟩ := vals2 r
  refine max_two_ints (I.ok.hd hc) fun h' tk k => ⟨_, H, I.kept k, ?_, q⟩
  by_cases hj : j > i
  · rw [if_pos hj, if_pos hj]; exact ⟨_, rfl⟩
  · rw [if_neg hj, if_neg hj]; exact ⟨_, rfl⟩
theorem call_int1 : CallR X (.type "int") (fun xs H Q => (∃ i, xs = [.int i] ∧ Q (.int i) H) ∨ ∃ k, xs = [.bl k] ∧ Q (.int (if k then 1 else 0)) H) := by
  intro pins s σ H xs us Q I r h
  rcases h with ⟨i, rfl, q⟩ | ⟨k, rfl, q⟩
  · obtain ⟨u, rfl, t, rfl⟩ := vals1 r
    exact call_int_int ⟨.int i, H, I, ⟨_, rfl⟩, q⟩
  · obtain ⟨u, rfl, r1⟩ := vals1 r
    cases r1
    exact call_int_bool ⟨.int (if k then 1 else 0), H, I.tok _, ⟨_, rfl⟩, q⟩
theorem call_divmod : CallR X (.builtin "divmod") (fun xs H Q => ∃ i j, xs = [.int i, .int j] ∧ CDiv i j ∧ ∀ p, H p = none → Q (.ref p) (upd H p (.tup [.int (i / j), .int (i % j)]))) := by
  intro pins s σ H xs us Q I r h
  obtain ⟨i, j, rfl, ⟨h1, h2⟩, q⟩ := h
  obtain ⟨u, w', rfl, ⟨t, rfl⟩, ⟨t', rfl⟩⟩ := vals2 r
  refine divmod_int (by omega) ?_ (.inl (PyProof.noPylong_small (by omega)))
  rw [Int.fdiv_eq_ediv_of_nonneg i (by omega), Int.fmod_eq_emod_of_nonneg i (by omega)]
  have hn : H s.heap.objs.size = none := I.hok.fresh (Nat.le_refl _)
  refine ⟨.ref s.heap.objs.size, _, ?_, rfl, q _ hn⟩
  refine I.laid (fun b o e => Heap.get?_push_of_some _ e) (Nat.le_refl _) ⟨by simp only [List.length_cons, List.length_nil]; rw [sizeLine_eq]; decide, [.int (i / j) s.toks, .int (i % j) (s.toks + 1)], .cons ⟨_, rfl⟩ (.cons ⟨_, rfl⟩ .nil), ?_⟩
  exact ⟨_, Heap.get?_push_size s.heap rfl, rfl, 0, rfl⟩
end
end L2
namespace L2
open PySem PySem.Spec PyProof.Rows
structure ObjM (h : Heap) (x dx C : Addr) (mA : Str → Option Value) : Prop where
  obj : h.get? x = some (PySem.W.instObj C dx)
  ns : h.Ns1 dx mA
  ne : dx ≠ x
theorem lookIn_ns {h : Heap} {dx : Addr} {mA : Str → Option Value} (n : h.Ns1 dx mA) : ∃ od, h.get? dx = some od ∧ ∀ name, PySem.W.lookIn name od = some (mA name) := by
  obtain ⟨o, es, ep, ho, hd, hk, _, hm⟩ := n
  refine ⟨o, ho, fun name => ?_⟩
  have e := hm name
  unfold nsFind findBy at e
  rw [← Array.find?_toList] at e
  unfold PySem.W.lookIn
  rw [hd]
  dsimp only
  split
  · rename_i y q
    rw [q] at e
    exact congrArg some e
  · rename_i q
    rw [q] at e
    have a : es.toList.any (·.refKey) = false := by
      rw [List.any_eq_false]
      intro y hy
      obtain ⟨z, t, hkey⟩ := hk y (Array.mem_toList_iff.mp hy)
      simp [DictEntry.refKey, hkey]
    have a' : ¬ es.toList.any (·.refKey) = true := by rw [a]; exact Bool.false_ne_true
    rw [if_neg a']
    exact congrArg some e
theorem ObjM.look {h : Heap} {x dx C : Addr} {mA : Str → Option Value} (I : ObjM h x dx C mA) : ∃ od, PySem.W.InstAt h x (PySem.W.instObj C dx) C (some od) ∧ ∀ name, PySem.W.lookIn name od = some (mA name) :=
  let ⟨od, ho, hl⟩ := lookIn_ns I.ns
  ⟨od, ⟨I.obj, rfl, rfl, ho⟩, hl⟩
section
variable {prog : Program} {w : World} {A : Around} {E : Value → Shared → Prop} {s : Shared} {K : PySem.W.Frag} {x dx C f : Addr} {mA : Str → Option Value} {name : Str} {v : Value}
theorem get_map {expr : Bool} {Q : Value → Shared → Prop} (X : K.In s.heap) (I : ObjM s.heap x dx C mA) (hg : PySem.W.plainGet K C name = true) (hh : PySem.W.hasDictIn K C = true)
    (ha : PySem.W.findIn K (.ref C) name = some none) (hv : mA name = some v) (hv' : PySem.W.handedIn v = true) (h : Q v { s with toks := s.toks + 1 }) :
    wpAny (model prog w) A (getAttr (.ref x) name expr) Q E s := by
  obtain ⟨od, J, hl⟩ := I.look
  exact PySem.W.get_value X J (PySem.W.plainGet_of hg).1 (PySem.W.findObj_own hh ha rfl (by rw [hl, hv])) hv' h
theorem get_meth {pl : Sem Bool} {Q : Value × List Value → Shared → Prop} (X : K.In s.heap) (I : ObjM s.heap x dx C mA) (hg : PySem.W.plainGet K C name = true)
    (hf : PySem.W.findIn K (.ref C) name = some (some (.ref f))) (ht : PySem.W.isFn K (.ref f) = true) (hv : mA name = none) (h : Q (.ref f, [.ref x]) s) :
    wpAny (model prog w) A (getMethod (.ref x) name pl) Q E s := by
  obtain ⟨od, J, hl⟩ := I.look
  exact PySem.W.method_fn X J (PySem.W.plainGet_of hg).1 (PySem.W.plainGet_of hg).2 hf (beq_iff_eq.mp ht) (by show (PySem.W.lookIn name od).map (·.isSome) = some false; rw [hl, hv]; rfl) h
theorem set_map {ns : List Str} {Q : Unit → Shared → Prop} (X : K.In s.heap) (I : ObjM s.heap x dx C mA)
    (hs : PySem.W.findIn K (.ref C) "__setattr__" = some (some (.builtin "object.__setattr__"))) (hp : PySem.W.plainOver K C = true) (ht : PySem.W.takerIn K C name = some none) (hh : PySem.W.hasDictIn K C = true)
    (hw : PySem.Within mA ns) (hsz : ns.length ≤ sizeLine)
    (h : ∀ h', ObjM h' x dx C (fun y => if y = name then some v else mA y) → Heap.SameBut dx s.heap h' → Q () { s with heap := h', toks := s.toks + 2 }) :
    wpAny (model prog w) A (setAttr (.ref x) name v) Q E s := by
  obtain ⟨od, J, hl⟩ := I.look
  refine PySem.W.set_plain X J hs (PySem.W.osa_open (s := { s with toks := s.toks + 1 }) (r := none) X J hp ht fun b => ?_)
  obtain ⟨cd, hc, hd'⟩ := PySem.W.any_some hh
  have hx : s.heap.get? x = some ⟨.ref C, some dx, .plain, #[]⟩ := I.obj
  refine wpAny_bind (wpAny_pure (wpAny_bind (wpAny_bind (wpAny_loadPart hx (wpAny_bind (PySem.W.Looks.here (s := { s with toks := s.toks + 1 }) (PySem.W.looks_clsIn X hc) ?_))))))
  rw [hd']
  refine wpAny_pure (a := some dx) (wpAny_bind (wpAny_pure (wpAny_bind ?_)))
  refine wpAny_nsSet1 (s := { s with toks := s.toks + 1 }) I.ns fun h' hn2 hs2 => ?_
  obtain ⟨oD, esD, epD, hoD, hdD, hcD⟩ := hn2.count (PySem.Within.cons name v hw)
  refine wpAny_bind (wpAny_lookBehind hoD (by rw [hdD]; exact pastItsLine_dict (Nat.le_trans hcD (by rw [List.length_cons]; omega))) ?_)
  exact wpAny_pure (h _ ⟨(hs2.2 _ (Ne.symm I.ne)).trans I.obj, hn2, I.ne⟩ hs2)
theorem make_map {R : Result → Shared → Prop} {vs : List Value} {kw : List (Str × Value)} (X : K.In s.heap) (hm : PySem.W.makesIn K C = true)
    (hi : PySem.W.findIn K (.ref C) "__init__" = some (some (.ref f))) (hf : PySem.W.typeIn K (.ref f) = some (.type "function"))
    (h : codeAny (model prog w) (A.under (.builtin "type.__call__" ⟨.ref C :: vs, kw⟩)) (.call (.ref f) ⟨.ref (s.heap.objs.size + 1) :: vs, kw⟩) (PySem.W.InitBack (s.heap.objs.size + 1) R)
      { s with heap := (s.heap.push PySem.W.emptyDict).push (PySem.W.instObj C s.heap.objs.size) }) :
    codeAny (model prog w) A (.call (.ref C) ⟨vs, kw⟩) R s := by
  obtain ⟨hh, g, d, t, os⟩ := s
  exact PySem.W.make_core (PySem.W.makes_of X hm) (PySem.W.looks_findIn X hi) (fun self => PySem.W.bind_fn X self hf) (.inl rfl) h
end
def putF (f : Str) (v : V) : List (Str × V) → List (Str × V)
  | [] => [(f, v)]
  | (g, x) :: r => if g = f then (g, v) :: r else (g, x) :: putF f v r
theorem lookup_putF (f g : Str) (v : V) : ∀ fs : List (Str × V), (putF f v fs).lookup g = if g = f then some v else fs.lookup g
  | [] => by
    show List.lookup g [(f, v)] = _
    by_cases h : g = f
    · have hb : (g == f) = true := beq_iff_eq.mpr h
      simp only [List.lookup, hb, if_pos h]
    · have hb : (g == f) = false := beq_eq_false_iff_ne.mpr h
      simp only [List.lookup, hb, if_neg h]
  | (k, x) :: r => by
    have ih := lookup_putF f g v r
    rw [show putF f v ((k, x) :: r) = (if k = f then (k, v) :: r else (k, x) :: putF f v r) from rfl]
    by_cases hk : k = f
    · rw [if_pos hk]
      by_cases h : g = k
      · have hb : (g == k) = true := beq_iff_eq.mpr h
        simp only [List.lookup, hb, if_pos (h.trans hk)]
      · have hb : (g == k) = false := beq_eq_false_iff_ne.mpr h
        simp only [List.lookup, hb, if_neg (fun e : g = f => h (e.trans hk.symm))]
    · rw [if_neg hk]
      by_cases h : g = k
      · have hb : (g == k) = true := beq_iff_eq.mpr h
        simp only [List.lookup, hb, if_neg (fun e : g = f => hk (h.symm.trans e))]
      · have hb : (g == k) = false := beq_eq_false_iff_ne.mpr h
        simp only [List.lookup, hb]
        exact ih
theorem keys_putF (f : Str) (v : V) : ∀ fs : List (Str × V), f ∈ (putF f v fs).map (·.1) ∧ ∀ g, g ∈ fs.map (·.1) → g ∈ (putF f v fs).map (·.1)
  | [] => ⟨by simp [putF], fun g h => by simp at h⟩
  | (k, x) :: r => by
    obtain ⟨i1, i2⟩ := keys_putF f v r
    rw [show putF f v ((k, x) :: r) = (if k = f then (k, v) :: r else (k, x) :: putF f v r) from rfl]
    by_cases hk : k = f
    · rw [if_pos hk]
      subst hk
      exact ⟨by simp, fun g h => by simpa using h⟩
    · rw [if_neg hk]
      refine ⟨?_, fun g h => ?_⟩
      · rw [List.map_cons]
        exact List.mem_cons_of_mem _ i1
      · rw [List.map_cons] at h ⊢
        rcases List.mem_cons.mp h with e | e
        · exact List.mem_cons.mpr (.inl e)
        · exact List.mem_cons_of_mem _ (i2 g e)
theorem length_putF (f : Str) (v : V) : ∀ fs : List (Str × V), (putF f v fs).length ≤ fs.length + 1
  | [] => by simp [putF]
  | (k, x) :: r => by
    have ih := length_putF f v r
    rw [show putF f v ((k, x) :: r) = (if k = f then (k, v) :: r else (k, x) :: putF f v r) from rfl]
    by_cases hk : k = f
    · rw [if_pos hk, List.length_cons, List.length_cons]; omega
    · rw [if_neg hk, List.length_cons, List.length_cons]; omega
theorem RelO.some_of {v : V} {o : Option Value} (r : RelO (some v) o) : ∃ u, o = some u ∧ RelV v u := by
  cases o with
  | none => exact (show False from r).elim
  | some u => exact ⟨u, rfl, r⟩
theorem RelO.none_of {o : Option Value} (r : RelO none o) : o = none := by
  cases o with
  | none => rfl
  | some u => exact (show False from r).elim
theorem handed_of {v : V} {u : Value} (r : RelV v u) : PySem.W.handedIn u = true := by
  cases v with
  | non => cases (show u = Value.none from r); rfl
  | bl b => cases (show u = Value.bool b from r); rfl
  | int i => obtain ⟨t, e⟩ := (show ∃ t, u = Value.int i t from r); cases e; rfl
  | str x => obtain ⟨t, e⟩ := (show ∃ t, u = Value.str x t from r); cases e; rfl
  | byt b => obtain ⟨t, e⟩ := (show ∃ t, u = Value.bytes b t from r); cases e; rfl
  | flt b => obtain ⟨t, e⟩ := (show ∃ t, u = Value.float b t from r); cases e; rfl
  | ref a => cases (show u = Value.ref a from r); rfl
  | ty n => cases (show u = Value.type n from r); rfl
section
variable {P : Program} {w : World} {H H' : Hp} {h h' : Heap} {a C dx : Addr} {fs fs' : List (Str × V)}
theorem ins_get (hok : HOk P w H h) (e : H a = some (.ins C dx fs)) : ∃ mA, ObjM h a dx C mA ∧ (∀ f, RelO (fs.lookup f) (mA f)) ∧ PySem.Within mA (fs.map (·.1)) ∧ fs.length ≤ 1000 ∧ H dx = some (.own a) := by
  obtain ⟨d, z, ne, ob, mA, n, r, q⟩ := (show ObjOk P w H h a (.ins C dx fs) from hok a _ e)
  exact ⟨mA, ⟨ob, n, ne⟩, r, q, z, d⟩
end
structure Cls (K : PySem.W.Frag) (C : Addr) : Prop where
  pg : PySem.W.plainGet K C Str.empty = true
  hd : PySem.W.hasDictIn K C = true
  po : PySem.W.plainOver K C = true
  sa : PySem.W.findIn K (.ref C) "__setattr__" = some (some (.builtin "object.__setattr__"))
theorem Cls.get {K : PySem.W.Frag} {C : Addr} (c : Cls K C) (f : Str) : PySem.W.plainGet K C f = true := c.pg
def NoAttr (K : PySem.W.Frag) (C : Addr) (f : Str) : Prop := PySem.W.findIn K (.ref C) f = some none
theorem NoAttr.taker {K : PySem.W.Frag} {C : Addr} {f : Str} (n : NoAttr K C f) : PySem.W.takerIn K C f = some none := by
  unfold PySem.W.takerIn
  rw [show PySem.W.findIn K (.ref C) f = some none from n]
  rfl
structure Meth (K : PySem.W.Frag) (C : Addr) (m : Str) (f : Addr) : Prop where
  at_ : PySem.W.findIn K (.ref C) m = some (some (.ref f))
  fn : PySem.W.isFn K (.ref f) = true
  kp : PySem.W.keepIn K (.ref f) = true
section
variable {X : Cx} {pins : List (Addr × Obj)} {σ : St} {H : Hp} {s : Shared} {a C dx : Addr} {fs : List (Str × V)} {f : Str} {v : V} {A : Around} {E : Value → Shared → Prop}
theorem getattr_ok {b : Bool} {Q : Value → Shared → Prop} (I : Inv X pins σ H s) (e : H a = some (.ins C dx fs)) (c : Cls X.K C) (n : NoAttr X.K C f) (l : fs.lookup f = some v)
    (h : ∀ u s', Inv X pins σ H s' → RelV v u → Q u s') : wpAny (model X.prog X.w) A (getAttr (.ref a) f b) Q E s := by
  obtain ⟨mA, O, r, _, _, _⟩ := ins_get I.hok e
  obtain ⟨u, hu, ru⟩ := RelO.some_of (v := v) (o := mA f) (by rw [← l]; exact r f)
  exact get_map I.kIn O (c.get f) c.hd n hu (handed_of ru) (h u _ (I.tok _) ru)
theorem getmeth_ok {m : Str} {g : Addr} {pl : Sem Bool} {Q : Value × List Value → Shared → Prop} (I : Inv X pins σ H s) (e : H a = some (.ins C dx fs)) (c : Cls X.K C) (k : Meth X.K C m g) (l : fs.lookup m = none)
    (h : Q (.ref g, [.ref a]) s) : wpAny (model X.prog X.w) A (getMethod (.ref a) m pl) Q E s := by
  obtain ⟨mA, O, r, _, _, _⟩ := ins_get I.hok e
  have hn : mA m = none := RelO.none_of (by rw [← l]; exact r m)
  exact get_meth I.kIn O (c.get m) k.at_ k.fn hn h
theorem setattr_ok {y : V} {u : Value} {Q : Unit → Shared → Prop} (I : Inv X pins σ H s) (e : H a = some (.ins C dx fs)) (c : Cls X.K C) (n : NoAttr X.K C f) (hl : fs.length < 1000) (ry : RelV y u)
    (h : ∀ s', Inv X pins σ (upd H a (.ins C dx (putF f y fs))) s' → Q () s') : wpAny (model X.prog X.w) A (setAttr (.ref a) f u) Q E s := by
  obtain ⟨mA, O, r, wi, _, ho⟩ := ins_get I.hok e
  have hz : (fs.map (·.1)).length ≤ sizeLine := by rw [List.length_map, sizeLine_eq]; omega
  refine set_map I.kIn O c.sa c.po n.taker c.hd wi hz fun h' O' sb => h _ ?_
  have hd : ∃ o, h'.get? dx = some o := let ⟨o, _, _, e', _⟩ := O'.ns; ⟨o, e'⟩
  refine I.write (x := a) (e := dx) (by rw [e]; exact True.intro) (.inr ho) (fun b q hb z => (sb.2 b hb).trans z) hd ?_
  refine ⟨by rw [upd_ne O.ne]; exact ho, ?_, O.ne, O'.obj, _, O'.ns, fun g => ?_, fun g hg => ?_⟩
  · have := length_putF f y fs; omega
  · show RelO ((putF f y fs).lookup g) (if g = f then some u else mA g)
    rw [lookup_putF]
    by_cases q : g = f
    · rw [if_pos q, if_pos q]; exact ry
    · rw [if_neg q, if_neg q]; exact r g
  · by_cases q : g = f
    · rw [q]; exact (keys_putF f y fs).1
    · refine (keys_putF f y fs).2 g (wi g fun z => hg ?_)
      show (if g = f then some u else mA g) = none
      rw [if_neg q]; exact z
theorem Inv.made (I : Inv X pins σ H s) : Inv X pins σ (upd (upd H s.heap.objs.size (.own (s.heap.objs.size + 1))) (s.heap.objs.size + 1) (.ins C s.heap.objs.size []))
    { s with heap := (s.heap.push PySem.W.emptyDict).push (PySem.W.instObj C s.heap.objs.size) } := by
  have e1 : (s.heap.push PySem.W.emptyDict).get? s.heap.objs.size = some PySem.W.emptyDict := Heap.get?_push_size s.heap rfl
  have e2 : ((s.heap.push PySem.W.emptyDict).push (PySem.W.instObj C s.heap.objs.size)).get? (s.heap.objs.size + 1) = some (PySem.W.instObj C s.heap.objs.size) := by
    have := Heap.get?_push_size (s.heap.push PySem.W.emptyDict) (o := PySem.W.instObj C s.heap.objs.size) rfl
    rwa [Heap.size_push] at this
  have e3 : (s.heap.push PySem.W.emptyDict).Ns s.heap.objs.size (fun _ => none) := ⟨PySem.W.emptyDict, #[], _, e1, rfl, (fun e he => absurd he (by simp)), fun _ => rfl⟩
  have I1 := I.laid (a := s.heap.objs.size) (o := .own (s.heap.objs.size + 1)) (h' := s.heap.push PySem.W.emptyDict) (t' := s.toks) (fun b u q => Heap.get?_push_of_some _ q) (Nat.le_refl _) ⟨_, e1⟩
  refine I1.laid (a := s.heap.objs.size + 1) (o := .ins C s.heap.objs.size []) (t' := s.toks) (fun b u q => Heap.get?_push_of_some _ q) (Nat.le_of_eq (Heap.size_push _ _)) ?_
  have ne : s.heap.objs.size ≠ s.heap.objs.size + 1 := Nat.ne_of_lt (Nat.lt_succ_self _)
  refine ⟨by rw [upd_ne ne, upd_same], Nat.zero_le _, ne, e2, fun _ => none, (Heap.Ns1.of_empty e3).at fun o q => Heap.get?_push_of_some _ q, fun _ => True.intro, fun y hy => absurd rfl hy⟩
theorem attr_of {prog : Program} {w : World} {env : Env} {e : Expr} {f : Str} {pos : Pos} {s : Shared} {Q : Value → Shared → Prop} (hb : attributeBase e f env (eval e env) = eval e env)
    (h : wpAny (model prog w) A (eval e env) (fun o s₁ => wpAny (model prog w) A (getAttr o f true) Q E s₁) E s) : wpAny (model prog w) A (eval (.Attribute e f pos) env) Q E s :=
  Attribute_any_ h (by rw [arm_eval_Attribute, hb])
end
def tFld (K : PySem.W.Frag) (ta : TE) (f : Str) : TE := fun σ H Q => ta σ H fun x H1 => ∃ a C dx fs v, x = .ref a ∧ H1 a = some (.ins C dx fs) ∧ Cls K C ∧ NoAttr K C f ∧ fs.lookup f = some v ∧ Q v H1
def sFld (K : PySem.W.Frag) (ta tv : TE) (f : Str) : TS := fun D σ H => tv σ H fun y H1 => ta σ H1 fun x H2 => ∃ a C dx fs, x = .ref a ∧ H2 a = some (.ins C dx fs) ∧ Cls K C ∧ NoAttr K C f ∧ fs.length < 1000 ∧
  D.nx σ (upd H2 a (.ins C dx (putF f y fs)))
def InOp (X : Cx) (op : Operator) (rd : V → V → Hp → VK → Prop) : Prop :=
  ∀ (pins : List (Addr × Obj)) (s : Shared) (σ : St) (H : Hp) (x y : V) (u v : Value) (Q : VK), Inv X pins σ H s → RelV x u → RelV y v → rd x y H Q → wpAny (model X.prog X.w) X.A (inplaceOp op u v) (EP X pins σ Q) X.xe s
section
variable {X : Cx} {o e value : Expr} {f : Str} {pos pos' tpos : Pos} {ta tv : TE}
theorem pe_fld (he : PE X e ta) (hb : attributeBase e f X.env (eval e X.env) = eval e X.env) : PE X (.Attribute e f pos) (tFld X.K ta f) := by
  intro pins s σ H Q I h
  refine attr_of hb (thn (he pins s σ H _ I h) fun u s1 ⟨x, H1, I1, rx, a, C, dx, fs, v, ex, ea, c, n, l, q⟩ => ?_)
  subst ex
  obtain rfl : u = Value.ref a := rx
  exact getattr_ok I1 ea c n l fun u' s2 I2 ru => ⟨v, H1, I2, ru, q⟩
theorem ps_fld (ha : PE X o ta) (hv : PE X value tv) (hs : swapsWith value (some (.Attribute o f pos')) pos.line X.env = pure false) : PS X (.Assign [.Attribute o f pos'] value pos) (sFld X.K ta tv f) := by
  intro pins s σ H D I h
  refine plainObj_wpAny_Assign_Attribute (thn (hv pins s σ H _ I h) fun u s1 ⟨y, H1, I1, ry, q⟩ => thn (ha pins s1 σ H1 _ I1 q) fun ov s2 ⟨x, H2, I2, rx, a, C, dx, fs, ex, ea, c, n, l, q2⟩ => ?_) hs
  subst ex
  obtain rfl : ov = Value.ref a := rx
  exact setattr_ok I2 ea c n l ry fun s3 I3 => ⟨σ, _, I3, q2⟩
def rAdd : V → V → Hp → VK → Prop := fun x y H Q => ∃ i j, x = .int i ∧ y = .int j ∧ Q (.int (i + j)) H
theorem in_add : InOp X .Add rAdd := by
  rintro pins s σ H x y u v Q I rx ry ⟨i, j, rfl, rfl, q⟩
  obtain ⟨t, rfl⟩ := (show ∃ t, u = Value.int i t from rx)
  obtain ⟨t', rfl⟩ := (show ∃ t', v = Value.int j t' from ry)
  exact PyProof.Rows.iadd_int ⟨.int (i + j), H, I.tok _, ⟨_, rfl⟩, q⟩
end
end L2
namespace L2
open PySem PySem.Spec PyProof.Rows
structure Room (k : Nat) (A : Around) : Prop where
  hd : A.handled = none
  dp : A.depth + 3 * k + 5 < recursionLimit
  un : A.units + 16 * k + 200 < cLine
theorem Room.mono {j k : Nat} {A : Around} (r : Room k A) (h : j ≤ k) : Room j A := ⟨r.hd, by have := r.dp; omega, by have := r.un; omega⟩
theorem Room.deeper {k : Nat} {A : Around} (r : Room (k + 1) A) (env : Env) : Room k (A.deeper env) :=
  ⟨r.hd, by have := r.dp; show A.depth + 1 + 3 * k + 5 < _; omega, by have := r.un; show A.units + 3 + 16 * k + 200 < _; omega⟩
theorem make_depth {A : Around} {C : Addr} {us : List Value} {kw : List (Str × Value)} : (A.under (.builtin "type.__call__" ⟨.ref C :: us, kw⟩)).depth = A.depth + 1 := by
  first | rfl | simp [Around.under, Code.weight, Code.isCreation, Code.isGuard, Code.isCaller, Code.frames, Code.isFrame, guardIds]
theorem make_units {A : Around} {C : Addr} {us : List Value} {kw : List (Str × Value)} : (A.under (.builtin "type.__call__" ⟨.ref C :: us, kw⟩)).units = A.units + 1 := by
  first | rfl | simp [Around.under, Code.cUnits, Code.frames, Code.isFrame]
theorem Room.make {k : Nat} {A : Around} (r : Room (k + 1) A) (C : Addr) (us : List Value) (kw : List (Str × Value)) : Room k (A.under (.builtin "type.__call__" ⟨.ref C :: us, kw⟩)) :=
  ⟨r.hd, by have := r.dp; rw [make_depth]; omega, by have := r.un; rw [make_units]; omega⟩
theorem Room.depth {k : Nat} {A : Around} (r : Room k A) : A.depth < recursionLimit := by have := r.dp; omega
theorem Room.units {k : Nat} {A : Around} (r : Room k A) : A.units + 64 < cLine := by have := r.un; omega
def tNil : TA := fun _ H Q => Q [] H
def tCons (ta : TE) (tr : TA) : TA := fun σ H Q => ta σ H fun x H1 => tr σ H1 fun xs H2 => Q (x :: xs) H2
section
variable {X : Cx} {e : Expr} {es : List Expr} {te : TE} {t : TA} {pos : Pos}
theorem pa_nil : PA X [] tNil := fun _ _ _ _ H Q I h => Calls.spliced_nil ⟨[], H, I, .nil, h⟩
theorem pa_cons (ha : PE X e te) (hr : PA X es t) (hs : starEach (e :: es) X.env = (false, eval e X.env) :: starEach es X.env := by rfl) : PA X (e :: es) (tCons te t) := by
  intro pos pins s σ H Q I h
  rw [hs]
  show wpAny _ _ (spliced ((false, eval e X.env) :: backTo pos (starEach es X.env))) _ _ s
  refine Calls.spliced_cons (thn (ha pins s σ H _ I h) fun u s1 ⟨x, H1, I1, r1, q1⟩ => ?_)
  exact thn (hr pos pins s1 σ H1 _ I1 q1) fun us s2 ⟨xs, H2, I2, r2, q2⟩ => ⟨x :: xs, H2, I2, .cons r1 r2, q2⟩
def tTup (t : TA) : TE := fun σ H Q => t σ H fun xs H1 => xs.length ≤ sizeLine ∧ ∀ p, H1 p = none → Q (.ref p) (upd H1 p (.tup xs))
def tLst (t : TA) : TE := fun σ H Q => t σ H fun xs H1 => xs.length ≤ sizeLine ∧ ∀ p, H1 p = none → Q (.ref p) (upd H1 p (.lst xs))
theorem pe_tup {x1} (h : PA X es t) : PE X (.Tuple es x1 pos) (tTup t) := by
  intro pins s σ H Q I hq
  refine wpAny_Tuple_spliced (thn (h pos pins s σ H _ I hq) fun us s1 ⟨xs, H1, I1, r, z, q⟩ => ⟨by rw [← r.length]; exact z, ?_⟩)
  have hf : H1 s1.heap.objs.size = none := I1.hok.fresh (Nat.le_refl _)
  refine ⟨.ref s1.heap.objs.size, upd H1 s1.heap.objs.size (.tup xs), I1.laid (t' := s1.toks) (fun b u e => Heap.get?_push_of_some _ e) (Nat.le_refl _) ?_, rfl, q _ hf⟩
  exact ⟨z, us, r, ⟨_, Heap.get?_push_size _ rfl, rfl, _, rfl⟩⟩
theorem pe_lst (h : PA X es t) : PE X (.List es pos) (tLst t) := by
  intro pins s σ H Q I hq
  refine wpAny_List_spliced (thn (h pos pins s σ H _ I hq) fun us s1 ⟨xs, H1, I1, r, z, q⟩ => ⟨by rw [← r.length]; exact z, ?_⟩)
  have hf : H1 s1.heap.objs.size = none := I1.hok.fresh (Nat.le_refl _)
  refine ⟨.ref s1.heap.objs.size, upd H1 s1.heap.objs.size (.lst xs), I1.laid (t' := s1.toks) (fun b u e => Heap.get?_push_of_some _ e) (Nat.le_refl _) ?_, rfl, q _ hf⟩
  exact ⟨z, us, 0, r, Heap.get?_push_size _ rfl⟩
end
abbrev Sp := List V → Hp → VK → XK → Prop
abbrev CXT := List Env → Hp → Shared → XK → Value → Shared → Prop
structure Env0 (P : Program) (w : World) (K : PySem.W.Frag) (mg : Str → Option Value) (base : Heap) (A : Around) (outer : List Env) (s : Shared) (H : Hp) : Prop where
  frames : A.frames = some outer
  mod : Mod K mg base
  bs : ∀ b o, base.get? b = some o → s.heap.get? b = some o ∧ H b = none
  bsz : base.objs.size ≤ s.heap.objs.size
  funs : s.heap.FunFrames base outer
  frf : ∀ b ∈ frs outer, H b = none
  hok : HOk P w H s.heap
  bare : AllBare s.gens
def CE (outer : List Env) (P : Program) (w : World) (H : Hp) (s : Shared) (Q : VK) (u : Value) (s' : Shared) : Prop :=
  ∃ v H', s'.os = s.os ∧ AllBare s'.gens ∧ Un (frs outer) [] H H' s.heap s'.heap ∧ HOk P w H' s'.heap ∧ RelV v u ∧ Q v H'
def CR (CX : CXT) (outer : List Env) (P : Program) (w : World) (H : Hp) (s : Shared) (Q : VK) (E : XK) (r : Result) (s' : Shared) : Prop :=
  match r with
  | .ok (.ret u) => CE outer P w H s Q u s'
  | .ok _ => False
  | .error e => CX outer H s E e s'
structure FnOk (P : Program) (w : World) (K : PySem.W.Frag) (mg : Str → Option Value) (base : Heap) (CX : CXT) (k : Nat) (f : Addr) (fd : FuncData) (ps : List Str) (sp : Sp) : Prop where
  len : ∀ vs H Q E, sp vs H Q E → vs.length = ps.length
  run : ∀ (A : Around) (outer : List Env) (s : Shared) (H : Hp) (args : Args) (us : List Value) (vs : List V) (Q : VK) (E : XK), Room k A → Env0 P w K mg base A outer s H → BindsTo s fd args (ps.zip us) → Vals vs us → sp vs H Q E →
    codeAny (model P w) A (.call (.ref f) args) (CR CX outer P w H s Q E) s
theorem Env0.make {P : Program} {w : World} {K : PySem.W.Frag} {mg : Str → Option Value} {base : Heap} {A : Around} {outer : List Env} {s : Shared} {H : Hp} (e : Env0 P w K mg base A outer s H) (C : Addr) (us : List Value) (kw : List (Str × Value)) :
    Env0 P w K mg base (A.under (.builtin "type.__call__" ⟨.ref C :: us, kw⟩)) outer s H := ⟨by first | exact e.frames | (simpa [Around.under, Code.envs, Code.isFrame, pushEnvs] using e.frames), e.mod, e.bs, e.bsz, e.funs, e.frf, e.hok, e.bare⟩
section
variable {X : Cx} {pins : List (Addr × Obj)} {σ : St} {H : Hp} {s s' : Shared}
theorem Inv.env0 (I : Inv X pins σ H s) : Env0 X.prog X.w X.K X.mg X.base X.A X.stack s H :=
  ⟨I.ok.frames, I.ok.mod, I.bs, Nat.le_trans I.ok.bsz I.sz, I.stack, I.stkFree, I.hok, I.bare⟩
theorem Inv.after {Q : VK} {u : Value} (I : Inv X pins σ H s) (h : CE X.stack X.prog X.w H s Q u s') : EP X pins σ Q u s' := by
  obtain ⟨v, H', os, bare, un, hok, r, q⟩ := h
  obtain ⟨hh, g, d, t, os'⟩ := s'
  obtain rfl : os' = s.os := os
  exact ⟨v, H', I.call (h' := hh) (g' := g) (d' := d) (t' := t) (ch := []) un hok bare (fun b z => absurd z (by simp)), r, q⟩
end
def tCall (sp : Sp) (dvs : List V) (E : XK) (t : TA) : TE := fun σ H Q => t σ H fun vs H1 => sp (vs ++ dvs) H1 Q E
def tMeth (C : Addr) (m : Str) (sp : Sp) (dvs : List V) (E : XK) (ta : TE) (t : TA) : TE := fun σ H Q => ta σ H fun x H1 => ∃ a dx fs, x = .ref a ∧ H1 a = some (.ins C dx fs) ∧ fs.lookup m = none ∧
  t σ H1 fun vs H2 => sp (x :: (vs ++ dvs)) H2 Q E
def tMake (C : Addr) (sp : Sp) (dvs : List V) (E : XK) (t : TA) : TE := fun σ H Q => t σ H fun vs H1 => ∀ x dx, H1 x = none → H1 dx = none → dx ≠ x →
  sp (.ref x :: (vs ++ dvs)) (upd (upd H1 dx (.own x)) x (.ins C dx [])) (fun v H2 => v = .non ∧ Q (.ref x) H2) E
def Binds (K : PySem.W.Frag) (fd : FuncData) (ps : List Str) (ds : List Value) : Prop :=
  ∀ (s : Shared) (us : List Value), K.In s.heap → (us ++ ds).length = ps.length → BindsTo s fd ⟨us, []⟩ (ps.zip (us ++ ds))
theorem Binds.all {K : PySem.W.Frag} {fd : FuncData} {ps : List Str} (h : ∀ us : List Value, us.length = ps.length → bindArgs fd ⟨us, []⟩ = pure (ps.zip us)) : Binds K fd ps [] := fun s us _ hl => by
  rw [List.append_nil] at hl ⊢
  exact .of_eq (h us hl)
def Passes (CX : CXT) (X : Cx) (E : XK) : Prop := ∀ (pins : List (Addr × Obj)) (σ : St) (H : Hp) (s : Shared) (e : Value) (s' : Shared), Inv X pins σ H s → CX X.stack H s E e s' → X.xe e s'
section
variable {X : Cx} {CX : CXT} {k : Nat} {f C : Addr} {fd : FuncData} {ps : List Str} {sp : Sp} {dvs : List V} {ds : List Value} {E : XK} {x m : Str} {p pos apos : Pos} {e o : Expr} {es : List Expr} {ta : TE} {t : TA}
theorem run_fn {pins : List (Addr × Obj)} {σ : St} {H : Hp} {s : Shared} {Q : VK} {us : List Value} {vs : List V} (F : FnOk X.prog X.w X.K X.mg X.base CX k f fd ps sp) (hr : Room k X.A) (hb : Binds X.K fd ps ds) (hd : Vals dvs ds) (hx : Passes CX X E)
    (I : Inv X pins σ H s) (r : Vals vs us) (h : sp (vs ++ dvs) H Q E) : wpAny (model X.prog X.w) X.A (call (.ref f) us) (EP X pins σ Q) X.xe s := by
  have r2 : Vals (vs ++ dvs) (us ++ ds) := r.append hd
  have hl : (us ++ ds).length = ps.length := by rw [← r2.length]; exact F.len _ _ _ _ h
  refine wpAny_call (codeAny_mono (F.run X.A X.stack s H ⟨us, []⟩ (us ++ ds) (vs ++ dvs) Q E hr I.env0 (hb s us I.kIn hl) r2 h) fun r s' hq => ?_)
  cases r with
  | error e => exact hx pins σ H s e s' I hq
  | ok fl =>
    cases fl with
    | ret u => exact I.after hq
    | next => exact False.elim hq
    | brk => exact False.elim hq
    | cont => exact False.elim hq
theorem pe_call (F : FnOk X.prog X.w X.K X.mg X.base CX k f fd ps sp) (hr : Room k X.A) (hg : Gl X x) (hm : X.mg x = some (.ref f)) (hk : PySem.W.keepIn X.K (.ref f) = true) (hb : Binds X.K fd ps ds) (hd : Vals dvs ds) (hx : Passes CX X E)
    (ha : PA X (e :: es) t) (hdb : (x == ("__debug__" : Str)) = false := by decide) (he : starEach (e :: es) X.env = (false, eval e X.env) :: starEach es X.env := by rfl) (hpl : (backTo pos (starEach es X.env)).any (·.1) = false := by rfl) :
    PE X (.Call (.Name x p) (e :: es) [] pos) (tCall sp dvs E t) := by
  intro pins s σ H Q I h
  refine wpAny_Call_Name_kw (ld_glob I hg hm ?_ hdb)
  refine PySem.W.callWith_K (h₀ := X.base) I.ok.mod.kin hk (thn (ha pos pins s σ H _ I h) fun us s1 ⟨vs, H1, I1, r, q⟩ => ⟨I1.kIn, ?_⟩) he hpl
  exact run_fn F hr hb hd hx I1 r q
theorem pe_meth {pl : Sem Bool} (he : PE X o ta) (c : Cls X.K C) (hm : Meth X.K C m f) (F : FnOk X.prog X.w X.K X.mg X.base CX k f fd ps sp) (hr : Room k X.A) (hb : Binds X.K fd ps ds) (hd : Vals dvs ds) (hx : Passes CX X E) (ha : PA X (e :: es) t)
    (hst : starEach (e :: es) X.env = (false, eval e X.env) :: starEach es X.env := by rfl) (hpl : (backTo pos (starEach es X.env)).any (·.1) = false := by rfl)
    (ht : eval (.Call (.Attribute o m apos) (e :: es) [] pos) X.env = (do
      let ov ← eval o X.env
      standAt apos.atName
      let (f, first) ← holding [ov] (getMethod ov m pl)
      callWith pos f first (backTo pos (starEach (e :: es) X.env)) (backToKw pos (keywordEach [] X.env))) := by rfl) :
    PE X (.Call (.Attribute o m apos) (e :: es) [] pos) (tMeth C m sp dvs E ta t) := by
  intro pins s σ H Q I h
  refine PySem.W.methodCall_KW (pl := pl) (thn (he pins s σ H _ I h) fun u s1 ⟨x, H1, I1, rx, a, dx, fs, ex, ea, l, q⟩ => ?_) ht
  subst ex
  obtain rfl : u = Value.ref a := rx
  refine getmeth_ok I1 ea c hm l ?_
  refine PySem.W.callWith_K (first := [.ref a]) (h₀ := X.base) I.ok.mod.kin hm.kp (thn (ha pos pins s1 σ H1 _ I1 q) fun us s2 ⟨vs, H2, I2, r, q2⟩ => ⟨I2.kIn, ?_⟩) hst hpl
  exact run_fn (us := .ref a :: us) (vs := .ref a :: vs) F hr hb hd hx I2 (.cons rfl r) q2
theorem pe_meth0 {pl : Sem Bool} (he : PE X o ta) (c : Cls X.K C) (hm : Meth X.K C m f) (F : FnOk X.prog X.w X.K X.mg X.base CX k f fd ps sp) (hr : Room k X.A) (hb : Binds X.K fd ps ds) (hd : Vals dvs ds) (hx : Passes CX X E)
    (ht : eval (.Call (.Attribute o m apos) [] [] pos) X.env = (do
      let ov ← eval o X.env
      standAt apos.atName
      let (f, first) ← holding [ov] (getMethod ov m pl)
      callWith pos f first (backTo pos (starEach [] X.env)) (backToKw pos (keywordEach [] X.env))) := by rfl) :
    PE X (.Call (.Attribute o m apos) [] [] pos) (tMeth C m sp dvs E ta tNil) := by
  intro pins s σ H Q I h
  refine PySem.W.methodCall_KW (pl := pl) (thn (he pins s σ H _ I h) fun u s1 ⟨x, H1, I1, rx, a, dx, fs, ex, ea, l, q⟩ => ?_) ht
  subst ex
  obtain rfl : u = Value.ref a := rx
  refine getmeth_ok I1 ea c hm l ?_
  exact PySem.W.callWith_K0 (first := [.ref a]) I1.kIn hm.kp (run_fn (us := [.ref a]) (vs := [.ref a]) F hr hb hd hx I1 (.cons rfl .nil) q)
structure Mk (K : PySem.W.Frag) (C f : Addr) : Prop where
  makes : PySem.W.makesIn K C = true
  init : PySem.W.findIn K (.ref C) "__init__" = some (some (.ref f))
  fn : PySem.W.isFn K (.ref f) = true
  kp : PySem.W.keepIn K (.ref C) = true
theorem run_make {pins : List (Addr × Obj)} {σ : St} {H : Hp} {s : Shared} {Q : VK} {us : List Value} {vs : List V} (M : Mk X.K C f) (F : FnOk X.prog X.w X.K X.mg X.base CX k f fd ps sp) (hr : Room (k + 1) X.A) (hb : Binds X.K fd ps ds) (hd : Vals dvs ds)
    (hx : Passes CX X E) (I : Inv X pins σ H s) (r : Vals vs us)
    (h : ∀ x dx, H x = none → H dx = none → dx ≠ x → sp (.ref x :: (vs ++ dvs)) (upd (upd H dx (.own x)) x (.ins C dx [])) (fun v H2 => v = .non ∧ Q (.ref x) H2) E) :
    wpAny (model X.prog X.w) X.A (call (.ref C) us) (EP X pins σ Q) X.xe s := by
  have hq := h (s.heap.objs.size + 1) s.heap.objs.size (I.hok.fresh (Nat.le_succ _)) (I.hok.fresh (Nat.le_refl _)) (Nat.ne_of_lt (Nat.lt_succ_self _))
  have I2 := Inv.made (C := C) I
  have r2 : Vals (V.ref (s.heap.objs.size + 1) :: (vs ++ dvs)) (Value.ref (s.heap.objs.size + 1) :: (us ++ ds)) := .cons rfl (r.append hd)
  have hl : (Value.ref (s.heap.objs.size + 1) :: us ++ ds).length = ps.length := by
    have e := r2.length
    rw [F.len _ _ _ _ hq] at e
    exact e.symm
  refine wpAny_call (make_map (f := f) I.kIn M.makes M.init (beq_iff_eq.mp M.fn) (codeAny_mono (F.run _ X.stack _ _ ⟨Value.ref (s.heap.objs.size + 1) :: us, []⟩ (Value.ref (s.heap.objs.size + 1) :: (us ++ ds)) _ _ E (hr.make C us [])
    (I2.env0.make C us []) (hb _ (Value.ref (s.heap.objs.size + 1) :: us) I2.kIn hl) r2 hq) fun r s' hq' => ?_))
  cases r with
  | error e => exact hx pins σ _ _ e s' I2 hq'
  | ok fl =>
    cases fl with
    | ret u =>
      obtain ⟨v, H', I3, rv, ev, q3⟩ := I2.after hq'
      subst ev
      exact ⟨rv, ⟨V.ref (s.heap.objs.size + 1), H', I3, rfl, q3⟩⟩
    | next => exact False.elim hq'
    | brk => exact False.elim hq'
    | cont => exact False.elim hq'
theorem pe_make (M : Mk X.K C f) (F : FnOk X.prog X.w X.K X.mg X.base CX k f fd ps sp) (hr : Room (k + 1) X.A) (hg : Gl X x) (hm : X.mg x = some (.ref C)) (hb : Binds X.K fd ps ds) (hd : Vals dvs ds) (hx : Passes CX X E)
    (ha : PA X (e :: es) t) (hdb : (x == ("__debug__" : Str)) = false := by decide) (he : starEach (e :: es) X.env = (false, eval e X.env) :: starEach es X.env := by rfl) (hpl : (backTo pos (starEach es X.env)).any (·.1) = false := by rfl) :
    PE X (.Call (.Name x p) (e :: es) [] pos) (tMake C sp dvs E t) := by
  intro pins s σ H Q I h
  refine wpAny_Call_Name_kw (ld_glob I hg hm ?_ hdb)
  refine PySem.W.callWith_K (h₀ := X.base) I.ok.mod.kin M.kp (thn (ha pos pins s σ H _ I h) fun us s1 ⟨vs, H1, I1, r, q⟩ => ⟨I1.kIn, ?_⟩) he hpl
  exact run_make M F hr hb hd hx I1 r q
end
structure FnScope (N P : List Str) (sc : Scope) : Prop where
  kind : sc.kind = .function
  co : sc.isCoroutine = false
  gen : sc.isGenerator = false
  nd : N.Nodup
  pre : N.take P.length = P
  par : ∀ x ∈ P, sc.names.lookup x = some .local ∨ sc.names.lookup x = some .cell
  nofree : ∀ y ∈ sc.names, y.2 ≠ .free
theorem bindL_out {kindOf : Str → Option NameKind} {x : Str} : ∀ {binds : List (Str × Value)} {m : Str → Option Value}, (∀ v, (x, v) ∉ binds) → bindL kindOf binds m x = m x
  | [], _, _ => rfl
  | (n, v) :: r, m, h => by
    unfold bindL
    rw [bindL_out fun w hw => h w (List.mem_cons_of_mem _ hw)]
    split
    · have : x ≠ n := by rintro rfl; exact h v List.mem_cons_self
      simp [this]
    · rfl
theorem bindC_out {kindOf : Str → Option NameKind} {x : Str} : ∀ {binds : List (Str × Value)} {m : Str → Option Value}, (∀ v, (x, v) ∉ binds) → bindC kindOf binds m x = m x
  | [], _, _ => rfl
  | (n, v) :: r, m, h => by
    unfold bindC
    rw [bindC_out fun w hw => h w (List.mem_cons_of_mem _ hw)]
    split
    · rfl
    · have : x ≠ n := by rintro rfl; exact h v List.mem_cons_self
      simp [this]
theorem bindL_get {kindOf : Str → Option NameKind} {x : Str} {v : Value} : ∀ {P : List Str} {vs : List Value} {i : Nat} {m : Str → Option Value}, P.Nodup → P[i]? = some x → vs[i]? = some v → kindOf x = some .local →
    bindL kindOf (P.zip vs) m x = some v
  | [], _, _, _, _, h, _, _ => by simp at h
  | _ :: _, [], _, _, _, _, h, _ => by simp at h
  | p :: P, w :: vs, 0, m, nd, h1, h2, hk => by
    simp at h1 h2; subst h1; subst h2
    show bindL kindOf ((p, w) :: P.zip vs) m p = _
    unfold bindL
    rw [bindL_out fun v hv => (List.nodup_cons.mp nd).1 (List.of_mem_zip hv).1, if_pos hk]
    simp
  | p :: P, w :: vs, i + 1, m, nd, h1, h2, hk => by
    show bindL kindOf ((p, w) :: P.zip vs) m x = _
    unfold bindL
    exact bindL_get (i := i) (List.nodup_cons.mp nd).2 (by simpa using h1) (by simpa using h2) hk
theorem bindC_get {kindOf : Str → Option NameKind} {x : Str} {v : Value} : ∀ {P : List Str} {vs : List Value} {i : Nat} {m : Str → Option Value}, P.Nodup → P[i]? = some x → vs[i]? = some v → kindOf x ≠ some .local →
    bindC kindOf (P.zip vs) m x = some v
  | [], _, _, _, _, h, _, _ => by simp at h
  | _ :: _, [], _, _, _, _, h, _ => by simp at h
  | p :: P, w :: vs, 0, m, nd, h1, h2, hk => by
    simp at h1 h2; subst h1; subst h2
    show bindC kindOf ((p, w) :: P.zip vs) m p = _
    unfold bindC
    rw [bindC_out fun v hv => (List.nodup_cons.mp nd).1 (List.of_mem_zip hv).1, if_neg hk]
    simp
  | p :: P, w :: vs, i + 1, m, nd, h1, h2, hk => by
    show bindC kindOf ((p, w) :: P.zip vs) m x = _
    unfold bindC
    exact bindC_get (i := i) (List.nodup_cons.mp nd).2 (by simpa using h1) (by simpa using h2) hk
def start (N : List Str) (vs : List V) : St := vs.map some ++ List.replicate (N.length - vs.length) none
def cxOf (CX : CXT) (P : Program) (w : World) (K : PySem.W.Frag) (mg : Str → Option Value) (base : Heap) (N : List Str) (qual : Str) (scope : Scope) (f : Addr) (cd : Value) (A : Around) (outer : List Env) (s : Shared) (H : Hp) (E : XK) : Cx where
  prog := P
  w := w
  K := K
  mg := mg
  base := base
  A := A.deeper (envOfC qual scope s.heap.objs.size f cd)
  N := N
  s₀ := s
  H₀ := H
  env := envOfC qual scope s.heap.objs.size f cd
  outer := outer
  stack := envOfC qual scope s.heap.objs.size f cd :: outer
  ex := []
  calm := true
  fn := fun _ => true
  pn := []
  xe := fun e s' => wpAny (model P w) (A.deeper (envOfC qual scope s.heap.objs.size f cd)) (leaving (envOfC qual scope s.heap.objs.size f cd) e) (fun _ s'' => CX outer H s E e s'') (fun e' s'' => CX outer H s E e' s'') s'
theorem cell_has {sc : Scope} {n : Nat} {x : Str} (h : sc.names.lookup x = some .cell) : ∃ c, (cellsFrom n sc.names []).lookup x = some c := by
  have q := PySem.W.cellsFrom_some sc.names n [] (.inl h)
  exact Option.isSome_iff_exists.mp q
theorem inv_start {CX : CXT} {P : Program} {w : World} {K : PySem.W.Frag} {mg : Str → Option Value} {base : Heap} {N ps : List Str} {qual : Str} {scope : Scope} {f : Addr} {cd : Value} {A : Around} {outer : List Env} {s s1 : Shared} {H : Hp} {E : XK} {us : List Value} {vs : List V}
    (S : FnScope N ps scope) (hd : A.handled = none) (e0 : Env0 P w K mg base A outer s H) (hl : vs.length = ps.length) (r : Vals vs us)
    (x : InCallC s s.heap.objs.size (bindL (envOfC qual scope s.heap.objs.size f cd).kindOf (ps.zip us) fun _ => none) (cellsFrom (s.heap.objs.size + 1) scope.names []) (bindC (envOfC qual scope s.heap.objs.size f cd).kindOf (ps.zip us) fun _ => none) s1) :
    Inv (cxOf CX P w K mg base N qual scope f cd A outer s H E) [] (start N vs) H s1 := by
  have hpl : ps.length ≤ N.length := by have := congrArg List.length S.pre; rw [List.length_take] at this; omega
  obtain ⟨h1, tk, rfl, hk⟩ := x.done
  have noA : ∀ b : Addr, b ∉ (cxOf CX P w K mg base N qual scope f cd A outer s H E).ex := fun b z => absurd (show b ∈ ([] : List Addr) from z) (by simp)
  refine ⟨⟨e0.mod, S.kind, rfl, rfl, Nat.le_refl _, fun y z c h1 h2 => ?_, fun y hy => ?_, fun y c _ h => ?_, fun _ => hd, Around.frames_deeper e0.frames, .inr ⟨rfl, rfl⟩, fun b z => absurd z (noA b), e0.bs, e0.bsz, fun b _ _ => noA b, fun b z => absurd z (noA b), e0.funs, e0.frf⟩,
    rfl, e0.bare, Un.kept hk, ⟨_, x.toInCall.ns, fun i y v h1 h2 h3 => ?_⟩, fun y c h => ⟨_, x.cell y c h⟩, e0.hok.fresh (Nat.le_refl _), fun y c h => ?_, fun p hp => absurd (show p ∈ ([] : List (Addr × Obj)) from hp) (by simp), e0.hok.kept hk, ?_⟩
  · exact name_of_addr x.apart (PySem.mem_of_lookup h1) (PySem.mem_of_lookup h2)
  · have hy : scope.names.lookup y = some .cell ∨ scope.names.lookup y = some .free := hy
    rcases hy with hy | hy
    · exact cell_has hy
    · exact absurd rfl (S.nofree _ (PySem.mem_of_lookup hy))
  · exact Nat.le_of_lt (x.above y c (PySem.mem_of_lookup h))
  · have hi : i < vs.length := by
      unfold start at h2
      by_cases hi : i < vs.length
      · exact hi
      · rw [List.getElem?_append_right (by simpa using hi)] at h2
        rw [List.getElem?_replicate] at h2
        split at h2 <;> cases h2
    have ha : vs[i]? = some v := by
      unfold start at h2
      rw [List.getElem?_append_left (by simpa using hi), List.getElem?_map] at h2
      cases e : vs[i]? with
      | none => rw [e] at h2; cases h2
      | some a => rw [e] at h2; cases h2; rfl
    obtain ⟨u, hu, rv⟩ := r.get ha
    have hp : ps[i]? = some y := by
      rw [← S.pre, List.getElem?_take_of_lt (by omega)]; exact h1
    have ndP : ps.Nodup := by rw [← S.pre]; exact S.nd.sublist (List.take_sublist _ _)
    refine ⟨u, rv, ?_⟩
    rcases S.par y (List.mem_of_getElem? hp) with k | k
    · exact .inl ⟨k, bindL_get ndP hp hu k⟩
    · obtain ⟨c, e⟩ := cell_has (n := s.heap.objs.size + 1) k
      refine .inr ⟨.inl k, c, e, ?_⟩
      have q := x.cell y c e
      rw [bindC_get ndP hp hu (by show scope.names.lookup y ≠ _; rw [k]; decide)] at q
      exact q
  · exact e0.hok.fresh (Nat.le_of_lt (x.above y c (PySem.mem_of_lookup h)))
  · unfold start
    show _ = N.length
    rw [List.length_append, List.length_map, List.length_replicate]
    omega
theorem fn_of {CX : CXT} {P : Program} {w : World} {K : PySem.W.Frag} {mg : Str → Option Value} {base : Heap} {k : Nat} {f : Addr} {name qual : Str} {params : Arguments} {body : List Stmt} {scope : Scope} {dV kV doc pm cdv ct oc : Value} {an od : Option Addr}
    {osl : Array (Option Value)} {N ps : List Str} {sp : Sp} (lk : K.lookup f = some ⟨oc, od, .func (PySem.W.fnOf name qual params body scope dV kV doc pm an cdv ct), osl⟩) (hcd : PySem.W.codeIn K cdv qual = true) (S : FnScope N ps scope)
    (len : ∀ vs H Q E, sp vs H Q E → vs.length = ps.length)
    (hbody : ∀ (A : Around) (outer : List Env) (s : Shared) (H : Hp) (vs : List V) (Q : VK) (E : XK), Room k (A.deeper (envOfC qual scope s.heap.objs.size f cdv)) → sp vs H Q E →
      ∃ t, PSs (cxOf CX P w K mg base N qual scope f cdv A outer s H E) body t ∧ t { nx := fun _ H' => Q .non H', rt := Q } (start N vs) H) :
    FnOk P w K mg base CX (k + 1) f (PySem.W.fnOf name qual params body scope dV kV doc pm an cdv ct) ps sp := by
  refine ⟨len, fun A outer s H args us vs Q E hr e0 hb r hsp => ?_⟩
  have hl := len _ _ _ _ hsp
  have KX : K.In s.heap := e0.mod.kin.keeps fun b o e => (e0.bs b o e).1
  have lim : s.heap.NoLimit := e0.mod.nolimit.keeps fun b o e => (e0.bs b o e).1
  have hkind : ∀ y ∈ ps.zip us, scope.names.lookup y.1 = some .local ∨ (scope.names.lookup y.1 = some .cell ∧ ((cellsFrom (s.heap.objs.size + 1) scope.names []).lookup y.1).isSome = true) := fun ⟨n, v⟩ hy => by
    rcases S.par n (List.of_mem_zip hy).1 with q | q
    · exact .inl q
    · exact .inr ⟨q, PySem.W.cellsFrom_some _ _ _ (.inl q)⟩
  refine codeAny_call_function hr.depth (KX _ _ lk) rfl S.co S.gen rfl (PySem.W.codeRec_of KX hcd) (hb _ _ _ _ ?_)
  refine wpAny_newFunctionEnv_cells S.kind hkind fun env he s1 x => ?_
  subst he
  refine ⟨lim.keeps x.toInCall.keep, codeAny_func ?_⟩
  obtain ⟨t, ht, hq⟩ := hbody A outer s H vs Q E (hr.deeper _) hsp
  have I : Inv (cxOf CX P w K mg base N qual scope f cdv A outer s H E) [] (start N vs) H s1 := inv_start S hr.hd e0 hl r x
  refine wpAny_mono (ht [] s1 (start N vs) H _ I hq) (fun fl s' hs => ?_) fun e s' hs => hs
  have fin : ∀ {σ' : St} {H' : Hp} {v : V} {u : Value}, Inv (cxOf CX P w K mg base N qual scope f cdv A outer s H E) [] σ' H' s' → RelV v u → Q v H' → CE outer P w H s Q u s' :=
    fun {σ' H' v u} J rv q => ⟨v, H', J.os, J.bare, J.base, J.hok, rv, q⟩
  cases fl with
  | ret u =>
    obtain ⟨v, σ', H', J, rv, q⟩ := hs
    exact fin J rv q
  | next =>
    obtain ⟨σ', H', J, q⟩ := hs
    exact fin (v := V.non) (u := Value.none) J rfl q
  | brk =>
    obtain ⟨_, _, _, q⟩ := hs
    exact False.elim q
  | cont =>
    obtain ⟨_, _, _, q⟩ := hs
    exact False.elim q
end L2
namespace L2
open PySem PySem.Spec PyProof.Rows
section
variable {X : Cx} {x : Str} {p pos : Pos} {e : Expr} {es : List Expr} {t : TA} {id T : String} {r : List V → Hp → VK → Prop}
def tCB (r : List V → Hp → VK → Prop) (t : TA) : TE := fun σ H Q => t σ H fun vs H1 => r vs H1 Q
theorem pe_callB (hc : CallR X (.builtin id) r) (hg : Gl X x) (hm : X.mg x = none) (hv : bootBuiltins x = some (.builtin id)) (ha : PA X (e :: es) t) (hn : x ≠ "__name__" := by decide) (hdb : (x == ("__debug__" : Str)) = false := by decide)
    (he : starEach (e :: es) X.env = (false, eval e X.env) :: starEach es X.env := by rfl) (hpl : (backTo pos (starEach es X.env)).any (·.1) = false := by rfl) : PE X (.Call (.Name x p) (e :: es) [] pos) (tCB r t) := by
  intro pins s σ H Q I h
  refine wpAny_Call_Name_kw (ld_blt I hg hm hv ?_ hn hdb)
  exact PyProof.Rows.callWith_builtin1 (thn (ha pos pins s σ H _ I h) fun us s1 ⟨vs, H1, I1, r1, q1⟩ => hc pins s1 σ H1 vs us Q I1 r1 q1) he hpl
theorem pe_callTy (hc : CallR X (.type T) r) (hg : Gl X x) (hm : X.mg x = none) (hv : bootBuiltins x = some (.type T)) (ha : PA X (e :: es) t) (hn : x ≠ "__name__" := by decide) (hdb : (x == ("__debug__" : Str)) = false := by decide)
    (he : starEach (e :: es) X.env = (false, eval e X.env) :: starEach es X.env := by rfl) (hpl : (backTo pos (starEach es X.env)).any (·.1) = false := by rfl) : PE X (.Call (.Name x p) (e :: es) [] pos) (tCB r t) := by
  intro pins s σ H Q I h
  refine wpAny_Call_Name_kw (ld_blt I hg hm hv ?_ hn hdb)
  exact PyProof.Rows.callWith_type1 (thn (ha pos pins s σ H _ I h) fun us s1 ⟨vs, H1, I1, r1, q1⟩ => hc pins s1 σ H1 vs us Q I1 r1 q1) he hpl
end
end L2
namespace HT
open PySem PyProof.Rows
section
open PySem.SeqAt
open PySem.AutoSeq1 (wpAny_loadPart')
open PySem.MeetsSeq PySem.MeetsSeq2 PySem.MeetsSeq3
end
section
variable {prog : Program} {w : World} {A : Around} {E : Value → Shared → Prop} {s : Shared}
def sIx (n d : Nat) : Option Int → Nat
  | none => d
  | some v => if v < 0 then (v + (n : Int)).toNat else min v.toNat n
theorem sIx_none (n d : Nat) : sIx n d none = d := rfl
theorem sIx_nat (n d k : Nat) : sIx n d (some (k : Int)) = min k n := by
  show (if (k : Int) < 0 then ((k : Int) + (n : Int)).toNat else min (k : Int).toNat n) = min k n
  rw [if_neg (by omega), Int.toNat_natCast]
end
end HT
namespace L2
open PySem PySem.Spec PyProof.Rows
abbrev TO := St → Hp → (Option Int → Hp → Prop) → Prop
def PO (X : Cx) (e : Option Expr) (t : TO) : Prop :=
  ∀ (pins : List (Addr × Obj)) (s : Shared) (σ : St) (H : Hp) (Q : Option Int → Hp → Prop), Inv X pins σ H s → t σ H Q →
    wpAny (model X.prog X.w) X.A (evalPart e X.env) (fun u s' => ∃ o H', Inv X pins σ H' s' ∧ IsPart u o ∧ Q o H') X.xe s
def tNoPart : TO := fun _ H Q => Q none H
def tPart (t : TE) : TO := fun σ H Q => t σ H fun x H1 => ∃ i, x = .int i ∧ Q (some i) H1
theorem intsAre_of {ns : List Int} : ∀ {us : List Value}, Vals (ns.map V.int) us → IntsAre us ns := by
  induction ns with
  | nil => intro us r; rw [List.map_nil] at r; cases r; exact .nil
  | cons n ns ih =>
    intro us r
    rw [List.map_cons] at r
    cases r with
    | cons r1 r2 =>
      obtain ⟨t, e⟩ := r1
      subst e
      exact .cons n t (ih r2)
section
variable {X : Cx} {e : Expr} {te : TE} {lo hi : Option Expr} {tl th : TO} {pos p2 : Pos}
theorem po_none : PO X none tNoPart := by
  intro pins s σ H Q I h
  rw [evalPart_none]
  exact wpAny_pure ⟨none, H, I, .none, h⟩
theorem po_some (h : PE X e te) : PO X (some e) (tPart te) := by
  intro pins s σ H Q I hw
  rw [evalPart_some]
  refine thn (h pins s σ H _ I hw) fun u s1 ⟨x, H1, I1, r1, q1⟩ => ?_
  obtain ⟨i, rfl, q⟩ := q1
  obtain ⟨t, rfl⟩ := r1
  exact ⟨some i, H1, I1, .int i t, q⟩
def SlR (X : Cx) (r : V → Option Int → Option Int → Hp → VK → Prop) : Prop :=
  ∀ (pins : List (Addr × Obj)) (s : Shared) (σ : St) (H : Hp) (x : V) (v vl vu : Value) (lo hi : Option Int) (sl : Addr) (Q : VK), Inv X pins σ H s → RelV x v → s.heap.IsSliceOf sl vl vu .none → IsPart vl lo → IsPart vu hi → r x lo hi H Q →
    ∃ T id, typeLookup (.type T) "__getitem__" = pure (some (.builtin id)) ∧ s.TypeIs v T ∧ wpAny (model X.prog X.w) X.A (getItem v (.ref sl)) (EP X pins σ Q) X.xe s
def tSl (r : V → Option Int → Option Int → Hp → VK → Prop) (te : TE) (tl th : TO) : TE := fun σ H Q => te σ H fun x H1 => tl σ H1 fun l H2 => th σ H2 fun u H3 => r x l u H3 Q
theorem pe_slice {r : V → Option Int → Option Int → Hp → VK → Prop} (hr : SlR X r) (he : PE X e te) (hl : PO X lo tl) (hu : PO X hi th) : PE X (.Subscript e (.Slice lo hi none p2) pos) (tSl r te tl th) := by
  intro pins s σ H Q I h
  refine Subscript_ (thn (he pins s σ H _ I h) fun v s1 ⟨x, H1, I1, r1, q1⟩ => ?_)
  refine wpAny_Slice (thn (hl pins s1 σ H1 _ I1 q1) fun vl s2 ⟨l, H2, I2, pl, q2⟩ => thn (hu pins s2 σ H2 _ I2 q2) fun vu s3 ⟨u, H3, I3, pu, q3⟩ => ?_)
  rw [evalPart_none]
  refine wpAny_pure ?_
  have I4 : Inv X pins σ H3 { s3 with heap := s3.heap.push { cls := .type "slice", data := .fields #[vl, vu, .none] } } := I3.kept (t' := s3.toks) fun b ob q => Heap.get?_push_of_some _ q
  obtain ⟨T, id, hT, ht, hg⟩ := hr pins { s3 with heap := s3.heap.push { cls := .type "slice", data := .fields #[vl, vu, .none] } } σ H3 x v vl vu l u s3.heap.objs.size Q I4 r1 (Heap.IsSliceOf.new ..) pl pu q3
  show wpAny (model X.prog X.w) X.A (subscriptTail e (.Slice lo hi none p2) v (.ref s3.heap.objs.size)) (EP X pins σ Q) X.xe { s3 with heap := s3.heap.push { cls := .type "slice", data := .fields #[vl, vu, .none] } }
  exact tail_any (ops := [.ref s3.heap.objs.size, v]) ht hT hg (by with_unfolding_all rfl)
def cutV (xs : List V) (lo hi : Option Int) : List V := (xs.drop (HT.sIx xs.length 0 lo)).take (HT.sIx xs.length xs.length hi - HT.sIx xs.length 0 lo)
theorem cutV_length (xs : List V) (lo hi : Option Int) : (cutV xs lo hi).length ≤ xs.length := by
  unfold cutV
  rw [List.length_take, List.length_drop]
  omega
end
end L2
namespace L2
open PySem PySem.Spec PyProof.Rows
def ixN (n : Nat) (i : Int) : Option Nat := if 0 ≤ i then (if i < n then some i.toNat else none) else if -(n : Int) ≤ i then some (i + n).toNat else none
def atI {α : Type} (xs : List α) (i : Int) : Option α := (ixN xs.length i).bind fun j => xs[j]?
theorem ixN_seq {n : Nat} {i : Int} {j : Nat} (h : ixN n i = some j) : seqIndex? i n = some j ∧ j < n ∧ -(n : Int) ≤ i ∧ i < n := by
  unfold ixN at h
  by_cases h0 : 0 ≤ i
  · rw [if_pos h0] at h
    by_cases h1 : i < n
    · rw [if_pos h1] at h
      have e : i.toNat = j := Option.some.inj h
      exact ⟨by rw [seqIndex_of h0 h1, e], by omega, by omega, h1⟩
    · rw [if_neg h1] at h; cases h
  · rw [if_neg h0] at h
    by_cases h1 : -(n : Int) ≤ i
    · rw [if_pos h1] at h
      have e : (i + n).toNat = j := Option.some.inj h
      exact ⟨by rw [seqIndex_neg (by omega) h1, e], by omega, h1, by omega⟩
    · rw [if_neg h1] at h; cases h
theorem atI_get {α : Type} {xs : List α} {i : Int} {v : α} (h : atI xs i = some v) : ∃ j, seqIndex? i xs.length = some j ∧ xs[j]? = some v ∧ j < xs.length ∧ -(xs.length : Int) ≤ i ∧ i < xs.length := by
  unfold atI at h
  cases e : ixN xs.length i with
  | none => rw [e] at h; cases h
  | some j =>
    rw [e] at h
    obtain ⟨h1, h2, h3, h4⟩ := ixN_seq e
    exact ⟨j, h1, h, h2, h3, h4⟩
theorem atI_nat {α : Type} {xs : List α} {j : Nat} {v : α} (h : xs[j]? = some v) : atI xs (j : Int) = some v := by
  have hj : j < xs.length := (List.getElem?_eq_some_iff.mp h).1
  have e : ixN xs.length (j : Int) = some j := by
    unfold ixN
    rw [if_pos (by omega), if_pos (by omega)]; simp
  unfold atI; rw [e]; exact h
theorem atI_last {α : Type} (xs : List α) (v : α) : atI (xs ++ [v]) (-1) = some v := by
  have hl : (xs ++ [v]).length = xs.length + 1 := by simp
  have e : ixN (xs ++ [v]).length (-1) = some xs.length := by
    unfold ixN
    rw [hl, if_neg (by decide), if_pos (by omega)]
    congr 1
    omega
  unfold atI
  rw [e]
  show (xs ++ [v])[xs.length]? = some v
  simp
def PlainIx (b : Expr) : Prop := ∀ o i, subscripted b false o i = operate [o, i] (getItem o i)
def IxR (X : Cx) (r : R2) : Prop :=
  ∀ (value slice : Expr) (pins : List (Addr × Obj)) (s : Shared) (σ : St) (H : Hp) (x y : V) (v u : Value) (Q : VK), Inv X pins σ H s → RelV x v → RelV y u → r x y H Q →
    subscripted slice false v u = operate [v, u] (getItem v u) → wpAny (model X.prog X.w) X.A (subscriptTail value slice v u) (EP X pins σ Q) X.xe s
def MtR (X : Cx) (id : String) (r : V → List V → Hp → VK → Prop) : Prop :=
  ∀ (pins : List (Addr × Obj)) (s : Shared) (σ : St) (H : Hp) (x : V) (xs : List V) (v : Value) (us : List Value) (Q : VK), Inv X pins σ H s → RelV x v → Vals xs us → r x xs H Q →
    wpAny (model X.prog X.w) X.A (call (.builtin id) (v :: us)) (EP X pins σ Q) X.xe s
section
variable {X : Cx} {a b : Expr} {ta tb : TE} {pos : Pos}
theorem pe_ix {r : R2} (hr : IxR X r) (ha : PE X a ta) (hb : PE X b tb) (hs : PlainIx b) : PE X (.Subscript a b pos) (tOp r ta tb) := by
  intro pins s σ H Q I h
  exact Subscript_ (binT ha hb I h fun v u s2 x y H2 I2 rx ry q => hr a b pins s2 σ H2 x y v u Q I2 rx ry q (hs _ _))
def rIxL (K : PySem.W.Frag) : R2 := fun x y H Q => ∃ p xs i v, x = .ref p ∧ y = .int i ∧ SqL K H p xs ∧ atI xs i = some v ∧ Q v H
def rIxT (K : PySem.W.Frag) : R2 := fun x y H Q => ∃ p xs i v, x = .ref p ∧ y = .int i ∧ SqT K H p xs ∧ atI xs i = some v ∧ Q v H
theorem ix_list : IxR X (rIxL X.K) := by
  intro value slice pins s σ H x y v u Q I rx ry h hs
  obtain ⟨p, xs, i, z, rfl, rfl, hq, he, q⟩ := h
  cases rx
  obtain ⟨t, rfl⟩ := ry
  obtain ⟨its, r, pl, hz⟩ := I.list hq
  obtain ⟨j, h1, h2, h3, h4, h5⟩ := atI_get he
  obtain ⟨w, ew, rw'⟩ := r.get h2
  have hl := r.length
  have hn := line63
  have fin : EP X pins σ Q w s := ⟨z, H, I, rw', q⟩
  by_cases h0 : 0 ≤ i
  · have hj : i.toNat = j := by
      rw [seqIndex_of h0 h5] at h1
      exact Option.some.inj h1
    exact item_listR pl.isList h0 (by omega) (by rw [hj]; simpa using ew) fin hs
  · have hj : (i + (its.toArray.size : Int)).toNat = j := by
      rw [seqIndex_neg (by omega) h4] at h1
      rw [List.size_toArray, ← hl]
      exact Option.some.inj h1
    exact subscriptTail_builtinR (x := w) pl.isList.typeIs slot_list_getitem.lookup
      (wpAny_getItem_list_neg (Q := fun r s' => r = w ∧ EP X pins σ Q r s') pl.isList (by omega) (by rw [List.size_toArray] <;> omega) (by omega) (by rw [hj]; simpa using ew) ⟨rfl, fin⟩) hs
theorem ix_tup : IxR X (rIxT X.K) := by
  intro value slice pins s σ H x y v u Q I rx ry h hs
  obtain ⟨p, xs, i, z, rfl, rfl, hq, he, q⟩ := h
  cases rx
  obtain ⟨t, rfl⟩ := ry
  obtain ⟨its, r, pl, hz⟩ := I.tuple hq
  obtain ⟨j, h1, h2, h3, h4, h5⟩ := atI_get he
  obtain ⟨w, ew, rw'⟩ := r.get h2
  have hl := r.length
  have hn := line63
  have fin : EP X pins σ Q w s := ⟨z, H, I, rw', q⟩
  exact subscriptTail_builtinR (x := w) pl.typeIs slot_tuple_getitem.lookup
    (getItem_tuple (j := j) (Q := fun r s' => r = w ∧ EP X pins σ Q r s') pl (by omega) (by omega) (by rw [List.size_toArray, ← hl]; exact h1) (by simpa using ew) ⟨rfl, fin⟩) hs
theorem mapSeq_set (its : List Value) (n j : Nat) (u : Value) : Obj.mapSeq (·.setIfInBounds j u) { cls := .type "list", data := .seq its.toArray n } = { cls := .type "list", data := .seq (its.set j u).toArray n } := by
  simp [Obj.mapSeq]
theorem Inv.lst {pins : List (Addr × Obj)} {σ : St} {H : Hp} {s : Shared} {p : Addr} {xs : List V} (I : Inv X pins σ H s) (h : H p = some (.lst xs)) :
    ∃ (its : List Value) (n : Nat), Vals xs its ∧ s.heap.get? p = some { cls := .type "list", data := .seq its.toArray n } ∧ xs.length ≤ sizeLine := by
  obtain ⟨z, its, n, r, e⟩ := I.hok p _ h
  exact ⟨its, n, r, e, z⟩
theorem Inv.lstUpd {pins : List (Addr × Obj)} {σ : St} {H : Hp} {s : Shared} {p : Addr} {xs ys : List V} {its its' : List Value} {n n' : Nat} {f : Obj → Obj} (I : Inv X pins σ H s) (h : H p = some (.lst xs))
    (ho : s.heap.get? p = some { cls := .type "list", data := .seq its.toArray n }) (hf : f { cls := .type "list", data := .seq its.toArray n } = { cls := .type "list", data := .seq its'.toArray n' }) (r : Vals ys its') (hz : ys.length ≤ sizeLine) (t : Nat) :
    Inv X pins σ (upd H p (.lst ys)) { s with heap := s.heap.update p f, toks := t } := by
  have e : (s.heap.update p f).get? p = some { cls := .type "list", data := .seq its'.toArray n' } := by
    rw [Heap.get?_update_self f ho (by rw [hf] <;> rfl), hf]
  refine I.write (x := p) (e := p) (by rw [h]; trivial) (.inl rfl) (fun b u hb q => (Heap.get?_update_other _ _ (Ne.symm hb)).trans q) ⟨_, e⟩ ?_
  exact ⟨hz, its', n', r, e⟩
def rSetL : V → V → V → Hp → (Hp → Prop) → Prop := fun o i v H Q => ∃ p xs k j, o = .ref p ∧ i = .int k ∧ H p = some (.lst xs) ∧ ixN xs.length k = some j ∧ Q (upd H p (.lst (xs.set j v)))
theorem set_list : PSet X rSetL := by
  intro pins s σ H o i v ov iv u Q I ro ri rv h
  obtain ⟨p, xs, k, j, rfl, rfl, hp, hj, q⟩ := h
  cases ro
  obtain ⟨t, rfl⟩ := ri
  obtain ⟨its, n, r, ho, hz⟩ := I.lst hp
  obtain ⟨h1, h2, h3, h4⟩ := ixN_seq hj
  have hl := r.length
  have hn := line63
  have I' : Inv X pins σ (upd H p (.lst (xs.set j v))) { s with heap := s.heap.update p (Obj.mapSeq (·.setIfInBounds j u)) } :=
    I.lstUpd hp ho (mapSeq_set its n j u) (r.set rv j) (by rw [List.length_set]; exact hz) s.toks
  by_cases h0 : 0 ≤ k
  · have hk : k.toNat = j := by
      rw [seqIndex_of h0 h4] at h1
      exact Option.some.inj h1
    exact PySem.W.ki_setAt ho h0 (by omega) (by rw [List.size_toArray, ← hl]; exact h4) (by rw [hk]; exact ⟨_, I', q⟩)
  · have hk : (k + (its.toArray.size : Int)).toNat = j := by
      rw [seqIndex_neg (by omega) h3] at h1
      rw [List.size_toArray, ← hl]
      exact Option.some.inj h1
    exact PySem.W.ki_setBack ho (by omega) (by rw [List.size_toArray, ← hl]; exact h3) (by omega) (by rw [hk]; exact ⟨_, I', q⟩)
theorem slice_bounds (lo hi : Option Int) (n : Nat) : (sliceBounds lo hi none n).1 = ((HT.sIx n 0 lo : Nat) : Int) ∧ (sliceBounds lo hi none n).2.1 = ((HT.sIx n n hi : Nat) : Int) ∧ (sliceBounds lo hi none n).2.2 = 1 := by
  refine ⟨?_, ?_, rfl⟩
  · cases lo with
    | none => simp [sliceBounds, HT.sIx]
    | some i =>
      simp only [sliceBounds, HT.sIx, Option.getD_none, show (1 : Int) > 0 by decide, if_true]
      by_cases h : i < 0
      · simp only [h, if_true] <;> omega
      · simp only [h, if_false] <;> omega
  · cases hi with
    | none => simp [sliceBounds, HT.sIx]
    | some i =>
      simp only [sliceBounds, HT.sIx, Option.getD_none, show (1 : Int) > 0 by decide, if_true]
      by_cases h : i < 0
      · simp only [h, if_true] <;> omega
      · simp only [h, if_false] <;> omega
theorem slicePick_cut (its : List Value) (lo hi : Option Int) : slicePick its.toArray lo hi none = ((its.drop (HT.sIx its.length 0 lo)).take (HT.sIx its.length its.length hi - HT.sIx its.length 0 lo)).toArray := by
  obtain ⟨h1, h2, h3⟩ := slice_bounds lo hi its.toArray.size
  unfold slicePick
  rw [h1, h2, h3]
  simp only [sliceRange_one, pick_run, List.size_toArray] <;> rfl
def rSlL (K : PySem.W.Frag) : V → Option Int → Option Int → Hp → VK → Prop := fun x lo hi H Q => ∃ a xs, x = .ref a ∧ SqL K H a xs ∧ ∀ p, H p = none → Q (.ref p) (upd H p (.lst (cutV xs lo hi)))
theorem sl_list : SlR X (rSlL X.K) := by
  intro pins s σ H x v vl vu lo hi sl Q I rx hs pl pu h
  obtain ⟨a, xs, rfl, hx, q⟩ := h
  cases rx
  obtain ⟨its, r, ht, hz⟩ := I.list hx
  have hlen := r.length
  refine ⟨"list", _, slot_list_getitem.lookup, ht.isList.typeIs, ?_⟩
  refine wpAny_getItem_list_slice ht.isList hs pl pu .none (by simp) ?_ (by rw [List.size_toArray] <;> omega)
  rw [slicePick_cut, ← hlen]
  refine ⟨.ref s.heap.objs.size, _, I.laid (t' := s.toks) (o := .lst (cutV xs lo hi)) (fun b ob q => Heap.get?_push_of_some _ q) (Nat.le_refl _) ?_, rfl, q _ (I.hok.fresh (Nat.le_refl _))⟩
  exact ⟨Nat.le_trans (cutV_length xs lo hi) hz, _, 0, (r.drop (HT.sIx xs.length 0 lo)).take (HT.sIx xs.length xs.length hi - HT.sIx xs.length 0 lo), Heap.get?_push_size _ rfl⟩
def flatV : V → Bool
  | .non => true
  | .bl _ => true
  | .int _ => true
  | .str _ => true
  | _ => false
def eqV : V → V → Bool
  | .non, .non => true
  | .bl a, .bl b => a == b
  | .bl a, .int b => (if a then 1 else 0) == b
  | .int a, .bl b => a == (if b then 1 else 0)
  | .int a, .int b => a == b
  | .str a, .str b => a == b
  | _, _ => false
theorem eqAt_V {A : Around} {s : Shared} {y x : V} {u v : Value} (ry : RelV y u) (rx : RelV x v) (fy : flatV y = true) (fx : flatV x = true) : SeqAt.EqAt A s u v (eqV y x) := by
  cases y with
  | non =>
    cases ry
    cases x with
    | non => cases rx; exact SeqAt.EqAt.same _
    | bl b => cases rx; exact SeqAt.EqAt.none_bool b
    | int b => obtain ⟨t, rfl⟩ := rx; exact SeqAt.EqAt.none_int b t
    | str b => obtain ⟨t, rfl⟩ := rx; exact SeqAt.EqAt.none_str b t
    | _ => exact absurd (show false = true from fx) Bool.false_ne_true
  | bl a =>
    cases ry
    cases x with
    | non => cases rx; exact SeqAt.EqAt.bool_none a
    | bl b => cases rx; exact SeqAt.EqAt.bool_bool a b
    | int b => obtain ⟨t, rfl⟩ := rx; exact SeqAt.EqAt.bool_int a b t
    | str b => obtain ⟨t, rfl⟩ := rx; exact SeqAt.EqAt.bool_str a b t
    | _ => exact absurd (show false = true from fx) Bool.false_ne_true
  | int a =>
    obtain ⟨t', rfl⟩ := ry
    cases x with
    | non => cases rx; exact SeqAt.EqAt.int_none a t'
    | bl b => cases rx; exact SeqAt.EqAt.int_bool a t' b
    | int b => obtain ⟨t, rfl⟩ := rx; exact SeqAt.EqAt.int_int a t' b t
    | str b => obtain ⟨t, rfl⟩ := rx; exact SeqAt.EqAt.int_str a t' b t
    | _ => exact absurd (show false = true from fx) Bool.false_ne_true
  | str a =>
    obtain ⟨t', rfl⟩ := ry
    cases x with
    | non => cases rx; exact SeqAt.EqAt.str_none a t'
    | bl b => cases rx; exact SeqAt.EqAt.str_bool a t' b
    | int b => obtain ⟨t, rfl⟩ := rx; exact SeqAt.EqAt.str_int a t' b t
    | str b => obtain ⟨t, rfl⟩ := rx; exact SeqAt.EqAt.str_str a t' b t
    | _ => exact absurd (show false = true from fx) Bool.false_ne_true
  | _ => exact absurd (show false = true from fy) Bool.false_ne_true
def eqU (x : V) (u : Value) : Bool := match u with
  | .none => eqV .non x
  | .bool b => eqV (.bl b) x
  | .int i _ => eqV (.int i) x
  | .str z _ => eqV (.str z) x
  | _ => false
theorem eqU_of {x y : V} {u : Value} (r : RelV y u) (f : flatV y = true) : eqU x u = eqV y x := by
  cases y with
  | non => cases r; rfl
  | bl b => cases r; rfl
  | int i => obtain ⟨t, rfl⟩ := r; rfl
  | str z => obtain ⟨t, rfl⟩ := r; rfl
  | _ => exact absurd (show false = true from f) Bool.false_ne_true
theorem any_eqU {x : V} : ∀ {xs : List V} {us : List Value}, Vals xs us → xs.all flatV = true → us.any (eqU x) = xs.any fun y => eqV y x
  | _, _, .nil, _ => rfl
  | y :: xs, u :: us, .cons r t, f => by
    rw [List.all_cons, Bool.and_eq_true] at f
    rw [List.any_cons, List.any_cons, eqU_of r f.1, any_eqU t f.2]
theorem mem_eqAt {A : Around} {s : Shared} {x : V} {v : Value} (rx : RelV x v) (fx : flatV x = true) : ∀ {xs : List V} {us : List Value}, Vals xs us → xs.all flatV = true → ∀ u ∈ us, SeqAt.EqAt A s u v (eqU x u)
  | _, _, .nil, _ => fun u hu => by cases hu
  | y :: xs, u :: us, .cons r t, f => fun u' hu => by
    rw [List.all_cons, Bool.and_eq_true] at f
    rcases List.mem_cons.mp hu with rfl | hu
    · rw [eqU_of r f.1]; exact eqAt_V r rx f.1 fx
    · exact mem_eqAt rx fx t f.2 u' hu
def inV (x : V) (xs : List V) : Bool := xs.any fun y => eqV y x
def rIn (K : PySem.W.Frag) (neg : Bool) : R2 := fun x y H Q => ∃ p xs, y = .ref p ∧ (SqL K H p xs ∨ SqT K H p xs) ∧ flatV x = true ∧ xs.all flatV = true ∧ Q (.bl (if neg then !inV x xs else inV x xs)) H
theorem op_notIn_seq : OpR X (compareOp .NotIn) (rIn X.K true) := by
  intro pins s σ H x y v u Q I rx ry h
  obtain ⟨p, xs, rfl, hq, fx, fs, q⟩ := h
  cases ry
  rcases hq with hq | hq
  · obtain ⟨its, r, pl, hz⟩ := I.list hq
    refine SeqAt.notIn_listAt (eqU x) pl.isList (fun w hw => mem_eqAt rx fx r fs w (by simpa using hw)) ⟨.bl _, H, I, rfl, ?_⟩
    rw [show its.toArray.any (eqU x) = its.any (eqU x) by simp, any_eqU r fs]
    exact q
  · obtain ⟨its, r, pl, hz⟩ := I.tuple hq
    refine SeqAt.notIn_tupleAt (eqU x) pl (fun w hw => mem_eqAt rx fx r fs w (by simpa using hw)) ⟨.bl _, H, I, rfl, ?_⟩
    rw [show its.toArray.any (eqU x) = its.any (eqU x) by simp, any_eqU r fs]
    exact q
theorem call_len_seq : CallR X (.builtin "len") (fun xs H Q => ∃ p ys, xs = [.ref p] ∧ (SqL X.K H p ys ∨ SqT X.K H p ys) ∧ Q (.int ys.length) H) := by
  intro pins s σ H xs us Q I r h
  obtain ⟨p, ys, rfl, hq, q⟩ := h
  obtain ⟨u, rfl, rx⟩ := vals1 r
  cases rx
  have hn := line63
  rcases hq with hq | hq
  · obtain ⟨its, r', pl, hz⟩ := I.list hq
    have hlen := r'.length
    exact Calls.call_len_list pl.isList (by simp only [List.size_toArray] <;> omega) ⟨.int ys.length, H, I.tok _, ⟨s.toks + 1, by rw [List.size_toArray, hlen]⟩, q⟩
  · obtain ⟨its, r', pl, hz⟩ := I.tuple hq
    have hlen := r'.length
    exact len_tuple pl (by simp only [List.size_toArray] <;> omega) ⟨.int ys.length, H, I.tok _, ⟨s.toks + 1, by rw [List.size_toArray, hlen]⟩, q⟩
theorem call_list_of : CallR X (.type "list") (fun xs H Q => ∃ p ys, xs = [.ref p] ∧ (SqL X.K H p ys ∨ SqT X.K H p ys) ∧ ∀ l, H l = none → Q (.ref l) (upd H l (.lst ys))) := by
  intro pins s σ H xs us Q I r h
  obtain ⟨p, ys, rfl, hq, q⟩ := h
  obtain ⟨u, rfl, rx⟩ := vals1 r
  cases rx
  have fin : ∀ (its : List Value), Vals ys its → ys.length ≤ sizeLine → ∀ (h' : Heap) (c' : Nat), (∀ b o', s.heap.get? b = some o' → h'.get? b = some o') →
      h'.get? s.heap.objs.size = some { cls := .type "list", dict := none, data := .seq its.toArray c', slots := #[] } → EP X pins σ Q (.ref s.heap.objs.size) { s with heap := h' } := fun its r' hz h' c' kp e =>
    ⟨.ref s.heap.objs.size, _, I.laid (t' := s.toks) kp (Nat.le_refl _) (show ObjOk X.prog X.w _ h' _ (.lst ys) from ⟨hz, its, c', r', e⟩), rfl, q _ (I.hok.fresh (Nat.le_refl _))⟩
  rcases hq with hq | hq
  · obtain ⟨its, r', pl, hz⟩ := I.list hq
    have hlen := r'.length
    obtain ⟨o, ho, hc, n, hd⟩ := pl.isList
    exact call_list_seq p (.inl rfl) ho hc hd (fun h' c' kp e => fin its r' hz h' c' kp e) (by simp only [List.size_toArray] <;> omega)
  · obtain ⟨its, r', pl, hz⟩ := I.tuple hq
    have hlen := r'.length
    obtain ⟨o, ho, hc, n, hd⟩ := pl
    exact call_list_seq p (.inr rfl) ho hc hd (fun h' c' kp e => fin its r' hz h' c' kp e) (by simp only [List.size_toArray] <;> omega)
theorem call_tuple_of : CallR X (.type "tuple") (fun xs H Q => ∃ p ys, xs = [.ref p] ∧ ((SqL X.K H p ys ∧ ∀ l, H l = none → Q (.ref l) (upd H l (.tup ys))) ∨ (SqT X.K H p ys ∧ Q (.ref p) H))) := by
  intro pins s σ H xs us Q I r h
  obtain ⟨p, ys, rfl, h⟩ := h
  obtain ⟨u, rfl, rx⟩ := vals1 r
  cases rx
  rcases h with ⟨hq, q⟩ | ⟨hq, q⟩
  · obtain ⟨its, r', pl, hz⟩ := I.list hq
    have hlen := r'.length
    refine call_tuple_list pl.isList (fun h' kp => ?_) (by simp only [List.size_toArray] <;> omega)
    have I1 : Inv X pins σ H { s with heap := h' } := I.kept (t' := s.toks) kp
    have I2 : Inv X pins σ (upd H h'.objs.size (.tup ys)) { s with heap := h'.push { cls := .type "tuple", data := .seq its.toArray } } :=
      I1.laid (t' := s.toks) (fun b o e => Heap.get?_push_of_some _ e) (Nat.le_refl _) (show ObjOk X.prog X.w _ _ _ (.tup ys) from ⟨hz, its, r', IsTup.new _ _⟩)
    exact ⟨.ref h'.objs.size, _, I2, rfl, q _ (I1.hok.fresh (Nat.le_refl _))⟩
  · obtain ⟨its, r', pl, hz⟩ := I.tuple hq
    exact call_tuple_same pl ⟨.ref p, H, I, rfl, q⟩
def tyV (K : PySem.W.Frag) (T : String) (x : V) (H : Hp) : Prop := match x with
  | .str _ => T = "str"
  | .int _ => T = "int"
  | .ref p => (T = "list" ∧ ∃ xs, SqL K H p xs) ∨ (T = "tuple" ∧ ∃ o, K.lookup p = some o ∧ o.cls = .type "tuple" ∧ o.dict = none) ∨
      (T = "dict" ∧ ((∃ kvs, H p = some (.dK kvs)) ∨ ∃ kvs, H p = some (.dT kvs))) ∨ (T = "set" ∧ ∃ S n, H p = some (.set S n))
  | _ => False
theorem tyV_is {pins : List (Addr × Obj)} {σ : St} {H : Hp} {s : Shared} {T : String} {x : V} {v : Value} (I : Inv X pins σ H s) (r : RelV x v) (ty : tyV X.K T x H) :
    s.TypeIs v T ∧ ∀ a, v = .ref a → ∃ ob, s.heap.get? a = some ob ∧ ob.dict = none := by
  cases x with
  | str z =>
    obtain ⟨t, rfl⟩ := r
    cases (show T = "str" from ty)
    exact ⟨typeIs_str s z t, fun _ e => nomatch e⟩
  | int i =>
    obtain ⟨t, rfl⟩ := r
    cases (show T = "int" from ty)
    exact ⟨typeIs_int s i t, fun _ e => nomatch e⟩
  | ref p =>
    cases r
    rcases ty with ⟨rfl, xs, hq⟩ | ⟨rfl, o, hk, hc, hd⟩ | ⟨rfl, hk⟩ | ⟨rfl, S, n, hk⟩
    · obtain ⟨its, _, pl, _⟩ := I.list hq
      refine ⟨pl.isList.typeIs, fun a e => ?_⟩
      cases e
      obtain ⟨o, n, e, c, hd, _⟩ := pl
      exact ⟨o, e, hd⟩
    · refine ⟨⟨o, I.kIn p o hk, hc⟩, fun a e => ?_⟩
      cases e
      exact ⟨o, I.kIn _ o hk, hd⟩
    · have z : ∃ o, s.heap.get? p = some o ∧ o.ExactDict := by
        rcases hk with ⟨kvs, hk⟩ | ⟨kvs, hk⟩
        · obtain ⟨_, _, _, _, o, _, _, e, ex, _⟩ := I.hok p _ hk
          exact ⟨o, e, ex⟩
        · obtain ⟨_, _, _, _, o, _, _, e, ex, _⟩ := I.hok p _ hk
          exact ⟨o, e, ex⟩
      obtain ⟨o, e, ex⟩ := z
      refine ⟨⟨o, e, ex.1⟩, fun a e2 => ?_⟩
      cases e2
      exact ⟨o, e, ex.2.1⟩
    · obtain ⟨o, _, _, _, e, ex, _⟩ := I.hok p _ hk
      refine ⟨⟨o, e, ex.1⟩, fun a e2 => ?_⟩
      cases e2
      exact ⟨o, e, ex.2.1⟩
  | _ => exact False.elim ty
def tBM (K : PySem.W.Frag) (T : String) (r : V → List V → Hp → VK → Prop) (to : TE) (t : TA) : TE := fun σ H Q => to σ H fun x H1 => tyV K T x H1 ∧ t σ H1 fun xs H2 => r x xs H2 Q
variable {o e : Expr} {es : List Expr} {to : TE} {t : TA} {name : Str} {apos cpos : Pos} {T id : String} {r : V → List V → Hp → VK → Prop}
theorem pe_bm (pa : PlainAttrs T) (slot : Slot T name id) (hty : typeOf (.builtin id) = pure (.type "method_descriptor")) (hm : MtR X id r) (ho : PE X o to) (ha : PA X (e :: es) t)
    (hbase : attributeBase o name X.env (eval o X.env) = eval o X.env := by rfl)
    (hfew : ((backTo cpos (starEach (e :: es) X.env)).all (fun x => !x.1) && (backToKw cpos (keywordEach [] X.env)).all (fun x => x.1.isSome)
      && decide ((e :: es).length + ([] : List Keyword).length + (if ([] : List Keyword).isEmpty then 0 else 1) < 30)) = true := by rfl)
    (hline : (apos.endLine == cpos.line) = true := by rfl) (hs : starEach (e :: es) X.env = (false, eval e X.env) :: starEach es X.env := by rfl) (hplain : (backTo cpos (starEach es X.env)).any (·.1) = false := by rfl) :
    PE X (.Call (.Attribute o name apos) (e :: es) [] cpos) (tBM X.K T r to t) := by
  intro pins s σ H Q I h
  refine wpAny_Call_method_late hbase hfew hline rfl (thn (ho pins s σ H _ I h) fun v s1 ⟨x, H1, I1, r1, ty, q1⟩ => ?_)
  obtain ⟨h1, h2⟩ := tyV_is I1 r1 ty
  refine ⟨T, id, pa, slot, hty, h1, h2, ?_⟩
  have hA := ha cpos pins s1 σ H1 _ I1 q1
  rw [hs] at hA ⊢
  refine Calls.callWith_builtin (by show (false || (backTo cpos (starEach es X.env)).any (·.1)) = false; rw [hplain] <;> rfl) (Calls.evalArgs_plain ?_)
  exact thn hA fun us s2 ⟨vs, H2, I2, r2, q2⟩ => hm pins s2 σ H2 x vs v us Q I2 r1 r2 q2
/- xs.append(e), list.index on a module's tuple .. are MtR facts of 06m -/
end
end L2
namespace L2
open PySem PySem.Spec PyProof.Rows
def MtM (X : Cx) (id : String) (r : V → List V → Hp → VK → Prop) : Prop :=
  ∀ (pins : List (Addr × Obj)) (s : Shared) (σ : St) (H : Hp) (x : V) (xs : List V) (v : Value) (us : List Value) (Q : VK), Inv X pins σ H s → RelV x v → Vals xs us → r x xs H Q →
    wpAny (model X.prog X.w) X.A (call (.builtin id) (v :: us)) (EP X pins σ Q) X.xe s
theorem Vals.one : ∀ {x : V} {us : List Value}, Vals [x] us → ∃ u, us = [u] ∧ RelV x u
  | _, _, .cons r .nil => ⟨_, rfl, r⟩
section
variable {X : Cx} {pins : List (Addr × Obj)} {σ : St} {H : Hp} {s : Shared} {l b : Addr} {xs ys zs : List V}
theorem Inv.lset {its its' : List Value} {n : Nat} {f : Array Value → Array Value} {t' : Nat} (I : Inv X pins σ H s) (hH : H l = some (.lst xs))
    (e : s.heap.get? l = some { cls := .type "list", data := .seq its.toArray n }) (hf : f its.toArray = its'.toArray) (hv : Vals ys its') (hz : ys.length ≤ sizeLine) :
    Inv X pins σ (upd H l (.lst ys)) { s with heap := s.heap.update l (Obj.mapSeq f), toks := t' } := by
  have q := PySem.IsL.update e f
  rw [hf] at q
  refine I.write (x := l) (e := l) (by rw [hH]; exact trivial) (.inl rfl) (fun b' u hb hu => (Heap.get?_update_other s.heap (Obj.mapSeq f) (Ne.symm hb)).trans hu) ⟨_, q⟩ ?_
  exact ⟨hz, its', _, hv, q⟩
theorem Inv.lnew {its : List Value} {t' : Nat} (I : Inv X pins σ H s) (hv : Vals ys its) (hz : ys.length ≤ sizeLine) :
    Inv X pins σ (upd H s.heap.objs.size (.lst ys)) { s with heap := s.heap.push { cls := .type "list", data := .seq its.toArray }, toks := t' } :=
  I.laid (fun _ _ q => Heap.get?_push_of_some _ q) (Nat.le_refl _) ⟨hz, its, 0, hv, Heap.get?_push_size _ rfl⟩
theorem Inv.fresh (I : Inv X pins σ H s) : H s.heap.objs.size = none := I.hok.fresh (Nat.le_refl _)
theorem Inv.lstM (I : Inv X pins σ H s) (hH : H l = some (.lst xs)) : xs.length ≤ sizeLine ∧ ∃ (its : List Value) (n : Nat), Vals xs its ∧ xs.length = its.length ∧ s.heap.get? l = some { cls := .type "list", data := .seq its.toArray n } := by
  obtain ⟨z, its, n, r, e⟩ := I.hok l _ hH
  exact ⟨z, its, n, r, r.length, e⟩
end
section
variable {X : Cx}
def rAppend : V → List V → Hp → VK → Prop := fun x vs H Q => ∃ l xs y, x = .ref l ∧ vs = [y] ∧ H l = some (.lst xs) ∧ xs.length < sizeLine ∧ Q .non (upd H l (.lst (xs ++ [y])))
theorem mt_append : MtM X "list.append" rAppend := by
  intro pins s σ H x vs v us Q I rx rv h
  obtain ⟨l, xs, y, rfl, rfl, hH, hz, q⟩ := h
  cases rx
  obtain ⟨u, rfl, ru⟩ := rv.one
  obtain ⟨z, its, n, r, hl, e⟩ := I.lstM hH
  refine call_meets F.slot_list_append ⟨_, e, rfl⟩ F.entry_list_append (F.args_list_append_2 _ _) (PySem.list_append l its.toArray n u (by rw [List.size_toArray]; omega)) ⟨e, ?_⟩
  refine ⟨.non, _, I.lset (its' := its ++ [u]) hH e (by simp) (r.append (.cons ru .nil)) ?_, rfl, q⟩
  rw [List.length_append, List.length_singleton]
  omega
def rCat : R2 := fun x y H Q => ∃ l b xs zs, x = .ref l ∧ y = .ref b ∧ H l = some (.lst xs) ∧ H b = some (.lst zs) ∧ xs.length + zs.length ≤ sizeLine ∧ ∀ p, H p = none → Q (.ref p) (upd H p (.lst (xs ++ zs)))
theorem op_cat : OpR X (binaryOp .Add) rCat := by
  intro pins s σ H x y v u Q I rx ry h
  obtain ⟨l, b, xs, zs, rfl, rfl, hH, hB, hz, q⟩ := h
  cases rx
  cases ry
  obtain ⟨z, its, n, r, hl, e⟩ := I.lstM hH
  obtain ⟨z2, its2, n2, r2, hl2, e2⟩ := I.lstM hB
  refine PySem.P.add_list e e2 ?_ (by rw [List.size_toArray, List.size_toArray]; omega)
  have ea : its.toArray ++ its2.toArray = (its ++ its2).toArray := by simp
  rw [ea]
  exact ⟨.ref _, _, I.lnew (t' := s.toks) (r.append r2) (by rw [List.length_append]; omega), rfl, q _ I.fresh⟩
end
end L2
namespace Att
open PySem PySem.W PySem.Calls PyProof.Rows
theorem ints_of_wellAll {P : Params} {h : Heap} : ∀ (ns : List Int) (vs : List Value), WellAll P h vs (ns.map WData.int) → IntsAre vs ns := by
  intro ns
  induction ns with
  | nil =>
    intro vs w
    rw [List.map_nil] at w
    cases w
    exact .nil
  | cons n ns ih =>
    intro vs w
    rw [List.map_cons] at w
    cases w with
    | cons a b =>
      cases a
      exact .cons _ _ (ih _ b)
theorem script_of {l : OpenLaw} {n : Nat} (hn : l.most = some n) {P : Params} {h : Heap} {args : List WData} {vals : List Value}
    (hpre : l.row.toRowW.claim.pre args = true) (hwl : WellAll P h vals args) :
    ∃ a vs ns, vals = [Value.ref a] ∧ args = [WData.list (ns.map WData.int)] ∧ h.get? a = some { cls := .type "list", data := .seq vs.toArray } ∧ IntsAre vs ns ∧ ns.length ≤ n := by
  have hsh : WShape.hasAll [] args [.list .int] = true := (pre_splitW hpre).1
  have hc : l.pre.holds [] { args := args } = true := (pre_splitW hpre).2
  obtain ⟨d, r, rfl, h1, h2⟩ := hasAllW_cons hsh
  obtain rfl := hasAllW_nil h2
  obtain ⟨xs, rfl, h3⟩ := hasW_list h1
  obtain ⟨ns, rfl⟩ := items_int h3
  have hlen : ns.length ≤ n := by
    unfold OpenLaw.pre at hc
    have h4 : (WTm.not (.lt (.lit (.int (n : Int))) (.len (.arg 0)))).holds [] { args := [.list (ns.map .int)] } = true := by
      have h4 := (holds_andW hc).1
      rw [hn] at h4
      exact h4
    have h5 := condW_of h4 (w_not (w_lt w_lit (w_len_list (w_arg rfl))))
    rw [List.length_map] at h5
    refine Nat.le_of_not_lt fun q => ?_
    have q' : (n : Int) < ((ns.length : Nat) : Int) := by omega
    first
      | (rw [decide_eq_true q'] at h5; exact absurd h5 (by decide))
      | (simp at h5; omega)
  cases hwl with
  | cons w1 w2 =>
    cases w2
    cases w1 with
    | list ho hall => exact ⟨_, _, ns, rfl, rfl, ho, ints_of_wellAll ns _ hall, hlen⟩
theorem post_true (l : OpenLaw) (args : List WData) : l.row.toRowW.claim.post args (.bool true) args = true :=
  postW_of (r := l.row.toRowW) (X := (true == true))
    (show WShape.has [] (.bool true) .bool = true by first | rfl | decide | simp [WShape.has, WShape.arms, WShape.armsAll])
    (show (WTm.eq .res (.lit (.bool true))).value [] { args := args, res := some (.bool true), after := args } = some (.bool (true == true)) from w_eq_bool (w_res rfl) w_lit) rfl
theorem attach_call {l : OpenLaw} {n : Nat} {q : Program} {loose : List Str} {XP : (Str → Option Value) → Heap → Prop} {YP : World → Heap → Prop} {d : DefRec}
    (hn : l.most = some n) (hdf : d.params.defaults = [])
    (call : ∀ (w : World) (s₀ s₁ : Shared) (mg mb : Str → Option Value) (fa : Addr) (o : Obj) (pm cd doc : Value) (a : Addr) (vs : List Value) (ns : List Int),
      Ground q loose [] XP w s₀ mg mb s₁.heap → YP w s₁.heap →
      s₁.heap.get? fa = some o → o.data = .func (docDef d.name d.params d.body d.scope pm cd doc) → s₁.heap.CodeRec cd d.name → mg d.name = some (.ref fa) →
      s₁.heap.get? a = some { cls := .type "list", data := .seq vs.toArray } → IntsAre vs ns → ns.length ≤ n → s₁.gens = #[] →
      codeAny (model l.prog w) callerA (.call (.ref fa) ⟨[.ref a], []⟩) (fun r s' => r = .ok (.ret (.bool true)) ∧ OldK s₁.heap s'.heap ∧ s'.os = s₁.os ∧ AllBare s'.gens) s₁) :
    WalkO q loose XP YP l.row.toRowW d [] (fun f vs => PySem.call f vs) := by
  intro w s₀ s₁ mg mb G Y fa o pm cd doc dV kV ho hd hcd hD hmg hg args vals as hpre hlay hrd hwl hlo
  obtain rfl : dV = .none := Dflts.none hD hdf
  obtain rfl : kV = .none := Dflts.noKw hD
  obtain ⟨a, vs, ns, rfl, rfl, hobj, hints, hlen⟩ := script_of hn hpre hwl
  refine enter_call (codeAny_mono (call w s₀ s₁ mg mb fa o pm cd doc a vs ns G Y ho (fd_plain hd) hcd hmg hobj hints hlen hg) fun r s' hq => ?_)
  obtain ⟨rfl, h2, h3, h4⟩ := hq
  exact ⟨.inl ⟨.bool true, .bool true, [], rfl, fun _ => rfl, .bool true, post_true l _, fun _ => ⟨List.Pairwise.nil, fun _ hm => (nomatch hm)⟩⟩, h2, h3, h4⟩
end Att
namespace L2
open PySem PySem.Spec PyProof.Rows
theorem vals_ints : ∀ {vs : List Value} {ns : List Int}, IntsAre vs ns → Vals (ns.map V.int) vs
  | _, _, .nil => .nil
  | _, _, .cons n t h => .cons ⟨t, rfl⟩ (vals_ints h)
end L2
namespace L2
open PySem PySem.Spec PyProof.Rows
end L2
/- THE LAST THEOREM (shape; LID, My.* are yours):
   My.Adr: a structure of the addresses that your layer names (classes, functions); My.Txt K t: a structure (Prop) of the equations over K;
   My.txt_mk : {K} {implicit addresses ..} (e1 : nsIn K mainGlobals "law" = some (some (.ref f))) (e2 : K.lookup f = some ⟨oc, od, .func (fnOf "law" "law" params body scope dV kV doc pm an cdv ct), sl⟩) (e3 : codeIn K cdv "law" = true) .. : ∃ t, My.Txt K t
set_option maxRecDepth 100000 in
set_option maxHeartbeats 0 in
theorem PySem.Challenge.cw_LID_holds : PySem.Challenge.rw_LID.Holds := by
  w_on; o_law; k_head; (case hw => w_witness2)
  k_fill
  refine L2.walk_of (l := PySem.Challenge.rw_LID) (n := 63) (k := 40) (x := "script") (CX := fun w => ..) (sp := fun _ => My.sp_law) rfl (by decide) rfl ⟨rfl, by decide, by decide⟩ (fun w h Y => PySem.W.kIn_of Y) ?F ?S ?C
  case F =>
    intro w mg fa h KX G hmg
    have T : ∃ t, My.Txt (L2.KOf KX) t := by
      dsimp only [L2.KOf]                          -- K must stand as «<heap const> w.params» for k_is
      refine' My.txt_mk ?e1 ?e2 ?e3 ..
      (case e1 => PySem.W.k_is)                    -- in the order: a name -> its address -> its object -> its parts
      (case e2 => PySem.W.k_is)
      ..
    obtain ⟨t, T⟩ := T
    have e0 := hmg.symm.trans (PySem.W.mg_of KX G T.law)
    cases e0                                       -- fa is the law's own address
    exact ⟨_, fun s u => .of_eq rfl, fun base kb nb => My.law_fn T kb nb⟩     -- if «.of_eq rfl» comes too early: refine' ⟨_, ?b, fun base kb nb => My.law_fn T kb nb⟩; exact fun s u => .of_eq rfl
  case S => exact fun w H a ns hl hO hS => ..
  case C => exact ..
(the tactic k_is has no namespace: write k_is) -/
namespace L2
open PySem PySem.Spec PyProof.Rows
def inClass (s : Stmt) (j : Nat) : Stmt := match s with
  | .ClassDef _ _ _ body _ _ _ _ _ _ _ => body.getD j (.Pass ⟨0, 0, 0, 0⟩)
  | _ => .Pass ⟨0, 0, 0, 0⟩
def defArgs (s : Stmt) : Arguments := match s with
  | .FunctionDef _ a _ _ _ _ _ _ _ _ => a
  | _ => { posonlyargs := [], args := [], vararg := none, kwonlyargs := [], kw_defaults := [], kwarg := none, defaults := [] }
def defBody (s : Stmt) : List Stmt := match s with
  | .FunctionDef _ _ b _ _ _ _ _ _ _ => b
  | _ => []
def defScope (s : Stmt) : Scope := match s with
  | .FunctionDef _ _ _ _ _ _ sc _ _ _ => sc
  | _ => { kind := .function, names := [], isGenerator := false, isCoroutine := false }
abbrev CX0 : CXT := fun _ _ _ _ _ _ => False
abbrev E0 : XK := fun _ _ _ => False
theorem pass0 {X : Cx} : Passes CX0 X E0 := fun _ _ _ _ _ _ _ h => h.elim
structure Fun (K : PySem.W.Frag) (x qual : Str) (st : Stmt) (f : Addr) (fd : FuncData) : Prop where
  ex : ∃ (oc : Value) (od : Option Addr) (kV doc pm : Value) (an : Option Addr) (cdv ct : Value) (osl : Array (Option Value)),
    fd = PySem.W.fnOf x qual (defArgs st) (defBody st) (defScope st) .none kV doc pm an cdv ct ∧ K.lookup f = some ⟨oc, od, .func fd, osl⟩ ∧ PySem.W.codeIn K cdv qual = true
  kp : PySem.W.keepIn K (.ref f) = true
section
variable {P : Program} {w : World} {K : PySem.W.Frag} {mg : Str → Option Value} {base : Heap}
theorem Fun.ok {x qual : Str} {st : Stmt} {f : Addr} {fd : FuncData} {N ps : List Str} {k : Nat} {sp : Sp} (F : Fun K x qual st f fd) (S : FnScope N ps (defScope st)) (len : ∀ vs H Q E, sp vs H Q E → vs.length = ps.length)
    (hbody : ∀ (cdv : Value) (A : Around) (outer : List Env) (s : Shared) (H : Hp) (vs : List V) (Q : VK) (E : XK), Room k (A.deeper (envOfC qual (defScope st) s.heap.objs.size f cdv)) → sp vs H Q E →
      ∃ t, PSs (cxOf CX0 P w K mg base N qual (defScope st) f cdv A outer s H E).nox (defBody st) t ∧ t { nx := fun _ H' => Q .non H', rt := Q } (start N vs) H) : FnOk P w K mg base CX0 (k + 1) f fd ps sp := by
  obtain ⟨oc, od, kV, doc, pm, an, cdv, ct, osl, rfl, lk, hcd⟩ := F.ex
  refine fn_of lk hcd S len fun A outer s H vs Q E hr hsp => ?_
  obtain ⟨t, h, q⟩ := hbody cdv A outer s H vs Q E hr hsp
  exact ⟨t, h.nox, q⟩
theorem Fun.binds {x qual : Str} {st : Stmt} {f : Addr} {fd : FuncData} {ps : List Str} (F : Fun K x qual st f fd)
    (h : ∀ (kV doc pm : Value) (an : Option Addr) (cdv ct : Value) (us : List Value), us.length = ps.length → bindArgs (PySem.W.fnOf x qual (defArgs st) (defBody st) (defScope st) .none kV doc pm an cdv ct) ⟨us, []⟩ = pure (ps.zip us)) : Binds K fd ps [] := by
  obtain ⟨oc, od, kV, doc, pm, an, cdv, ct, osl, rfl, lk, hcd⟩ := F.ex
  exact .all (h kV doc pm an cdv ct)
theorem fun_mk {x qual : Str} {st : Stmt} {f : Addr} {oc : Value} {od an : Option Addr} {osl : Array (Option Value)} {kV doc pm cdv ct : Value} (l : K.lookup f = some ⟨oc, od, .func (PySem.W.fnOf x qual (defArgs st) (defBody st) (defScope st) .none kV doc pm an cdv ct), osl⟩)
    (c : PySem.W.codeIn K cdv qual = true) (k : PySem.W.keepIn K (.ref f) = true) : Fun K x qual st f (PySem.W.fnOf x qual (defArgs st) (defBody st) (defScope st) .none kV doc pm an cdv ct) := ⟨⟨oc, od, kV, doc, pm, an, cdv, ct, osl, rfl, l, c⟩, k⟩
end
theorem hu_of {A : Around} {k : Nat} (hr : Room k A) : A.units + 1 < cLine := Nat.lt_of_le_of_lt (Nat.add_le_add_left (by decide : 1 ≤ 64) _) hr.units
theorem small1000 {n : Nat} (h : n ≤ 1000) : n < sizeLine := Nat.lt_of_le_of_lt h (by decide)
section
variable {X : Cx}
theorem pv (i : Nat) {x : Str} {pos : Pos} (hN : X.N[i]? = some x := by rfl) (hv : Vis X.env.scope x := by first | exact Or.inl rfl | exact Or.inr (Or.inl rfl) | exact Or.inr (Or.inr rfl)) (hd : (x == ("__debug__" : Str)) = false := by decide)
    (hcd : (x == ("__classdict__" : Str)) = false := by decide) : PE X (.Name x pos) (tVar i) := pe_var hN hv hd hcd
end
def Same (H H' : Hp) : Prop := ∀ b o, H b = some o → H' b = some o
theorem Same.refl (H : Hp) : Same H H := fun _ _ h => h
theorem Same.trans {H H1 H2 : Hp} (a : Same H H1) (b : Same H1 H2) : Same H H2 := fun c o h => b c o (a c o h)
theorem Same.free {H H' : Hp} (e : Same H H') {l : Addr} (h : H' l = Option.none) : H l = Option.none := by
  cases q : H l with
  | none => rfl
  | some o =>
    rw [e l o q] at h
    cases h
theorem Same.seq {K : PySem.W.Frag} {H H' : Hp} {a : Addr} {xs : List V} (e : Same H H') (h : SqL K H a xs) : SqL K H' a xs := by
  rcases h with (h | ⟨o, h⟩) | h
  · exact .inl (.inl (e _ _ h))
  · exact .inl (.inr ⟨o, e _ _ h⟩)
  · exact .inr h
end L2
set_option Elab.async false
set_option linter.all false
set_option maxRecDepth 100000
set_option maxHeartbeats 4000000
namespace L2
open PySem PySem.Spec PyProof.Rows
def cxIn (X : Cx) (N : List Str) (scope : Scope) (cl : List (Str × Addr)) (C : Addr) (s0 : Shared) (H0 : Hp) (fp : List Addr) (pins : List (Addr × Obj)) : Cx :=
  { X with N := N, s₀ := s0, H₀ := H0, env := compEnvC scope cl C X.env, outer := X.stack, stack := X.stack, ex := fp, fn := fun x => scope.names.lookup x == some .cell, pn := X.pn ++ pins, xe := fun _ _ => False }
theorem closure_for {env : Env} : ∀ (names : List (Str × NameKind)) (acc : List (Str × Addr)), (∀ p ∈ names, p.2 = .free → ∃ c, env.cells.lookup p.1 = some c) → (∀ x c, acc.lookup x = some c → env.cells.lookup x = some c) →
    ∃ cl, (forIn names acc fun (x : Str × NameKind) cs => (match x with | (name, kind) => if (kind == NameKind.free) = true then do let a ← cellOf env name; pure (ForInStep.yield ((name, a) :: cs)) else pure (ForInStep.yield cs) : Sem (ForInStep (List (Str × Addr))))) = (pure cl : Sem (List (Str × Addr))) ∧
      (∀ x c, cl.lookup x = some c → env.cells.lookup x = some c) ∧ (∀ x c, acc.lookup x = some c → cl.lookup x = some c) ∧ ∀ p ∈ names, p.2 = .free → ∃ c, cl.lookup p.1 = some c
  | [], acc, _, h => ⟨acc, rfl, h, fun _ _ e => e, fun _ z => nomatch z⟩
  | (n, k) :: r, acc, h, ha => by
    by_cases hk : k = .free
    · subst hk
      obtain ⟨c, hc⟩ := h (n, .free) List.mem_cons_self rfl
      have ha' : ∀ x d, ((n, c) :: acc).lookup x = some d → env.cells.lookup x = some d := fun x d e => by
        rw [List.lookup_cons] at e
        cases q : x == n with
        | true =>
          rw [q] at e
          have hxn : x = n := by simpa using q
          subst hxn
          cases e
          exact hc
        | false =>
          rw [q] at e
          exact ha x d e
      obtain ⟨cl, e1, e2, e3, e4⟩ := closure_for r ((n, c) :: acc) (fun p hp => h p (List.mem_cons_of_mem _ hp)) ha'
      have top : ∃ d, cl.lookup n = some d := ⟨c, e3 n c (by rw [List.lookup_cons]; simp)⟩
      refine ⟨cl, ?_, e2, fun x d e => ?_, fun p hp hf => ?_⟩
      · rw [List.forIn_cons]
        simp only [cellOf, hc, beq_self_eq_true, if_true]
        exact e1
      · cases q : x == n with
        | true =>
          have hxn : x = n := by simpa using q
          subst hxn
          have z := ha x d e
          rw [hc] at z; cases z
          exact e3 x c (by rw [List.lookup_cons]; simp)
        | false => exact e3 x d (by rw [List.lookup_cons, q]; exact e)
      · rcases List.mem_cons.mp hp with rfl | hp
        · exact top
        · exact e4 p hp hf
    · obtain ⟨cl, e1, e2, e3, e4⟩ := closure_for r acc (fun p hp => h p (List.mem_cons_of_mem _ hp)) ha
      have hb : (k == NameKind.free) = false := by simpa using hk
      refine ⟨cl, ?_, e2, e3, fun p hp hf => ?_⟩
      · rw [List.forIn_cons]
        simp only [hb, Bool.false_eq_true, if_false]
        exact e1
      · rcases List.mem_cons.mp hp with rfl | hp
        · exact absurd hf hk
        · exact e4 p hp hf
theorem lookup_keep {α : Type} (f : Str → α → α) (x : Str) : ∀ l : List (Str × α), (l.map fun p => (p.1, f p.1 p.2)).lookup x = (l.lookup x).map (f x)
  | [] => rfl
  | (n, k) :: r => by
    have ih := lookup_keep f x r
    rw [List.map_cons, List.lookup_cons, List.lookup_cons]
    cases q : x == n with
    | true =>
      have e : x = n := by simpa using q
      subst e
      rfl
    | false => exact ih
def kindIn (env : Env) (n : Str) (k : NameKind) : NameKind := if (k == NameKind.free && env.scope.kind == .function && env.kindOf n == some .cell) = true then .cell else k
theorem relabel_look (scope : Scope) (env : Env) (x : Str) : (relabel scope env).names.lookup x = (scope.names.lookup x).map (kindIn env x) := by
  rw [← lookup_keep (kindIn env) x scope.names]
  show (scope.names.map _).lookup x = _
  congr 1
  refine List.map_congr_left fun p _ => ?_
  show (if _ then _ else _) = _
  unfold kindIn
  split <;> rfl
theorem kindIn_cases (env : Env) (n : Str) (k : NameKind) : kindIn env n k = k ∨ (k = .free ∧ kindIn env n k = .cell) := by
  unfold kindIn
  by_cases h : (k == NameKind.free && env.scope.kind == .function && env.kindOf n == some .cell) = true
  · refine .inr ⟨?_, if_pos h⟩
    rw [Bool.and_eq_true, Bool.and_eq_true] at h
    exact beq_iff_eq.mp h.1.1
  · exact .inl (if_neg h)
theorem lookup_relabel_kind {scope : Scope} {env : Env} {x : Str} {k : NameKind} (h : scope.names.lookup x = some k) :
    (relabel scope env).names.lookup x = some k ∨ (k = .free ∧ (relabel scope env).names.lookup x = some .cell) := by
  rw [relabel_look, h]
  rcases kindIn_cases env x k with q | ⟨q, q'⟩
  · exact .inl (congrArg some q)
  · exact .inr ⟨q, congrArg some q'⟩
theorem relabel_back {scope : Scope} {env : Env} {x : Str} {k : NameKind} (h : (relabel scope env).names.lookup x = some k) : ∃ k', scope.names.lookup x = some k' ∧ (k' = k ∨ k' = .free) := by
  rw [relabel_look] at h
  cases q : scope.names.lookup x with
  | none => rw [q] at h; cases h
  | some k' =>
    rw [q] at h
    have h' : kindIn env x k' = k := Option.some.inj h
    rcases kindIn_cases env x k' with z | ⟨z, _⟩
    · exact ⟨k', rfl, .inl (z.symm.trans h')⟩
    · exact ⟨k', rfl, .inr z⟩
theorem lookup_mem {α : Type} {x : Str} : ∀ {l : List (Str × α)} {k : α}, l.lookup x = some k → (x, k) ∈ l
  | [], _, h => by simp at h
  | (n, k) :: r, k', h => by
    rw [List.lookup_cons] at h
    cases hx : x == n with
    | true =>
      rw [hx] at h; cases h
      have : x = n := by simpa using hx
      subst this
      exact List.mem_cons_self
    | false =>
      rw [hx] at h
      exact List.mem_cons_of_mem _ (lookup_mem h)
theorem comp_loop {prog : Program} {w : World} {A : Around} {s : Shared} {elt target iter : PySem.Expr} {ifs : List PySem.Expr} {scope : Scope} {pos : Pos} {it acc : Value} {env : Env} {R : Result → Shared → Prop} (I : Nat → Shared → Prop)
    (turn : ∀ n s, I n s → wpAny (model prog w) A (pyNext it) (fun r s1 => match r with
      | none => R (.ok .next) s1
      | some v => wpAny (model prog w) A (letOwnedTupleGo target it v) (fun _ s0 => wpAny (model prog w) A (assign target env v) (fun _ s2 =>
          wpAny (model prog w) A (forIn ifs true fun c r => if r = true then do let ok ← isTrue c env (eval c env); pure (ForInStep.yield ok) else pure (ForInStep.yield r)) (fun ok s3 =>
            if ok = true then wpAny (model prog w) A (eval elt env) (fun x s4 =>
              wpAny (model prog w) A (call (.builtin "list.append") [acc, x]) (fun _ s5 => ∃ m, m < n ∧ I m s5) (fun _ _ => False) s4) (fun _ _ => False) s3
            else ∃ m, m < n ∧ I m s3) (fun _ _ => False) s2) (fun _ _ => False) s0) (fun _ _ => False) s1) (fun _ _ => False) s)
    (n : Nat) (h : I n s) : codeAny (model prog w) A (.compLoop (.ListComp elt [⟨target, iter, ifs, 0⟩] scope pos) 0 it acc env) R s := by
  have body : ∀ n s, I n s → wpAny (model prog w) A (compTurn (.ListComp elt [⟨target, iter, ifs, 0⟩] scope pos) 0 it acc env)
      (fun fin s' => match fin with | .done f => R (.ok f) s' | .again c => c = .compLoop (.ListComp elt [⟨target, iter, ifs, 0⟩] scope pos) 0 it acc env ∧ ∃ m, m < n ∧ I m s') (fun _ _ => False) s := fun n s hI => by
    rw [compTurn_list]
    refine wpAny_bind (wpAny_standAt (wpAny_bind (thn (turn n s hI) fun r s1 h1 => ?_)))
    cases r with
    | none => exact wpAny_pure h1
    | some v =>
      refine wpAny_bind (thn h1 fun _ s0 h0 => wpAny_bind (thn h0 fun _ s2 h2 => wpAny_bind (thn h2 fun ok s3 h3 => ?_)))
      cases ok with
      | true => exact wpAny_bind (wpAny_bind (thn h3 fun x s4 h4 => wpAny_bind (thn h4 fun _ s5 h5 => wpAny_pure (wpAny_pure ⟨rfl, h5⟩))))
      | false => exact wpAny_pure ⟨rfl, h3⟩
  exact codeAny_loop rfl I (fun n s hI => wpAny_noted (wpAny_mono (body n s hI) (fun _ _ q => q) fun _ _ q => q.elim)) n h
def tComp (own : Nat) (js : List Nat) (wi : TI) (g : TG) (tc : TT) (te : TE) : TE := fun σ H Q => wi σ H fun J H1 => ∀ l, H1 l = none →
  ∃ W : Nat → Nat → List V → St → Hp → Prop, (∃ m, W 0 m [] (List.replicate own none ++ js.map fun j => (σ[j]?).join) (upd H1 l (.lst []))) ∧ ∀ i m ys σ' H', W i m ys σ' H' →
    (J.stop i H' ∧ Q (.ref l) H') ∨ (J.go i H' ∧ ∀ x H2, J.yld i H' x H2 → g x σ' H2 fun σ2 H3 => tc σ2 H3 fun b H4 =>
      if b = true then te σ2 H4 fun y H5 => H5 l = some (.lst ys) ∧ ys.length < sizeLine ∧ ∃ m', m' < m ∧ W (i + 1) m' (ys ++ [y]) σ2 (upd H5 l (.lst (ys ++ [y])))
      else ∃ m', m' < m ∧ W (i + 1) m' ys σ2 H4)
def tTrue : TT := fun _ H Q => Q true H
structure CompOk (X : Cx) (scope : Scope) (N : List Str) (own : Nat) (js : List Nat) : Prop where
  kind : scope.kind = .function
  cell : ∀ y ∈ scope.names, y.2 = .cell → scope.names.lookup y.1 = some .cell
  names : ∀ y ∈ scope.names, y.2 = .local → scope.names.lookup y.1 = some .local
  free : ∀ y ∈ scope.names, y.2 = .free → X.env.kindOf y.1 = some .cell ∨ X.env.kindOf y.1 = some .free
  len : N.length = own + js.length
  js : ∀ k j, js[k]? = some j → N[own + k]? = X.N[j]?
  jf : ∀ k x, N[own + k]? = some x → scope.names.lookup x = some .free
theorem Un.but {fs ex : List Addr} {H H' : Hp} {h h1 h2 : Heap} {C : Addr} (u : Un fs ex H H' h h1) (hc : h.objs.size ≤ C) (sb : ∀ b o, b ≠ C → h1.get? b = some o → h2.get? b = some o) : Un fs ex H H' h h2 := by
  have ne : ∀ b o, h.get? b = some o → b ≠ C := fun b o e => Nat.ne_of_lt (Nat.lt_of_lt_of_le (Heap.lt_size e) hc)
  refine ⟨fun b o q n hb hx => sb b o (ne b o q) (u.keep b o q n hb hx), fun b o q n hb hx => ?_, u.free, fun b o q hx => ?_, u.tups, u.frzs, u.tbls⟩
  · obtain ⟨sl, e⟩ := u.slot b o q n hb hx
    exact ⟨sl, sb b _ (ne b o q) e⟩
  · obtain ⟨o', e⟩ := u.there b o q hx
    exact ⟨o', sb b o' (ne b o q) e⟩
theorem cf_app : ∀ (names : List (Str × NameKind)) (n : Nat) (acc : List (Str × Addr)), cellsFrom n names acc = cellsFrom n names [] ++ acc
  | [], _, _ => rfl
  | (x, k) :: r, n, acc => by
    unfold cellsFrom
    by_cases hk : (k == NameKind.cell) = true
    · rw [if_pos hk, if_pos hk, cf_app r (n + 1) ((x, n) :: acc), cf_app r (n + 1) [(x, n)], List.append_assoc]
      rfl
    · rw [if_neg hk, if_neg hk]
      exact cf_app r n acc
theorem cf_from : ∀ (names : List (Str × NameKind)) (n : Nat) (x : Str) (c : Addr), (x, c) ∈ cellsFrom n names [] → (x, NameKind.cell) ∈ names
  | [], _, _, _, h => nomatch h
  | (y, k) :: r, n, x, c, h => by
    unfold cellsFrom at h
    by_cases hk : (k == NameKind.cell) = true
    · rw [if_pos hk, cf_app] at h
      rcases List.mem_append.mp h with q | q
      · exact List.mem_cons_of_mem _ (cf_from r _ x c q)
      · have e : (x, c) = (y, n) := by simpa using q
        cases e
        have hk' : k = .cell := by simpa using hk
        subst hk'
        exact List.mem_cons_self
    · rw [if_neg hk] at h
      exact List.mem_cons_of_mem _ (cf_from r _ x c h)
theorem lookup_of_mem {α : Type} : ∀ {l : List (Str × α)} {x : Str} {c : α}, (x, c) ∈ l → ∃ d, l.lookup x = some d
  | (y, v) :: r, x, c, h => by
    rw [List.lookup_cons]
    cases q : x == y with
    | true => exact ⟨v, rfl⟩
    | false =>
      rcases List.mem_cons.mp h with e | e
      · cases e; simp at q
      · exact lookup_of_mem e
theorem cf_has : ∀ (names : List (Str × NameKind)) (n : Nat) (x : Str), (x, NameKind.cell) ∈ names → ∃ c, (x, c) ∈ cellsFrom n names []
  | [], _, _, h => nomatch h
  | (y, k) :: r, n, x, h => by
    unfold cellsFrom
    rcases List.mem_cons.mp h with e | e
    · cases e
      rw [if_pos (show (NameKind.cell == NameKind.cell) = true from rfl), cf_app]
      exact ⟨n, List.mem_append_right _ (by simp)⟩
    · by_cases hk : (k == NameKind.cell) = true
      · rw [if_pos hk, cf_app]
        obtain ⟨c, q⟩ := cf_has r (n + 1) x e
        exact ⟨c, List.mem_append_left _ q⟩
      · rw [if_neg hk]
        exact cf_has r n x e
theorem lookup_two {α : Type} : ∀ (l m : List (Str × α)) (x : Str), (l ++ m).lookup x = match l.lookup x with | some c => some c | none => m.lookup x
  | [], m, x => rfl
  | (y, v) :: r, m, x => by
    rw [List.cons_append, List.lookup_cons, List.lookup_cons]
    cases x == y with
    | true => rfl
    | false => exact lookup_two r m x
theorem newEnv_cells {M : Model} {A : Around} {E : Value → Shared → Prop} {s : Shared} {scope : Scope} {globals : Addr} {cl : List (Str × Addr)} {qual : Str} {env : Env} {Q : Env → Shared → Prop}
    (h : Q (newEnv scope s.heap.objs.size globals (cellsFrom (s.heap.objs.size + 1) scope.names cl) qual none .none (some env) builtinsNs) { s with heap := pushCells (s.heap.push { cls := .type "dict", data := .dict #[] }) scope.names }) :
    wpAny M A (newFunctionEnv scope globals cl [] qual none .none (some env)) Q E s := by
  simp only [newFunctionEnv, Option.isSome_some, if_true]
  refine wpAny_bind (wpAny_alloc (wpAny_bind (wpAny_layCells _ (fun name kind cells => by cases hkc : kind == NameKind.cell <;> simp [hkc]) _ _ _ _ ?_)))
  rw [show ({ s with heap := s.heap.push { cls := .type "dict", data := .dict #[] } } : Shared).heap.objs.size = s.heap.objs.size + 1 from Heap.size_push ..]
  rw [List.forIn_nil]
  exact wpAny_bind (wpAny_pure (wpAny_pure h))
structure CellsIn (X : Cx) (scope : Scope) (cl' : List (Str × Addr)) (n : Nat) (h' : Heap) : Prop where
  k1 : ∀ x c, cl'.lookup x = some c → X.env.cells.lookup x = some c ∨ (n < c ∧ h'.IsCell c none ∧ (x, NameKind.cell) ∈ scope.names)
  k2 : ∀ x, scope.names.lookup x = some .free → ∃ c, cl'.lookup x = some c ∧ X.env.cells.lookup x = some c
  k3 : ∀ p ∈ scope.names, p.2 = .cell ∨ p.2 = .free → ∃ c, cl'.lookup p.1 = some c
  k4 : ∀ x y c, cl'.lookup x = some c → cl'.lookup y = some c → x = y
  k5 : ∀ x c, scope.names.lookup x = some .cell → cl'.lookup x = some c → n < c
section
variable {X : Cx} {scope : Scope} {N : List Str} {own : Nat} {js : List Nat}
theorem cellsIn_mk {cl : List (Str × Addr)} {n : Nat} {h0 : Heap} (c : CompOk X scope N own js) (cl1 : ∀ x c, cl.lookup x = some c → X.env.cells.lookup x = some c) (cl2 : ∀ p ∈ scope.names, p.2 = .free → ∃ c, cl.lookup p.1 = some c)
    (inj : ∀ x y c, X.env.cells.lookup x = some c → X.env.cells.lookup y = some c → x = y) (lt : ∀ x c, X.env.cells.lookup x = some c → c < n) (hn : h0.objs.size = n + 1) : CellsIn X scope (cellsFrom (n + 1) scope.names cl) n (pushCells h0 scope.names) := by
  have ok := cellsFrom_ok scope.names h0 (n + 1) [] ⟨fun _ _ hm => (nomatch hm), List.Pairwise.nil⟩ (by rw [hn]; exact Nat.le_refl _)
  rw [hn] at ok
  have two : ∀ x, (cellsFrom (n + 1) scope.names cl).lookup x = match (cellsFrom (n + 1) scope.names []).lookup x with | some c => some c | none => cl.lookup x := fun x => by
    rw [cf_app, lookup_two]
    cases (cellsFrom (n + 1) scope.names []).lookup x <;> rfl
  have own' : ∀ x d, (cellsFrom (n + 1) scope.names []).lookup x = some d → (pushCells h0 scope.names).IsCell d none ∧ n < d ∧ (x, NameKind.cell) ∈ scope.names := fun x d e =>
    ⟨(ok.empty x d (mem_of_lookup e)).1, (ok.empty x d (mem_of_lookup e)).2, cf_from _ _ x d (mem_of_lookup e)⟩
  have part : ∀ x d, (cellsFrom (n + 1) scope.names cl).lookup x = some d → (cellsFrom (n + 1) scope.names []).lookup x = some d ∨ ((cellsFrom (n + 1) scope.names []).lookup x = none ∧ cl.lookup x = some d) := fun x d e => by
    rw [two] at e
    cases q : (cellsFrom (n + 1) scope.names []).lookup x with
    | some d' => rw [q] at e; exact .inl e
    | none => rw [q] at e; exact .inr ⟨rfl, e⟩
  have has : ∀ x, (x, NameKind.cell) ∈ scope.names → ∃ d, (cellsFrom (n + 1) scope.names []).lookup x = some d := fun x m => by
    obtain ⟨d, q⟩ := cf_has scope.names (n + 1) x m
    exact lookup_of_mem q
  refine ⟨fun x d e => ?_, fun x e => ?_, fun p hp hk => ?_, fun x y d e1 e2 => ?_, fun x d e1 e2 => ?_⟩
  · rcases part x d e with q | ⟨_, q⟩
    · exact .inr ⟨(own' x d q).2.1, (own' x d q).1, (own' x d q).2.2⟩
    · exact .inl (cl1 x d q)
  · obtain ⟨d, q⟩ := cl2 _ (lookup_mem e) rfl
    have no : (cellsFrom (n + 1) scope.names []).lookup x = none := by
      cases z : (cellsFrom (n + 1) scope.names []).lookup x with
      | none => rfl
      | some d' =>
        have y := c.cell _ (own' x d' z).2.2 rfl
        rw [show scope.names.lookup x = _ from e] at y
        cases y
    exact ⟨d, by rw [two, no]; exact q, cl1 x d q⟩
  · rw [two]
    cases z : (cellsFrom (n + 1) scope.names []).lookup p.1 with
    | some d' => exact ⟨d', rfl⟩
    | none =>
      rcases hk with hk | hk
      · obtain ⟨d, q⟩ := has p.1 (by rw [← hk]; exact hp)
        rw [z] at q; cases q
      · exact cl2 p hp hk
  · rcases part x d e1 with q1 | ⟨_, q1⟩
    · rcases part y d e2 with q2 | ⟨_, q2⟩
      · exact name_of_addr ok.apart (mem_of_lookup q1) (mem_of_lookup q2)
      · exact absurd (Nat.lt_trans (own' x d q1).2.1 (lt y d (cl1 y d q2))) (Nat.lt_irrefl _)
    · rcases part y d e2 with q2 | ⟨_, q2⟩
      · exact absurd (Nat.lt_trans (own' y d q2).2.1 (lt x d (cl1 x d q1))) (Nat.lt_irrefl _)
      · exact inj x y d (cl1 x d q1) (cl1 y d q2)
  · obtain ⟨d', q⟩ := has x (lookup_mem e1)
    rw [two, q] at e2
    cases e2
    exact (own' x d q).2.1
theorem comp_start {pins : List (Addr × Obj)} {σ : St} {H : Hp} {s : Shared} {cl : List (Str × Addr)} {fp : List Addr} {h' : Heap} {t' : Nat} (c : CompOk X scope N own js) (I : Inv X pins σ H s) (hf : ∀ b ∈ fp, FpOk X pins H b)
    (fo : ∀ b ∈ fp, b < s.heap.objs.size)
    (ci : CellsIn X scope cl s.heap.objs.size h')
    (hn : h'.Ns s.heap.objs.size (fun _ => none)) (hk : ∀ b o, s.heap.get? b = some o → h'.get? b = some o) :
    Inv (cxIn X N scope cl s.heap.objs.size s H fp pins) [] (List.replicate own none ++ js.map fun j => (σ[j]?).join) H { s with heap := h', toks := t' } := by
  have cne : ∀ x c, cl.lookup x = some c → c ≠ s.heap.objs.size := fun x c e => by
    rcases ci.k1 x c e with q | ⟨q, _⟩
    · obtain ⟨v, q⟩ := I.cell x c q
      exact Nat.ne_of_lt q.lt
    · exact Nat.ne_of_gt q
  have ok : (cxIn X N scope cl s.heap.objs.size s H fp pins).Ok := by
    refine ⟨I.ok.mod, c.kind, I.ok.glob, I.ok.blt, Nat.le_refl _, ci.k4, fun x hx => ?_, fun x d z e => Nat.le_of_lt (ci.k5 x d (beq_iff_eq.mp (show (scope.names.lookup x == some .cell) = true from z)) e), I.ok.hd, I.ok.frames, .inl rfl, fun b hb => ⟨Nat.ne_of_lt (fo b hb), fun x d e => (ci.k1 x d e).elim (fun q => (hf b hb).2.2.2.2.1 x d q) fun q => Nat.ne_of_gt (Nat.lt_trans (fo b hb) q.1)⟩, I.bs,
      Nat.le_trans I.ok.bsz I.sz, fun b o e hb => ?_, fun b hb z => ?_, I.stack, I.stkFree⟩
    · have back : ∀ k, (relabel scope X.env).names.lookup x = some k → k = .cell ∨ k = .free → ∃ k', (x, k') ∈ scope.names ∧ (k' = NameKind.cell ∨ k' = NameKind.free) := fun k e hk => by
        obtain ⟨k', e', z⟩ := relabel_back e
        refine ⟨k', lookup_mem e', ?_⟩
        rcases z with z | z
        · subst z; exact hk
        · exact .inr z
      obtain ⟨k', m, hk'⟩ : ∃ k', (x, k') ∈ scope.names ∧ (k' = NameKind.cell ∨ k' = NameKind.free) := by
        rcases hx with hx | hx
        · exact back _ hx (.inl rfl)
        · exact back _ hx (.inr rfl)
      exact ci.k3 _ m hk'
    · rcases (hf b hb).2.2.2.1 with z | z
      · exact I.ok.noex b o e z
      · exact absurd (Nat.lt_of_lt_of_le (Nat.lt_of_lt_of_le (Heap.lt_size e) I.ok.bsz) z) (Nat.lt_irrefl _)
    · rcases List.mem_cons.mp (I.stkSub b z) with q | q
      · exact (hf b hb).2.1 q
      · exact (hf b hb).2.2.1 q
  refine ⟨ok, rfl, I.bare, Un.kept hk, ⟨_, hn, fun i x v e1 e2 e3 => ?_⟩, fun x d e => ?_, I.hok.fresh (Nat.le_refl _), fun x d e => (ci.k1 x d e).elim (fun q => I.freeC x d q) fun q => I.hok.fresh (Nat.le_of_lt q.1), fun p hp => ?_, I.hok.kept hk, ?_⟩
  · -- a name with a value is one that the block closes over
    have hi : own ≤ i := by
      by_cases hi : i < own
      · rw [List.getElem?_append_left (by simpa using hi), List.getElem?_replicate] at e2
        split at e2 <;> cases e2
      · omega
    obtain ⟨k, rfl⟩ : ∃ k, i = own + k := ⟨i - own, by omega⟩
    rw [List.getElem?_append_right (by simp), List.length_replicate, Nat.add_sub_cancel_left, List.getElem?_map] at e2
    cases q : js[k]? with
    | none => rw [q] at e2; cases e2
    | some j =>
      rw [q] at e2
      have e2' : (σ[j]?).join = some v := by simpa using e2
      have e4 : σ[j]? = some (some v) := by
        cases z : σ[j]? with
        | none => rw [z] at e2'; cases e2'
        | some o => rw [z] at e2'; rw [show o = some v from e2']
      have e1' : N[own + k]? = some x := e1
      have hXN : X.N[j]? = some x := (c.js k j q).symm.trans e1'
      have hfr := c.jf k x e1'
      have hmem := lookup_mem hfr
      have hk2 := c.free _ hmem rfl
      have vis : Vis X.env.scope x := by
        rcases hk2 with z | z
        · exact .inr (.inl z)
        · exact .inr (.inr z)
      obtain ⟨m, _, hl⟩ := I.loc
      obtain ⟨u, r, l⟩ := hl j x v hXN e4 vis
      refine ⟨u, r, ?_⟩
      rcases l with ⟨z, _⟩ | ⟨_, d, e, ⟨od, ho, hd⟩⟩
      · rcases hk2 with y | y
        · rw [show X.env.kindOf x = _ from z] at y; cases y
        · rw [show X.env.kindOf x = _ from z] at y; cases y
      · obtain ⟨d', e', z'⟩ := ci.k2 x hfr
        have : d' = d := by have z := z'; rw [e] at z; exact (Option.some.inj z).symm
        subst this
        refine .inr ⟨?_, d', e', ⟨od, hk _ _ ho, hd⟩⟩
        rcases lookup_relabel_kind (scope := scope) (env := X.env) hfr with z | ⟨_, z⟩
        · exact .inr z
        · exact .inl z
  · rcases ci.k1 x d e with q | ⟨_, q, _⟩
    · obtain ⟨v, ⟨o, ho, hd⟩⟩ := I.cell x d q
      exact ⟨v, o, hk _ _ ho, hd⟩
    · exact ⟨none, q⟩
  · have hp' : p ∈ X.pn ++ pins := by
      have z : p ∈ (X.pn ++ pins) ++ [] := hp
      rwa [List.append_nil] at z
    obtain ⟨a1, a2, a3, a4, a5⟩ := I.pin p hp'
    refine ⟨hk _ _ a1, a2, Nat.ne_of_lt (Heap.lt_size a1), fun z => ?_, a5⟩
    rcases List.mem_cons.mp (I.stkSub p.1 z) with q | q
    · exact a3 q
    · exact a4 q
  · show _ = N.length
    rw [c.len]; simp
theorem comp_block {pins : List (Addr × Obj)} {σ : St} {H : Hp} {s : Shared} {elt target iter : PySem.Expr} {ifs : List PySem.Expr} {pos : Pos} {it : Addr} {fp : List Addr} {tn : Nat → Heap → Prop} {J : It} {cl : List (Str × Addr)} {g : TG} {tc : TT} {te : TE} {E : Value → Shared → Prop} {Q : VK}
    {RR : Value → Addr → Result → Shared → Prop}
    (c : CompOk X scope N own js) (hc : X.calm = true) (I : Inv X pins σ H s) (T : Turn X.prog X.w X.K target J fp it tn) (st : tn 0 s.heap) (hf : ∀ b ∈ fp, FpOk X pins H b)
    (cl1 : ∀ x c, cl.lookup x = some c → X.env.cells.lookup x = some c) (cl2 : ∀ p ∈ scope.names, p.2 = .free → ∃ c, cl.lookup p.1 = some c)
    (hg : ∀ cl C s0 H0 fp pins, PG (cxIn X N scope cl C s0 H0 fp pins) target g)
    (ht : ∀ cl C s0 H0 fp pins pins' s σ H Q, Inv (cxIn X N scope cl C s0 H0 fp pins) pins' σ H s → tc σ H Q → wpAny (model X.prog X.w) X.A (forIn ifs true fun c r => if r = true then do let ok ← isTrue c (compEnvC scope cl C X.env) (eval c (compEnvC scope cl C X.env)); pure (ForInStep.yield ok) else pure (ForInStep.yield r))
      (TP (cxIn X N scope cl C s0 H0 fp pins) pins' σ Q) (fun _ _ => False) s)
    (he : ∀ cl C s0 H0 fp pins, PE (cxIn X N scope cl C s0 H0 fp pins) elt te)
    (h : ∀ l, H l = none → ∃ W : Nat → Nat → List V → St → Hp → Prop, (∃ m, W 0 m [] (List.replicate own none ++ js.map fun j => (σ[j]?).join) (upd H l (.lst []))) ∧ ∀ i m ys σ' H', W i m ys σ' H' →
      (J.stop i H' ∧ Q (.ref l) H') ∨ (J.go i H' ∧ ∀ x H2, J.yld i H' x H2 → g x σ' H2 fun σ2 H3 => tc σ2 H3 fun b H4 =>
        if b = true then te σ2 H4 fun y H5 => H5 l = some (.lst ys) ∧ ys.length < sizeLine ∧ ∃ m', m' < m ∧ W (i + 1) m' (ys ++ [y]) σ2 (upd H5 l (.lst (ys ++ [y])))
        else ∃ m', m' < m ∧ W (i + 1) m' ys σ2 H4))
    (hRR : ∀ l C H' s' m', s.heap.objs.size ≤ C → s'.heap.Ns C m' → H' C = none → C ≠ X.env.locals → C ∉ X.fs → (∀ h2, Heap.SameBut C s'.heap h2 → Inv X pins σ H' { s' with heap := h2 }) → Q (.ref l) H' → RR (.ref l) C (.ok .next) s') :
    wpAny (model X.prog X.w) X.A (newList []) (fun acc s3 => wpAny (model X.prog X.w) X.A (newFunctionEnv scope X.env.globals cl [] X.env.qual none .none (some X.env)) (fun cenv s4 =>
      codeAny (model X.prog X.w) X.A (.compStart (.ListComp elt [⟨target, iter, ifs, 0⟩] scope pos) 0 (.ref it) acc { cenv with scope := relabel scope X.env }) (RR acc cenv.locals) s4) E s3) E s := by
  have I2 : Inv X pins σ (upd H s.heap.objs.size (.lst [])) { s with heap := s.heap.push { cls := .type "list", dict := none, data := .seq ([] : List Value).toArray }, toks := s.toks } := I.lnew (ys := []) .nil (Nat.zero_le _)
  obtain ⟨W, ⟨m0, w0⟩, turn⟩ := h s.heap.objs.size I.fresh
  refine wpAny_newObj_type (newEnv_cells ?_)
  dsimp only
  generalize hS : ({ s with heap := s.heap.push { cls := .type "list", dict := none, data := .seq ([] : List Value).toArray }, toks := s.toks } : Shared) = s2 at I2
  have e2 : s2.heap = s.heap.push { cls := .type "list", dict := none, data := .seq ([] : List Value).toArray } := by rw [← hS]
  have sz2 : s2.heap.objs.size = s.heap.objs.size + 1 := by rw [e2, Heap.size_push]
  rw [← e2]
  have ci := cellsIn_mk (h0 := s2.heap.push { cls := .type "dict", data := .dict #[] }) (n := s2.heap.objs.size) c cl1 cl2 I2.ok.inj (fun x d e => by obtain ⟨v, q⟩ := I2.cell x d e; exact q.lt) (Heap.size_push ..)
  have hns1' : (pushCells (s2.heap.push { cls := .type "dict", data := .dict #[] }) scope.names).Ns s2.heap.objs.size (fun _ => none) := (Heap.Ns.new s2.heap (.type "dict")).keeps (pushCells_keeps _ _)
  have old : ∀ b o, s2.heap.get? b = some o → (pushCells (s2.heap.push { cls := .type "dict", data := .dict #[] }) scope.names).get? b = some o := fun b o e => pushCells_keeps _ _ b o (Heap.get?_push_of_some _ e)
  generalize pushCells (s2.heap.push { cls := .type "dict", data := .dict #[] }) scope.names = h1 at ci hns1' old ⊢
  generalize hcl : cellsFrom (s2.heap.objs.size + 1) scope.names cl = cl' at ci ⊢
  have lt1 : ∀ b, b ∈ fp → b < s.heap.objs.size := fun b hb => by
    obtain ⟨o, e, _⟩ := T.obj 0 _ st b hb
    exact Heap.lt_size e
  have hf2 : ∀ b ∈ fp, FpOk X pins (upd H s.heap.objs.size (.lst [])) b := fun b hb => ⟨by rw [upd_ne (Nat.ne_of_lt (lt1 b hb))]; exact (hf b hb).1, (hf b hb).2⟩
  have lt2 : ∀ b ∈ fp, b < s2.heap.objs.size := fun b hb => by rw [sz2]; exact Nat.lt_succ_of_lt (lt1 b hb)
  have st2 : tn 0 s2.heap := T.keep 0 _ _ st fun b _ o e => by rw [e2]; exact Heap.get?_push_of_some _ e
  have I4 := comp_start (t' := s.toks) c I2 hf2 lt2 ci hns1' old
  have st4 : tn 0 h1 := T.keep 0 _ _ st2 fun b _ o e => old b o e
  have es : ({ s2 with heap := h1, toks := s.toks } : Shared) = { s with heap := h1, toks := s.toks } := by rw [← hS]
  rw [es] at I4
  generalize hs4 : ({ s with heap := h1, toks := s.toks } : Shared) = s4 at I4
  have st4' : tn 0 s4.heap := by rw [← hs4]; exact st4
  have loop : codeAny (model X.prog X.w) X.A (.compLoop (.ListComp elt [⟨target, iter, ifs, 0⟩] scope pos) 0 (.ref it) (.ref s.heap.objs.size) (compEnvC scope cl' s2.heap.objs.size X.env)) (RR (.ref s.heap.objs.size) s2.heap.objs.size) s4 := by
    refine comp_loop (fun n s' => ∃ i ys σ' H', Inv (cxIn X N scope cl' s2.heap.objs.size s2 (upd H s.heap.objs.size (.lst [])) fp pins) [] σ' H' s' ∧ tn i s'.heap ∧ (∀ b ∈ fp, H' b = none) ∧ W i n ys σ' H') ?_ m0
      ⟨0, [], _, _, I4, st4', fun b hb => (hf2 b hb).1, w0⟩
    rintro n s5 ⟨i, ys, σ5, H5, I5, st5, fr5, w5⟩
    have stat : ∀ {H' : Hp} {s' : Shared} {σ' : St}, Inv (cxIn X N scope cl' s2.heap.objs.size s2 (upd H s.heap.objs.size (.lst [])) fp pins) [] σ' H' s' → (∀ b ∈ fp, H' b = none) → ∀ b ∈ fp, FpOk (cxIn X N scope cl' s2.heap.objs.size s2 (upd H s.heap.objs.size (.lst [])) fp pins) [] H' b := fun J' hn b hb =>
      ⟨hn b hb, (J'.ok.exf b hb).1, J'.ok.exfs b hb, .inl hb, (J'.ok.exf b hb).2, fun p hp z => by
        have hp' : p ∈ X.pn ++ pins := by
          have q : p ∈ (X.pn ++ pins) ++ [] := hp
          rwa [List.append_nil] at q
        exact (hf b hb).2.2.2.2.2 p hp' z⟩
    rcases turn i n ys σ5 H5 w5 with ⟨stop, q⟩ | ⟨go, step⟩
    · refine wpAny_mono (T.done (cxIn X N scope cl' s2.heap.objs.size s2 (upd H s.heap.objs.size (.lst [])) fp pins) rfl rfl rfl hc i [] s5 σ5 H5 (fun _ _ => False) I5 (stat I5 fr5) st5 stop) (fun r s6 ⟨hr, I6⟩ => ?_) fun _ _ z => z
      subst hr
      obtain ⟨m', hn', _⟩ := I6.loc
      have hC : s.heap.objs.size ≤ s2.heap.objs.size := by rw [sz2]; exact Nat.le_succ _
      refine hRR _ _ H5 s6 m' hC hn' I6.free ?_ ?_ (fun h2 sb => ?_) q
      · exact Nat.ne_of_gt I2.lt
      · exact I2.nofs (Nat.le_refl _)
      · have u : Un (frs X.stack) fp (upd H s.heap.objs.size (.lst [])) H5 s2.heap h2 := I6.base.but (Nat.le_refl _) sb.extBut
        have z6 : H5 s2.heap.objs.size = none := I6.free
        have hok : HOk X.prog X.w H5 h2 := fun b ob e => (I6.hok b ob e).stay (fun d w' hd z => sb.extBut d w' (by
          rintro rfl
          rcases hd with rfl | hd
          · rw [z6] at e; cases e
          · rw [z6] at hd; cases hd) z) (fun _ z => z) fun _ _ z => z
        have J := I2.call' (s' := { s6 with heap := h2 }) (ch := fp) (by show s6.os = s2.os; exact I6.os) u hok I6.bare fun b hb => ⟨(hf b hb).2.2.2.1, (hf b hb).2.1, (hf b hb).2.2.2.2.1, (hf b hb).2.2.2.2.2⟩
        exact J
    · refine wpAny_mono (T.item (cxIn X N scope cl' s2.heap.objs.size s2 (upd H s.heap.objs.size (.lst [])) fp pins) rfl rfl rfl hc i [] s5 σ5 H5 (fun _ _ => False) I5 (stat I5 fr5) st5 go) (fun r s6 ⟨u, hr, h6⟩ => ?_) fun _ _ z => z
      subst hr
      refine wpAny_mono h6 (fun _ s7 ⟨x, H7, I7, r7, y7, st7, fr7⟩ => ?_) fun _ _ z => z
      have I7' := I7.pinned (stat I7 fr7) (T.obj _ _ st7)
      refine wpAny_mono (hg _ _ _ _ _ _ _ s7 σ5 H7 x u _ I7' r7 (step x H7 y7)) (fun _ s8 ⟨σ8, H8, I8, q8⟩ => ?_) fun _ _ z => z
      refine wpAny_mono (ht _ _ _ _ _ _ _ s8 σ8 H8 _ I8 q8) (fun b s9 ⟨H9, I9, q9⟩ => ?_) fun _ _ z => z
      have fin : ∀ {s' : Shared} {H' : Hp} {m' : Nat} {ys' : List V}, Inv (cxIn X N scope cl' s2.heap.objs.size s2 (upd H s.heap.objs.size (.lst [])) fp pins) ([] ++ pinsAt fp s7.heap) σ8 H' s' → m' < n → W (i + 1) m' ys' σ8 H' →
          ∃ m, m < n ∧ ∃ i ys σ' H', Inv (cxIn X N scope cl' s2.heap.objs.size s2 (upd H s.heap.objs.size (.lst [])) fp pins) [] σ' H' s' ∧ tn i s'.heap ∧ (∀ b ∈ fp, H' b = none) ∧ W i m ys σ' H' := fun {s' H' m' ys'} J' hm w' => by
        refine ⟨m', hm, i + 1, ys', σ8, H', J'.unpinned, T.keep _ _ _ st7 fun b hb o e => (J'.pin (b, o) (List.mem_append_right _ (List.mem_append_right _ (mem_pinsAt hb e)))).1, fun b hb => ?_, w'⟩
        obtain ⟨o, e, d⟩ := T.obj _ _ st7 b hb
        exact (J'.pin (b, o) (List.mem_append_right _ (List.mem_append_right _ (mem_pinsAt hb e)))).2.1
      cases b with
      | false =>
        rw [if_neg Bool.false_ne_true] at q9 ⊢
        obtain ⟨m', hm, w'⟩ := q9
        exact fin I9 hm w'
      | true =>
        rw [if_pos rfl] at q9 ⊢
        refine wpAny_mono (he _ _ _ _ _ _ _ s9 σ8 H9 _ I9 q9) (fun y s10 ⟨z, H10, I10, r10, el, ez, m', hm, w'⟩ => ?_) fun _ _ z => z
        refine wpAny_mono (mt_append (X := cxIn X N scope cl' s2.heap.objs.size s2 (upd H s.heap.objs.size (.lst [])) fp pins) _ s10 σ8 H10 (.ref s.heap.objs.size) [z] _ [y] (fun _ H' => H' = upd H10 s.heap.objs.size (.lst (ys ++ [z]))) I10 rfl (.cons r10 .nil) ⟨_, _, _, rfl, rfl, el, ez, rfl⟩) (fun _ s11 ⟨_, H11, I11, _, e11⟩ => ?_) fun _ _ z => z
        subst e11
        exact fin I11 hm w'
  have fin : codeAny (model X.prog X.w) X.A (.compStart (.ListComp elt [⟨target, iter, ifs, 0⟩] scope pos) 0 (.ref it) (.ref s.heap.objs.size) (compEnvC scope cl' s2.heap.objs.size X.env)) (RR (.ref s.heap.objs.size) s2.heap.objs.size) s4 :=
    codeAny_compStart_list loop (T.self X.A 0 s4 _ _ st4' loop)
  exact fin
theorem pe_compG {elt target iter : PySem.Expr} {ifs : List PySem.Expr} {pos : Pos} {wi : TI} {g : TG} {tc : TT} {te : TE} (c : CompOk X scope N own js) (hc : X.calm = true) (hi : PI X target iter wi)
    (hg : ∀ cl C s0 H0 fp pins, PG (cxIn X N scope cl C s0 H0 fp pins) target g)
    (ht : ∀ cl C s0 H0 fp pins pins' s σ H Q, Inv (cxIn X N scope cl C s0 H0 fp pins) pins' σ H s → tc σ H Q → wpAny (model X.prog X.w) X.A (forIn ifs true fun c r => if r = true then do let ok ← isTrue c (compEnvC scope cl C X.env) (eval c (compEnvC scope cl C X.env)); pure (ForInStep.yield ok) else pure (ForInStep.yield r))
      (TP (cxIn X N scope cl C s0 H0 fp pins) pins' σ Q) (fun _ _ => False) s)
    (he : ∀ cl C s0 H0 fp pins, PE (cxIn X N scope cl C s0 H0 fp pins) elt te)
    (hs : ∀ x, foldedSetIterable iter X.env x = pure x := by intro _; rfl) : PE X (.ListComp elt [⟨target, iter, ifs, 0⟩] scope pos) (tComp own js wi g tc te) := by
  intro pins s σ H Q I h
  obtain ⟨cl, e1, cl1, _, cl2⟩ := closure_for (env := X.env) scope.names [] (fun p hp hf => I.ok.has _ (c.free p hp hf)) (fun x d e => by simp at e)
  have hclos : closureFor scope X.env = pure cl := by
    unfold closureFor
    refine (congrArg (fun z => z >>= fun cs => pure cs) e1).trans ?_
    rfl
  rw [eval_ListComp]
  refine wpAny_comprehension_free (use := none) rfl hs hclos c.kind c.names (wpAny_mono (hi pins s σ H _ I h) (fun x s1 h1 => wpAny_mono h1 (fun itv s2 h2 => ?_) fun _ _ e => e) fun _ _ e => e)
  obtain ⟨it, fp, tn, J, H2, e, I2, T, st2, f2, q⟩ := h2
  subst e
  refine comp_block (Q := Q) (RR := fun acc C => compPost (model X.prog X.w) X.A X.xe none (EP X pins σ Q) acc C) c hc I2 T st2 f2 cl1 cl2 hg ht he q ?_
  intro l C H' s' m' hC hn hf hL hfs hI hq
  exact ⟨m', hn, fun h2 sb => ⟨.ref l, H', hI h2 sb, rfl, hq⟩⟩
theorem ps_compG {elt target iter : PySem.Expr} {ifs : List PySem.Expr} {pos pos' spos : Pos} {y : Str} {k : Nat} {wi : TI} {g : TG} {tc : TT} {te : TE} (c : CompOk X scope N own js) (hc : X.calm = true) (hN : X.N.Nodup) (hk : X.N[k]? = some y) (hy : X.env.scope.names.lookup y = some .local) (hi : PI X target iter wi)
    (hg : ∀ cl C s0 H0 fp pins, PG (cxIn X N scope cl C s0 H0 fp pins) target g)
    (ht : ∀ cl C s0 H0 fp pins pins' s σ H Q, Inv (cxIn X N scope cl C s0 H0 fp pins) pins' σ H s → tc σ H Q → wpAny (model X.prog X.w) X.A (forIn ifs true fun c r => if r = true then do let ok ← isTrue c (compEnvC scope cl C X.env) (eval c (compEnvC scope cl C X.env)); pure (ForInStep.yield ok) else pure (ForInStep.yield r))
      (TP (cxIn X N scope cl C s0 H0 fp pins) pins' σ Q) (fun _ _ => False) s)
    (he : ∀ cl C s0 H0 fp pins, PE (cxIn X N scope cl C s0 H0 fp pins) elt te)
    (hs : ∀ x, foldedSetIterable iter X.env x = pure x := by intro _; rfl)
    (hsw : swapsWith (.ListComp elt [⟨target, iter, ifs, 0⟩] scope pos) (some (.Name y pos')) spos.line X.env = pure true := by rfl) : PS X (.Assign [.Name y pos'] (.ListComp elt [⟨target, iter, ifs, 0⟩] scope pos) spos) (tAsg (tComp own js wi g tc te) (gName k)) := by
  intro pins s σ H D I h
  obtain ⟨cl, e1, cl1, _, cl2⟩ := closure_for (env := X.env) scope.names [] (fun p hp hf => I.ok.has _ (c.free p hp hf)) (fun x d e => by simp at e)
  have hclos : closureFor scope X.env = pure cl := by
    unfold closureFor
    refine (congrArg (fun z => z >>= fun cs => pure cs) e1).trans ?_
    rfl
  rw [exec_Assign_Name_used _ _ _ _ hsw]
  refine wpAny_bind (wpAny_standAt (wpAny_bind ?_))
  show wpAny _ X.A (do let _ ← comprehension (.ListComp elt [⟨target, iter, ifs, 0⟩] scope pos) scope X.env _ (newList []) false (eval iter X.env) (some (assign (.Name y pos') X.env))) _ _ s
  refine wpAny_bind (wpAny_mono (wpAny_comprehension_free (use := some (assign (.Name y pos') X.env)) (Q := fun _ s' => SP X pins D .next s') rfl hs hclos c.kind c.names
    (wpAny_mono (hi pins s σ H _ I h) (fun xv s1 h1 => wpAny_mono h1 (fun it s2 h2 => ?_) fun _ _ e => e) fun _ _ e => e)) (fun _ s' hq => wpAny_pure (wpAny_pure hq)) fun _ _ e => e)
  obtain ⟨it, fp, tn, J, H2, e, I2, T, st2, f2, q⟩ := h2
  subst e
  refine comp_block (Q := fun x H1 => gName k x σ H1 D.nx) (RR := fun acc C => compPost (model X.prog X.w) X.A X.xe (some (assign (.Name y pos') X.env)) (fun _ s' => SP X pins D .next s') acc C) c hc I2 T st2 f2 cl1 cl2 hg ht he q ?_
  intro l C H' s' m' hC hn hf hL hfs hI hq
  have J0 := hI s'.heap (Heap.SameBut.refl ..)
  show wpAny _ X.A (assign (.Name y pos') X.env (.ref l)) _ _ _
  have J1 : Inv X pins σ H' s' := J0
  refine wpAny_assign_Name (store_ok2 (v := .ref l) J1 hN hk (.inl hy) rfl (fun s'' I'' hsb => ?_) (.inr hy))
  obtain ⟨a, sb, ha⟩ := hsb
  have hne : C ≠ a := by
    rcases ha with rfl | ha
    · exact hL
    · rintro rfl
      obtain ⟨v, ⟨o, ho, hd⟩⟩ := J1.cell y C ha
      obtain ⟨o', es, ep, ho', hd', _⟩ := hn
      rw [ho] at ho'; cases ho'
      rw [hd] at hd'; cases hd'
  refine ⟨m', hn.sameBut sb hne, fun h2 sb2 => ?_⟩
  have hok : HOk X.prog X.w H' h2 := fun b ob e => (I''.hok b ob e).stay (fun d w' hd z => sb2.extBut d w' (by
    rintro rfl
    rcases hd with rfl | hd
    · rw [hf] at e; cases e
    · rw [hf] at hd; cases hd) z) (fun _ z => z) fun _ _ z => z
  have cne : ∀ x d, X.env.cells.lookup x = some d → d ≠ C := fun x d e z => by
    subst z
    obtain ⟨v, ⟨o, ho, hd⟩⟩ := J1.cell x d e
    obtain ⟨o', es, ep, ho', hd', _⟩ := hn
    rw [ho] at ho'; cases ho'
    rw [hd] at hd'; cases hd'
  have hpn : ∀ p ∈ X.pn ++ pins, p.1 ≠ C := fun p hp z => by
    have a1 := (I2.pin p hp).1
    exact absurd (Nat.lt_of_lt_of_le (Heap.lt_size a1) (by rw [z]; exact hC)) (Nat.lt_irrefl _)
  have fin : Inv X pins (σ.set k (some (.ref l))) H' { s'' with heap := h2 } := I''.turned (t' := s''.toks) (it := C) (fun b o hb e => sb2.extBut b o hb e) hf hL (.inr (Nat.le_trans I2.sz hC)) cne hpn
  exact ⟨_, H', fin, hq⟩
theorem pe_comp0 {elt target iter : PySem.Expr} {pos : Pos} {wi : TI} {g : TG} {te : TE} (c : CompOk X scope N own js) (hc : X.calm = true) (hi : PI X target iter wi)
    (hg : ∀ cl C s0 H0 fp pins, PG (cxIn X N scope cl C s0 H0 fp pins) target g) (he : ∀ cl C s0 H0 fp pins, PE (cxIn X N scope cl C s0 H0 fp pins) elt te)
    (hs : ∀ x, foldedSetIterable iter X.env x = pure x := by intro _; rfl) : PE X (.ListComp elt [⟨target, iter, [], 0⟩] scope pos) (tComp own js wi g tTrue te) :=
  pe_compG c hc hi hg (fun cl C s0 H0 fp pins pins' s σ H Q I h => wpAny_tests_nil ⟨H, I, h⟩) he hs
theorem pe_comp1 {elt target iter tst : PySem.Expr} {pos : Pos} {wi : TI} {g : TG} {tc : TT} {te : TE} (c : CompOk X scope N own js) (hc : X.calm = true) (hi : PI X target iter wi)
    (hg : ∀ cl C s0 H0 fp pins, PG (cxIn X N scope cl C s0 H0 fp pins) target g) (ht : ∀ cl C s0 H0 fp pins, PT (cxIn X N scope cl C s0 H0 fp pins) tst tc) (he : ∀ cl C s0 H0 fp pins, PE (cxIn X N scope cl C s0 H0 fp pins) elt te)
    (hs : ∀ x, foldedSetIterable iter X.env x = pure x := by intro _; rfl) : PE X (.ListComp elt [⟨target, iter, [tst], 0⟩] scope pos) (tComp own js wi g tc te) :=
  pe_compG c hc hi hg (fun cl C s0 H0 fp pins pins' s σ H Q I h => wpAny_tests_one (ht cl C s0 H0 fp pins pins' s σ H Q I h)) he hs
theorem ps_comp0 {elt target iter : PySem.Expr} {pos pos' spos : Pos} {y : Str} (k : Nat) {wi : TI} {g : TG} {te : TE} (c : CompOk X scope N own js) (hc : X.calm = true) (hN : X.N.Nodup) (hk : X.N[k]? = some y) (hy : X.env.scope.names.lookup y = some .local) (hi : PI X target iter wi)
    (hg : ∀ cl C s0 H0 fp pins, PG (cxIn X N scope cl C s0 H0 fp pins) target g) (he : ∀ cl C s0 H0 fp pins, PE (cxIn X N scope cl C s0 H0 fp pins) elt te)
    (hs : ∀ x, foldedSetIterable iter X.env x = pure x := by intro _; rfl)
    (hsw : swapsWith (.ListComp elt [⟨target, iter, [], 0⟩] scope pos) (some (.Name y pos')) spos.line X.env = pure true := by rfl) : PS X (.Assign [.Name y pos'] (.ListComp elt [⟨target, iter, [], 0⟩] scope pos) spos) (tAsg (tComp own js wi g tTrue te) (gName k)) :=
  ps_compG c hc hN hk hy hi hg (fun cl C s0 H0 fp pins pins' s σ H Q I h => wpAny_tests_nil ⟨H, I, h⟩) he hs hsw
end
end L2
set_option Elab.async false
set_option linter.all false
set_option maxRecDepth 100000
set_option maxHeartbeats 4000000
namespace L2
open PySem PySem.Spec PyProof.Rows
section
variable {X : Cx} {pins : List (Addr × Obj)} {σ : St} {H : Hp} {s : Shared}
theorem HOk.offCh {P : Program} {w : World} {h h' : Heap} {ch : List Addr} (hok : HOk P w H h) (hn : ∀ b ∈ ch, H b = none) (k : ∀ b o, b ∉ ch → h.get? b = some o → h'.get? b = some o) : HOk P w H h' := fun b ob e =>
  (hok b ob e).stay (fun d u hd z => k d u (fun m => by
    rcases hd with rfl | hd
    · rw [hn _ m] at e; cases e
    · rw [hn _ m] at hd; cases hd) z) (fun _ z => z) fun _ _ z => z
theorem Inv.turnedCh {ch : List Addr} {h' : Heap} {t' : Nat} (I : Inv X pins σ H s) (hch : ∀ b ∈ ch, FpOk X pins H b) (k : ∀ b o, b ∉ ch → s.heap.get? b = some o → h'.get? b = some o) :
    Inv X pins σ H { s with heap := h', toks := t' } := by
  have u : Un (frs X.stack) ch H H s.heap h' := ⟨fun b o q _ _ hx => k b o hx q, fun b o q _ _ hx => ⟨o.slots, k b o hx q⟩, fun _ _ _ n _ => n, fun b o q hx => ⟨o, k b o hx q⟩, fun _ _ q => q, fun _ _ _ q => q, fun _ _ _ q => q⟩
  exact I.call (g' := s.gens) (d' := s.drawn) (t' := t') u (I.hok.offCh (fun b hb => (hch b hb).1) k) I.bare fun b hb => ⟨(hch b hb).2.2.2.1, (hch b hb).2.1, (hch b hb).2.2.2.2.1, (hch b hb).2.2.2.2.2⟩
theorem Inv.laidCh {ch : List Addr} {h' : Heap} {t' : Nat} {o : HO} (I : Inv X pins σ H s) (hch : ∀ b ∈ ch, FpOk X pins H b) (k : ∀ b o, b ∉ ch → s.heap.get? b = some o → h'.get? b = some o)
    (new : ObjOk X.prog X.w (upd H s.heap.objs.size o) h' s.heap.objs.size o) : Inv X pins σ (upd H s.heap.objs.size o) { s with heap := h', toks := t' } := by
  have fr : H s.heap.objs.size = none := I.hok.fresh (Nat.le_refl _)
  have ne : ∀ b ob, s.heap.get? b = some ob → b ≠ s.heap.objs.size := fun b ob e => Nat.ne_of_lt (Heap.lt_size e)
  have nt : ∀ b ob, H b = some ob → b ≠ s.heap.objs.size := fun b ob e => ne_of_none e fr
  have u : Un (frs X.stack) ch H (upd H s.heap.objs.size o) s.heap h' := ⟨fun b o q _ _ hx => k b o hx q, fun b o q _ _ hx => ⟨o.slots, k b o hx q⟩, fun b ob q n _ => by rw [upd_ne (ne b ob q)]; exact n, fun b o q hx => ⟨o, k b o hx q⟩,
    fun b xs q => by rw [upd_ne (nt b _ q)]; exact q, fun b ob xs q => by rw [upd_ne (nt b _ q)]; exact q, fun b _ _ q => by rw [upd_ne (nt b _ q)]; exact q⟩
  have hok : HOk X.prog X.w (upd H s.heap.objs.size o) h' := fun b ob e => by
    by_cases hb : b = s.heap.objs.size
    · subst hb
      rw [upd_same] at e; cases e
      exact new
    · rw [upd_ne hb] at e
      refine (I.hok b ob e).stay (fun d u hd z => k d u (fun m => ?_) z) (fun d z => by rw [upd_ne (nt d _ z)]; exact z) (fun d xs z => by rw [upd_ne (nt d _ z)]; exact z) fun d oz z => by rw [upd_ne (nt d _ z)]; exact z
      have hn := (hch d m).1
      rcases hd with rfl | hd
      · rw [hn] at e; cases e
      · rw [hn] at hd; cases hd
  exact I.call (g' := s.gens) (d' := s.drawn) (t' := t') u hok I.bare fun b hb => ⟨(hch b hb).2.2.2.1, (hch b hb).2.1, (hch b hb).2.2.2.2.1, (hch b hb).2.2.2.2.2⟩
end
theorem nne {a b : Nat} (h : a < b ∨ b < a) : @Ne Addr a b := fun e => by
  have e' : a = b := e
  omega
theorem zip_apart (n l1 l2 : Nat) (h1 : l1 < n) (h2 : l2 < n) : ZipApart (n + 4) (n + 2) (n + 3) n (n + 1) l1 l2 :=
  ⟨nne (by omega), nne (by omega), nne (by omega), nne (by omega), nne (by omega), nne (by omega), nne (by omega), nne (by omega), nne (by omega), nne (by omega), nne (by omega), nne (by omega), nne (by omega), nne (by omega), nne (by omega), nne (by omega), nne (by omega), nne (by omega)⟩
def Itz (K : PySem.W.Frag) (a b : Addr) : It :=
  ⟨fun i H => ∃ xs ys x y, SqL K H a xs ∧ SqL K H b ys ∧ xs[i]? = some x ∧ ys[i]? = some y,
   fun i H v H' => ∃ t x y, H t = none ∧ v = .ref t ∧ H' = upd H t (.tup [x, y]) ∧ (∀ xs, SqL K H a xs → xs[i]? = some x) ∧ ∀ ys, SqL K H b ys → ys[i]? = some y,
   fun i H => ∃ xs ys, SqL K H a xs ∧ SqL K H b ys ∧ (xs.length ≤ i ∨ ys.length ≤ i)⟩
theorem iter_obj {h : Heap} {it l : Addr} {i : Nat} (x : h.IsListIter it l i) : ∃ o, h.get? it = some o ∧ ∀ v, o.data ≠ .cell v := by
  obtain ⟨o, e, c, d⟩ := x
  exact ⟨o, e, fun v z => by rw [d] at z; cases z⟩
theorem turn_zip {P : Program} {w : World} {K : PySem.W.Frag} {elts : List PySem.Expr} {x1} {pos : Pos} (z TI TO i1 i2 a b : Addr) (D : ZipApart z TI TO i1 i2 a b) :
    Turn P w K (.Tuple elts x1 pos) (Itz K a b) [z, TI, TO, i1, i2] z (fun i h => IsZip h z TI TO .none ∧ IsPair h TI (.ref i1) (.ref i2) ∧ (∃ u v, IsPair h TO u v) ∧ h.IsListIter i1 a i ∧ h.IsListIter i2 b i) where
  mem := by simp
  obj := fun i h st c hc => by
    obtain ⟨hz, hTI, ⟨u, v, hTO⟩, h1, h2⟩ := st
    simp only [List.mem_cons, List.not_mem_nil, or_false] at hc
    rcases hc with rfl | rfl | rfl | rfl | rfl
    · exact ⟨_, hz, fun v e => by cases e⟩
    · exact ⟨_, hTI, fun v e => by cases e⟩
    · exact ⟨_, hTO, fun v e => by cases e⟩
    · exact iter_obj h1
    · exact iter_obj h2
  keep := fun i h h' st k => by
    obtain ⟨hz, hTI, ⟨u, v, hTO⟩, h1, h2⟩ := st
    exact ⟨k z (by simp) _ hz, k TI (by simp) _ hTI, ⟨u, v, k TO (by simp) _ hTO⟩, h1.at fun o e => k i1 (by simp) o e, h2.at fun o e => k i2 (by simp) o e⟩
  item := by
    intro X hP hw hK hc i pins s σ H E I hf st hg
    subst hP hw hK
    obtain ⟨xs, ys, x, y, hqa, hqb, hx, hy⟩ := hg
    obtain ⟨hz, hTI, ⟨u0, v0, hTO⟩, h1, h2⟩ := st
    obtain ⟨itsa, ra, pa, za⟩ := I.list hqa
    obtain ⟨itsb, rb, pb, zb⟩ := I.list hqb
    obtain ⟨ux, hux, rux⟩ := ra.get hx
    obtain ⟨uy, huy, ruy⟩ := rb.get hy
    refine wpAny_pyNext_zip_item D hz hTI hTO h1 h2 pa.isList pb.isList (x := ux) (y := uy) (by simpa using hux) (by simpa using huy) fun h' a1 a2 a3 a4 a5 a6 a7 => ?_
    refine ⟨.ref s.heap.objs.size, rfl, ?_⟩
    refine wpAny_letOwnedTupleGo_zip a1 fun h2' hz' hs' => ?_
    have hzlt : z < s.heap.objs.size := Heap.lt_size hz
    have kk : ∀ c o, c ∉ [z, TI, TO, i1, i2] → s.heap.get? c = some o → h2'.get? c = some o := fun c o hc e => by
      simp only [List.mem_cons, List.not_mem_nil, or_false, not_or] at hc
      exact hs'.extBut c o hc.1 (a7 c o hc.1 hc.2.2.1 hc.2.2.2.1 hc.2.2.2.2 e)
    have tp : h2'.get? s.heap.objs.size = some { cls := .type "tuple", data := .seq #[ux, uy] } := hs'.extBut _ _ (Nat.ne_of_gt hzlt) a5
    have I1 : Inv X pins σ (upd H s.heap.objs.size (.tup [x, y])) { s with heap := h2', toks := s.toks } :=
      I.laidCh hf kk ⟨by show 2 ≤ sizeLine; decide, [ux, uy], .cons rux (.cons ruy .nil), ⟨_, tp, rfl, _, rfl⟩⟩
    have TIk : h2'.get? TI = s.heap.get? TI := by
      rw [hTI]
      exact hs'.extBut _ _ D.TIz (a7 _ _ D.TIz D.TITO D.TIi1 D.TIi2 hTI)
    refine ⟨.ref s.heap.objs.size, _, I1, rfl, ⟨s.heap.objs.size, x, y, I.hok.fresh (Nat.le_refl _), rfl, rfl, fun xs' h => by rw [I.list_inj h hqa]; exact hx, fun ys' h => by rw [I.list_inj h hqb]; exact hy⟩, ⟨hz', ?_, ⟨ux, uy, hs'.extBut _ _ D.TOz a2⟩, a3.at fun o e => hs'.extBut _ o D.i1z e, a4.at fun o e => hs'.extBut _ o D.i2z e⟩, fun c hc => ?_⟩
    · show h2'.get? TI = _
      rw [TIk]; exact hTI
    · have hc' := hc
      have hlt : c < s.heap.objs.size := by
        simp only [List.mem_cons, List.not_mem_nil, or_false] at hc'
        rcases hc' with rfl | rfl | rfl | rfl | rfl
        · exact hzlt
        · exact Heap.lt_size hTI
        · exact Heap.lt_size hTO
        · obtain ⟨o, e, _⟩ := iter_obj h1; exact Heap.lt_size e
        · obtain ⟨o, e, _⟩ := iter_obj h2; exact Heap.lt_size e
      rw [upd_ne (Nat.ne_of_lt hlt)]
      exact (hf c hc).1
  done := by
    intro X hP hw hK hc i pins s σ H E I hf st hg
    subst hP hw hK
    obtain ⟨xs, ys, hqa, hqb, hend⟩ := hg
    obtain ⟨hz, hTI, ⟨u0, v0, hTO⟩, h1, h2⟩ := st
    obtain ⟨itsa, ra, pa, za⟩ := I.list hqa
    obtain ⟨itsb, rb, pb, zb⟩ := I.list hqb
    have la := ra.length
    have lb := rb.length
    refine wpAny_pyNext_zip_end (I.ok.hd hc) D hz hTI hTO h1 h2 pa.isList pb.isList ?_ fun h' hk => ⟨rfl, ?_⟩
    · rcases hend with q | q
      · exact .inl (by simp; omega)
      · exact .inr (by simp; omega)
    · refine I.turnedCh (t' := s.toks) hf fun c o hc e => ?_
      simp only [List.mem_cons, List.not_mem_nil, or_false, not_or] at hc
      exact hk c o hc.1 hc.2.2.1 hc.2.2.2.1 hc.2.2.2.2 e
  self := fun _ _ _ _ _ st h => wpAny_pyIter_zip st.1 h
def iZip (K : PySem.W.Frag) (ta : TA) : TI := fun σ H R => ta σ H fun vs H1 => ∃ a b, vs = [.ref a, .ref b] ∧ (∃ xs, SqL K H1 a xs) ∧ (∃ ys, SqL K H1 b ys) ∧ R (Itz K a b) H1
section
variable {X : Cx}
theorem boot_zip : bootBuiltins "zip" = some (.type "zip") := by first | rfl | decide +kernel | kernel_rfl
theorem boot_enumerate : bootBuiltins "enumerate" = some (.type "enumerate") := by first | rfl | decide +kernel | kernel_rfl
theorem pi_zip {elts : List PySem.Expr} {x1} {tpos : Pos} {a b : PySem.Expr} {ta : TA} {p pos : Pos} (hg : Gl X "zip") (hm : X.mg "zip" = none) (ha : PA X [a, b] ta) (hs : starEach [a, b] X.env = [(false, eval a X.env), (false, eval b X.env)] := by rfl) (hs2 : starEach [b] X.env = [(false, eval b X.env)] := by rfl) :
    PI X (.Tuple elts x1 tpos) (.Call (.Name "zip" p) [a, b] [] pos) (iZip X.K ta) := by
  intro pins s σ H R I h
  refine Call_ (ld_blt I hg hm boot_zip (PyProof.Rows.callWith_type1 (thn (ha pos pins s σ H _ I h) fun us s1 ⟨vs, H1, I1, r1, q1⟩ => ?_) (by rw [hs, hs2]) (by rw [hs2]; rfl)))
  obtain ⟨l1, l2, e, ⟨xs, hqa⟩, ⟨ys, hqb⟩, q⟩ := q1
  subst e
  obtain ⟨v1, v2, rfl, r, r'⟩ := vals2 r1
  cases r
  cases r'
  obtain ⟨itsa, ra, pa, za⟩ := I1.list hqa
  obtain ⟨itsb, rb, pb, zb⟩ := I1.list hqb
  have lt1 : l1 < s1.heap.objs.size := by obtain ⟨o, e, _⟩ := pa.isList; exact Heap.lt_size e
  have lt2 : l2 < s1.heap.objs.size := by obtain ⟨o, e, _⟩ := pb.isList; exact Heap.lt_size e
  refine call_zip_2 pa.isList pb.isList fun h' g5 g3 g4 g1 g2 hsz kp => wpAny_pyIter_zip g5 ?_
  refine ⟨_, [_, _, _, _, _], _, _, H1, rfl, I1.kept (t' := s1.toks) kp, turn_zip _ _ _ _ _ l1 l2 (zip_apart s1.heap.objs.size l1 l2 lt1 lt2), ⟨g5, g3, ⟨_, _, g4⟩, g1, g2⟩, fun c hc => ?_, q⟩
  have hc' : s1.heap.objs.size ≤ c := by
    simp only [List.mem_cons, List.not_mem_nil, or_false] at hc
    rcases hc with rfl | rfl | rfl | rfl | rfl <;> first | exact Nat.le_refl _ | exact Nat.le_add_right _ _
  exact I1.fpOk hc' (I1.hok.fresh hc')
def Ite (K : PySem.W.Frag) (a : Addr) : It :=
  ⟨fun i H => ∃ xs x, SqL K H a xs ∧ xs[i]? = some x,
   fun i H v H' => ∃ t x, H t = none ∧ v = .ref t ∧ H' = upd H t (.tup [.int i, x]) ∧ ∀ xs, SqL K H a xs → xs[i]? = some x,
   fun i H => ∃ xs, SqL K H a xs ∧ xs.length = i⟩
theorem turn_enum {P : Program} {w : World} {K : PySem.W.Frag} {elts : List PySem.Expr} {x1} {pos : Pos} (e it a : Addr) (hei : e ≠ it) (hae : a ≠ e) (hai : a ≠ it) :
    Turn P w K (.Tuple elts x1 pos) (Ite K a) [e, it] e (fun i h => (∃ old, IsEnum h e it i old) ∧ h.IsListIter it a i) where
  mem := by simp
  obj := fun i h st c hc => by
    obtain ⟨⟨old, he⟩, h1⟩ := st
    simp only [List.mem_cons, List.not_mem_nil, or_false] at hc
    rcases hc with rfl | rfl
    · exact ⟨_, he, fun v z => by cases z⟩
    · obtain ⟨o, q, c, d⟩ := h1; exact ⟨o, q, fun v z => by rw [d] at z; cases z⟩
  keep := fun i h h' st k => by
    obtain ⟨⟨old, he⟩, h1⟩ := st
    exact ⟨⟨old, k e (by simp) _ he⟩, h1.at fun o q => k it (by simp) o q⟩
  item := by
    intro X hP hw hK hc i pins s σ H E I hf st hg
    subst hP hw hK
    obtain ⟨xs, x, hq, hx⟩ := hg
    obtain ⟨⟨old, he⟩, h1⟩ := st
    obtain ⟨its, rv, p, hz⟩ := I.list hq
    obtain ⟨u, hu, ru⟩ := rv.get hx
    have hlt : i < its.toArray.size := by
      have := (List.getElem?_eq_some_iff.mp hu).1
      simpa using this
    refine wpAny_pyNext_enum_itemD (Draws.list (A := X.A.in1) (show X.A.in1.handled = none from I.ok.hd hc) it a hai its.toArray) he ⟨h1, p.isList⟩ hlt hei (by simp [hei, Ne.symm hae]) fun v h' tk hP ho hs' hT hsz hk => ?_
    have hP' : v = u := by
      have z : its[i]? = some v := by simpa using hP
      rw [hu] at z; exact (Option.some.inj z).symm
    subst hP'
    refine ⟨.ref s.heap.objs.size, rfl, ?_⟩
    refine wpAny_letOwnedTupleGo_enum ho fun h2 he2 sb2 => ?_
    have helt : e < s.heap.objs.size := Heap.lt_size he
    have kk : ∀ c o, c ∉ [e, it] → s.heap.get? c = some o → h2.get? c = some o := fun c o hc q => by
      simp only [List.mem_cons, List.not_mem_nil, or_false, not_or] at hc
      exact (sb2.2 c hc.1).trans (hk c o hc.1 hc.2 q)
    have tp : h2.get? s.heap.objs.size = some { cls := .type "tuple", data := .seq #[.int i tk, v] } := (sb2.2 _ (Nat.ne_of_gt helt)).trans hT
    have I1 : Inv X pins σ (upd H s.heap.objs.size (.tup [.int i, x])) { s with heap := h2, toks := tk + 1 } :=
      I.laidCh hf kk ⟨by show 2 ≤ sizeLine; decide, [.int i tk, v], .cons ⟨tk, rfl⟩ (.cons ru .nil), ⟨_, tp, rfl, _, rfl⟩⟩
    refine ⟨.ref s.heap.objs.size, _, I1, rfl, ⟨s.heap.objs.size, x, I.hok.fresh (Nat.le_refl _), rfl, rfl, fun ys hy => by rw [I.list_inj hy hq]; exact hx⟩, ⟨⟨v, by simpa using he2⟩, hs'.1.at fun o q => (sb2.2 _ (Ne.symm hei)).trans q⟩, fun c hc => ?_⟩
    have hlt' : c < s.heap.objs.size := by
      simp only [List.mem_cons, List.not_mem_nil, or_false] at hc
      rcases hc with rfl | rfl
      · exact helt
      · obtain ⟨o, q, _⟩ := h1; exact Heap.lt_size q
    rw [upd_ne (Nat.ne_of_lt hlt')]
    exact (hf c hc).1
  done := by
    intro X hP hw hK hc i pins s σ H E I hf st hg
    subst hP hw hK
    obtain ⟨xs, hq, hx⟩ := hg
    obtain ⟨⟨old, he⟩, h1⟩ := st
    obtain ⟨its, rv, p, hz⟩ := I.list hq
    have hl := rv.length
    have ei : i = its.toArray.size := by simp; omega
    subst ei
    refine wpAny_pyNext_enum_endD (Draws.list (A := X.A.in1) (show X.A.in1.handled = none from I.ok.hd hc) it a hai its.toArray) he ⟨h1, p.isList⟩ fun h' hx' => ⟨rfl, ?_⟩
    refine I.turnedCh (t' := s.toks) hf fun c o hc q => ?_
    simp only [List.mem_cons, List.not_mem_nil, or_false, not_or] at hc
    exact hx' c o hc.2 q
  self := fun _ _ _ _ _ st h => by
    obtain ⟨⟨old, he⟩, _⟩ := st
    exact wpAny_pyIter_enum he h
def iEnum (K : PySem.W.Frag) (ta : TA) : TI := fun σ H R => ta σ H fun vs H1 => ∃ a, vs = [.ref a] ∧ (∃ xs, SqL K H1 a xs) ∧ R (Ite K a) H1
theorem pi_enum {elts : List PySem.Expr} {x1} {tpos : Pos} {a : PySem.Expr} {ta : TA} {p pos : Pos} (hg : Gl X "enumerate") (hm : X.mg "enumerate" = none) (ha : PA X [a] ta) (hs : starEach [a] X.env = [(false, eval a X.env)] := by rfl) :
    PI X (.Tuple elts x1 tpos) (.Call (.Name "enumerate" p) [a] [] pos) (iEnum X.K ta) := by
  intro pins s σ H R I h
  refine Call_ (ld_blt I hg hm boot_enumerate (PyProof.Rows.callWith_type1 (thn (ha pos pins s σ H _ I h) fun us s1 ⟨vs, H1, I1, r1, q1⟩ => ?_) hs rfl))
  obtain ⟨l, e, ⟨xs, hq⟩, q⟩ := q1
  subst e
  cases r1 with
  | cons r rr =>
    cases rr
    cases r
    obtain ⟨its, rv, pl, hz⟩ := I1.list hq
    have lt1 : l < s1.heap.objs.size := by obtain ⟨o, e, _⟩ := pl.isList; exact Heap.lt_size e
    refine call_enumerate_list pl.isList fun h' he hi hsz hk => ?_
    refine wpAny_pyIter_enum he ?_
    refine ⟨s1.heap.objs.size + 1, [s1.heap.objs.size + 1, s1.heap.objs.size], _, _, H1, rfl, I1.kept (t' := s1.toks) hk, turn_enum (s1.heap.objs.size + 1) s1.heap.objs.size l (Nat.succ_ne_self _) (nne (.inl (Nat.lt_succ_of_lt lt1))) (Nat.ne_of_lt lt1), ⟨⟨_, he⟩, hi⟩, fun c hc => ?_, q⟩
    have hc' : s1.heap.objs.size ≤ c := by
      simp only [List.mem_cons, List.not_mem_nil, or_false] at hc
      rcases hc with rfl | rfl <;> omega
    exact I1.fpOk hc' (I1.hok.fresh hc')
end
end L2
set_option Elab.async false
set_option linter.all false
set_option maxRecDepth 100000
set_option maxHeartbeats 4000000
namespace L2
open PySem PySem.Spec PyProof.Rows
section
variable {X : Cx}
theorem boot_all : bootBuiltins "all" = some (.builtin "all") := by first | rfl | decide +kernel | kernel_rfl
theorem boot_max : bootBuiltins "max" = some (.builtin "max") := by first | rfl | decide +kernel | kernel_rfl
theorem boot_abs : bootBuiltins "abs" = some (.builtin "abs") := by first | rfl | decide +kernel | kernel_rfl
theorem boot_divmod : bootBuiltins "divmod" = some (.builtin "divmod") := by first | rfl | decide +kernel | kernel_rfl
theorem boot_intT : bootBuiltins "int" = some (.type "int") := by first | rfl | decide +kernel | kernel_rfl
theorem boot_listT : bootBuiltins "list" = some (.type "list") := by first | rfl | decide +kernel | kernel_rfl
theorem boot_tupleT : bootBuiltins "tuple" = some (.type "tuple") := by first | rfl | decide +kernel | kernel_rfl
theorem bool_vals : ∀ {bs : List Bool} {its : List Value}, Vals (bs.map V.bl) its → its = bs.map Value.bool
  | [], _, .nil => rfl
  | b :: bs, _, .cons r t => by rw [bool_vals t]; cases r; rfl
theorem range_getD {bs : List Bool} (f : Nat → Bool) (hf : ∀ i b, bs[i]? = some b → f i = b) : (List.range bs.length).map f = bs := by
  apply List.ext_getElem?
  intro i
  rw [List.getElem?_map]
  by_cases h : i < bs.length
  · rw [List.getElem?_range h, List.getElem?_eq_getElem h]
    simp only [Option.map_some]
    rw [hf i _ (List.getElem?_eq_getElem h)]
  · rw [List.getElem?_eq_none (by simpa using h), List.getElem?_eq_none (by omega)]; rfl
theorem call_allL (hc : X.calm = true) : CallR X (.builtin "all") (fun xs H Q => ∃ (p : Addr) (bs : List Bool), xs = [.ref p] ∧ SqL X.K H p (bs.map V.bl) ∧ Q (.bl (bs.all id)) H) := by
  intro pins s σ H xs us Q I r h
  obtain ⟨p, bs, rfl, hq, q⟩ := h
  obtain ⟨u, rfl, rx⟩ := vals1 r
  cases rx
  obtain ⟨its, rv, pl, hz⟩ := I.list hq
  have e := bool_vals rv
  subst e
  refine call_all_walk (wpAny_pyIter_list pl.isList ?_)
  refine ⟨s.heap.objs.size, _, [s.heap.objs.size], _, _, _, fun i => bs.getD i true, rfl, Walks.list (A := X.A.in1) (show X.A.in1.handled = none from I.ok.hd hc) s.heap.objs.size p ?_ (bs.map Value.bool).toArray, ⟨⟨_, Heap.get?_push_size _ rfl, rfl, rfl⟩, pl.isList.at fun o e => Heap.get?_push_of_some _ e⟩, ?_, ?_⟩
  · obtain ⟨o, e, _⟩ := pl.isList; exact Nat.ne_of_lt (Heap.lt_size e)
  · intro i v s' Q' E' hP hQ
    have hP' : (bs.map Value.bool)[i]? = some v := by simpa using hP
    rw [List.getElem?_map] at hP'
    cases z : bs[i]? with
    | none => rw [z] at hP'; cases hP'
    | some b =>
      rw [z] at hP'
      cases hP'
      have : bs.getD i true = b := by rw [List.getD_eq_getElem?_getD, z]; rfl
      have hQ' : Q' (bs.getD i true) s' := hQ
      rw [this] at hQ'
      exact wpAny_truthy_bool hQ'
  · intro h' tk hk
    refine ⟨.bl (bs.all id), H, I.kept (t' := tk) (fun b o e => hk b o (by simpa using Nat.ne_of_lt (Heap.lt_size e)) (Heap.get?_push_of_some _ e)), ?_, q⟩
    have z : (List.range bs.length).map (fun i => bs.getD i true) = bs := range_getD _ fun i b e => by rw [List.getD_eq_getElem?_getD, e]; rfl
    have z2 : (List.range bs.length).all (fun i => bs.getD i true) = bs.all id := by
      conv => rhs; rw [← z]
      rw [List.all_map]; rfl
    show Value.bool _ = Value.bool _
    have z3 : (bs.map Value.bool).toArray.size = bs.length := by simp
    rw [z3, z2]
theorem rangeN (lo : Int) (n : Nat) : ∀ {acc : Array Value}, ItemsOf (fun i v => ∃ t, v = .int (lo + i * 1) t) acc n → Vals ((List.range n).map fun i => V.int (lo + (i : Nat))) acc.toList := by
  intro acc h
  obtain ⟨hs, hi⟩ := h
  have gen : ∀ (l : List Value) (k : Nat) (xs : List V), xs.length = l.length → (∀ (j : Nat) (v : Value) (x : V), l[j]? = some v → xs[j]? = some x → RelV x v) → Vals xs l := by
    intro l
    induction l with
    | nil => intro k xs hl _; cases xs with | nil => exact .nil | cons _ _ => simp at hl
    | cons u l ih =>
      intro k xs hl hr
      cases xs with
      | nil => simp at hl
      | cons x xs => exact .cons (hr 0 u x rfl rfl) (ih k xs (by simpa using hl) fun j v y e1 e2 => hr (j + 1) v y (by simpa using e1) (by simpa using e2))
  refine gen _ 0 _ (by simp [hs]) fun j v x e1 e2 => ?_
  have e1' : acc[j]? = some v := by simpa using e1
  obtain ⟨t, rfl⟩ := hi j v e1'
  have hj : j < n := by rw [← hs]; exact (Array.getElem?_eq_some_iff.mp e1').1
  rw [List.getElem?_map, List.getElem?_range hj] at e2
  cases e2
  exact ⟨t, by simp⟩
def tListRange (ta : TA) : TE := fun σ H Q => ta σ H fun vs H1 => ∃ i j : Int, vs = [.int i, .int j] ∧ (-(2 ^ 62) ≤ i ∧ i < 2 ^ 62 ∧ -(2 ^ 62) ≤ j ∧ j < 2 ^ 62) ∧ (j - i).toNat ≤ sizeLine ∧
  ∀ p, H1 p = none → Q (.ref p) (upd H1 p (.lst ((List.range (j - i).toNat).map fun k => V.int (i + (k : Nat)))))
theorem pe_listrange {a b : PySem.Expr} {ta : TA} {p q pos pos2 : Pos} (hc : X.calm = true) (hg1 : Gl X "list") (hm1 : X.mg "list" = none) (hg : Gl X "range") (hm : X.mg "range" = none) (ha : PA X [a, b] ta)
    (hs : starEach [a, b] X.env = [(false, eval a X.env), (false, eval b X.env)] := by rfl) (hs2 : starEach [b] X.env = [(false, eval b X.env)] := by rfl)
    (hs3 : starEach [PySem.Expr.Call (.Name "range" p) [a, b] [] pos] X.env = [(false, eval (PySem.Expr.Call (.Name "range" p) [a, b] [] pos) X.env)] := by rfl) :
    PE X (.Call (.Name "list" q) [.Call (.Name "range" p) [a, b] [] pos] [] pos2) (tListRange ta) := by
  intro pins s σ H Q I h
  refine Call_ (ld_blt I hg1 hm1 boot_listT (PyProof.Rows.callWith_type1 (Q := EP X pins σ Q) ?_ hs3 rfl))
  rw [hs3]
  refine Calls.spliced_cons (Call_ (ld_blt I hg hm boot_range (PyProof.Rows.callWith_type1 (thn (ha pos pins s σ H _ I h) fun us s1 ⟨vs, H1, I1, r1, q1⟩ => ?_) (by rw [hs, hs2]) (by rw [hs2]; rfl))))
  obtain ⟨i, j, e, ⟨q1, q2, q3, q4⟩, hz, q⟩ := q1
  subst e
  cases r1 with
  | cons r rr =>
    cases rr with
    | cons r' rr =>
      cases rr
      obtain ⟨t, rfl⟩ := r
      obtain ⟨t', rfl⟩ := r'
      refine call_range_2 (Calls.spliced_nil ?_)
      have I2 : Inv X pins σ H1 { s1 with heap := s1.heap.push { cls := .type "range", data := .fields #[.int i t, .int j t', .int 1 s1.toks] }, toks := s1.toks + 1 } := I1.kept fun b o e => Heap.get?_push_of_some _ e
      have hsz : sizeLine = 16777216 := sizeLine_eq
      refine call_list_range (n := (j - i).toNat) (I.ok.hd hc) (IsRange.new ..) (small_one q1 q2 q3 q4) (by rw [rangeSize_one]; split <;> omega) (by omega) fun h' tk acc' c' hk hS hit => ?_
      refine ⟨.ref _, _, I2.laid (o := .lst ((List.range (j - i).toNat).map fun k => V.int (i + (k : Nat)))) hk (Nat.le_refl _) ⟨by simpa using hz, acc'.toList, c', rangeN i _ hit, by simpa using hS⟩, rfl, q _ (I2.hok.fresh (Nat.le_refl _))⟩
end
end L2
set_option Elab.async false
set_option linter.all false
set_option maxRecDepth 100000
set_option maxHeartbeats 4000000
namespace L2
open PySem PySem.Spec PyProof.Rows
structure Def (P : Program) (w : World) (K : PySem.W.Frag) (mg : Str → Option Value) (base : Heap) (x : Str) (k : Nat) (ps : List Str) (sp : Sp) : Prop where
  ex : ∃ (f : Addr) (fd : FuncData), FnOk P w K mg base CX0 k f fd ps sp ∧ mg x = some (.ref f) ∧ PySem.W.keepIn K (.ref f) = true ∧ Binds K fd ps []
section
variable {X : Cx} {x : Str} {p pos : Pos} {e : PySem.Expr} {es : List PySem.Expr} {t : TA} {k : Nat} {ps : List Str} {sp : Sp}
theorem pe_def (D : Def X.prog X.w X.K X.mg X.base x k ps sp) (hr : Room k X.A) (hg : Gl X x) (ha : PA X (e :: es) t)
    (he : starEach (e :: es) X.env = (false, eval e X.env) :: starEach es X.env := by rfl) (hpl : (backTo pos (starEach es X.env)).any (·.1) = false := by rfl) (hd : (x == ("__debug__" : Str)) = false := by decide) :
    PE X (.Call (.Name x p) (e :: es) [] pos) (tCall sp [] E0 t) := by
  obtain ⟨f, fd, F, hm, hk, hb⟩ := D.ex
  exact pe_call F hr hg hm hk hb .nil pass0 ha (hdb := hd) (he := he) (hpl := hpl)
end
theorem pg_tupK {X : Cx} {K : PySem.W.Frag} {es : List PySem.Expr} {k : Nat} {t : TGs} {n : Nat} {pos : Pos} (hK : X.K = K) (hc : X.calm = true) (h : PGs X es t)
    (hn : (assignEach es X.env).length = n := by rfl) (hst : (assignEach es X.env).findIdx? (·.1) = none := by rfl) : PG X (.Tuple es k pos) (gTup K n t) := by
  subst hK
  exact pg_tup hc h hn hst
def compB (osc : Scope) (oN : List Str) (scope : Scope) (N : List Str) (own : Nat) (js : List Nat) : Bool :=
  scope.kind == .function && scope.names.all (fun y => y.2 != .cell || scope.names.lookup y.1 == some .cell) && scope.names.all (fun y => y.2 != .local || scope.names.lookup y.1 == some .local) &&
  scope.names.all (fun y => y.2 != .free || (osc.names.lookup y.1 == some .cell || osc.names.lookup y.1 == some .free)) && N.length == own + js.length &&
  (js.map fun j => oN[j]?) == (N.drop own).map some && (N.drop own).all fun x => scope.names.lookup x == some .free
theorem compOk_of {X : Cx} {osc : Scope} {oN : List Str} {scope : Scope} {N : List Str} {own : Nat} {js : List Nat} (h : compB osc oN scope N own js = true) (hs : X.env.scope = osc) (hN : X.N = oN) : CompOk X scope N own js := by
  unfold compB at h
  simp only [Bool.and_eq_true, List.all_eq_true, Bool.or_eq_true, beq_iff_eq, bne_iff_ne, ne_eq] at h
  obtain ⟨⟨⟨⟨⟨⟨h1, h2⟩, h3⟩, h4⟩, h5⟩, h6⟩, h7⟩ := h
  refine ⟨h1, fun y hy hl => ?_, fun y hy hl => ?_, fun y hy hf => ?_, h5, fun k j e => ?_, fun k x e => ?_⟩
  · rcases h2 y hy with q | q
    · exact absurd hl q
    · exact q
  · rcases h3 y hy with q | q
    · exact absurd hl q
    · exact q
  · rcases h4 y hy with q | q
    · exact absurd hf q
    · show X.env.scope.names.lookup y.1 = _ ∨ X.env.scope.names.lookup y.1 = _
      rw [hs]; exact q
  · rw [hN]
    have z := congrArg (fun l => l[k]?) h6
    simp only [List.getElem?_map, e, Option.map_some, List.getElem?_drop] at z
    cases q : N[own + k]? with
    | none => rw [q] at z; cases z
    | some y => rw [q] at z; exact (Option.some.inj z).symm
  · refine h7 x ?_
    exact List.mem_of_getElem? (i := k) (by rw [List.getElem?_drop]; exact e)
def SB (b : Addr) (H H' : Hp) : Prop := ∀ a o, a ≠ b → H a = some o → H' a = some o
theorem SB.trans {b : Addr} {H H1 H2 : Hp} (x : SB b H H1) (y : SB b H1 H2) : SB b H H2 := fun a o n h => y a o n (x a o n h)
theorem Same.sb {H H' : Hp} (x : Same H H') (b : Addr) : SB b H H' := fun a o _ h => x a o h
theorem sb_upd (b : Addr) (H : Hp) (o : HO) : SB b H (upd H b o) := fun a u n h => by rw [upd_ne n]; exact h
theorem same_upd {H : Hp} {p : Addr} (h : H p = none) (o : HO) : Same H (upd H p o) := fun b u q => by rw [upd_ne (ne_of_none q h)]; exact q
def CNx (n : Nat) (l : Addr) (Pv : Nat → List V → St → Hp → Prop) (i : Nat) (ys : List V) (σ : St) (y : V) (H : Hp) : Prop :=
  H l = some (.lst ys) ∧ ys.length < sizeLine ∧ ∃ m', m' < n - i ∧ (m' = n - (i + 1) ∧ i + 1 ≤ n ∧ (ys ++ [y]).length ≤ i + 1 ∧ Pv (i + 1) (ys ++ [y]) σ (upd H l (.lst (ys ++ [y]))))
def CNo (n : Nat) (Pv : Nat → List V → St → Hp → Prop) (i : Nat) (ys : List V) (σ : St) (H : Hp) : Prop := ∃ m', m' < n - i ∧ (m' = n - (i + 1) ∧ i + 1 ≤ n ∧ ys.length ≤ i + 1 ∧ Pv (i + 1) ys σ H)
theorem CNx.of {n : Nat} {l : Addr} {Pv : Nat → List V → St → Hp → Prop} {i : Nat} {ys : List V} {σ : St} {y : V} {H : Hp} (hn : n ≤ sizeLine) (hi : i < n) (hy : ys.length ≤ i) (h1 : H l = some (.lst ys)) (h2 : Pv (i + 1) (ys ++ [y]) σ (upd H l (.lst (ys ++ [y])))) : CNx n l Pv i ys σ y H :=
  ⟨h1, by omega, n - (i + 1), by omega, rfl, hi, by rw [List.length_append, List.length_singleton]; omega, h2⟩
theorem CNo.of {n : Nat} {Pv : Nat → List V → St → Hp → Prop} {i : Nat} {ys : List V} {σ : St} {H : Hp} (hi : i < n) (hy : ys.length ≤ i) (h2 : Pv (i + 1) ys σ H) : CNo n Pv i ys σ H :=
  ⟨n - (i + 1), by omega, rfl, hi, by omega, h2⟩
theorem comp_range {lo : Int} {n : Nat} {l : Addr} {g : TG} {tc : TT} {te : TE} {σ0 : St} {H0 : Hp} {Qf : Hp → Prop} (Pv : Nat → List V → St → Hp → Prop) (h0 : Pv 0 [] σ0 H0)
    (hs : ∀ i ys σ' H', i < n → ys.length ≤ i → Pv i ys σ' H' → g (.int (lo + i)) σ' H' fun σ2 H3 => tc σ2 H3 fun b H4 => if b = true then te σ2 H4 fun y H5 => CNx n l Pv i ys σ2 y H5 else CNo n Pv i ys σ2 H4)
    (hd : ∀ ys σ' H', ys.length ≤ n → Pv n ys σ' H' → Qf H') :
    ∃ W : Nat → Nat → List V → St → Hp → Prop, (∃ m, W 0 m [] σ0 H0) ∧ ∀ i m ys σ' H', W i m ys σ' H' →
    ((Itr lo n).stop i H' ∧ Qf H') ∨ ((Itr lo n).go i H' ∧ ∀ x H2, (Itr lo n).yld i H' x H2 → g x σ' H2 fun σ2 H3 => tc σ2 H3 fun b H4 =>
      if b = true then te σ2 H4 fun y H5 => H5 l = some (.lst ys) ∧ ys.length < sizeLine ∧ ∃ m', m' < m ∧ W (i + 1) m' (ys ++ [y]) σ2 (upd H5 l (.lst (ys ++ [y])))
      else ∃ m', m' < m ∧ W (i + 1) m' ys σ2 H4) := by
  refine ⟨fun i m ys σ' H' => m = n - i ∧ i ≤ n ∧ ys.length ≤ i ∧ Pv i ys σ' H', ⟨n, rfl, Nat.zero_le _, Nat.le_refl _, h0⟩, ?_⟩
  rintro i m ys σ' H' ⟨rfl, hi, hy, p⟩
  by_cases hlt : i < n
  · refine .inr ⟨hlt, fun x H2 q => ?_⟩
    obtain ⟨rfl, rfl⟩ := q
    exact hs i ys σ' _ hlt hy p
  · have e : i = n := by omega
    subst e
    exact .inl ⟨Nat.le_refl _, hd ys σ' H' hy p⟩
theorem comp_list {K : PySem.W.Frag} {a : Addr} {xs : List V} {l : Addr} {g : TG} {tc : TT} {te : TE} {σ0 : St} {H0 : Hp} {Qf : Hp → Prop} (Pv : Nat → List V → St → Hp → Prop) (h0 : Pv 0 [] σ0 H0)
    (hl : ∀ i ys σ' H', i ≤ xs.length → Pv i ys σ' H' → SqL K H' a xs)
    (hs : ∀ i x ys σ' H', i < xs.length → xs[i]? = some x → ys.length ≤ i → Pv i ys σ' H' → g x σ' H' fun σ2 H3 => tc σ2 H3 fun b H4 => if b = true then te σ2 H4 fun y H5 => CNx xs.length l Pv i ys σ2 y H5 else CNo xs.length Pv i ys σ2 H4)
    (hd : ∀ ys σ' H', ys.length ≤ xs.length → Pv xs.length ys σ' H' → Qf H') :
    ∃ W : Nat → Nat → List V → St → Hp → Prop, (∃ m, W 0 m [] σ0 H0) ∧ ∀ i m ys σ' H', W i m ys σ' H' →
    ((Itl K a).stop i H' ∧ Qf H') ∨ ((Itl K a).go i H' ∧ ∀ x H2, (Itl K a).yld i H' x H2 → g x σ' H2 fun σ2 H3 => tc σ2 H3 fun b H4 =>
      if b = true then te σ2 H4 fun y H5 => H5 l = some (.lst ys) ∧ ys.length < sizeLine ∧ ∃ m', m' < m ∧ W (i + 1) m' (ys ++ [y]) σ2 (upd H5 l (.lst (ys ++ [y])))
      else ∃ m', m' < m ∧ W (i + 1) m' ys σ2 H4) := by
  refine ⟨fun i m ys σ' H' => m = xs.length - i ∧ i ≤ xs.length ∧ ys.length ≤ i ∧ Pv i ys σ' H', ⟨xs.length, rfl, Nat.zero_le _, Nat.le_refl _, h0⟩, ?_⟩
  rintro i m ys σ' H' ⟨rfl, hi, hy, p⟩
  have q := hl i ys σ' H' hi p
  by_cases hlt : i < xs.length
  · refine .inr ⟨⟨xs, xs[i], q, by simp [hlt]⟩, fun x H2 z => ?_⟩
    obtain ⟨rfl, z⟩ := z
    exact hs i x ys σ' _ hlt (z xs q) hy p
  · have e : i = xs.length := by omega
    subst e
    exact .inl ⟨⟨xs, q, Nat.le_refl _⟩, hd ys σ' H' hy p⟩
theorem for_enum {K : PySem.W.Frag} {a : Addr} {xs : List V} {g : TG} {tb : TS} {D : Ends} {σ : St} {H : Hp} (Pv : Nat → St → Hp → Prop) (h0 : Pv 0 σ H) (hl : ∀ i σ H, i ≤ xs.length → Pv i σ H → SqL K H a xs)
    (hs : ∀ i x t σ H, xs[i]? = some x → Pv i σ H → H t = none → g (.ref t) σ (upd H t (.tup [.int i, x])) fun σ2 H2 => tb { D with nx := Pv (i + 1), ct := Pv (i + 1), bk := D.nx } σ2 H2) (hd : ∀ σ H, Pv xs.length σ H → D.nx σ H) :
    ∃ W : Nat → Nat → St → Hp → Prop, (∃ m, W 0 m σ H) ∧ ∀ i m σ H, W i m σ H →
      ((Ite K a).stop i H ∧ D.nx σ H) ∨ ((Ite K a).go i H ∧ ∃ N : St → Hp → Prop, (∀ σ' H', N σ' H' → ∃ m', m' < m ∧ W (i + 1) m' σ' H') ∧ ∀ x H', (Ite K a).yld i H x H' → g x σ H' fun σ2 H2 => tb { D with nx := N, ct := N, bk := D.nx } σ2 H2) := by
  refine ⟨fun i m σ H => m = xs.length - i ∧ i ≤ xs.length ∧ Pv i σ H, ⟨xs.length, by simp, Nat.zero_le _, h0⟩, ?_⟩
  rintro i m σ H ⟨rfl, hi, p⟩
  have q := hl i σ H hi p
  by_cases hlt : i < xs.length
  · refine .inr ⟨⟨xs, xs[i], q, by simp [hlt]⟩, Pv (i + 1), fun σ' H' p' => ⟨xs.length - (i + 1), by omega, rfl, hlt, p'⟩, fun x H' y => ?_⟩
    obtain ⟨t, u, ht, rfl, rfl, y⟩ := y
    exact hs i u t σ _ (y xs q) p ht
  · have e : i = xs.length := by omega
    subst e
    exact .inl ⟨⟨xs, q, rfl⟩, hd σ H p⟩
theorem atI0 {α : Type} {x : α} {xs : List α} : atI (x :: xs) 0 = some x := atI_nat (j := 0) rfl
theorem atI1 {α : Type} {x y : α} {xs : List α} : atI (x :: y :: xs) 1 = some y := atI_nat (j := 1) rfl
theorem atI2 {α : Type} {x y z : α} {xs : List α} : atI (x :: y :: z :: xs) 2 = some z := atI_nat (j := 2) rfl
theorem ite_dec {p A B : Prop} [Decidable p] (h1 : p → A) (h2 : ¬ p → B) : if decide p = true then A else B := by
  by_cases h : p
  · rw [if_pos (decide_eq_true h)]; exact h1 h
  · rw [if_neg (by rw [decide_eq_false h]; exact Bool.false_ne_true)]; exact h2 h
end L2
set_option Elab.async false
set_option linter.all false
set_option maxRecDepth 100000
set_option maxHeartbeats 4000000
namespace HT
open PySem PySem.Spec PyProof.Rows
end HT
namespace L2
open PySem PySem.Spec PyProof.Rows
def NS : PySem.Expr → Prop
  | .Starred _ _ => False
  | _ => True
theorem star_ns {e : PySem.Expr} {es : List PySem.Expr} {env : Env} (h : NS e) : starEach (e :: es) env = (false, eval e env) :: starEach es env := by
  cases e <;> first | rfl | exact h.elim
def NSs : List PySem.Expr → Prop
  | [] => True
  | e :: es => NS e ∧ NSs es
theorem back_ns {pos : Pos} {env : Env} : ∀ {es : List PySem.Expr}, NSs es → (backTo pos (starEach es env)).any (·.1) = false
  | [], _ => rfl
  | e :: es, h => by
    rw [star_ns h.1]
    have ih := back_ns (pos := pos) (env := env) h.2
    simp only [backTo] at ih ⊢
    simpa using ih
section
variable {X : Cx} {x : Str} {p pos : Pos} {e : PySem.Expr} {es : List PySem.Expr} {te : TE} {t : TA} {k : Nat} {ps : List Str} {sp : Sp} {id T : String} {r : List V → Hp → VK → Prop}
theorem pc (ha : PE X e te) (hr : PA X es t) (hn : NS e := by exact True.intro) : PA X (e :: es) (tCons te t) := pa_cons ha hr (star_ns hn)
theorem pe_defN (D : Def X.prog X.w X.K X.mg X.base x k ps sp) (hr : Room k X.A) (hg : Gl X x) (ha : PA X (e :: es) t) (hn : NSs (e :: es) := by repeat' (first | exact True.intro | refine ⟨?_, ?_⟩)) (hd : (x == ("__debug__" : Str)) = false := by decide) :
    PE X (.Call (.Name x p) (e :: es) [] pos) (tCall sp [] E0 t) := pe_def D hr hg ha (star_ns hn.1) (back_ns hn.2) hd
theorem pe_callBN (hc : CallR X (.builtin id) r) (hg : Gl X x) (hm : X.mg x = none) (hv : bootBuiltins x = some (.builtin id)) (ha : PA X (e :: es) t) (hnn : NSs (e :: es) := by repeat' (first | exact True.intro | refine ⟨?_, ?_⟩)) (hn : x ≠ "__name__" := by decide) (hdb : (x == ("__debug__" : Str)) = false := by decide) :
    PE X (.Call (.Name x p) (e :: es) [] pos) (tCB r t) := pe_callB hc hg hm hv ha hn hdb (star_ns hnn.1) (back_ns hnn.2)
theorem pe_callTyN (hc : CallR X (.type T) r) (hg : Gl X x) (hm : X.mg x = none) (hv : bootBuiltins x = some (.type T)) (ha : PA X (e :: es) t) (hnn : NSs (e :: es) := by repeat' (first | exact True.intro | refine ⟨?_, ?_⟩)) (hn : x ≠ "__name__" := by decide) (hdb : (x == ("__debug__" : Str)) = false := by decide) :
    PE X (.Call (.Name x p) (e :: es) [] pos) (tCB r t) := pe_callTy hc hg hm hv ha hn hdb (star_ns hnn.1) (back_ns hnn.2)
end
end L2
set_option Elab.async false
set_option linter.all false
set_option maxRecDepth 100000
set_option maxHeartbeats 4000000
namespace L2
open PySem PySem.Spec PyProof.Rows
theorem comp_tup {K : PySem.W.Frag} {a : Addr} {xs : List V} {l : Addr} {g : TG} {tc : TT} {te : TE} {σ0 : St} {H0 : Hp} {Qf : Hp → Prop} (Pv : Nat → List V → St → Hp → Prop) (h0 : Pv 0 [] σ0 H0)
    (hl : ∀ i ys σ' H', i ≤ xs.length → Pv i ys σ' H' → SqT K H' a xs)
    (hs : ∀ i x ys σ' H', i < xs.length → xs[i]? = some x → ys.length ≤ i → Pv i ys σ' H' → g x σ' H' fun σ2 H3 => tc σ2 H3 fun b H4 => if b = true then te σ2 H4 fun y H5 => CNx xs.length l Pv i ys σ2 y H5 else CNo xs.length Pv i ys σ2 H4)
    (hd : ∀ ys σ' H', ys.length ≤ xs.length → Pv xs.length ys σ' H' → Qf H') :
    ∃ W : Nat → Nat → List V → St → Hp → Prop, (∃ m, W 0 m [] σ0 H0) ∧ ∀ i m ys σ' H', W i m ys σ' H' →
    ((Itt K a).stop i H' ∧ Qf H') ∨ ((Itt K a).go i H' ∧ ∀ x H2, (Itt K a).yld i H' x H2 → g x σ' H2 fun σ2 H3 => tc σ2 H3 fun b H4 =>
      if b = true then te σ2 H4 fun y H5 => H5 l = some (.lst ys) ∧ ys.length < sizeLine ∧ ∃ m', m' < m ∧ W (i + 1) m' (ys ++ [y]) σ2 (upd H5 l (.lst (ys ++ [y])))
      else ∃ m', m' < m ∧ W (i + 1) m' ys σ2 H4) := by
  refine ⟨fun i m ys σ' H' => m = xs.length - i ∧ i ≤ xs.length ∧ ys.length ≤ i ∧ Pv i ys σ' H', ⟨xs.length, rfl, Nat.zero_le _, Nat.le_refl _, h0⟩, ?_⟩
  rintro i m ys σ' H' ⟨rfl, hi, hy, p⟩
  have q := hl i ys σ' H' hi p
  by_cases hlt : i < xs.length
  · refine .inr ⟨⟨xs, xs[i], q, by simp [hlt]⟩, fun x H2 z => ?_⟩
    obtain ⟨rfl, z⟩ := z
    exact hs i x ys σ' _ hlt (z xs q) hy p
  · have e : i = xs.length := by omega
    subst e
    exact .inl ⟨⟨xs, q, Nat.le_refl _⟩, hd ys σ' H' hy p⟩
end L2
set_option Elab.async false
set_option linter.all false
set_option maxRecDepth 100000
set_option maxHeartbeats 4000000
namespace L2
open PySem PySem.Spec PyProof.Rows
section
variable {X : Cx} {K : PySem.W.Frag}
theorem ix_listK (hK : X.K = K) : IxR X (rIxL K) := hK ▸ ix_list
theorem ix_tupK (hK : X.K = K) : IxR X (rIxT K) := hK ▸ ix_tup
theorem sl_listK (hK : X.K = K) : SlR X (rSlL K) := hK ▸ sl_list
theorem op_notIn_seqK (hK : X.K = K) : OpR X (compareOp .NotIn) (rIn K true) := hK ▸ op_notIn_seq
theorem call_len_seqK (hK : X.K = K) : CallR X (.builtin "len") (fun xs H Q => ∃ p ys, xs = [.ref p] ∧ (SqL K H p ys ∨ SqT K H p ys) ∧ Q (.int ys.length) H) := hK ▸ call_len_seq
theorem call_list_ofK (hK : X.K = K) : CallR X (.type "list") (fun xs H Q => ∃ p ys, xs = [.ref p] ∧ (SqL K H p ys ∨ SqT K H p ys) ∧ ∀ l, H l = none → Q (.ref l) (upd H l (.lst ys))) := hK ▸ call_list_of
theorem call_tuple_ofK (hK : X.K = K) : CallR X (.type "tuple") (fun xs H Q => ∃ p ys, xs = [.ref p] ∧ ((SqL K H p ys ∧ ∀ l, H l = none → Q (.ref l) (upd H l (.tup ys))) ∨ (SqT K H p ys ∧ Q (.ref p) H))) := hK ▸ call_tuple_of
theorem ints_range {ns ms : List Int} (h : ns.length = ms.length) : (List.range ns.length).all (fun j => ns.getD j 0 == ms.getD j 0) = decide (ns = ms) := by
  rw [Bool.eq_iff_iff, List.all_eq_true, decide_eq_true_eq]
  constructor
  · intro z
    refine List.ext_getElem h fun j h1 h2 => ?_
    have := z j (List.mem_range.mpr h1)
    rw [List.getD_eq_getElem?_getD, List.getD_eq_getElem?_getD, List.getElem?_eq_getElem h1, List.getElem?_eq_getElem h2] at this
    simpa using this
  · rintro rfl j _
    simp
def rEqL (K : PySem.W.Frag) (neg : Bool) : R2 := fun x y H Q => ∃ (a b : Addr) (ns ms : List Int), x = .ref a ∧ y = .ref b ∧ SqL K H a (ns.map V.int) ∧ SqL K H b (ms.map V.int) ∧ Q (.bl (if neg then !decide (ns = ms) else decide (ns = ms))) H
theorem ints_eqAt {A : Around} {s : Shared} {ns : List Int} {us : List Value} (r : Vals (ns.map V.int) us) {ms : List Int} {ws : List Value} (r2 : Vals (ms.map V.int) ws) (j : Nat) (h1 : j < us.toArray.size) (h2 : j < ws.toArray.size) : SeqAt.EqAt A s us.toArray[j] ws.toArray[j] (ns.getD j 0 == ms.getD j 0) := by
  have l1 : ns.length = us.length := by have := r.length; rwa [List.length_map] at this
  have l2 : ms.length = ws.length := by have := r2.length; rwa [List.length_map] at this
  have k1 : j < ns.length := by rw [l1]; simpa using h1
  have k2 : j < ms.length := by rw [l2]; simpa using h2
  obtain ⟨u, hu, ru⟩ := r.get (i := j) (x := .int ns[j]) (by rw [List.getElem?_map, List.getElem?_eq_getElem k1]; rfl)
  obtain ⟨v, hv, rv⟩ := r2.get (i := j) (x := .int ms[j]) (by rw [List.getElem?_map, List.getElem?_eq_getElem k2]; rfl)
  obtain ⟨t, rfl⟩ := ru
  obtain ⟨t', rfl⟩ := rv
  have e1 : us.toArray[j] = .int ns[j] t := by
    have : us[j]? = some us[j] := List.getElem?_eq_getElem (by simpa using h1)
    rw [hu] at this
    simpa using (Option.some.inj this).symm
  have e2 : ws.toArray[j] = .int ms[j] t' := by
    have : ws[j]? = some ws[j] := List.getElem?_eq_getElem (by simpa using h2)
    rw [hv] at this
    simpa using (Option.some.inj this).symm
  rw [e1, e2, List.getD_eq_getElem?_getD, List.getD_eq_getElem?_getD, List.getElem?_eq_getElem k1, List.getElem?_eq_getElem k2]
  exact SeqAt.EqAt.int_int _ _ _ _
theorem op_neL (hu : X.A.units < cLine) (hK : X.K = K) : OpR X (compareOp .NotEq) (rEqL K true) := by
  subst hK
  intro pins s σ H x y v u Q I rx ry h
  obtain ⟨a, b, ns, ms, rfl, rfl, ha, hb, q⟩ := h
  cases rx
  cases ry
  obtain ⟨its, r1, p1, _⟩ := I.list ha
  obtain ⟨its2, r2, p2, _⟩ := I.list hb
  have l1 : ns.length = its.length := by have := r1.length; rwa [List.length_map] at this
  have l2 : ms.length = its2.length := by have := r2.length; rwa [List.length_map] at this
  by_cases hl : ns.length = ms.length
  · refine SeqAt.RcNeAt.lists (e := fun j => ns.getD j 0 == ms.getD j 0) p1.isList p2.isList (by simp; omega) hu (fun j h1 h2 => ints_eqAt r1 r2 j h1 h2) X.prog X.w X.xe _ ⟨.bl _, H, I, rfl, ?_⟩
    rw [List.size_toArray, ← l1, ints_range hl]
    exact q
  · refine SeqAt.RcNeAt.lists_lengths p1.isList p2.isList (by simp; omega) hu X.prog X.w X.xe _ ⟨.bl true, H, I, rfl, ?_⟩
    have e : decide (ns = ms) = false := decide_eq_false fun z => hl (by rw [z])
    rw [e] at q
    exact q
end
end L2
set_option Elab.async false
set_option linter.all false
set_option maxRecDepth 100000
set_option maxHeartbeats 4000000
namespace L2
open PySem PySem.Spec PyProof.Rows
def pairOf (x : Value) (c : Nat) : Obj := { cls := .type "list", dict := none, data := .seq #[x, x] c, slots := #[] }
theorem max_one {P0 : Program} {w0 : World} {A0 : Around} {R0 : Result → Shared → Prop} {it box : Addr} {t : Shared} {old : Value} {c : Nat} (hx : t.heap.get? box = some (pairOf old c))
    (h : ∀ E, wpAny (model P0 w0) A0.in1 (pyNext (.ref it)) (fun r t1 => (∃ c1, t1.heap.get? box = some (pairOf old c1)) ∧
      ((r = none ∧ R0 (.ok (.ret old)) { t1 with heap := t1.heap.update box (Obj.mapSeq fun _ => #[]) }) ∨
       ∃ v, r = some v ∧ ∀ E', wpAny (model P0 w0) A0.in1 (richCompare .Gt v old) (fun a t2 => ∃ b, a = .bool b ∧ t2 = t1 ∧
         codeAny (model P0 w0) A0 (.builtin "max.loop" ⟨[.ref it, .none, .ref box], []⟩) R0 (if b = true then { t1 with heap := t1.heap.update box (Obj.mapSeq fun _ => #[v, v]) } else t1)) E' t1)) E t) :
    codeAny (model P0 w0) A0 (.builtin "max.loop" ⟨[.ref it, .none, .ref box], []⟩) R0 t := by
  refine codeAny_builtin F.entry_max_loop ?_
  rw [Around.under_plainId F.plain_max_loop _]
  show wpAny _ _ (seqItems? (.ref box) >>= fun found => _) _ _ t
  refine wpAny_bind (wpAny_seqItems hx rfl (wpAny_bind (wpAny_tryCatch (wpAny_mono (h _) (fun r t1 z => ?_) fun _ _ e => e))))
  obtain ⟨⟨c1, hx1⟩, ⟨rfl, fin⟩ | ⟨v, rfl, go⟩⟩ := z
  · exact wpAny_bind (wpAny_updateSeq hx1 rfl (wpAny_bind (wpAny_letGo (wpAny_pure fin))))
  · refine wpAny_bind (wpAny_pure (wpAny_bind (wpAny_tryCatch (wpAny_holding (wpAny_bind (wpAny_mono (go _) (fun a t2 y => ?_) fun _ _ e => e))))))
    obtain ⟨b, rfl, rfl, nxt⟩ := y
    refine wpAny_bind (wpAny_holding (wpAny_truthy_bool (wpAny_bind (wpAny_letGo (wpAny_pure ?_)))))
    have name : (toString "max" ++ toString ".loop" : String) = "max.loop" := by decide
    cases b with
    | true => exact wpAny_bind (wpAny_updateSeq hx1 rfl (wpAny_bind (wpAny_letGo (by rw [name]; exact wpAny_pure ⟨plainId_quiet F.plain_max_loop _, nxt⟩))))
    | false => exact wpAny_bind (wpAny_letGo (by rw [name]; exact wpAny_pure ⟨plainId_quiet F.plain_max_loop _, nxt⟩))
theorem max_first {P0 : Program} {w0 : World} {A0 : Around} {R0 : Result → Shared → Prop} {it box : Addr} {t : Shared} {c : Nat} (hx : t.heap.get? box = some { cls := .type "list", dict := none, data := .seq #[] c, slots := #[] })
    (h : ∀ E, wpAny (model P0 w0) A0.in1 (pyNext (.ref it)) (fun r t1 => ∃ v c1, r = some v ∧ t1.heap.get? box = some { cls := .type "list", dict := none, data := .seq #[] c1, slots := #[] } ∧
      codeAny (model P0 w0) A0 (.builtin "max.loop" ⟨[.ref it, .none, .ref box], []⟩) R0 { t1 with heap := t1.heap.update box (Obj.mapSeq fun _ => #[v, v]) }) E t) :
    codeAny (model P0 w0) A0 (.builtin "max.loop" ⟨[.ref it, .none, .ref box], []⟩) R0 t := by
  refine codeAny_builtin F.entry_max_loop ?_
  rw [Around.under_plainId F.plain_max_loop _]
  show wpAny _ _ (seqItems? (.ref box) >>= fun found => _) _ _ t
  refine wpAny_bind (wpAny_seqItems hx rfl (wpAny_bind (wpAny_tryCatch (wpAny_mono (h _) (fun r t1 z => ?_) fun _ _ e => e))))
  obtain ⟨v, c1, rfl, hx1, nxt⟩ := z
  have name : (toString "max" ++ toString ".loop" : String) = "max.loop" := by decide
  exact wpAny_bind (wpAny_pure (wpAny_bind (wpAny_updateSeq hx1 rfl (by rw [name]; exact wpAny_pure ⟨plainId_quiet F.plain_max_loop _, nxt⟩))))
def Cmpmax (P0 : Program) (w0 : World) (A0 : Around) (Good : Heap → Prop) (At : Nat → Value → Prop) (bt : Nat → Nat → Bool) : Prop :=
  ∀ (i j : Nat) (u v : Value) (t : Shared) (Q : Value → Shared → Prop) (E : Value → Shared → Prop), Good t.heap → At i u → At j v → Q (.bool (bt i j)) t → wpAny (model P0 w0) A0.in1 (richCompare .Gt u v) Q E t
section
variable {P0 : Program} {w0 : World} {A0 : Around} {R0 : Result → Shared → Prop} {it box : Addr} {fps wrs : List Addr} {cnt : Nat} {At : Nat → Value → Prop} {Sit : Nat → Heap → Prop} {Good : Heap → Prop} {bt : Nat → Nat → Bool}
theorem max_rest (wk : Walks P0 w0 A0.in1 it fps wrs cnt At Sit) (cmp : Cmpmax P0 w0 A0 Good At bt) (off : box ∉ wrs) (offp : box ∉ fps) (keep : ∀ h h' : Heap, Good h → (∀ b o, b ∉ wrs → b ≠ box → h.get? b = some o → h'.get? b = some o) → Good h') (left : Nat) :
    ∀ (i : Nat) (t : Shared) (best : Value) (c : Nat), cnt = i + 1 + left → Sit (i + 1) t.heap → Good t.heap → At (argBest bt i) best → t.heap.get? box = some (pairOf best c) →
    (∀ v h' tk, At (argBest bt (cnt - 1)) v → (∀ b o, b ∉ wrs → b ≠ box → t.heap.get? b = some o → h'.get? b = some o) → R0 (.ok (.ret v)) { t with heap := h', toks := tk }) → codeAny (model P0 w0) A0 (.builtin "max.loop" ⟨[.ref it, .none, .ref box], []⟩) R0 t := by
  induction left with
  | zero =>
    intro i t best c hc hs hg hb hx hR
    exact max_one hx fun E => wk.done t _ _ (by rw [hc]; exact hs) fun h' tk kp => ⟨⟨c, kp box _ off hx⟩, .inl ⟨rfl, hR best _ tk (by rw [show cnt - 1 = i by omega]; exact hb) fun b o n1 n2 e => (Heap.get?_update_other _ _ (Ne.symm n2)).trans (kp b o n1 e)⟩⟩
  | succ left ih =>
    intro i t best c hc hs hg hb hx hR
    refine max_one hx fun E => wk.item (i + 1) t _ _ (by omega) hs fun v h' tk hv hs' kp => ⟨⟨c, kp box _ off hx⟩, .inr ⟨v, rfl, fun E' => ?_⟩⟩
    have good := keep _ h' hg fun b o n1 _ e => kp b o n1 e
    refine cmp (i + 1) (argBest bt i) v best _ _ _ good hv hb ⟨_, rfl, rfl, ?_⟩
    by_cases hbt : bt (i + 1) (argBest bt i) = true
    · rw [if_pos hbt]
      refine ih (i + 1) _ v _ (by omega) (wk.frame _ _ _ hs' fun b hbf o e => (Heap.get?_update_other _ _ (fun z => offp (by rw [z]; exact hbf))).trans e) (keep _ _ good fun b o _ n2 e => (Heap.get?_update_other _ _ (Ne.symm n2)).trans e) (by rw [argBest, if_pos hbt]; exact hv) (Heap.get?_update_self _ (kp box _ off hx) rfl) fun u h'' tk' hu kp' => ?_
      exact hR u h'' tk' hu fun b o n1 n2 e => kp' b o n1 n2 ((Heap.get?_update_other _ _ (Ne.symm n2)).trans (kp b o n1 e))
    · rw [if_neg hbt]
      exact ih (i + 1) _ best c (by omega) hs' good (by rw [argBest, if_neg hbt]; exact hb) (kp box _ off hx) fun u h'' tk' hu kp' => hR u h'' tk' hu fun b o n1 n2 e => kp' b o n1 n2 (kp b o n1 e)
end
theorem call_max_at {P0 : Program} {w0 : World} {A0 : Around} {E0 : Value → Shared → Prop} {t : Shared} {x : Value} {Q : Value → Shared → Prop}
    (h : wpAny (model P0 w0) A0.in1 (pyIter x) (fun iv t2 => ∃ it fps wrs cnt At Sit bt, ∃ Good : Heap → Prop, iv = .ref it ∧ Walks P0 w0 A0.in1 it fps wrs cnt At Sit ∧ Sit 0 t2.heap ∧ (∀ b ∈ fps, b < t2.heap.objs.size) ∧ 0 < cnt ∧ Good t2.heap ∧
      (∀ h h' : Heap, Good h → (∀ b o, b ∉ wrs → b ≠ t2.heap.objs.size → h.get? b = some o → h'.get? b = some o) → Good h') ∧ Cmpmax P0 w0 A0 Good At bt ∧
      ∀ v h' tk, At (argBest bt (cnt - 1)) v → (∀ b o, b ∉ wrs → t2.heap.get? b = some o → h'.get? b = some o) → Q v { t2 with heap := h', toks := tk }) E0 t) : wpAny (model P0 w0) A0 (call (.builtin "max") [x]) Q E0 t := by
  have name : (toString "max" ++ toString ".loop" : String) = "max.loop" := by decide
  refine call_function_tree F.kind_max F.plain_max F.entry_max (F.args_max1 _) ?_
  show wpAny _ _ (Builtin.Builtins.bindParams "max" ["key", "default"] 0 ⟨[], []⟩ >>= fun bound => _) _ _ t
  refine wpAny_bind (wpAny_of_eq (show Builtin.Builtins.bindParams "max" ["key", "default"] 0 ⟨[], []⟩ = pure [none, none] from rfl) (wpAny_bind (wpAny_pure (wpAny_bind (wpAny_mono h (fun iv t2 z => ?_) fun _ _ e => e)))))
  obtain ⟨it, fps, wrs, cnt, At, Sit, bt, Good, rfl, wk, hs, hf, pos, hg, keep, cmp, hQ⟩ := z
  have offp : t2.heap.objs.size ∉ fps := fun m => Nat.lt_irrefl _ (hf _ m)
  have off : t2.heap.objs.size ∉ wrs := fun m => offp (wk.sub _ m)
  refine wpAny_bind (wpAny_newObj_type ?_)
  rw [name]
  refine wpAny_pure ⟨plainId_quiet F.plain_max_loop _, max_first (Heap.get?_push_size _ rfl) fun E => wk.item 0 _ _ _ pos (wk.frame _ _ _ hs fun b _ o e => Heap.get?_push_of_some _ e) fun v h' tk hv hs' kp => ⟨v, _, rfl, kp _ _ off (Heap.get?_push_size _ rfl), ?_⟩⟩
  have k1 : ∀ b o, b ∉ wrs → t2.heap.get? b = some o → h'.get? b = some o := fun b o n1 e => kp b o n1 (Heap.get?_push_of_some _ e)
  have k2 : ∀ (f : Obj → Obj) b o, b ∉ wrs → t2.heap.get? b = some o → (h'.update t2.heap.objs.size f).get? b = some o := fun f b o n1 e => (Heap.get?_update_other _ _ (Nat.ne_of_gt (Heap.lt_size e))).trans (k1 b o n1 e)
  refine max_rest wk cmp off offp keep (cnt - 1) 0 _ v _ (by omega) (wk.frame _ _ _ hs' fun b hbf o e => (Heap.get?_update_other _ _ (fun z => offp (by rw [z]; exact hbf))).trans e) (keep _ _ hg fun b o n1 _ e => k2 _ b o n1 e) hv (Heap.get?_update_self _ (kp _ _ off (Heap.get?_push_size _ rfl)) rfl) fun u h'' tk' hu kp' => ?_
  exact hQ u h'' tk' hu fun b o n1 e => kp' b o n1 (Nat.ne_of_lt (Heap.lt_size e)) (k2 _ b o n1 e)
end L2
set_option Elab.async false
set_option linter.all false
set_option maxRecDepth 100000
set_option maxHeartbeats 4000000
namespace HT
open PySem PyProof.Rows
section
open PySem.SeqAt
open PySem.AutoSeq1 (wpAny_loadPart')
open PySem.MeetsSeq PySem.MeetsSeq2 PySem.MeetsSeq3
end
end HT
namespace L2
open PySem PySem.Spec PyProof.Rows
end L2
namespace L2
open PySem PySem.Spec PyProof.Rows
section
variable {X : Cx}
def rRemove : V → List V → Hp → VK → Prop := fun x vs H Q => ∃ (l : Addr) (ns : List Int) (k : Int), x = .ref l ∧ vs = [.int k] ∧ H l = some (.lst (ns.map V.int)) ∧ k ∈ ns ∧ Q .non (upd H l (.lst ((ns.erase k).map V.int)))
theorem first_at (k : Int) : ∀ (ns : List Int), k ∈ ns → ∃ j, ns[j]? = some k ∧ (∀ m z, m < j → ns[m]? = some z → z ≠ k) ∧ ns.erase k = ns.eraseIdx j
  | [], h => nomatch h
  | x :: ns, h => by
    by_cases hx : x = k
    · subst hx
      exact ⟨0, rfl, fun m z hm => absurd hm (Nat.not_lt_zero _), by rw [List.erase_cons_head, List.eraseIdx_cons_zero]⟩
    · have hm : k ∈ ns := by
        rcases List.mem_cons.mp h with e | e
        · exact absurd e.symm hx
        · exact e
      obtain ⟨j, h1, h2, h3⟩ := first_at k ns hm
      refine ⟨j + 1, by simpa using h1, fun m z hm hz => ?_, ?_⟩
      · cases m with
        | zero =>
          have e : x = z := by simpa using hz
          rw [← e]; exact hx
        | succ m => exact h2 m z (by omega) (by simpa using hz)
      · rw [List.erase_cons_tail (by simpa using hx), h3, List.eraseIdx_cons_succ]
theorem vals_erase {xs : List V} {us : List Value} : ∀ (j : Nat), Vals xs us → Vals (xs.eraseIdx j) (us.eraseIdx j) := by
  intro j r
  induction r generalizing j with
  | nil => exact .nil
  | cons h t ih =>
    cases j with
    | zero => exact t
    | succ j => exact .cons h (ih j)
theorem mt_remove : MtM X "list.remove" rRemove := by
  intro pins s σ H x vs v us Q I rx rv h
  obtain ⟨l, ns, k, rfl, rfl, hH, hk, q⟩ := h
  cases rx
  obtain ⟨u, rfl, ru⟩ := rv.one
  obtain ⟨tk, rfl⟩ := ru
  obtain ⟨z, its, n, r, hl, e⟩ := I.lstM hH
  rw [List.length_map] at hl z
  obtain ⟨j, h1, h2, h3⟩ := first_at k ns hk
  have get : ∀ (m : Nat) (hm : m < its.toArray.size), ∃ (i : Int) (t : Tok), ns[m]? = some i ∧ its.toArray[m] = .int i t := fun m hm => by
    have hm' : m < ns.length := by rw [hl]; simpa using hm
    obtain ⟨w, hw, rw'⟩ := r.get (i := m) (x := .int ns[m]) (by rw [List.getElem?_map, List.getElem?_eq_getElem hm']; rfl)
    obtain ⟨t, rfl⟩ := rw'
    refine ⟨ns[m], t, List.getElem?_eq_getElem hm', ?_⟩
    have : its[m]? = some its[m] := List.getElem?_eq_getElem (by simpa using hm)
    rw [hw] at this
    simpa using (Option.some.inj this).symm
  have hj : j < its.toArray.size := by
    have := (List.getElem?_eq_some_iff.mp h1).1
    rw [hl] at this; simpa using this
  refine call_meets F.slot_list_remove ⟨_, e, rfl⟩ F.entry_list_remove (F.args_list_remove_2 _ _) (MeetsSeq.list_remove l its.toArray n (.int k tk) (fun y => match y with | .int i _ => i == k | _ => false) (fun y hy => ?_) j hj ?_ (fun m hm hmj => ?_) (by rw [List.size_toArray, ← hl]; exact z)) ⟨e, ?_⟩
  · obtain ⟨m, hm, rfl⟩ := Array.getElem_of_mem hy
    obtain ⟨i, t, _, e2⟩ := get m hm
    rw [e2]
    exact MeetsSeq.EqGives.int i k t tk
  · obtain ⟨i, t, e1, e2⟩ := get j hj
    rw [h1] at e1; cases e1
    rw [e2]
    simp
  · obtain ⟨i, t, e1, e2⟩ := get m hm
    rw [e2]
    simpa using h2 m i hmj e1
  · refine ⟨.non, _, I.lset (its' := its.eraseIdx j) (ys := (ns.erase k).map V.int) hH e ?_ ?_ ?_, rfl, q⟩
    · rw [List.eraseIdxIfInBounds_toArray]
    · rw [h3]
      have em : ∀ (xs : List Int) (i : Nat), (xs.eraseIdx i).map V.int = (xs.map V.int).eraseIdx i := fun xs => by
        induction xs with
        | nil => intro i; rfl
        | cons y xs ih => intro i; cases i with
          | zero => rfl
          | succ i => rw [List.eraseIdx_cons_succ, List.map_cons, List.map_cons, List.eraseIdx_cons_succ, ih]
      rw [em]
      exact vals_erase j r
    · rw [List.length_map]
      exact Nat.le_trans List.length_erase_le z
end
end L2
set_option Elab.async false
set_option linter.all false
set_option maxRecDepth 100000
set_option maxHeartbeats 4000000
namespace L2
open PySem PySem.Spec PyProof.Rows
section
variable {κ : Type} [DecidableEq κ]
def valV (kvs : List (κ × V)) (k : κ) : Option V := (kvs.find? fun kv => decide (kv.1 = k)).map (·.2)
def putK (kvs : List (κ × V)) (k : κ) (v : V) : List (κ × V) :=
  if (kvs.any fun kv => decide (kv.1 = k)) = true then kvs.map (fun kv => if kv.1 = k then (kv.1, v) else kv) else kvs ++ [(k, v)]
def dropK (kvs : List (κ × V)) (k : κ) : List (κ × V) := kvs.filter fun kv => decide (kv.1 ≠ k)
theorem valV_pos {p : κ × V} {r : List (κ × V)} {k : κ} (e : p.1 = k) : valV (p :: r) k = some p.2 := by simp [valV, List.find?_cons, e]
theorem valV_neg {p : κ × V} {r : List (κ × V)} {k : κ} (e : ¬ p.1 = k) : valV (p :: r) k = valV r k := by simp [valV, List.find?_cons, e]
theorem valV_any (k : κ) : ∀ kvs : List (κ × V), (kvs.any fun kv => decide (kv.1 = k)) = (valV kvs k).isSome
  | [] => rfl
  | p :: r => by
    rw [List.any_cons]
    by_cases e : p.1 = k
    · simp only [valV_pos e, decide_eq_true e, Bool.true_or, Option.isSome_some]
    · rw [valV_neg e, decide_eq_false e, Bool.false_or]; exact valV_any k r
theorem valV_map (k j : κ) (y : V) : ∀ kvs : List (κ × V), valV (kvs.map fun kv => if kv.1 = k then (kv.1, y) else kv) j = (valV kvs j).map fun x => if j = k then y else x
  | [] => rfl
  | p :: r => by
    have ih := valV_map k j y r
    rw [List.map_cons]
    by_cases h : p.1 = k
    · rw [if_pos h]
      by_cases e : p.1 = j
      · rw [valV_pos (p := (p.1, y)) e, valV_pos e, Option.map_some, if_pos (e.symm.trans h)]
      · rw [valV_neg (p := (p.1, y)) e, valV_neg e, ih]
    · rw [if_neg h]
      by_cases e : p.1 = j
      · rw [valV_pos (p := p) e, valV_pos e, Option.map_some, if_neg (fun z => h (e.trans z))]
      · rw [valV_neg (p := p) e, valV_neg e, ih]
theorem valV_snoc (k j : κ) (y : V) : ∀ kvs : List (κ × V), valV kvs k = none → valV (kvs ++ [(k, y)]) j = if j = k then some y else valV kvs j
  | [], _ => by
    by_cases e : k = j
    · rw [if_pos e.symm]; exact valV_pos (p := (k, y)) e
    · rw [if_neg (fun z => e z.symm)]; exact valV_neg (p := (k, y)) e
  | p :: r, hn => by
    rw [List.cons_append]
    have hk : ¬ p.1 = k := fun z => by rw [valV_pos z] at hn; cases hn
    rw [valV_neg hk] at hn
    have ih := valV_snoc k j y r hn
    by_cases e : p.1 = j
    · rw [valV_pos e, valV_pos e, if_neg (fun z => hk (e.trans z))]
    · rw [valV_neg e, valV_neg e, ih]
theorem valV_put (kvs : List (κ × V)) (k j : κ) (y : V) : valV (putK kvs k y) j = if j = k then some y else valV kvs j := by
  unfold putK
  by_cases a : (kvs.any fun kv => decide (kv.1 = k)) = true
  · rw [if_pos a, valV_map]
    rw [valV_any] at a
    by_cases e : j = k
    · obtain ⟨x, hx⟩ := Option.isSome_iff_exists.mp a
      rw [if_pos e, e, hx, Option.map_some, if_pos rfl]
    · rw [if_neg e]
      cases valV kvs j with
      | none => rfl
      | some x => rw [Option.map_some, if_neg e]
  · rw [if_neg a]
    refine valV_snoc k j y kvs ?_
    rw [valV_any] at a
    cases q : valV kvs k with
    | none => rfl
    | some x => rw [q] at a; exact (a rfl).elim
theorem length_putK (kvs : List (κ × V)) (k : κ) (v : V) : (putK kvs k v).length ≤ kvs.length + 1 := by
  unfold putK
  split
  · rw [List.length_map]; omega
  · rw [List.length_append, List.length_cons, List.length_nil]; omega
theorem RelO.isSome_eq {o : Option V} {u : Option Value} (r : RelO o u) : o.isSome = u.isSome := by
  cases o with
  | none => cases u with
    | none => rfl
    | some _ => exact (show False from r).elim
  | some _ => cases u with
    | none => exact (show False from r).elim
    | some _ => rfl
theorem RelO.getD {o : Option V} {u : Option Value} {d : V} {d' : Value} (r : RelO o u) (rd : RelV d d') : RelV (o.getD d) (u.getD d') := by
  cases o with
  | none => cases u with
    | none => exact rd
    | some _ => exact (show False from r).elim
  | some _ => cases u with
    | none => exact (show False from r).elim
    | some _ => exact r
theorem KV.val {kvs : List (κ × V)} {vs : List (κ × Value)} (r : KV kvs vs) (k : κ) : RelO (valV kvs k) (valueAt vs k) := by
  unfold KV at r
  induction r with
  | nil => exact True.intro
  | @cons p q ps qs h t ih =>
    obtain ⟨h1, h2⟩ := h
    by_cases e : p.1 = k
    · have e' : q.1 = k := h1.symm.trans e
      have b : valueAt (q :: qs) k = some q.2 := by simp [valueAt, List.find?_cons, e']
      rw [valV_pos e, b]; exact h2
    · have e' : ¬ q.1 = k := fun z => e (h1.trans z)
      have b : valueAt (q :: qs) k = valueAt qs k := by simp [valueAt, List.find?_cons, e']
      rw [valV_neg e, b]; exact ih
theorem KV.any {kvs : List (κ × V)} {vs : List (κ × Value)} (r : KV kvs vs) (k : κ) : (kvs.any fun kv => decide (kv.1 = k)) = vs.any fun kv => decide (kv.1 = k) := by
  unfold KV at r
  induction r with
  | nil => rfl
  | cons h t ih => rw [List.any_cons, List.any_cons, ih, h.1]
theorem KV.repl {kvs : List (κ × V)} {vs : List (κ × Value)} (r : KV kvs vs) (k : κ) {y : V} {u : Value} (ry : RelV y u) :
    KV (kvs.map fun kv => if kv.1 = k then (kv.1, y) else kv) (vs.map fun kv => if kv.1 = k then (kv.1, u) else kv) := by
  unfold KV at r ⊢
  induction r with
  | nil => exact .nil
  | @cons p q ps qs h t ih =>
    rw [List.map_cons, List.map_cons]
    refine .cons ?_ ih
    obtain ⟨h1, h2⟩ := h
    by_cases e : p.1 = k
    · rw [if_pos e, if_pos (h1.symm.trans e)]; exact ⟨h1, ry⟩
    · rw [if_neg e, if_neg (fun z => e (h1.trans z))]; exact ⟨h1, h2⟩
theorem KV.put {kvs : List (κ × V)} {vs : List (κ × Value)} (r : KV kvs vs) (k : κ) {y : V} {u : Value} (ry : RelV y u) : KV (putK kvs k y) (stored vs k u) := by
  unfold putK stored
  rw [r.any k]
  by_cases e : (vs.any fun kv => decide (kv.1 = k)) = true
  · rw [if_pos e, if_pos e]; exact r.repl k ry
  · rw [if_neg e, if_neg e]; exact Paired.snoc r ⟨rfl, ry⟩
theorem KV.drop {kvs : List (κ × V)} {vs : List (κ × Value)} (r : KV kvs vs) (k : κ) : KV (dropK kvs k) (without vs k) := by
  unfold KV at r ⊢
  unfold dropK without
  induction r with
  | nil => exact .nil
  | @cons p q ps qs h t ih =>
    obtain ⟨h1, h2⟩ := h
    rw [List.filter_cons, List.filter_cons]
    by_cases e : p.1 = k
    · have a : ¬ decide (p.1 ≠ k) = true := by simp [e]
      have b : ¬ decide (q.1 ≠ k) = true := by simp [h1.symm.trans e]
      rw [if_neg a, if_neg b]; exact ih
    · have e' : ¬ q.1 = k := fun z => e (h1.trans z)
      have a : decide (p.1 ≠ k) = true := by simp [e]
      have b : decide (q.1 ≠ k) = true := by simp [e']
      rw [if_pos a, if_pos b]; exact .cons ⟨h1, h2⟩ ih
theorem KV.length {kvs : List (κ × V)} {vs : List (κ × Value)} (r : KV kvs vs) : kvs.length = vs.length := Paired.length r
theorem dropK_le (kvs : List (κ × V)) (k : κ) : (dropK kvs k).length ≤ kvs.length := List.length_filter_le _ _
end
theorem kV_is {P : Program} {w : World} {k : Key} {u : Value} (r : RelV (kV k) u) : (mixKind P w).is k u = true := by
  cases k with
  | inl i => obtain ⟨t, e⟩ := (show ∃ t, u = Value.int i t from r); subst e; exact mixKind_int P w i t
  | inr x => obtain ⟨t, e⟩ := (show ∃ t, u = Value.str x t from r); subst e; exact mixKind_str P w x t
theorem items_are {P : Program} {w : World} : ∀ {ks : List Key} {us : List Value}, Vals (ks.map kV) us → ItemsAre (mixKind P w) ks us
  | [], _, r => by rw [List.map_nil] at r; cases r; exact .nil
  | k :: ks, _, r => by
    rw [List.map_cons] at r
    cases r with
    | cons h t => exact .cons (kV_is h) (items_are t)
abbrev KT (H : Hp) : List (List Key × V) → List (List Key × Addr × Value) → Prop := Paired fun p q => p.1 = q.1 ∧ H q.2.1 = some (.tup (p.1.map kV)) ∧ RelV p.2 q.2.2
theorem KT.val {H : Hp} {kvs : List (List Key × V)} {xs : List (List Key × Addr × Value)} (r : KT H kvs xs) (k : List Key) : RelO (valV kvs k) ((atKey xs k).map (·.2)) := by
  induction r with
  | nil => exact True.intro
  | @cons p q ps qs h t ih =>
    obtain ⟨h1, _, h2⟩ := h
    by_cases e : p.1 = k
    · have e' : q.1 = k := h1.symm.trans e
      have b : atKey (q :: qs) k = some q.2 := by simp [atKey, List.find?_cons, e']
      rw [valV_pos e, b]; exact h2
    · have e' : ¬ q.1 = k := fun z => e (h1.trans z)
      have b : atKey (q :: qs) k = atKey qs k := by simp [atKey, List.find?_cons, e']
      rw [valV_neg e, b]; exact ih
theorem KT.repl {H : Hp} {kvs : List (List Key × V)} {xs : List (List Key × Addr × Value)} (r : KT H kvs xs) (k : List Key) {y : V} {u : Value} (ry : RelV y u) :
    KT H (kvs.map fun kv => if kv.1 = k then (kv.1, y) else kv) (xs.map (putAt k u)) := by
  induction r with
  | nil => exact .nil
  | @cons p q ps qs h t ih =>
    rw [List.map_cons, List.map_cons]
    refine .cons ?_ ih
    obtain ⟨h1, h2, h3⟩ := h
    unfold putAt
    by_cases e : p.1 = k
    · rw [if_pos e, if_pos (h1.symm.trans e)]; exact ⟨h1, h2, ry⟩
    · rw [if_neg e, if_neg (fun z => e (h1.trans z))]; exact ⟨h1, h2, h3⟩
theorem KT.put {H : Hp} {kvs : List (List Key × V)} {xs : List (List Key × Addr × Value)} (r : KT H kvs xs) (k : List Key) {b : Addr} {y : V} {u : Value} (hb : H b = some (.tup (k.map kV))) (ry : RelV y u) :
    KT H (putK kvs k y) (storedH xs k b u) := by
  have e : (kvs.any fun kv => decide (kv.1 = k)) = (atKey xs k).isSome := by
    rw [valV_any, (r.val k).isSome_eq, Option.isSome_map]
  unfold putK storedH
  rw [e]
  by_cases q : (atKey xs k).isSome = true
  · rw [if_pos q, if_pos q]; exact r.repl k ry
  · rw [if_neg q, if_neg q]; exact Paired.snoc r ⟨rfl, hb, ry⟩
theorem KT.keeps {H H' : Hp} {kvs : List (List Key × V)} {xs : List (List Key × Addr × Value)} (r : KT H kvs xs) (ht : ∀ b ys, H b = some (.tup ys) → H' b = some (.tup ys)) : KT H' kvs xs :=
  Paired.mapP r fun _ _ z => ⟨z.1, ht _ _ z.2.1, z.2.2⟩
section
variable {P : Program} {w : World} {H : Hp} {h : Heap} {a : Addr}
theorem rd_of {u : HO} (ok : HOk P w H h) (e : Rd H a u) : ObjOk P w H h a u := e.ok ok
theorem dk_rd {kvs : List (Key × V)} (ok : HOk P w H h) (e : Rd H a (.dK kvs)) : kvs.length ≤ sizeLine ∧ (a == sysModules) = false ∧ ∃ vs, KV kvs vs ∧ h.DictOf (mixKind P w) a vs :=
  show ObjOk P w H h a (.dK kvs) from rd_of ok e
theorem dk_of {kvs : List (Key × V)} (ok : HOk P w H h) (e : H a = some (.dK kvs)) : kvs.length ≤ sizeLine ∧ (a == sysModules) = false ∧ ∃ vs, KV kvs vs ∧ h.DictOf (mixKind P w) a vs := dk_rd ok (.inl e)
theorem key_of {ks : List Key} (ok : HOk P w H h) (e : H a = some (.tup (ks.map kV))) : (tupleKind (mixKind P w)).is h ks a := by
  obtain ⟨_, its, r, o, h1, h2, n, h3⟩ := (show ObjOk P w H h a (.tup (ks.map kV)) from ok a _ e)
  exact ⟨o, its.toArray, n, h1, h2, h3, by simpa using items_are r⟩
theorem dt_rd {kvs : List (List Key × V)} (ok : HOk P w H h) (e : Rd H a (.dT kvs)) : kvs.length ≤ sizeLine ∧ (a == sysModules) = false ∧
    ∃ xs, KT H kvs xs ∧ h.DictOfH (tupleKind (mixKind P w)) a xs := by
  obtain ⟨z, y, xs, r, o, es, ep, h1, h2, h3, h4, h5⟩ := (show ObjOk P w H h a (.dT kvs) from rd_of ok e)
  refine ⟨z, y, xs, r, o, es, ep, h1, h2, h3, h4, fun x hx => ?_, h5⟩
  have all : ∀ {l : List (List Key × V)} {m : List (List Key × Addr × Value)}, KT H l m → ∀ x ∈ m, (tupleKind (mixKind P w)).is h x.1 x.2.1 := by
    intro l m q
    induction q with
    | nil => intro x hx; exact nomatch hx
    | @cons p q ps qs hq t ih =>
      intro x hx
      rcases List.mem_cons.mp hx with e | hx
      · subst e
        exact key_of ok (by rw [← hq.1]; exact hq.2.1)
      · exact ih x hx
  exact all r x hx
theorem dt_of {kvs : List (List Key × V)} (ok : HOk P w H h) (e : H a = some (.dT kvs)) : kvs.length ≤ sizeLine ∧ (a == sysModules) = false ∧
    ∃ xs, KT H kvs xs ∧ h.DictOfH (tupleKind (mixKind P w)) a xs := dt_rd ok (.inl e)
end
def DGet (H : Hp) (a : Addr) (y : V) (r : Option V) : Prop :=
  (∃ kvs k, Rd H a (.dK kvs) ∧ y = kV k ∧ r = valV kvs k) ∨ ∃ kvs k b, Rd H a (.dT kvs) ∧ y = .ref b ∧ H b = some (.tup (k.map kV)) ∧ r = valV kvs k
def DPut (H : Hp) (a : Addr) (y v : V) (H' : Hp) : Prop :=
  (∃ kvs k, H a = some (.dK kvs) ∧ y = kV k ∧ kvs.length < sizeLine ∧ H' = upd H a (.dK (putK kvs k v))) ∨
  ∃ kvs k b, H a = some (.dT kvs) ∧ y = .ref b ∧ H b = some (.tup (k.map kV)) ∧ kvs.length < sizeLine ∧ H' = upd H a (.dT (putK kvs k v))
theorem DGet.k {H : Hp} {a : Addr} {kvs : List (Key × V)} {k : Key} (e : H a = some (.dK kvs)) : DGet H a (kV k) (valV kvs k) := .inl ⟨kvs, k, .inl e, rfl, rfl⟩
theorem DPut.k {H : Hp} {a : Addr} {kvs : List (Key × V)} {k : Key} {v : V} (e : H a = some (.dK kvs)) (hl : kvs.length < sizeLine) : DPut H a (kV k) v (upd H a (.dK (putK kvs k v))) := .inl ⟨kvs, k, e, rfl, hl, rfl⟩
section
variable {X : Cx} {pins : List (Addr × Obj)} {σ : St} {H : Hp} {s : Shared} {a : Addr} {y v : V} {u r : Value} {o : Option V} {A : Around} {E : Value → Shared → Prop}
theorem Inv.big (I : Inv X pins σ H s) : sysModules < s.heap.objs.size := by
  have h : mainGlobals < s.heap.objs.size := (I.mod.glob.keeps I.bk).lt
  exact Nat.lt_trans (by decide) h
theorem d_getItem {Q : Value → Shared → Prop} (hu : A.units + 1 < cLine) (I : Inv X pins σ H s) (g : DGet H a y (some v)) (ry : RelV y u) (h : ∀ w' s', Inv X pins σ H s' → RelV v w' → Q w' s') :
    wpAny (model X.prog X.w) A (getItem (.ref a) u) Q E s := by
  rcases g with ⟨kvs, k, e, ey, l⟩ | ⟨kvs, k, b, e, ey, eb, l⟩
  · subst ey
    obtain ⟨z, hd, vs, rel, dd⟩ := dk_rd I.hok e
    obtain ⟨w', hw, rw'⟩ := RelO.some_of (v := v) (o := valueAt vs k) (by rw [l]; exact rel.val k)
    exact wpAny_getItem_of (kV_is ry) dd.mapOf hw (h w' _ (I.tok _) rw')
  · subst ey
    cases (show u = Value.ref b from ry)
    obtain ⟨z, hd, xs, rel, dd⟩ := dt_rd I.hok e
    obtain ⟨w', hw, rw'⟩ := RelO.some_of (v := v) (o := (atKey xs k).map (·.2)) (by rw [l]; exact rel.val k)
    obtain ⟨p, hp, hp2⟩ := Option.map_eq_some_iff.mp hw
    refine wpAny_getItem_heap (tupleKind_room_in1 hu) (key_of I.hok eb) dd hp ?_
    rw [hp2]
    exact h w' _ (I.tok _) rw'
theorem d_in {Q : Value → Shared → Prop} (hu : A.units + 1 < cLine) (I : Inv X pins σ H s) (g : DGet H a y o) (ry : RelV y u) (h : ∀ s', Inv X pins σ H s' → Q (.bool o.isSome) s') :
    wpAny (model X.prog X.w) A (compareOp .In u (.ref a)) Q E s := by
  rcases g with ⟨kvs, k, e, ey, l⟩ | ⟨kvs, k, b, e, ey, eb, l⟩
  · subst ey
    obtain ⟨z, hd, vs, rel, dd⟩ := dk_rd I.hok e
    refine wpAny_in_of (kV_is ry) hd dd.mapOf ?_
    rw [← (rel.val k).isSome_eq, ← l]
    exact h _ (I.tok _)
  · subst ey
    cases (show u = Value.ref b from ry)
    obtain ⟨z, hd, xs, rel, dd⟩ := dt_rd I.hok e
    refine wpAny_in_heap (tupleKind_room_in1 hu) (key_of I.hok eb) hd dd ?_
    have q := (rel.val k).isSome_eq
    rw [Option.isSome_map] at q
    rw [← q, ← l]
    exact h _ (I.tok _)
theorem d_write {h' : Heap} {t' : Nat} {ob : HO} (I : Inv X pins σ H s) (mu : Mut (H a)) (hs : Heap.SameBut a s.heap h') (he : ∃ q, h'.get? a = some q) (new : ObjOk X.prog X.w (upd H a ob) h' a ob) :
    Inv X pins σ (upd H a ob) { s with heap := h', toks := t' } :=
  I.write (x := a) (e := a) mu (.inl rfl) (fun b q hb z => (hs.2 b hb).trans z) he new
theorem dk_new {P : Program} {w : World} {H' : Hp} {h' : Heap} {kvs : List (Key × V)} {vs : List (Key × Value)} (z : kvs.length ≤ sizeLine) (hd : (a == sysModules) = false) (rel : KV kvs vs) (dd : h'.DictOf (mixKind P w) a vs) :
    ObjOk P w H' h' a (.dK kvs) := ⟨z, hd, vs, rel, dd⟩
theorem d_setItem {H' : Hp} {Q : Unit → Shared → Prop} (hu : A.units + 1 < cLine) (I : Inv X pins σ H s) (g : DPut H a y v H') (ry : RelV y u) (rv : RelV v r) (h : ∀ s', Inv X pins σ H' s' → Q () s') :
    wpAny (model X.prog X.w) A (setItem (.ref a) u r) Q E s := by
  rcases g with ⟨kvs, k, e, ey, l, eH⟩ | ⟨kvs, k, b, e, ey, eb, l, eH⟩
  · subst ey eH
    obtain ⟨z, hd, vs, rel, dd⟩ := dk_of I.hok e
    have hz : vs.length ≤ sizeLine := by rw [← rel.length]; exact z
    have hl : (putK kvs k v).length ≤ sizeLine := by have := length_putK kvs k v; omega
    refine wpAny_setItem_pairs (hsz := hz) (kV_is ry) dd fun h' dd' hs => h _ ?_
    have he : ∃ q, h'.get? a = some q := let ⟨q, _, _, hq, _⟩ := dd'; ⟨q, hq⟩
    exact d_write I (by rw [e]; exact True.intro) hs he (dk_new hl hd (rel.put k rv) dd')
  · subst ey eH
    cases (show u = Value.ref b from ry)
    obtain ⟨z, hd, xs, rel, dd⟩ := dt_of I.hok e
    have hz : xs.length ≤ sizeLine := by rw [← Paired.length rel]; exact z
    have hl : (putK kvs k v).length ≤ sizeLine := by have := length_putK kvs k v; omega
    refine wpAny_setItem_heap (hsz := hz) (tupleKind_room_in1 hu) (key_of I.hok eb) dd fun h' dd' hs => h _ ?_
    obtain ⟨q, es, ep, hq, h2, h3, h4, _, h5⟩ := dd'
    refine d_write I (by rw [e]; exact True.intro) hs ⟨q, hq⟩ ⟨hl, hd, _, (rel.put k eb rv).keeps fun c ys ec => ?_, q, es, ep, hq, h2, h3, h4, h5⟩
    rw [upd_ne (ne_of ec e (fun z => nomatch z))]
    exact ec
end
section
variable {X : Cx} {pins : List (Addr × Obj)} {σ : St} {H : Hp} {s : Shared} {a : Addr} {kvs : List (Key × V)} {k : Key} {u : Value} {A : Around} {E : Value → Shared → Prop}
theorem d_pop {v : V} {more : List Value} {Q : Value → Shared → Prop} (I : Inv X pins σ H s) (e : H a = some (.dK kvs)) (ry : RelV (kV k) u) (l : valV kvs k = some v) (hm : more = [] ∨ ∃ x, more = [x])
    (h : ∀ w' s', Inv X pins σ (upd H a (.dK (dropK kvs k))) s' → RelV v w' → Q w' s') : wpAny (model X.prog X.w) A (call (.builtin "dict.pop") (.ref a :: u :: more)) Q E s := by
  obtain ⟨z, hd, vs, rel, dd⟩ := dk_of I.hok e
  obtain ⟨w', hw, rw'⟩ := RelO.some_of (v := v) (o := valueAt vs k) (by rw [← l]; exact rel.val k)
  have hp : (keyPart u).isSome = true := by
    cases k with
    | inl i => obtain ⟨t, q⟩ := (show ∃ t, u = Value.int i t from ry); subst q; rfl
    | inr x => obtain ⟨t, q⟩ := (show ∃ t, u = Value.str x t from ry); subst q; rfl
  have ha : argsOk "dict.pop" ⟨.ref a :: u :: more, []⟩ := by
    rcases hm with q | ⟨x, q⟩
    · subst q; exact PySem.F.args_dict_pop_2 _ _
    · subst q; exact PySem.F.args_dict_pop_3 _ _ _
  refine call_meetsIn PySem.F.slot_dict_pop dd.typeIs PySem.F.entry_dict_pop ha (meets_dict_pop_there (mixKind X.prog X.w) a (kV_is ry) more hm hp)
    ⟨vs, w', dd, by rw [← rel.length]; exact z, hw, fun h' dd' hs => h w' _ ?_ rw'⟩
  have he : ∃ q, h'.get? a = some q := let ⟨q, _, _, hq, _⟩ := dd'; ⟨q, hq⟩
  exact d_write I (by rw [e]; exact True.intro) hs he (dk_new (Nat.le_trans (dropK_le kvs k) z) hd (rel.drop k) dd')
theorem d_popD {r : Value} {Q : Value → Shared → Prop} (I : Inv X pins σ H s) (e : H a = some (.dK kvs)) (ry : RelV (kV k) u) (l : valV kvs k = none) (h : ∀ s', Inv X pins σ H s' → Q r s') :
    wpAny (model X.prog X.w) A (call (.builtin "dict.pop") [.ref a, u, r]) Q E s := by
  obtain ⟨z, hd, vs, rel, dd⟩ := dk_of I.hok e
  have hn : valueAt vs k = none := RelO.none_of (by rw [← l]; exact rel.val k)
  have hp : (keyPart u).isSome = true := by
    cases k with
    | inl i => obtain ⟨t, q⟩ := (show ∃ t, u = Value.int i t from ry); subst q; rfl
    | inr x => obtain ⟨t, q⟩ := (show ∃ t, u = Value.str x t from ry); subst q; rfl
  exact call_meetsIn PySem.F.slot_dict_pop dd.typeIs PySem.F.entry_dict_pop (PySem.F.args_dict_pop_3 _ _ _) (meets_dict_pop_default (mixKind X.prog X.w) a (kV_is ry) hd hp r) ⟨vs, dd, hn, h _ (I.tok _)⟩
end
def NoSl (i : Expr) : Prop := ∀ ov iv, subscripted i false ov iv = operate [ov, iv] (getItem ov iv)
theorem subD_of {prog : Program} {w : World} {A : Around} {E : Value → Shared → Prop} {s : Shared} {env : Env} {value slice : Expr} {pos : Pos} {T id : String} {Q : Value → Shared → Prop}
    (hl : typeLookup (.type T) "__getitem__" = pure (some (.builtin id))) (hs : NoSl slice)
    (h : wpAny (model prog w) A (eval value env) (fun o s₁ => wpAny (model prog w) A (eval slice env) (fun i s₂ => s₂.TypeIs o T ∧ wpAny (model prog w) A (getItem o i) Q E s₂) E s₁) E s) :
    wpAny (model prog w) A (eval (.Subscript value slice pos) env) Q E s := by
  refine Subscript_ (wpAny_mono h (fun o s₁ h₁ => wpAny_mono h₁ (fun i s₂ h₂ => ?_) fun _ _ x => x) fun _ _ x => x)
  obtain ⟨hT, h₂⟩ := h₂
  unfold subscriptTail
  refine wpAny_bind ?_
  rw [getitemInPython_of_ne hT.not_modules]
  refine wpAny_bind (wpAny_specialOf hT hl ?_)
  have fin : wpAny (model prog w) A (subscripted slice false o i) (fun r s₃ => wpAny (model prog w) A (letTemporaryGo value o r >>= fun _ => pure r) Q E s₃) E s₂ := by
    rw [hs o i]
    exact wpAny_operating (wpAny_mono h₂ (fun r s₃ h₃ => wpAny_bind (wpAny_letTemporaryGo (wpAny_pure h₃))) fun _ _ x => x)
  first
    | exact wpAny_pure (wpAny_bind fin)
    | exact wpAny_bind (wpAny_pure (wpAny_bind fin))
    | exact wpAny_bind fin
theorem dict_typeIs {X : Cx} {pins : List (Addr × Obj)} {σ : St} {H : Hp} {s : Shared} {a : Addr} {y : V} {o : Option V} (I : Inv X pins σ H s) (g : DGet H a y o) : s.TypeIs (.ref a) "dict" := by
  rcases g with ⟨kvs, k, e, _, _⟩ | ⟨kvs, k, b, e, _, _, _⟩
  · obtain ⟨_, _, vs, _, dd⟩ := dk_rd I.hok e
    exact dd.typeIs
  · obtain ⟨_, _, xs, _, dd⟩ := dt_rd I.hok e
    exact dd.typeIs
def tDGet (td ty : TE) : TE := fun σ H Q => td σ H fun x H1 => ty σ H1 fun y H2 => ∃ a v, x = .ref a ∧ DGet H2 a y (some v) ∧ Q v H2
def tDIn (ty td : TE) : TE := fun σ H Q => ty σ H fun y H1 => td σ H1 fun x H2 => ∃ a o, x = .ref a ∧ DGet H2 a y o ∧ Q (.bl o.isSome) H2
def sDPut (td ty tv : TE) : TS := fun D σ H => tv σ H fun v H1 => td σ H1 fun x H2 => ty σ H2 fun y H3 => ∃ a H4, x = .ref a ∧ DPut H3 a y v H4 ∧ D.nx σ H4
def sDAug (td ty tv : TE) (rd : V → V → Hp → VK → Prop) : TS := fun D σ H => td σ H fun x H1 => ty σ H1 fun y H2 => ∃ a v, x = .ref a ∧ DGet H2 a y (some v) ∧
  tv σ H2 fun y2 H3 => rd v y2 H3 fun z H4 => ∃ H5, DPut H4 a y z H5 ∧ D.nx σ H5
section
variable {X : Cx} {o i e value : Expr} {pos pos' tpos : Pos} {td ty tv : TE}
theorem pe_dget (hu : X.A.units + 1 < cLine) (ho : PE X o td) (hi : PE X i ty) (hs : NoSl i) : PE X (.Subscript o i pos) (tDGet td ty) := by
  intro pins s σ H Q I h
  refine subD_of PySem.F.slot_dict_getitem.lookup hs (thn (ho pins s σ H _ I h) fun u s1 ⟨x, H1, I1, rx, q1⟩ => thn (hi pins s1 σ H1 _ I1 q1) fun iv s2 ⟨y, H2, I2, ry, a, v, ex, g, q2⟩ => ?_)
  subst ex
  obtain rfl : u = Value.ref a := rx
  exact ⟨dict_typeIs I2 g, d_getItem hu I2 g ry fun w' s3 I3 rw' => ⟨v, H2, I3, rw', q2⟩⟩
theorem pc_din (hu : X.A.units + 1 < cLine) (hi : PE X i ty) (ho : PE X o td) : PC X .In i o (tDIn ty td) := by
  intro pins s σ H Q I h
  refine thn (hi pins s σ H _ I h) fun iv s1 ⟨y, H1, I1, ry, q1⟩ => thn (ho pins s1 σ H1 _ I1 q1) fun u s2 ⟨x, H2, I2, rx, a, ov, ex, g, q2⟩ => ?_
  subst ex
  obtain rfl : u = Value.ref a := rx
  exact d_in hu I2 g ry fun s3 I3 => ⟨.bl ov.isSome, H2, I3, rfl, q2⟩
theorem ps_dput (hu : X.A.units + 1 < cLine) (ho : PE X o td) (hi : PE X i ty) (hv : PE X value tv) (hs : swapsWith value (some (.Subscript o i pos')) pos.line X.env = pure false) :
    PS X (.Assign [.Subscript o i pos'] value pos) (sDPut td ty tv) := by
  intro pins s σ H D I h
  refine wpAny_Assign_Subscript (thn (hv pins s σ H _ I h) fun r s1 ⟨v, H1, I1, rv, q1⟩ => thn (ho pins s1 σ H1 _ I1 q1) fun u s2 ⟨x, H2, I2, rx, q2⟩ => thn (hi pins s2 σ H2 _ I2 q2) fun iv s3 ⟨y, H3, I3, ry, a, H4, ex, g, q3⟩ => ?_) hs
  subst ex
  obtain rfl : u = Value.ref a := rx
  exact d_setItem hu I3 g ry rv fun s4 I4 => ⟨σ, H4, I4, q3⟩
theorem ps_daug {op : Operator} {rd : V → V → Hp → VK → Prop} (hu : X.A.units + 1 < cLine) (ho : PE X o td) (hi : PE X i ty) (hv : PE X value tv) (hop : InOp X op rd)
    (ha : ∀ ov iv new, augStore i ov iv new = (do holding [new, ov, iv] (setItem ov iv new); release [new, ov, iv] []; pure .next)) : PS X (.AugAssign (.Subscript o i tpos) op value pos) (sDAug td ty tv rd) := by
  intro pins s σ H D I h
  refine wpAny_AugAssign_SubscriptAny (thn (ho pins s σ H _ I h) fun u s1 ⟨x, H1, I1, rx, q1⟩ => thn (hi pins s1 σ H1 _ I1 q1) fun iv s2 ⟨y, H2, I2, ry, a, v, ex, g, q2⟩ => ?_) ha
  subst ex
  obtain rfl : u = Value.ref a := rx
  refine d_getItem hu I2 g ry fun w' s3 I3 rw' => thn (hv pins s3 σ H2 _ I3 q2) fun w2 s4 ⟨y2, H3, I4, ry2, q3⟩ => thn (hop pins s4 σ H3 v y2 w' w2 _ I4 rw' ry2 q3) fun w3 s5 ⟨z, H4, I5, rz, H5, g5, q4⟩ => ?_
  exact d_setItem hu I5 g5 ry rz fun s6 I6 => ⟨σ, H5, I6, q4⟩
end
theorem dk_empty {P : Program} {w : World} {H : Hp} (h : Heap) (hb : sysModules < h.objs.size) : ObjOk P w H (h.push { cls := .type "dict", data := .dict #[] }) h.objs.size (.dK []) :=
  ⟨Nat.zero_le _, beq_eq_false_iff_ne.mpr (Ne.symm (Nat.ne_of_lt hb)), [], .nil, Heap.DictOf.new h⟩
def tDNewK : TE := fun _ H Q => ∀ p, H p = none → Q (.ref p) (upd H p (.dK []))
section
variable {X : Cx} {pos : Pos}
theorem pe_dnewK : PE X (.Dict [] [] pos) tDNewK := fun pins s σ H Q I h =>
  wpAny_Dict_empty ⟨.ref s.heap.objs.size, _, I.laid (a := s.heap.objs.size) (o := .dK []) (t' := s.toks) (fun _ _ q => Heap.get?_push_of_some _ q) (Nat.le_refl _) (dk_empty s.heap I.big), rfl, h _ (I.hok.fresh (Nat.le_refl _))⟩
end
structure M1 (X : Cx) (o : Expr) (m : Str) (apos : Pos) (e : Expr) (cpos : Pos) : Prop where
  base : attributeBase o m X.env (eval o X.env) = eval o X.env
  few : ((backTo cpos (starEach [e] X.env)).all (fun x => !x.1) && (backToKw cpos (keywordEach [] X.env)).all (fun x => x.1.isSome)
    && decide (([e] : List Expr).length + ([] : List Keyword).length + (if ([] : List Keyword).isEmpty then 0 else 1) < 30)) = true
  line : (apos.endLine == cpos.line) = true
  trees : backTo cpos (starEach [e] X.env) = [(false, eval e X.env)]
structure M2 (X : Cx) (o : Expr) (m : Str) (apos : Pos) (e f : Expr) (cpos : Pos) : Prop where
  base : attributeBase o m X.env (eval o X.env) = eval o X.env
  few : ((backTo cpos (starEach [e, f] X.env)).all (fun x => !x.1) && (backToKw cpos (keywordEach [] X.env)).all (fun x => x.1.isSome)
    && decide (([e, f] : List Expr).length + ([] : List Keyword).length + (if ([] : List Keyword).isEmpty then 0 else 1) < 30)) = true
  line : (apos.endLine == cpos.line) = true
  trees : backTo cpos (starEach [e, f] X.env) = [(false, eval e X.env), (false, eval f X.env)]
def IsD (H : Hp) (a : Addr) : Prop := (∃ kvs, Rd H a (.dK kvs)) ∨ ∃ kvs, Rd H a (.dT kvs)
theorem isD_at {X : Cx} {pins : List (Addr × Obj)} {σ : St} {H : Hp} {s : Shared} {a : Addr} (I : Inv X pins σ H s) (d : IsD H a) :
    s.TypeIs (.ref a) "dict" ∧ (∀ b, Value.ref a = .ref b → ∃ ob, s.heap.get? b = some ob ∧ ob.dict = none) ∧ (a == sysModules) = false := by
  rcases d with ⟨kvs, e⟩ | ⟨kvs, e⟩
  · obtain ⟨_, hd, vs, _, dd⟩ := dk_rd I.hok e
    refine ⟨dd.typeIs, fun b q => ?_, hd⟩
    cases q
    obtain ⟨ob, _, _, h1, h2, _⟩ := dd
    exact ⟨ob, h1, h2.2.1⟩
  · obtain ⟨_, hd, xs, _, dd⟩ := dt_rd I.hok e
    refine ⟨dd.typeIs, fun b q => ?_, hd⟩
    cases q
    obtain ⟨ob, _, _, h1, h2, _⟩ := dd
    exact ⟨ob, h1, h2.2.1⟩
section
variable {X : Cx} {pins : List (Addr × Obj)} {σ : St} {H : Hp} {s : Shared} {a : Addr} {y d : V} {u r : Value} {o : Option V} {A : Around} {E : Value → Shared → Prop}
theorem d_get2 {Q : Value → Shared → Prop} (hu : A.units + 1 < cLine) (I : Inv X pins σ H s) (g : DGet H a y o) (ry : RelV y u) (rd : RelV d r) (h : ∀ w' s', Inv X pins σ H s' → RelV (o.getD d) w' → Q w' s') :
    wpAny (model X.prog X.w) A (call (.builtin "dict.get") [.ref a, u, r]) Q E s := by
  rcases g with ⟨kvs, k, e, ey, l⟩ | ⟨kvs, k, b, e, ey, eb, l⟩
  · subst ey
    obtain ⟨z, hd, vs, rel, dd⟩ := dk_rd I.hok e
    refine call_meetsIn PySem.F.slot_dict_get dd.typeIs PySem.F.entry_dict_get (PySem.F.args_dict_get_3 _ _ _) (meets_dict_get_default (mixKind X.prog X.w) a (kV_is ry) hd r) ⟨_, dd.mapOf, h _ _ (I.tok _) ?_⟩
    rw [l]
    exact (rel.val k).getD rd
  · subst ey
    cases (show u = Value.ref b from ry)
    obtain ⟨z, hd, xs, rel, dd⟩ := dt_rd I.hok e
    refine call_meetsIn PySem.F.slot_dict_get dd.typeIs PySem.F.entry_dict_get (PySem.F.args_dict_get_3 _ _ _) (meetsH_dict_get_default (tupleKind (mixKind X.prog X.w)) a b hd r) ⟨tupleKind_room_in1 hu, k, xs, key_of I.hok eb, dd, h _ _ (I.tok _) ?_⟩
    rw [l]
    exact (rel.val k).getD rd
end
def tDGet2 (td ty tx : TE) : TE := fun σ H Q => td σ H fun x H1 => ∃ a, x = .ref a ∧ IsD H1 a ∧ ty σ H1 fun y H2 => tx σ H2 fun z H3 => ∃ o, DGet H3 a y o ∧ Q (o.getD z) H3
def tDPop1 (td ty : TE) : TE := fun σ H Q => td σ H fun x H1 => ∃ a, x = .ref a ∧ IsD H1 a ∧ ty σ H1 fun y H2 => ∃ kvs k v, H2 a = some (.dK kvs) ∧ y = kV k ∧ valV kvs k = some v ∧ Q v (upd H2 a (.dK (dropK kvs k)))
def tDPop2 (td ty tx : TE) : TE := fun σ H Q => td σ H fun x H1 => ∃ a, x = .ref a ∧ IsD H1 a ∧ ty σ H1 fun y H2 => tx σ H2 fun z H3 => ∃ kvs k, H3 a = some (.dK kvs) ∧ y = kV k ∧
  (∀ v, valV kvs k = some v → Q v (upd H3 a (.dK (dropK kvs k)))) ∧ (valV kvs k = none → Q z H3)
section
variable {X : Cx} {o e f : Expr} {apos cpos : Pos} {td ty tx : TE}
theorem pe_dget2 (hu : X.A.units + 1 < cLine) (ho : PE X o td) (he : PE X e ty) (hf : PE X f tx) (m : M2 X o "get" apos e f cpos) : PE X (.Call (.Attribute o "get" apos) [e, f] [] cpos) (tDGet2 td ty tx) := by
  intro pins s σ H Q I h
  refine wpAny_Call_method m.base m.few m.line PySem.F.plainAttrs_dict PySem.F.slot_dict_get PySem.F.type_dict_get (thn (ho pins s σ H _ I h) fun u s1 ⟨x, H1, I1, rx, a, ex, d, q1⟩ => ?_)
  subst ex
  obtain rfl : u = Value.ref a := rx
  obtain ⟨t1, t2, _⟩ := isD_at I1 d
  refine ⟨t1, t2, ?_⟩
  rw [m.trees]
  refine Calls.callWith_builtin rfl (Calls.evalArgs_plain (Calls.spliced_cons (thn (he pins s1 σ H1 _ I1 q1) fun iv s2 ⟨y, H2, I2, ry, q2⟩ =>
    Calls.spliced_cons (thn (hf pins s2 σ H2 _ I2 q2) fun fv s3 ⟨z, H3, I3, rz, ov, g, q3⟩ => Calls.spliced_nil ?_))))
  exact d_get2 hu I3 g ry rz fun w' s4 I4 rw' => ⟨_, H3, I4, rw', q3⟩
theorem pe_dpop1 (ho : PE X o td) (he : PE X e ty) (m : M1 X o "pop" apos e cpos) : PE X (.Call (.Attribute o "pop" apos) [e] [] cpos) (tDPop1 td ty) := by
  intro pins s σ H Q I h
  refine wpAny_Call_method m.base m.few m.line PySem.F.plainAttrs_dict PySem.F.slot_dict_pop PySem.F.type_dict_pop (thn (ho pins s σ H _ I h) fun u s1 ⟨x, H1, I1, rx, a, ex, d, q1⟩ => ?_)
  subst ex
  obtain rfl : u = Value.ref a := rx
  obtain ⟨t1, t2, _⟩ := isD_at I1 d
  refine ⟨t1, t2, ?_⟩
  rw [m.trees]
  refine Calls.callWith_builtin rfl (Calls.evalArgs_plain (Calls.spliced_cons (thn (he pins s1 σ H1 _ I1 q1) fun iv s2 ⟨y, H2, I2, ry, kvs, k, v, ea, ey, l, q2⟩ => Calls.spliced_nil ?_)))
  subst ey
  exact d_pop I2 ea ry l (.inl rfl) fun w' s3 I3 rw' => ⟨v, _, I3, rw', q2⟩
theorem pe_dpop2 (ho : PE X o td) (he : PE X e ty) (hf : PE X f tx) (m : M2 X o "pop" apos e f cpos) : PE X (.Call (.Attribute o "pop" apos) [e, f] [] cpos) (tDPop2 td ty tx) := by
  intro pins s σ H Q I h
  refine wpAny_Call_method m.base m.few m.line PySem.F.plainAttrs_dict PySem.F.slot_dict_pop PySem.F.type_dict_pop (thn (ho pins s σ H _ I h) fun u s1 ⟨x, H1, I1, rx, a, ex, d, q1⟩ => ?_)
  subst ex
  obtain rfl : u = Value.ref a := rx
  obtain ⟨t1, t2, _⟩ := isD_at I1 d
  refine ⟨t1, t2, ?_⟩
  rw [m.trees]
  refine Calls.callWith_builtin rfl (Calls.evalArgs_plain (Calls.spliced_cons (thn (he pins s1 σ H1 _ I1 q1) fun iv s2 ⟨y, H2, I2, ry, q2⟩ =>
    Calls.spliced_cons (thn (hf pins s2 σ H2 _ I2 q2) fun fv s3 ⟨z, H3, I3, rz, kvs, k, ea, ey, q3, q4⟩ => Calls.spliced_nil ?_))))
  subst ey
  cases l : valV kvs k with
  | some v => exact d_pop I3 ea ry l (.inr ⟨fv, rfl⟩) fun w' s4 I4 rw' => ⟨v, _, I4, rw', q3 v l⟩
  | none => exact d_popD I3 ea ry l fun s4 I4 => ⟨z, H3, I4, rz, q4 l⟩
end
end L2
namespace L2
open PySem PySem.Spec PyProof.Rows
section
variable {κ : Type} [DecidableEq κ]
theorem nd_snoc : ∀ {l : List κ} {k : κ}, l.Nodup → ¬ k ∈ l → (l ++ [k]).Nodup
  | [], k, _, _ => by simp
  | a :: r, k, h, hk => by
    obtain ⟨h1, h2⟩ := List.nodup_cons.mp h
    show (a :: (r ++ [k])).Nodup
    refine List.nodup_cons.mpr ⟨fun m => ?_, nd_snoc h2 fun m => hk (List.mem_cons.mpr (Or.inr m))⟩
    rcases List.mem_append.mp m with q | q
    · exact h1 q
    · exact hk (List.mem_cons.mpr (Or.inl (List.mem_singleton.mp q).symm))
theorem dropK_pos {p : κ × V} {r : List (κ × V)} {k : κ} (e : p.1 = k) : dropK (p :: r) k = dropK r k := by
  unfold dropK
  rw [List.filter_cons, if_neg (by simp [e])]
theorem dropK_neg {p : κ × V} {r : List (κ × V)} {k : κ} (e : ¬ p.1 = k) : dropK (p :: r) k = p :: dropK r k := by
  unfold dropK
  rw [List.filter_cons, if_pos (by simp [e])]
end
end L2
set_option Elab.async false
set_option linter.all false
set_option maxRecDepth 100000
set_option maxHeartbeats 4000000
namespace L2
open PySem PySem.Spec PyProof.Rows
end L2
set_option Elab.async false
set_option linter.all false
set_option maxRecDepth 100000
set_option maxHeartbeats 4000000
namespace L2
open PySem PySem.Spec PyProof.Rows
end L2
set_option Elab.async false
set_option linter.all false
set_option maxRecDepth 100000
set_option maxHeartbeats 4000000
namespace L2
open PySem PySem.Spec PyProof.Rows
def relS (scope osc : Scope) : Scope := { scope with names := scope.names.map fun (n, k) => if (k == .free && osc.kind == .function && osc.names.lookup n == some .cell) then (n, .cell) else (n, k) }
theorem relabel_eq {scope : Scope} {env : Env} {osc : Scope} (h : env.scope = osc) : relabel scope env = relS scope osc := by subst h; rfl
theorem compOk_in {X : Cx} {sc0 osc : Scope} {env0 : Env} {oN : List Str} {scope : Scope} {N : List Str} {own : Nat} {js : List Nat} (hs : X.env.scope = relabel sc0 env0) (he : env0.scope = osc) (hN : X.N = oN) (h : compB (relS sc0 osc) oN scope N own js = true) : CompOk X scope N own js :=
  compOk_of h (hs.trans (relabel_eq he)) hN
section
variable {X : Cx} {K : PySem.W.Frag} {tg : PySem.Expr}
theorem pi_listK (hK : X.K = K) {l : PySem.Expr} {tl : TE} (hl : PE X l tl) : PI X tg l (iList K tl) := hK ▸ pi_list hl
theorem pi_tupK (hK : X.K = K) {l : PySem.Expr} {tl : TE} (hl : PE X l tl) : PI X tg l (iTup K tl) := hK ▸ pi_tup hl
end
end L2
set_option Elab.async false
set_option linter.all false
set_option maxRecDepth 100000
set_option maxHeartbeats 4000000
namespace L2
open PySem PySem.Spec PyProof.Rows
theorem comp_zipN {K : PySem.W.Frag} {a b : Addr} {xs zs : List V} {l : Addr} {g : TG} {tc : TT} {te : TE} {σ0 : St} {H0 : Hp} {Qf : Hp → Prop} (n : Nat) (hn : n = min xs.length zs.length) (Pv : Nat → List V → St → Hp → Prop) (h0 : Pv 0 [] σ0 H0)
    (hl : ∀ i ys σ' H', i ≤ n → Pv i ys σ' H' → SqL K H' a xs ∧ SqL K H' b zs)
    (hs : ∀ i x z t ys σ' H', i < n → xs[i]? = some x → zs[i]? = some z → ys.length ≤ i → Pv i ys σ' H' → H' t = none → g (.ref t) σ' (upd H' t (.tup [x, z])) fun σ2 H3 => tc σ2 H3 fun b H4 => if b = true then te σ2 H4 fun y H5 => CNx n l Pv i ys σ2 y H5 else CNo n Pv i ys σ2 H4)
    (hd : ∀ ys σ' H', ys.length ≤ n → Pv n ys σ' H' → Qf H') :
    ∃ W : Nat → Nat → List V → St → Hp → Prop, (∃ m, W 0 m [] σ0 H0) ∧ ∀ i m ys σ' H', W i m ys σ' H' →
    ((Itz K a b).stop i H' ∧ Qf H') ∨ ((Itz K a b).go i H' ∧ ∀ x H2, (Itz K a b).yld i H' x H2 → g x σ' H2 fun σ2 H3 => tc σ2 H3 fun b H4 =>
      if b = true then te σ2 H4 fun y H5 => H5 l = some (.lst ys) ∧ ys.length < sizeLine ∧ ∃ m', m' < m ∧ W (i + 1) m' (ys ++ [y]) σ2 (upd H5 l (.lst (ys ++ [y])))
      else ∃ m', m' < m ∧ W (i + 1) m' ys σ2 H4) := by
  refine ⟨fun i m ys σ' H' => m = n - i ∧ i ≤ n ∧ ys.length ≤ i ∧ Pv i ys σ' H', ⟨n, rfl, Nat.zero_le _, Nat.le_refl _, h0⟩, ?_⟩
  rintro i m ys σ' H' ⟨rfl, hi, hy, p⟩
  obtain ⟨qa, qb⟩ := hl i ys σ' H' hi p
  by_cases hlt : i < n
  · have h1 : i < xs.length := by omega
    have h2 : i < zs.length := by omega
    refine .inr ⟨⟨xs, zs, xs[i], zs[i], qa, qb, by simp [h1], by simp [h2]⟩, fun x H2 zq => ?_⟩
    obtain ⟨t, u, v, ht, rfl, rfl, z1, z2⟩ := zq
    exact hs i u v t ys σ' H' hlt (z1 xs qa) (z2 zs qb) hy p ht
  · have e : i = n := by omega
    subst e
    exact .inl ⟨⟨xs, zs, qa, qb, by omega⟩, hd ys σ' H' hy p⟩
end L2
set_option Elab.async false
set_option linter.all false
set_option maxRecDepth 100000
set_option maxHeartbeats 4000000
namespace L2
open PySem PySem.Spec PyProof.Rows
theorem boot_setT : bootBuiltins "set" = some (.type "set") := by first | rfl | decide +kernel | kernel_rfl
def met (ns : List Int) : List Int := firstMet (fun i => ns.getD i 0) ns.length
theorem met_map (ns : List Int) : (List.range ns.length).map (fun i => ns.getD i 0) = ns := by
  apply List.ext_getElem?
  intro i
  rw [List.getElem?_map]
  by_cases h : i < ns.length
  · rw [List.getElem?_range h, List.getElem?_eq_getElem h]
    show some (ns.getD i 0) = _
    rw [List.getD_eq_getElem?_getD, List.getElem?_eq_getElem h]; rfl
  · rw [List.getElem?_eq_none (by simpa using h), List.getElem?_eq_none (by omega)]; rfl
theorem mem_met (ns : List Int) (k : Int) : k ∈ met ns ↔ k ∈ ns := by
  have h := firstMet_any (fun i => ns.getD i 0) ns.length k
  rw [met_map] at h
  rw [Bool.eq_iff_iff, List.any_eq_true, List.any_eq_true] at h
  constructor
  · intro m
    obtain ⟨x, hx, e⟩ := h.mp ⟨k, m, by simp⟩
    have : x = k := by simpa using e
    rw [← this]; exact hx
  · intro m
    obtain ⟨x, hx, e⟩ := h.mpr ⟨k, m, by simp⟩
    have : x = k := by simpa using e
    rw [← this]; exact hx
theorem nd_met (ns : List Int) : (met ns).Nodup := by
  unfold met
  generalize ns.length = n
  induction n with
  | zero => exact List.nodup_nil
  | succ n ih =>
    rw [firstMet_succ]
    unfold step_dedup
    split
    · exact ih
    · rename_i c
      refine nd_snoc ih fun m => c ?_
      first | exact List.elem_eq_true_of_mem m | exact List.any_eq_true.mpr ⟨_, m, by simp⟩ | simpa using m
section
variable {X : Cx} {K : PySem.W.Frag}
theorem call_setL (hc : X.calm = true) : CallR X (.type "set") (fun xs H Q => ∃ (p : Addr) (ns : List Int), xs = [.ref p] ∧ SqL X.K H p (ns.map V.int) ∧ ns.length ≤ 1000 ∧ ∀ q, H q = none → Q (.ref q) (upd H q (.set (fun k => (met ns).any (· == k)) (met ns).length))) := by
  intro pins s σ H xs us Q I r h
  obtain ⟨p, ns, rfl, hq, hl, q⟩ := h
  obtain ⟨u, rfl, rx⟩ := vals1 r
  cases rx
  obtain ⟨its, rv, pl, hz⟩ := I.list hq
  have hlen : ns.length = its.length := by have := rv.length; rwa [List.length_map] at this
  refine call_set_list (items := its.toArray) (ns := ns) (I.ok.hd hc) pl.isList (by simpa using intsAre_of rv) (by rw [List.size_toArray, ← hlen]; exact Nat.lt_of_le_of_lt (Nat.add_le_add_right hl 1) (by decide)) fun h' tk hS hk => ?_
  have e3 : its.toArray.size = ns.length := by rw [List.size_toArray]; exact hlen.symm
  rw [e3] at hS
  refine ⟨.ref s.heap.objs.size, _, I.laid (t' := tk) (o := .set (fun k => (met ns).any (· == k)) (met ns).length) (fun b o e => hk b o (Heap.lt_size e) e) (Nat.le_refl _) hS, rfl, q _ (I.hok.fresh (Nat.le_refl _))⟩
theorem call_lenS : CallR X (.builtin "len") (fun xs H Q => ∃ (p : Addr) (S : Int → Bool) (n : Nat), xs = [.ref p] ∧ H p = some (.set S n) ∧ Q (.int n) H) := by
  intro pins s σ H xs us Q I r h
  obtain ⟨p, S, n, rfl, hp, q⟩ := h
  obtain ⟨u, rfl, rx⟩ := vals1 r
  cases rx
  obtain ⟨o, es, ep, t, ho, hex, hd, _, _, hlt, hf, rfl⟩ := (show s.heap.SetOf (intKind X.prog X.w) p S n from I.hok p _ hp)
  refine call_len_set ho hex hd hf ?_ ⟨.int _, H, I.tok _, ⟨_, rfl⟩, q⟩
  have : es.size < 4096 := hlt
  omega
end
section
variable {X : Cx} {K : PySem.W.Frag}
theorem best_int (ns : List Int) : ∀ k, k < ns.length → argBest (fun i j => decide (ns.getD j 0 < ns.getD i 0)) k ≤ k ∧ ∀ j, j ≤ k → ns.getD j 0 ≤ ns.getD (argBest (fun i j => decide (ns.getD j 0 < ns.getD i 0)) k) 0
  | 0, _ => ⟨Nat.le_refl _, fun j hj => by
      have : j = 0 := by omega
      subst this; exact Int.le_refl _⟩
  | k + 1, h => by
    obtain ⟨h1, h2⟩ := best_int ns k (by omega)
    unfold argBest
    by_cases c : decide (ns.getD (argBest (fun i j => decide (ns.getD j 0 < ns.getD i 0)) k) 0 < ns.getD (k + 1) 0) = true
    · rw [if_pos c]
      have c' := of_decide_eq_true c
      refine ⟨Nat.le_refl _, fun j hj => ?_⟩
      by_cases e : j = k + 1
      · subst e; exact Int.le_refl _
      · have := h2 j (by omega); omega
    · rw [if_neg c]
      have c' : ¬ _ := fun q => c (decide_eq_true q)
      refine ⟨by omega, fun j hj => ?_⟩
      by_cases e : j = k + 1
      · subst e; omega
      · exact h2 j (by omega)
theorem call_maxL (hc : X.calm = true) (hK : X.K = K) : CallR X (.builtin "max") (fun xs H Q => ∃ (p : Addr) (ns : List Int), xs = [.ref p] ∧ SqL K H p (ns.map V.int) ∧ ns ≠ [] ∧ ∀ m, m ∈ ns → (∀ x ∈ ns, x ≤ m) → Q (.int m) H) := by
  subst hK
  intro pins s σ H xs us Q I r h
  obtain ⟨p, ns, rfl, hq, hne, q⟩ := h
  obtain ⟨u, rfl, rx⟩ := vals1 r
  cases rx
  obtain ⟨its, rv, pl, hz⟩ := I.list hq
  have hl : ns.length = its.length := by have := rv.length; rwa [List.length_map] at this
  have pos : 0 < its.length := by rw [← hl]; exact List.length_pos_iff.mpr hne
  have at' : ∀ (i : Nat) (v : Value), its.toArray[i]? = some v → ∃ t, v = .int (ns.getD i 0) t ∧ i < ns.length := fun i v e => by
    have e' : its[i]? = some v := by simpa using e
    have hi : i < ns.length := by rw [hl]; exact (List.getElem?_eq_some_iff.mp e').1
    obtain ⟨w, hw, rw'⟩ := rv.get (i := i) (x := .int ns[i]) (by rw [List.getElem?_map, List.getElem?_eq_getElem hi]; rfl)
    rw [e'] at hw; cases hw
    obtain ⟨t, rfl⟩ := rw'
    exact ⟨t, by rw [List.getD_eq_getElem?_getD, List.getElem?_eq_getElem hi]; rfl, hi⟩
  refine call_max_at (wpAny_pyIter_list pl.isList ?_)
  refine ⟨s.heap.objs.size, _, [s.heap.objs.size], _, _, _, fun i j => decide (ns.getD j 0 < ns.getD i 0), fun _ => True, rfl, Walks.list (A := X.A.in1) (show X.A.in1.handled = none from I.ok.hd hc) s.heap.objs.size p ?_ its.toArray, ⟨⟨_, Heap.get?_push_size _ rfl, rfl, rfl⟩, pl.isList.at fun o e => Heap.get?_push_of_some _ e⟩, ?_, by simpa using pos, True.intro, fun _ _ _ _ => True.intro, ?_, ?_⟩
  · obtain ⟨o, e, _⟩ := pl.isList; exact Nat.ne_of_lt (Heap.lt_size e)
  · intro b hb'
    have lt : p < s.heap.objs.size := by obtain ⟨o, e, _⟩ := pl.isList; exact Heap.lt_size e
    show b < (s.heap.push _).objs.size
    rw [Heap.size_push]
    simp only [List.mem_cons, List.not_mem_nil, or_false] at hb'
    rcases hb' with rfl | rfl
    · exact Nat.lt_succ_self _
    · exact Nat.lt_succ_of_lt lt
  · intro i j u v t Q' E' _ ai aj q'
    obtain ⟨t1, rfl, _⟩ := at' i u ai
    obtain ⟨t2, rfl, _⟩ := at' j v aj
    refine (PyProof.Rows.gt_int ?_ : wpAny (model X.prog X.w) X.A.in1 (compareOp .Gt _ _) Q' E' t)
    have q2 := q'
    dsimp only at q2
    exact q2
  · intro v h' tk hv hk
    obtain ⟨t1, rfl, hm⟩ := at' _ v hv
    rw [List.size_toArray, ← hl] at hm
    obtain ⟨b1, b2⟩ := best_int ns (ns.length - 1) (by rw [hl]; omega)
    refine ⟨.int _, H, I.kept (t' := tk) (fun b o e => hk b o (by simpa using Nat.ne_of_lt (Heap.lt_size e)) (Heap.get?_push_of_some _ e)), ⟨t1, rfl⟩, q _ ?_ fun x hx => ?_⟩
    · rw [List.size_toArray, ← hl, List.getD_eq_getElem?_getD, List.getElem?_eq_getElem hm]
      exact List.getElem_mem hm
    · obtain ⟨j, hj, rfl⟩ := List.getElem_of_mem hx
      have := b2 j (by omega)
      rw [List.size_toArray, ← hl]
      rw [List.getD_eq_getElem?_getD, List.getElem?_eq_getElem hj] at this
      exact this
end
end L2
set_option Elab.async false
set_option linter.all false
set_option maxRecDepth 100000
set_option maxHeartbeats 4000000
namespace L2
open PySem PySem.Spec PyProof.Rows
def ItDn (hi : Int) (n : Nat) : It := ⟨fun i _ => i < n, fun i H x H' => H' = H ∧ x = .int (hi - i), fun i _ => n ≤ i⟩
theorem turn_down {P : Program} {w : World} {K : PySem.W.Frag} {tg : PySem.Expr} (it : Addr) (lo : Int) (n : Nat) : Turn P w K tg (ItDn lo n) [it] it (fun i h => IsRangeIter h it (lo + (i : Nat) * (-1)) ((n : Int) - (i : Nat)) (-1)) where
  mem := by simp
  obj := fun i h st b hb => by
    have e : b = it := by simpa using hb
    subst e
    exact ⟨_, st, fun v z => by
      have z' : Data.fields _ = Data.cell v := z
      cases z'⟩
  keep := fun i h h' st k => k it (by simp) _ st
  item := by
    intro X hP hw hK hc i pins s σ H E I hf st hg
    subst hP hw hK
    obtain ⟨f0, f1, f2, f3, f4, f5⟩ := hf it (by simp)
    have W := Walks.range (prog := X.prog) (w := X.w) (I.ok.hd hc) it lo (-1) n
    refine W.item i s _ _ hg st fun v h' tk hv st' kk => ?_
    obtain ⟨t, rfl⟩ := hv
    have I1 : Inv X pins σ H { s with heap := h', toks := tk } := I.turned (fun b o hb e => kk b o (by simpa using hb) e) f0 f1 f3 f4 f5
    refine ⟨_, rfl, go_of (s := { s with heap := h', toks := tk }) (n := "range_iterator") st' rfl rfl (by decide) ⟨.int (lo - i), H, I1, ⟨t, ?_⟩, ⟨rfl, rfl⟩, st', fun b hb => (hf b hb).1⟩⟩
    rw [show lo + (i : Int) * (-1) = lo - i by omega]
  done := by
    intro X hP hw hK hc i pins s σ H E I hf st hg
    subst hP hw hK
    obtain ⟨f0, f1, f2, f3, f4, f5⟩ := hf it (by simp)
    exact wpAny_pyNext_range_end (I.ok.hd hc) st (by have : n ≤ i := hg; omega) fun h' eb => ⟨rfl, I.turned (t' := s.toks) (fun b o hb e => eb b o hb e) f0 f1 f3 f4 f5⟩
  self := fun _ _ _ _ _ st h => wpAny_pyIter_rangeiter st h
section
variable {X : Cx} {tg : PySem.Expr}
theorem range_itd {pins : List (Addr × Obj)} {σ : St} {H : Hp} {s : Shared} {R : It → Hp → Prop} {E : Value → Shared → Prop} {lo hi : Int} {t u v : Tok} {tk : Nat} (I : Inv X pins σ H s) (h1 : -(2 ^ 62) ≤ lo) (h2 : lo < 2 ^ 62) (h3 : -(2 ^ 62) ≤ hi) (h4 : hi < 2 ^ 62)
    (q : R (ItDn lo (lo - hi).toNat) H) : wpAny (model X.prog X.w) X.A (pyIter (.ref s.heap.objs.size)) (PIE X pins σ tg R) E { s with heap := s.heap.push { cls := .type "range", data := .fields #[.int lo t, .int hi u, .int (-1) v] }, toks := tk } := by
  refine wpAny_pyIter_range (IsRange.new ..) (PySem.W.small_down h1 h2 h3 h4) ?_
  have I1 : Inv X pins σ H { s with heap := s.heap.push { cls := .type "range", data := .fields #[.int lo t, .int hi u, .int (-1) v] }, toks := tk } := I.kept fun b o e => Heap.get?_push_of_some _ e
  refine ⟨(s.heap.push { cls := .type "range", data := .fields #[.int lo t, .int hi u, .int (-1) v] }).objs.size, [(s.heap.push { cls := .type "range", data := .fields #[.int lo t, .int hi u, .int (-1) v] }).objs.size], _, _, H, rfl,
    I1.kept (t' := tk) fun b o e => Heap.get?_push_of_some _ e, turn_down _ lo (lo - hi).toNat, ?_, fun b hb => ?_, q⟩
  · have e1 : lo + ((0 : Nat) : Int) * (-1) = lo := by simp
    have e2 : (((lo - hi).toNat : Nat) : Int) - ((0 : Nat) : Int) = Builtin.Range.rangeSize lo hi (-1) := by rw [PySem.W.rangeSize_downNat]; omega
    show IsRangeIter _ _ (lo + ((0 : Nat) : Int) * (-1)) ((((lo - hi).toNat : Nat) : Int) - ((0 : Nat) : Int)) (-1)
    rw [e1, e2]
    exact Heap.get?_push_size _ rfl
  · have e : b = (s.heap.push { cls := .type "range", data := .fields #[.int lo t, .int hi u, .int (-1) v] }).objs.size := by simpa using hb
    subst e
    exact I1.fpOk (Nat.le_refl _) (I1.hok.fresh (Nat.le_refl _))
def iRngD (ta : TA) : TI := fun σ H R => ta σ H fun vs H1 => ∃ i j : Int, vs = [.int i, .int j, .int (-1)] ∧ (-(2 ^ 61) ≤ i ∧ i < 2 ^ 61 ∧ -(2 ^ 61) ≤ j ∧ j < 2 ^ 61) ∧ R (ItDn i (i - j).toNat) H1
theorem pi_range3 {a b c : PySem.Expr} {ta : TA} {p pos : Pos} (hg : Gl X "range") (hm : X.mg "range" = none) (ha : PA X [a, b, c] ta) (hs : starEach [a, b, c] X.env = (false, eval a X.env) :: starEach [b, c] X.env := by rfl) (hpl : (backTo pos (starEach [b, c] X.env)).any (·.1) = false := by rfl) :
    PI X tg (.Call (.Name "range" p) [a, b, c] [] pos) (iRngD ta) := by
  intro pins s σ H R I h
  refine Call_ (ld_blt I hg hm boot_range (PyProof.Rows.callWith_type1 (thn (ha pos pins s σ H _ I h) fun us s1 ⟨vs, H1, I1, r1, q1⟩ => ?_) hs hpl))
  obtain ⟨i, j, e, ⟨q1, q2, q3, q4⟩, q⟩ := q1
  subst e
  cases r1 with
  | cons r rr =>
    cases rr with
    | cons r' rr =>
      cases rr with
      | cons r'' rr =>
        cases rr
        obtain ⟨t, rfl⟩ := r
        obtain ⟨t', rfl⟩ := r'
        obtain ⟨t'', rfl⟩ := r''
        exact call_range_3 (by decide) (range_itd I1 (by omega) (by omega) (by omega) (by omega) q) (.inl (PyProof.noPylong_small (by omega)))
end
theorem for_down {hi : Int} {n : Nat} {g : TG} {tb : TS} {D : Ends} {σ : St} {H : Hp} (Pv : Nat → St → Hp → Prop) (h0 : Pv 0 σ H)
    (hs : ∀ i σ H, i < n → Pv i σ H → g (.int (hi - i)) σ H fun σ2 H2 => tb { D with nx := Pv (i + 1), ct := Pv (i + 1), bk := D.nx } σ2 H2) (hd : ∀ σ H, Pv n σ H → D.nx σ H) :
    ∃ W : Nat → Nat → St → Hp → Prop, (∃ m, W 0 m σ H) ∧ ∀ i m σ H, W i m σ H →
      ((ItDn hi n).stop i H ∧ D.nx σ H) ∨ ((ItDn hi n).go i H ∧ ∃ N : St → Hp → Prop, (∀ σ' H', N σ' H' → ∃ m', m' < m ∧ W (i + 1) m' σ' H') ∧ ∀ x H', (ItDn hi n).yld i H x H' → g x σ H' fun σ2 H2 => tb { D with nx := N, ct := N, bk := D.nx } σ2 H2) := by
  refine ⟨fun i m σ H => m = n - i ∧ i ≤ n ∧ Pv i σ H, ⟨n, by simp, Nat.zero_le _, h0⟩, ?_⟩
  rintro i m σ H ⟨rfl, hi, p⟩
  by_cases hlt : i < n
  · refine .inr ⟨hlt, Pv (i + 1), fun σ' H' p' => ⟨n - (i + 1), by omega, rfl, hlt, p'⟩, fun x H' y => ?_⟩
    obtain ⟨e, y⟩ := y
    subst e y
    exact hs i σ _ hlt p
  · have e : i = n := by omega
    subst e
    exact .inl ⟨Nat.le_refl _, hd σ H p⟩
end L2
set_option Elab.async false
set_option linter.all false
set_option maxRecDepth 100000
set_option maxHeartbeats 4000000
namespace L2.Stb
open PySem PySem.Spec PyProof.Rows
def Rk (ρ : Keyed → Nat) (xs : Array Keyed) (i : Nat) : Nat := (xs[i]?).elim 0 ρ
theorem Rk_congr {ρ : Keyed → Nat} {xs ys : Array Keyed} {i j : Nat} (h : xs[i]? = ys[j]?) : Rk ρ xs i = Rk ρ ys j := by unfold Rk; rw [h]
def VLt (ρ : Keyed → Nat) (xs : Array Keyed) (i j : Nat) : Prop := K xs i < K xs j ∨ (K xs i = K xs j ∧ Rk ρ xs i < Rk ρ xs j)
theorem VLt.trans {ρ : Keyed → Nat} {xs : Array Keyed} {i j k : Nat} (h1 : VLt ρ xs i j) (h2 : VLt ρ xs j k) : VLt ρ xs i k := by
  unfold VLt at *
  omega
def Inc (ρ : Keyed → Nat) (xs : Array Keyed) (n : Nat) : Prop := ∀ i j, i < j → j < n → VLt ρ xs i j
def Dec (ρ : Keyed → Nat) (xs : Array Keyed) (n : Nat) : Prop := ∀ i j, i < j → j < n → VLt ρ xs j i
def Idn (ρ : Keyed → Nat) (xs : Array Keyed) (n : Nat) : Prop := ∀ i, n ≤ i → i < xs.size → Rk ρ xs i = i
theorem Idn.mono {ρ : Keyed → Nat} {xs : Array Keyed} {m n : Nat} (h : Idn ρ xs m) (l : m ≤ n) : Idn ρ xs n := fun i hi hs => h i (Nat.le_trans l hi) hs
theorem Rk_get {ρ : Keyed → Nat} {xs : Array Keyed} {i : Nat} (h : i < xs.size) : (xs.toList.map ρ)[i]? = some (Rk ρ xs i) := by
  unfold Rk
  rw [List.getElem?_map, Array.getElem?_toList, Array.getElem?_eq_getElem h]
  rfl
structure Inj (ρ : Keyed → Nat) (xs : Array Keyed) : Prop where
  inj : ∀ i j, i < xs.size → j < xs.size → Rk ρ xs i = Rk ρ xs j → i = j
  lt : ∀ i, i < xs.size → Rk ρ xs i < xs.size
theorem inj_of {ρ : Keyed → Nat} {xs a₀ : Array Keyed} (p : xs.Perm a₀) (h0 : Idn ρ a₀ 0) : Inj ρ xs := by
  have e0 : a₀.toList.map ρ = List.range a₀.size := by
    apply List.ext_getElem?
    intro i
    by_cases h : i < a₀.size
    · rw [Rk_get h, List.getElem?_range h, h0 i (Nat.zero_le _) h]
    · rw [List.getElem?_eq_none (by simpa using h), List.getElem?_eq_none (by simpa using h)]
  have pm : (xs.toList.map ρ).Perm (List.range a₀.size) := by rw [← e0]; exact (Array.perm_iff_toList_perm.mp p).map ρ
  have nd : (xs.toList.map ρ).Nodup := pm.nodup_iff.mpr List.nodup_range
  refine ⟨fun i j hi hj e => ?_, fun i hi => ?_⟩
  · refine (List.getElem?_inj (by rw [List.length_map, Array.length_toList]; exact hi) nd).mp ?_
    rw [Rk_get hi, Rk_get hj, e]
  · have m : Rk ρ xs i ∈ xs.toList.map ρ := List.mem_of_getElem? (Rk_get hi)
    have := List.mem_range.mp (pm.mem_iff.mp m)
    rw [p.size_eq]
    exact this
theorem Inj.below {ρ : Keyed → Nat} {xs : Array Keyed} (I : Inj ρ xs) {n : Nat} (h : Idn ρ xs n) {i : Nat} (hi : i < n) (hs : i < xs.size) : Rk ρ xs i < n := by
  by_cases c : Rk ρ xs i < n
  · exact c
  · have l := I.lt i hs
    have e := h (Rk ρ xs i) (by omega) l
    have := I.inj _ _ l hs e
    omega
theorem Rk_bubble {ρ : Keyed → Nat} {xs : Array Keyed} {src d : Nat} (hs : src < xs.size) (hd : d ≤ src) (k : Nat) :
    Rk ρ (bubble xs src d) k = if k = src - d then Rk ρ xs src else if src - d < k ∧ k ≤ src then Rk ρ xs (k - 1) else Rk ρ xs k := by
  have e := getElem?_bubble hs d hd k
  by_cases h1 : k = src - d
  · rw [if_pos h1] at e ⊢
    exact Rk_congr e
  · rw [if_neg h1] at e ⊢
    by_cases h2 : src - d < k ∧ k ≤ src
    · rw [if_pos h2] at e ⊢
      exact Rk_congr e
    · rw [if_neg h2] at e ⊢
      exact Rk_congr e
theorem Rk_mirror {ρ : Keyed → Nat} {xs : Array Keyed} {i j : Nat} (hj : j ≤ xs.size) (k : Nat) :
    Rk ρ (mirror xs i j ((j - i) / 2)) k = if i ≤ k ∧ k < j then Rk ρ xs (i + j - 1 - k) else Rk ρ xs k := by
  have e := getElem?_mirror_all (i := i) hj k
  by_cases h1 : i ≤ k ∧ k < j
  · rw [if_pos h1] at e ⊢
    exact Rk_congr e
  · rw [if_neg h1] at e ⊢
    exact Rk_congr e
section
variable {prog : Program} {w : World} {A : Around} {E : Value → Shared → Prop} {s : Shared} {a₀ : Array Keyed} {ρ : Keyed → Nat}
theorem SB.inj {st : SortSt} (h : SBase a₀ st) (hr : Idn ρ a₀ 0) : Inj ρ (arrOf st) := inj_of h.perm hr
theorem bin_ok {st : SortSt} {n ok : Nat} {Q : Bool → SortSt → Prop} (h0 : IntKeys a₀) (hr : Idn ρ a₀ 0) (hn : n ≤ a₀.size) (hok : ok ≤ n) (h1k : 1 ≤ ok) (hB : SBase a₀ st) (hs : Inc ρ (arrOf st) ok) (hI : Idn ρ (arrOf st) ok)
    (h : ∀ st', SBase a₀ st' → Inc ρ (arrOf st') n → Q true st') : wpS (model prog w) A E s (binarySort' 0 n ok) Q st := by
  rw [binarySort'_eq]
  simp only [Nat.zero_add]
  refine wpS_bind (wpS_mono (wpS_forRange (I := fun k c st1 => c = (none, ()) ∧ SBase a₀ st1 ∧ Inc ρ (arrOf st1) (min k n) ∧ Idn ρ (arrOf st1) (min k n))
    (Q := fun c st1 => c = (none, ()) ∧ SBase a₀ st1 ∧ Inc ρ (arrOf st1) n) ?turn ?last ?first) ?after)
  case after =>
    rintro c st1 ⟨rfl, b1, i1⟩
    exact wpS_pure (h st1 b1 i1)
  case first =>
    rw [show min (max ok 1) n = ok by omega]
    exact ⟨rfl, hB, hs, hI⟩
  case last =>
    rintro c st1 ⟨hc, b1, i1, _⟩
    rw [show min (max (max ok 1) n) n = n by omega] at i1
    exact ⟨hc, b1, i1⟩
  case turn =>
    rintro k c st1 hak hkn ⟨rfl, b1, i1, d1⟩
    rw [show min k n = k by omega] at i1 d1
    have hk : k < a₀.size := by omega
    have sz := b1.size
    have J := SB.inj b1 hr
    have rk : Rk ρ (arrOf st1) k = k := d1 k (Nat.le_refl _) (by omega)
    have lo : ∀ m, m < k → ¬ K (arrOf st1) k < K (arrOf st1) m → VLt ρ (arrOf st1) m k := fun m hm c => by
      have := J.below d1 hm (by omega)
      unfold VLt
      omega
    refine wpS_bind (wpS_mono (wpS_forRange (I := fun x c st2 => st2 = st1 ∧ ∃ l r, c = (none, l, r) ∧ l ≤ r ∧ r ≤ k ∧ r - l ≤ k - x ∧ (∀ i, i < l → VLt ρ (arrOf st1) i k) ∧ (∀ i, r ≤ i → i < k → VLt ρ (arrOf st1) k i))
      (Q := fun c st2 => st2 = st1 ∧ ∃ l r, c = (none, l, r) ∧ l ≤ k ∧ (∀ i, i < l → VLt ρ (arrOf st1) i k) ∧ (∀ i, l ≤ i → i < k → VLt ρ (arrOf st1) k i)) ?iturn ?ilast ?ifirst) ?iafter)
    case ifirst => exact ⟨rfl, 0, k, rfl, by omega, by omega, by omega, fun i hi => absurd hi (by omega), fun i p q => absurd q (by omega)⟩
    case ilast =>
      rintro c st2 ⟨rfl, l, r, rfl, hlr, hrk, hm, u1, u2⟩
      have e : l = r := by omega
      subst e
      exact ⟨rfl, l, l, rfl, hrk, u1, u2⟩
    case iturn =>
      rintro x c st2 _ hxk ⟨rfl, l, r, rfl, hlr, hrk, hm, u1, u2⟩
      dsimp only
      by_cases hge : l ≥ r
      · rw [if_pos hge]
        have e : l = r := by omega
        subst e
        exact wpS_pure ⟨rfl, l, l, rfl, hrk, u1, u2⟩
      · rw [if_neg hge]
        refine wpS_bind (wpS_ltK b1 h0 hk (by omega) ?_)
        by_cases c : K (arrOf st2) k < K (arrOf st2) ((l + r) / 2)
        · simp only [c, decide_true, if_true]
          refine wpS_pure ⟨rfl, l, (l + r) / 2, rfl, by omega, by omega, by omega, u1, fun i p q => ?_⟩
          by_cases e : i = (l + r) / 2
          · subst e; exact .inl c
          · exact VLt.trans (.inl c) (i1 _ _ (by omega) q)
        · simp only [c, decide_false, Bool.false_eq_true, if_false]
          refine wpS_pure ⟨rfl, (l + r) / 2 + 1, r, rfl, by omega, by omega, by omega, fun i p => ?_, u2⟩
          have v := lo _ (by omega) c
          by_cases e : i = (l + r) / 2
          · subst e; exact v
          · exact VLt.trans (i1 _ _ (by omega) (by omega)) v
    case iafter =>
      rintro c st2 ⟨rfl, l, r, rfl, hlk, u1, u2⟩
      show wpS _ _ _ _ (do moveDown' k l; pure (ForInStep.yield (none, ()))) _ _
      rw [moveDown'_eq]
      refine wpS_bind (wpS_modify (wpS_pure ⟨rfl, b1.setArr (bubble_perm _ _ _), ?_, ?_⟩))
      · rw [show min (k + 1) n = k + 1 by omega]
        have hks : k < (arrOf st2).size := by omega
        intro i j hij hj
        show VLt ρ (bubble (arrOf st2) k (k - l)) i j
        unfold VLt
        rw [K_bubble hks (by omega), K_bubble hks (by omega), Rk_bubble hks (by omega), Rk_bubble hks (by omega), show k - (k - l) = l by omega]
        by_cases a1 : i = l
        · have b1' : ¬ j = l := by omega
          have b2' : l < j ∧ j ≤ k := by omega
          rw [if_pos a1, if_pos a1, if_neg b1', if_neg b1', if_pos b2', if_pos b2']
          exact u2 _ (by omega) (by omega)
        · rw [if_neg a1, if_neg a1]
          by_cases a2 : j = l
          · have b1' : ¬ (l < i ∧ i ≤ k) := by omega
            rw [if_pos a2, if_pos a2, if_neg b1', if_neg b1']
            exact u1 _ (by omega)
          · rw [if_neg a2, if_neg a2]
            by_cases a3 : l < i ∧ i ≤ k
            · have b1' : l < j ∧ j ≤ k := by omega
              rw [if_pos a3, if_pos a3, if_pos b1', if_pos b1']
              exact i1 _ _ (by omega) (by omega)
            · rw [if_neg a3, if_neg a3]
              by_cases a4 : l < j ∧ j ≤ k
              · rw [if_pos a4, if_pos a4]
                by_cases a5 : i < j - 1
                · exact i1 _ _ a5 (by omega)
                · exfalso; omega
              · rw [if_neg a4, if_neg a4]
                exact i1 _ _ (by omega) (by omega)
      · rw [show min (k + 1) n = k + 1 by omega]
        intro i hi hs'
        have hs2 : i < (arrOf st2).size := by
          have : (arrOf (setArr st2 (bubble (arrOf st2) k (k - l)))).size = (arrOf st2).size := bubble_size _ _ _
          omega
        show Rk ρ (bubble (arrOf st2) k (k - l)) i = i
        rw [Rk_bubble (by omega) (by omega), if_neg (by omega), if_neg (by omega)]
        exact d1 i (by omega) hs2
theorem asc_ok {st : SortSt} {a nrem : Nat} {Q : AscSt → SortSt → Prop} (h0 : IntKeys a₀) (hr : Idn ρ a₀ 0) (hn : nrem ≤ a₀.size) (ha : 1 ≤ a) (han : a ≤ nrem) (hB : SBase a₀ st) (hs : Inc ρ (arrOf st) a) (hI : Idn ρ (arrOf st) a)
    (h : ∀ n, a ≤ n → n ≤ nrem → Inc ρ (arrOf st) n → (n = nrem ∨ K (arrOf st) n < K (arrOf st) (n - 1)) → Q (none, n) st) : wpS (model prog w) A E s (ascLoop a nrem) Q st := by
  unfold ascLoop
  have sz := hB.size
  have J := SB.inj hB hr
  refine wpS_forRange (I := fun x c st1 => st1 = st ∧ c = (none, x) ∧ Inc ρ (arrOf st) x) ?turn ?last ⟨rfl, rfl, hs⟩
  case last =>
    rintro c st1 ⟨rfl, rfl, i1⟩
    rw [show max a nrem = nrem by omega] at i1 ⊢
    exact h nrem han (Nat.le_refl _) i1 (.inl rfl)
  case turn =>
    rintro x c st1 hax hxn ⟨rfl, rfl, i1⟩
    dsimp only
    refine wpS_bind (wpS_ltK hB h0 (by omega) (by omega) ?_)
    by_cases c : K (arrOf st1) x < K (arrOf st1) (x - 1)
    · simp only [c, decide_true, if_true]
      exact wpS_pure (h x hax (by omega) i1 (.inr c))
    · simp only [c, decide_false, Bool.false_eq_true, if_false]
      refine wpS_pure ⟨rfl, rfl, fun i j hij hj => ?_⟩
      by_cases hjx : j < x
      · exact i1 i j hij hjx
      · have ej : j = x := by omega
        subst ej
        have dx := hI.mono hax
        have r1 := J.below dx (i := j - 1) (by omega) (by omega)
        have r2 := dx j (Nat.le_refl _) (by omega)
        have v : VLt ρ (arrOf st1) (j - 1) j := by unfold VLt; omega
        by_cases e : i = j - 1
        · subst e; exact v
        · exact VLt.trans (i1 i (j - 1) (by omega) (by omega)) v
theorem tail_ok {st : SortSt} {n nrem : Nat} {Q : Option Nat → SortSt → Prop} (h0 : IntKeys a₀) (hr : Idn ρ a₀ 0) (hn : nrem ≤ a₀.size) (h1 : 1 ≤ n) (hnn : n ≤ nrem) (hB : SBase a₀ st) (hs : Dec ρ (arrOf st) n) (hI : Idn ρ (arrOf st) n)
    (h : ∀ m st', SBase a₀ st' → 1 ≤ m → m ≤ nrem → Inc ρ (arrOf st') m → Idn ρ (arrOf st') m → Q (some m) st') : wpS (model prog w) A E s (tail3 n nrem) Q st := by
  unfold tail3
  have sz := hB.size
  refine wpS_bind (wpS_reverse ?_)
  have b1 : SBase a₀ (setArr st (mirror (arrOf st) 0 n ((n - 0) / 2))) := hB.setArr (mirror_perm _ _ _ _)
  have d1 : Idn ρ (mirror (arrOf st) 0 n ((n - 0) / 2)) n := fun i hi hs' => by
    rw [mirror_size] at hs'
    rw [Rk_mirror (by omega), if_neg (by omega)]
    exact hI i hi hs'
  refine wpS_bind (asc_ok h0 hr hn h1 hnn b1 ?_ d1 fun m m1 m2 i2 _ => wpS_pure (h m _ b1 (by omega) m2 i2 (d1.mono m1)))
  intro i j hij hj
  show VLt ρ (mirror (arrOf st) 0 n ((n - 0) / 2)) i j
  unfold VLt
  rw [K_mirror (by omega), K_mirror (by omega), Rk_mirror (by omega), Rk_mirror (by omega), if_pos (by omega), if_pos (by omega), if_pos (by omega), if_pos (by omega)]
  exact hs _ _ (by omega) (by omega)
structure DI (ρ : Keyed → Nat) (xs : Array Keyed) (x q : Nat) : Prop where
  l : q + 1 ≤ x
  sz : x ≤ xs.size
  d : Dec ρ xs (x - (q + 1))
  u : ∀ i j, i < x - (q + 1) → x - (q + 1) ≤ j → j < x → K xs j < K xs i
  e : ∀ i, x - (q + 1) ≤ i → i < x → K xs i = K xs (x - 1)
  f : Idn ρ xs (x - (q + 1))
theorem DI.dec0 {xs : Array Keyed} {x : Nat} (h : DI ρ xs x 0) : Dec ρ xs x := fun i j hij hj => by
  by_cases c : j < x - (0 + 1)
  · exact h.d i j hij c
  · exact .inl (h.u i j (by omega) (by omega) hj)
theorem DI.rev {xs : Array Keyed} {x q : Nat} (h : DI ρ xs x q) : Dec ρ (mirror xs (x - (q + 1)) x ((x - (x - (q + 1))) / 2)) x ∧ Idn ρ (mirror xs (x - (q + 1)) x ((x - (x - (q + 1))) / 2)) x := by
  have hl := h.l
  have hz := h.sz
  refine ⟨fun i j hij hj => ?_, fun i hi hs => ?_⟩
  · have ke := K_mirror_equal (i := x - (q + 1)) hz h.e
    unfold VLt
    rw [ke, ke, Rk_mirror hz, Rk_mirror hz]
    by_cases c1 : j < x - (q + 1)
    · rw [if_neg (by omega), if_neg (by omega)]
      exact h.d i j hij c1
    · by_cases c2 : i < x - (q + 1)
      · exact .inl (h.u i j c2 (by omega) hj)
      · rw [if_pos (by omega), if_pos (by omega)]
        refine .inr ⟨(h.e j (by omega) hj).trans (h.e i (by omega) (by omega)).symm, ?_⟩
        rw [h.f _ (by omega) (by omega), h.f _ (by omega) (by omega)]
        omega
  · rw [mirror_size] at hs
    rw [Rk_mirror hz, if_neg (by omega)]
    exact h.f i (by omega) hs
theorem DI.of {xs : Array Keyed} {x : Nat} (hx : 1 ≤ x) (hz : x < xs.size) (hd : Dec ρ xs x) (hf : Idn ρ xs x) (hk : K xs x < K xs (x - 1)) : DI ρ xs (x + 1) 0 := by
  refine ⟨by omega, by omega, hd, fun i j hi hj hj' => ?_, fun i hi hi' => ?_, hf⟩
  · have ej : j = x := by omega
    subst ej
    by_cases e : i = j - 1
    · subst e; exact hk
    · have v := hd i (j - 1) (by omega) (by omega)
      unfold VLt at v
      omega
  · have ei : i = x := by omega
    subst ei
    rfl
theorem DI.more {xs : Array Keyed} {x q : Nat} (h : DI ρ xs x q) (hz : x < xs.size) (hk : K xs x = K xs (x - 1)) : DI ρ xs (x + 1) (q + 1) := by
  have hl := h.l
  have e0 : x + 1 - (q + 1 + 1) = x - (q + 1) := by omega
  refine ⟨by omega, by omega, by rw [e0]; exact h.d, fun i j hi hj hj' => ?_, fun i hi hi' => ?_, by rw [e0]; exact h.f⟩
  · rw [e0] at hi hj
    by_cases c : j < x
    · exact h.u i j hi hj c
    · have ej : j = x := by omega
      subst ej
      rw [hk]
      exact h.u i (j - 1) hi (by omega) (by omega)
  · rw [show x + 1 - 1 = x by omega]
    by_cases c : i < x
    · rw [hk]; exact h.e i (by omega) c
    · have ei : i = x := by omega
      subst ei
      rfl
theorem desc_ok {st : SortSt} {n nrem : Nat} {Q : DescSt → SortSt → Prop} (h0 : IntKeys a₀) (hn : nrem ≤ a₀.size) (hnn : n ≤ nrem) (hB : SBase a₀ st) (hs : DI ρ (arrOf st) n 0)
    (h : ∀ m q st', SBase a₀ st' → m ≤ nrem → DI ρ (arrOf st') m q → Q (none, m, q) st') : wpS (model prog w) A E s (descLoop n nrem) Q st := by
  unfold descLoop
  refine wpS_forRange (I := fun x c st1 => ∃ q, c = (none, x, q) ∧ SBase a₀ st1 ∧ DI ρ (arrOf st1) x q) ?turn ?last ⟨0, rfl, hB, hs⟩
  case last =>
    rintro c st1 ⟨q, rfl, b1, d1⟩
    rw [show max n nrem = nrem by omega] at d1 ⊢
    exact h nrem q st1 b1 (Nat.le_refl _) d1
  case turn =>
    rintro x c st1 hax hxn ⟨q, rfl, b1, d1⟩
    dsimp only
    have sz := b1.size
    have hl := d1.l
    refine wpS_bind (wpS_ltK b1 h0 (by omega) (by omega) ?_)
    by_cases c : K (arrOf st1) x < K (arrOf st1) (x - 1)
    · simp only [c, decide_true, if_true]
      by_cases hq : q > 0
      · rw [if_pos hq]
        obtain ⟨r1, r2⟩ := d1.rev
        refine wpS_bind (wpS_reverse (wpS_pure ⟨0, rfl, b1.setArr (mirror_perm _ _ _ _), DI.of (by omega) (by show x < (mirror _ _ _ _).size; rw [mirror_size]; omega) r1 r2 ?_⟩))
        show K (mirror _ _ _ _) x < K (mirror _ _ _ _) (x - 1)
        rw [K_mirror_equal d1.sz d1.e, K_mirror_equal d1.sz d1.e]
        exact c
      · rw [if_neg hq]
        have e : q = 0 := by omega
        subst e
        exact wpS_pure ⟨0, rfl, b1, DI.of (by omega) (by omega) d1.dec0 (d1.f.mono (by omega)) c⟩
    · simp only [c, decide_false, Bool.false_eq_true, if_false]
      refine wpS_bind (wpS_ltK b1 h0 (by omega) (by omega) ?_)
      by_cases c2 : K (arrOf st1) (x - 1) < K (arrOf st1) x
      · simp only [c2, decide_true, if_true]
        exact wpS_pure (h x q st1 b1 (by omega) d1)
      · simp only [c2, decide_false, Bool.false_eq_true, if_false]
        exact wpS_pure ⟨q + 1, rfl, b1, d1.more (by omega) (by omega)⟩
theorem part_ok {st : SortSt} {n nrem : Nat} {Q : Option Nat → SortSt → Prop} (h0 : IntKeys a₀) (hr : Idn ρ a₀ 0) (hn : nrem ≤ a₀.size) (hnn : n + 1 ≤ nrem) (hB : SBase a₀ st) (hs : DI ρ (arrOf st) (n + 1) 0)
    (h : ∀ m st', SBase a₀ st' → 1 ≤ m → m ≤ nrem → Inc ρ (arrOf st') m → Idn ρ (arrOf st') m → Q (some m) st') : wpS (model prog w) A E s (descPart n nrem) Q st := by
  unfold descPart
  refine wpS_bind (wpS_lift (wpAny_rule ⟨rfl, ?_⟩))
  refine wpS_bind (desc_ok h0 hn hnn hB hs fun m q st1 b1 m2 d1 => ?_)
  dsimp only
  have hl := d1.l
  by_cases hq : q > 0
  · rw [if_pos hq]
    obtain ⟨r1, r2⟩ := d1.rev
    exact wpS_bind (wpS_reverse (tail_ok h0 hr hn (by omega) m2 (b1.setArr (mirror_perm _ _ _ _)) r1 r2 h))
  · rw [if_neg hq]
    have e : q = 0 := by omega
    subst e
    exact tail_ok h0 hr hn (by omega) m2 b1 d1.dec0 (d1.f.mono (by omega)) h
theorem count_ok {st : SortSt} {nrem : Nat} {Q : Option Nat → SortSt → Prop} (h0 : IntKeys a₀) (hr : Idn ρ a₀ 0) (hn : nrem ≤ a₀.size) (h1 : 1 ≤ nrem) (hB : SBase a₀ st) (hI : Idn ρ (arrOf st) 0)
    (h : ∀ m st', SBase a₀ st' → 1 ≤ m → m ≤ nrem → Inc ρ (arrOf st') m → Idn ρ (arrOf st') m → Q (some m) st') : wpS (model prog w) A E s (countRun' 0 nrem) Q st := by
  rw [countRun0_eq]
  have sz := hB.size
  refine wpS_bind (asc_ok h0 hr hn (Nat.le_refl 1) h1 hB (fun i j hij hj => absurd hj (by omega)) (hI.mono (Nat.zero_le _)) fun n n1 n2 i1 hor => ?_)
  dsimp only
  by_cases e : n = nrem
  · rw [if_pos (by simpa using e)]
    exact wpS_pure (h n st hB n1 n2 i1 (hI.mono (Nat.zero_le _)))
  · rw [if_neg (by simpa using e)]
    have lt : K (arrOf st) n < K (arrOf st) (n - 1) := hor.resolve_left e
    by_cases g : n > 1
    · rw [if_pos g]
      refine wpS_bind (wpS_ltK hB h0 (by omega) (by omega) ?_)
      by_cases c : K (arrOf st) 0 < K (arrOf st) (n - 1)
      · simp only [c, decide_true, if_true]
        exact wpS_pure (h n st hB n1 n2 i1 (hI.mono (Nat.zero_le _)))
      · simp only [c, decide_false, Bool.false_eq_true, if_false]
        have all : ∀ k, 0 ≤ k → k < n → K (arrOf st) k = K (arrOf st) (n - 1) := by
          intro k _ hk
          have a1 : k = 0 ∨ VLt ρ (arrOf st) 0 k := by
            by_cases z : k = 0
            · exact .inl z
            · exact .inr (i1 0 k (by omega) hk)
          have a2 : k = n - 1 ∨ VLt ρ (arrOf st) k (n - 1) := by
            by_cases z : k = n - 1
            · exact .inl z
            · exact .inr (i1 k (n - 1) (by omega) (by omega))
          have a3 := i1 0 (n - 1) (by omega) (by omega)
          unfold VLt at a1 a2 a3
          rcases a1 with a1 | a1
          · subst a1; omega
          · rcases a2 with a2 | a2
            · subst a2; rfl
            · omega
        have ke := K_mirror_equal (xs := arrOf st) (i := 0) (j := n) (by omega) all
        refine wpS_bind (wpS_reverse (part_ok h0 hr hn (by omega) (hB.setArr (mirror_perm _ _ _ _)) (DI.of (by omega) (by show n < (mirror _ _ _ _).size; rw [mirror_size]; omega) (fun i j hij hj => ?_) (fun i hi hs => ?_) ?_) h))
        · show VLt ρ (mirror (arrOf st) 0 n ((n - 0) / 2)) j i
          unfold VLt
          rw [ke, ke, all i (by omega) (by omega), all j (by omega) hj, Rk_mirror (by omega), Rk_mirror (by omega), if_pos (by omega), if_pos (by omega), hI _ (by omega) (by omega), hI _ (by omega) (by omega)]
          omega
        · have hs' : i < (mirror (arrOf st) 0 n ((n - 0) / 2)).size := hs
          rw [mirror_size] at hs'
          show Rk ρ (mirror (arrOf st) 0 n ((n - 0) / 2)) i = i
          rw [Rk_mirror (by omega), if_neg (by omega)]
          exact hI i (by omega) hs'
        · show K (mirror (arrOf st) 0 n ((n - 0) / 2)) n < K (mirror (arrOf st) 0 n ((n - 0) / 2)) (n - 1)
          rw [ke, ke]
          exact lt
    · rw [if_neg g]
      have en : n = 1 := by omega
      subst en
      exact part_ok h0 hr hn (by omega) hB (DI.of (by omega) (by omega) (fun i j hij hj => absurd hj (by omega)) (hI.mono (Nat.zero_le _)) lt) h
def SEnd (ρ : Keyed → Nat) (a₀ : Array Keyed) (st : SortSt) : Prop := (arrOf st).Perm a₀ ∧ failedOf st = none ∧ pendingOf st = #[(0, a₀.size, 0)] ∧ Inc ρ (arrOf st) a₀.size
theorem SEnd.of {st : SortSt} (hB : SBase a₀ st) (hs : Inc ρ (arrOf st) a₀.size) : SEnd ρ a₀ (setPending st ((pendingOf st).push (0, a₀.size, 0))) :=
  ⟨hB.perm, hB.failed, by show (pendingOf st).push _ = _; rw [hB.pend]; rfl, hs⟩
theorem runs_ok {st : SortSt} {Q : Unit → SortSt → Prop} (h0 : IntKeys a₀) (hr : Idn ρ a₀ 0) (hB : SBase a₀ st) (hI : Idn ρ (arrOf st) 0) (h2 : 2 ≤ a₀.size) (h64 : a₀.size < 64)
    (h : ∀ st', (arrOf st').Perm a₀ → failedOf st' = none → Inc ρ (arrOf st') a₀.size → Q () st') : wpS (model prog w) A E s sortRuns' Q st := by
  rw [sortRuns'_eq]
  refine wpS_bind (wpS_get ?_)
  dsimp only
  have mr : minRun' a₀.size a₀.size 0 = a₀.size := by
    obtain ⟨f, hf⟩ : ∃ f, a₀.size = f + 1 := ⟨a₀.size - 1, by omega⟩
    have e : minRun' (f + 1) a₀.size 0 = a₀.size := by
      rw [minRun'_succ, if_pos h64]
      rfl
    rwa [← hf] at e
  simp only [hB.size, mr]
  refine wpS_bind (wpS_mono (wpS_forRange
    (I := fun x c st1 => (x = 0 ∧ c = (none, 0) ∧ SBase a₀ st1 ∧ Idn ρ (arrOf st1) 0) ∨ (1 ≤ x ∧ c = (none, a₀.size) ∧ SEnd ρ a₀ st1))
    (Q := fun c st1 => c = (none, a₀.size) ∧ SEnd ρ a₀ st1) ?turn ?last (.inl ⟨rfl, rfl, hB, hI⟩)) ?after)
  case last =>
    rintro c st1 (⟨hx, _⟩ | ⟨_, hc, hD⟩)
    · omega
    · exact ⟨hc, hD⟩
  case turn =>
    rintro x c st1 _ hx (⟨rfl, rfl, b1, i1⟩ | ⟨hx1, rfl, hD⟩)
    · dsimp only
      rw [if_neg (by omega)]
      simp only [Nat.sub_zero, Nat.min_self, Nat.zero_add]
      refine wpS_bind (count_ok h0 hr (Nat.le_refl _) (by omega) b1 i1 fun m st2 b2 m1 m2 s2 d2 => ?_)
      dsimp only
      by_cases lt : m < a₀.size
      · rw [if_pos lt]
        refine wpS_bind (wpS_lift (wpAny_rule ⟨rfl, ?_⟩))
        refine wpS_bind (bin_ok h0 hr (Nat.le_refl _) m2 m1 b2 s2 d2 fun st3 b3 s3 => ?_)
        simp only [Bool.not_true, Bool.false_eq_true, if_false]
        refine wpS_bind (wpS_get ?_)
        have hb : (pendingOf st3).back? = none := by
          rw [b3.pend]
          rfl
        rw [hb]
        dsimp only
        exact wpS_bind (wpS_modify (wpS_pure (.inr ⟨by omega, rfl, SEnd.of b3 s3⟩)))
      · rw [if_neg lt]
        have em : m = a₀.size := by omega
        subst em
        refine wpS_bind (wpS_get ?_)
        have hb : (pendingOf st2).back? = none := by
          rw [b2.pend]
          rfl
        rw [hb]
        dsimp only
        exact wpS_bind (wpS_modify (wpS_pure (.inr ⟨by omega, rfl, SEnd.of b2 s2⟩)))
    · dsimp only
      rw [if_pos (Nat.le_refl _)]
      exact wpS_pure ⟨rfl, hD⟩
  case after =>
    rintro c st1 ⟨rfl, hD⟩
    dsimp only
    refine wpS_bind (wpS_mono (wpS_forRange (I := fun _ c st2 => st2 = st1 ∧ c = (none, ())) (Q := fun c st2 => st2 = st1 ∧ c = (none, ())) ?_ (fun _ _ hh => hh) ⟨rfl, rfl⟩) ?_)
    · rintro x c st2 _ _ ⟨rfl, rfl⟩
      refine wpS_bind (wpS_get ?_)
      rw [if_pos (by rw [hD.2.2.1]; exact Nat.le_refl 1)]
      exact wpS_pure ⟨rfl, rfl⟩
    · rintro c st2 ⟨rfl, rfl⟩
      exact wpS_pure (h _ hD.1 hD.2.1 hD.2.2.2)
end
end L2.Stb
set_option Elab.async false
set_option linter.all false
set_option maxRecDepth 100000
set_option maxHeartbeats 4000000
namespace L2
open PySem PySem.Spec PyProof.Rows
def BMod (base : Heap) (mg : Str → Option Value) : Prop := ∃ bm o, mg "__builtins__" = some (.ref bm) ∧ bm ≠ builtinsNs ∧ bm ≠ mainGlobals ∧ base.get? bm = some o ∧ o.cls = .type "module" ∧ o.dict = some builtinsNs ∧ o.data = .plain
section
variable {X : Cx} {pins : List (Addr × Obj)} {σ : St} {H : Hp} {s : Shared}
theorem Inv.grown {P c' : Addr} {pos : Pos} {qual : Str} {ps : Array Value} {h' : Heap} {tk : Nat} (I : Inv X pins σ H s) (hP : H P = some (.tbl pos qual)) (hx : Heap.ExtBut P s.heap h') (hge : s.heap.objs.size ≤ c') (hrec : h'.CodeRec (.ref c') qual)
    (htr : TriplesOk ps.toList) (hnf : codeAmong pos ps.toList = none) (htb : h'.get? P = some { cls := .none, data := .fields (ps ++ #[rawInt pos.line, rawInt pos.col, .ref c']) }) :
    ∃ oc vs t, h'.get? c' = some oc ∧ oc.data = .fields vs ∧ vs[1]? = some (.str qual t) ∧ Inv X pins σ (upd H c' (.frz oc (.own P))) { s with heap := h', toks := tk } := by
  obtain ⟨c, oc, vs, t, z, hoc, hd, hv⟩ := hrec
  cases z
  have fr : H c' = none := I.hok.fresh hge
  have nP : ∀ b, H b = none → b ≠ P := fun b n z => by rw [z, hP] at n; cases n
  have nc : ∀ b u, H b = some u → b ≠ c' := fun b u e => ne_of_none e fr
  have nh : ∀ b o, s.heap.get? b = some o → b ≠ c' := fun b o e => Nat.ne_of_lt (Nat.lt_of_lt_of_le (Heap.lt_size e) hge)
  have cP : c' ≠ P := fun z => by rw [z, hP] at fr; cases fr
  refine ⟨oc, vs, t, hoc, hd, hv, I.step (g' := s.gens) (d' := s.drawn) (t' := tk) (ch := []) (h' := h') (H' := upd H c' (.frz oc (.own P))) (fun _ z => nomatch z) (fun b o _ _ _ e n => hx b o (nP b n) e) (fun b o _ _ _ e n => ⟨o.slots, hx b o (nP b n) e⟩)
    (fun b o _ e n => by rw [upd_ne (nh b o e)]; exact n) (fun b o _ e => ?_) (fun b xs e => by rw [upd_ne (nc b _ e)]; exact e) (fun b o u e => by rw [upd_ne (nc b _ e)]; exact e) (fun b p q e => by rw [upd_ne (nc b _ e)]; exact e) (fun m hm => ?_) (fun b u e => ?_) I.bare⟩
  · by_cases hb : b = P
    · subst hb; exact ⟨_, htb⟩
    · exact ⟨o, hx b o hb e⟩
  · obtain ⟨o, es, ep, ho, r⟩ := hm
    exact ⟨o, es, ep, hx _ o (nP _ I.free) ho, r⟩
  · by_cases hb : b = c'
    · subst hb
      rw [upd_same] at e
      cases e
      exact ⟨hoc, _, hoc⟩
    · rw [upd_ne hb] at e
      by_cases hbP : b = P
      · subst hbP
        rw [hP] at e
        cases e
        have e1 : (ps ++ #[rawInt pos.line, rawInt pos.col, Value.ref c']).toList = ps.toList ++ [rawInt pos.line, rawInt pos.col, .ref c'] := by simp
        refine ⟨_, htb, ?_, fun cv hc => ?_⟩
        · rw [e1]; exact TriplesOk_snoc _ _ _ _ htr
        · rw [e1, codeAmong_snoc _ htr hnf] at hc
          cases hc
          exact ⟨c', oc, vs, t, rfl, upd_same, hd, hv⟩
      · refine (I.hok b u e).stay (fun d v hd' q => hx d v ?_ q) (fun d q => by rw [upd_ne (nc d _ q)]; exact q) (fun d xs q => by rw [upd_ne (nc d _ q)]; exact q) fun d oz q => by rw [upd_ne (nc d _ q)]; exact q
        rcases hd' with rfl | hd'
        · exact hbP
        · intro z; rw [z, hP] at hd'; cases hd'
structure LamOk (X : Cx) (scope : Scope) (x : Str) (fr : List Str) (js : List Nat) : Prop where
  kind : scope.kind = .function
  co : scope.isCoroutine = false
  gen : scope.isGenerator = false
  nocell : ∀ y ∈ scope.names, y.2 ≠ .cell
  par : scope.names.lookup x = some .local
  free : ∀ y ∈ scope.names, y.2 = .free → X.env.kindOf y.1 = some .cell ∨ X.env.kindOf y.1 = some .free
  len : fr.length = js.length
  js : ∀ (k j : Nat), js[k]? = some j → fr[k]? = X.N[j]?
  jf : ∀ (k : Nat) (y : Str), fr[k]? = some y → scope.names.lookup y = some .free
def cxLam (X : Cx) (A : Around) (N : List Str) (qual : Str) (scope : Scope) (f : Addr) (cd : Value) (cl : List (Str × Addr)) (s : Shared) (H : Hp) : Cx where
  prog := X.prog
  w := X.w
  K := X.K
  mg := X.mg
  base := X.base
  A := A.deeper (PySem.W.envX qual scope s.heap.objs.size f cd cl)
  N := N
  s₀ := s
  H₀ := H
  env := PySem.W.envX qual scope s.heap.objs.size f cd cl
  outer := X.stack
  stack := PySem.W.envX qual scope s.heap.objs.size f cd cl :: X.stack
  ex := []
  calm := true
  fn := fun _ => false
  pn := []
  xe := fun _ _ => False
theorem inv_lam {A : Around} {x : Str} {fr : List Str} {js : List Nat} {qual : Str} {scope : Scope} {f : Addr} {cd : Value} {cl : List (Str × Addr)} {s1 : Shared} {u : Value} {v : V} (c : LamOk X scope x fr js) (I : Inv X pins σ H s) (hA : A.frames = some X.stack) (hh : A.handled = none)
    (cl1 : ∀ x c, cl.lookup x = some c → X.env.cells.lookup x = some c) (cl2 : ∀ p ∈ scope.names, p.2 = .free → ∃ c, cl.lookup p.1 = some c) (r : RelV v u)
    (hn : s1.heap.Ns s.heap.objs.size fun y => [(x, u)].reverse.lookup y) (hk : ∀ b o, s.heap.get? b = some o → s1.heap.get? b = some o) (hos : s1.os = s.os) (hg : s1.gens = s.gens) :
    Inv (cxLam X A (x :: fr) qual scope f cd cl s H) [] (some v :: js.map fun j => (σ[j]?).join) H s1 := by
  have noA : ∀ b : Addr, b ∉ (cxLam X A (x :: fr) qual scope f cd cl s H).ex := fun b z => absurd (show b ∈ ([] : List Addr) from z) (by simp)
  have ok : (cxLam X A (x :: fr) qual scope f cd cl s H).Ok := by
    refine ⟨I.ok.mod, c.kind, rfl, rfl, Nat.le_refl _, fun y z d e1 e2 => I.ok.inj y z d (cl1 _ _ e1) (cl1 _ _ e2), fun y hy => ?_, fun y d z _ => absurd z (by simp [cxLam]), fun _ => hh, Around.frames_deeper hA, .inr ⟨rfl, rfl⟩, fun b z => absurd z (noA b), I.bs, Nat.le_trans I.ok.bsz I.sz, fun b _ _ => noA b, fun b z => absurd z (noA b), I.stack, I.stkFree⟩
    have hy : scope.names.lookup y = some .cell ∨ scope.names.lookup y = some .free := hy
    rcases hy with hy | hy
    · exact absurd rfl (c.nocell _ (lookup_mem hy))
    · exact cl2 _ (lookup_mem hy) rfl
  refine ⟨ok, hos, by rw [hg]; exact I.bare, Un.kept hk, ⟨_, hn, fun i y v' e1 e2 e3 => ?_⟩, fun y d e => ?_, I.hok.fresh (Nat.le_refl _), fun y d e => I.freeC y d (cl1 y d e), fun p hp => absurd (show p ∈ ([] : List (Addr × Obj)) from hp) (by simp), I.hok.kept hk, ?_⟩
  · cases i with
    | zero =>
      have e1' : x = y := by simpa [cxLam] using e1
      have e2' : v = v' := by simpa using e2
      subst e1'
      subst e2'
      refine ⟨u, r, .inl ⟨c.par, ?_⟩⟩
      show ([(x, u)] : List (Str × Value)).reverse.lookup x = some u
      simp
    | succ k =>
      have e1' : fr[k]? = some y := by simpa [cxLam] using e1
      rw [List.getElem?_cons_succ, List.getElem?_map] at e2
      cases q : js[k]? with
      | none => rw [q] at e2; cases e2
      | some j =>
        rw [q] at e2
        have e2' : (σ[j]?).join = some v' := by simpa using e2
        have e4 : σ[j]? = some (some v') := by
          cases z : σ[j]? with
          | none => rw [z] at e2'; cases e2'
          | some o => rw [z] at e2'; rw [show o = some v' from e2']
        have hXN : X.N[j]? = some y := (c.js k j q).symm.trans e1'
        have hfr := c.jf k y e1'
        have hk2 := c.free _ (lookup_mem hfr) rfl
        have vis : Vis X.env.scope y := by
          rcases hk2 with z | z
          · exact .inr (.inl z)
          · exact .inr (.inr z)
        obtain ⟨m, _, hl⟩ := I.loc
        obtain ⟨u', r', l⟩ := hl j y v' hXN e4 vis
        refine ⟨u', r', ?_⟩
        rcases l with ⟨z, _⟩ | ⟨_, d, e, ⟨od, ho, hd⟩⟩
        · rcases hk2 with y' | y'
          · rw [show X.env.kindOf y = _ from z] at y'; cases y'
          · rw [show X.env.kindOf y = _ from z] at y'; cases y'
        · obtain ⟨d', e'⟩ := cl2 _ (lookup_mem hfr) rfl
          have z' := cl1 _ _ e'
          have : d' = d := by rw [e] at z'; exact (Option.some.inj z').symm
          subst this
          exact .inr ⟨.inr hfr, d', e', ⟨od, hk _ _ ho, hd⟩⟩
  · obtain ⟨v', ⟨o, ho, hd⟩⟩ := I.cell y d (cl1 y d e)
    exact ⟨v', o, hk _ _ ho, hd⟩
  · show (some v :: _ : List (Option V)).length = (x :: fr).length
    rw [List.length_cons, List.length_cons, List.length_map, c.len]
theorem lam_call {A : Around} {x : Str} {fr : List Str} {js : List Nat} {name qual : Str} {params : Arguments} {body : PySem.Expr} {scope : Scope} {f : Addr} {pm cd ct : Value} {cl : List (Str × Addr)} {u : Value} {v : V} {te : TE} {Q : VK} {E : Value → Shared → Prop} {of : Obj} (c : LamOk X scope x fr js) (I : Inv X pins σ H s)
    (hA : A.frames = some X.stack) (hh : A.handled = none) (hdep : A.depth < recursionLimit)
    (cl1 : ∀ x c, cl.lookup x = some c → X.env.cells.lookup x = some c) (cl2 : ∀ p ∈ scope.names, p.2 = .free → ∃ c, cl.lookup p.1 = some c)
    (ho : s.heap.get? f = some of) (hof : of.data = .func (PySem.W.kla_fn name qual params body scope cl pm cd ct)) (hcd : s.heap.CodeRec cd qual)
    (hb : ∀ u, bindArgs (PySem.W.kla_fn name qual params body scope cl pm cd ct) ⟨[u], []⟩ = pure [(x, u)]) (r : RelV v u)
    (he : ∀ s, PE (cxLam X A (x :: fr) qual scope f cd cl s H) body te) (h : te (some v :: js.map fun j => (σ[j]?).join) H Q) :
    wpAny (model X.prog X.w) A (call (.ref f) [u]) (EP X pins σ Q) E s := by
  refine wpAny_call (codeAny_mono (R := fun r s' => ∃ u', r = .ok (.ret u') ∧ CE X.stack X.prog X.w H s Q u' s') (PySem.W.kla_callFunE hdep ho hof c.co c.gen rfl hcd (by
    rw [hb u]
    refine wpAny_pure ?_
    refine wpAny_newFunctionEnv c.nocell (fun y hy => by rw [List.mem_singleton.mp hy]; exact c.par) (fun h₁ hns hsb => ?_) c.kind
    have hk₁ : ∀ b o, s.heap.get? b = some o → h₁.get? b = some o := fun b o e => hsb.extBut b o (Nat.ne_of_lt (Heap.lt_size e)) (Heap.get?_push_of_some _ e)
    refine ⟨I.nolimit.keeps hk₁, ?_⟩
    have J := inv_lam (qual := qual) (f := f) (cd := cd) (s1 := { s with heap := h₁, toks := s.toks + [(x, u)].length }) c I hA hh cl1 cl2 r hns hk₁ rfl rfl
    refine PySem.W.kla_codeExpr (wpAny_mono (he s [] _ _ H Q J h) (fun u' s' hq => ?_) fun _ _ z => z.elim)
    obtain ⟨v', H', J', rv, q⟩ := hq
    exact ⟨u', rfl, v', H', J'.os, J'.bare, J'.base, J'.hok, rv, q⟩)) fun r s' hq => ?_)
  obtain ⟨u', rfl, hq⟩ := hq
  exact I.after hq
theorem lam_make {P c0 : Addr} {x : Str} {fr : List Str} {js : List Nat} {params : Arguments} {body : PySem.Expr} {scope : Scope} {pos : Pos} {R : Value → Shared → Prop} (c : LamOk X scope x fr js) (I : Inv X pins σ H s) (hc0 : X.env.code = .ref c0) (hcd : PySem.W.codeHdIn X.K c0 P = true)
    (bm : BMod X.base X.mg) (hP : H P = some (.tbl pos (X.env.qual ++ "<lambda>"))) (hd0 : params.defaults = []) (hk0 : params.kw_defaults = [])
    (h : ∀ f cl cd pm ct of H' s', Inv X pins σ H' s' → Same H H' → (∀ x c, cl.lookup x = some c → X.env.cells.lookup x = some c) → (∀ p ∈ scope.names, p.2 = .free → ∃ c, cl.lookup p.1 = some c) → 
      H' f = some (.frz of (.own 0)) → of.data = .func (PySem.W.kla_fn "<lambda>" (X.env.qual ++ "<lambda>") params body scope cl pm cd ct) → (∃ c' oc vs t, cd = .ref c' ∧ H' c' = some (.frz oc (.own P)) ∧ oc.data = .fields vs ∧ vs[1]? = some (.str (X.env.qual ++ "<lambda>") t)) → R (.ref f) s') :
    wpAny (model X.prog X.w) X.A (eval (.Lambda params body scope pos) X.env) R X.xe s := by
  obtain ⟨cl, e1, cl1, _, cl2⟩ := closure_for (env := X.env) scope.names [] (fun p hp hf => I.ok.has _ (c.free p hp hf)) (fun x d e => by simp at e)
  have hclos : closureFor scope X.env = pure cl := by
    unfold closureFor
    refine (congrArg (fun z => z >>= fun cs => pure cs) e1).trans ?_
    rfl
  have CH := PySem.W.codeHd_of_K I.kIn hcd
  obtain ⟨ps, hps, htr, hcode⟩ := (show ObjOk X.prog X.w H s.heap P (.tbl pos (X.env.qual ++ "<lambda>")) from I.hok P _ hP)
  have hg := I.ok.mod.glob.keeps I.bk
  have hgP : mainGlobals ≠ P := fun q => by
    obtain ⟨o, es, ep, e, hd, _⟩ := hg
    rw [q, hps] at e; cases e; cases hd
  have hb : s.heap.BuiltinsAt X.mg P := by
    obtain ⟨b, o, a1, a2, a3, a4, a5, a6, a7⟩ := bm
    have e := I.bk _ _ a4
    exact ⟨b, o, a1, a2, a3, (fun z => by rw [z, hps] at e; cases e; cases a5), e, a5, a6, a7⟩
  rw [arm_eval_Lambda, defaultsOf_eq, hd0, hk0]
  show wpAny _ _ (do let dv ← evalAll (evalEach [] X.env); let kdv ← holding dv (evalAllOpt []); makeFunction "<lambda>" (X.env.qual ++ "<lambda>") params (.expr body) scope X.env dv kdv [] pos pos.line) _ _ s
  refine wpAny_bind (evalAll_nil ?_)
  refine wpAny_bind (wpAny_holding (wpAny_pure ?_))
  cases hf : codeAmong pos ps.toList with
  | some cv =>
    obtain ⟨c', oc, vs, t, rfl, hH, hd, hv⟩ := hcode cv hf
    refine PySem.W.kla_makeFunctionHit hclos I.ok.glob hg hc0 CH hps htr hf hb fun ctv h' tk hk hsz => ?_
    have I1 := I.laid (a := h'.objs.size) (t' := tk) (o := .frz { cls := .type "function", data := .func (PySem.W.kla_fn "<lambda>" (X.env.qual ++ "<lambda>") params body scope cl ((X.mg "__name__").getD .none) (.ref c') ctv) } (.own 0)) (h' := h'.push { cls := .type "function", data := .func (PySem.W.kla_fn "<lambda>" (X.env.qual ++ "<lambda>") params body scope cl ((X.mg "__name__").getD .none) (.ref c') ctv) }) (fun b o e => Heap.get?_push_of_some _ (hk b o e)) hsz ⟨Heap.get?_push_size _ rfl, _, Heap.get?_push_size _ rfl⟩
    have fr := I.hok.fresh hsz
    exact h _ cl _ _ _ _ _ _ I1 (same_upd fr _) cl1 cl2 upd_same rfl ⟨c', oc, vs, t, rfl, by rw [upd_ne (ne_of_none hH fr)]; exact hH, hd, hv⟩
  | none =>
    refine PySem.W.kla_makeFunction hclos I.ok.glob hg hc0 CH hps htr hf hgP hb fun c' ctv h' tk hx hge hlt hrec htb => ?_
    obtain ⟨oc, vs, t, hoc, hd, hv, I1⟩ := I.grown (tk := tk) hP hx hge hrec htr hf htb
    have fr : H c' = none := I.hok.fresh hge
    have fr2 : upd H c' (.frz oc (.own P)) h'.objs.size = none := I1.hok.fresh (Nat.le_refl _)
    have I2 := I1.laid (a := h'.objs.size) (t' := tk) (o := .frz (PySem.W.kla_obj "<lambda>" (X.env.qual ++ "<lambda>") params body scope cl ((X.mg "__name__").getD .none) c' ctv) (.own 0)) (h' := h'.push (PySem.W.kla_obj "<lambda>" (X.env.qual ++ "<lambda>") params body scope cl ((X.mg "__name__").getD .none) c' ctv)) (fun b o e => Heap.get?_push_of_some _ e) (Nat.le_refl _) ⟨Heap.get?_push_size _ rfl, _, Heap.get?_push_size _ rfl⟩
    exact h _ cl _ _ _ _ _ _ I2 ((same_upd fr _).trans (same_upd fr2 _)) cl1 cl2 upd_same rfl ⟨c', oc, vs, t, rfl, by rw [upd_ne (ne_of_none upd_same fr2)]; exact upd_same, hd, hv⟩
end
end L2
set_option Elab.async false
set_option linter.all false
set_option maxRecDepth 100000
set_option maxHeartbeats 4000000
namespace L2
open PySem PySem.Spec PyProof.Rows L2.Stb
def KLt (key : Int → Int) (ns : List Int) (a b : Int) : Prop := key a < key b ∨ (key a = key b ∧ ns.idxOf a < ns.idxOf b)
theorem vals_map {l : List Keyed} (h : ∀ p ∈ l, ∃ t, p.2 = .int (numOf p.2) t) : Vals ((l.map fun p => numOf p.2).map V.int) (l.map (·.2)) := by
  induction l with
  | nil => exact .nil
  | cons p r ih =>
    obtain ⟨t, e⟩ := h p List.mem_cons_self
    exact .cons ⟨t, e⟩ (ih fun q hq => h q (List.mem_cons_of_mem _ hq))
theorem ints_get {vs : List Value} {ns : List Int} (h : IntsAre vs ns) : ∀ {i : Nat} {v : Value}, vs[i]? = some v → ∃ n t, ns[i]? = some n ∧ v = .int n t := by
  induction h with
  | nil => intro i v e; simp at e
  | cons n t _ ih =>
    intro i v e
    cases i with
    | zero => exact ⟨n, t, rfl, by simpa using e.symm⟩
    | succ i => exact ih (by simpa using e)
theorem idx_nd : ∀ {ns : List Int}, ns.Nodup → ∀ {i : Nat} {n : Int}, ns[i]? = some n → ns.idxOf n = i
  | [], _, _, _, e => by simp at e
  | x :: r, nd, 0, n, e => by
    have e' : x = n := by simpa using e
    subst e'
    simp
  | x :: r, nd, i + 1, n, e => by
    obtain ⟨h1, h2⟩ := List.nodup_cons.mp nd
    have e' : r[i]? = some n := by simpa using e
    have ne : x ≠ n := fun z => h1 (z ▸ List.mem_of_getElem? e')
    rw [List.idxOf_cons, show (x == n) = false by simpa using ne]
    show r.idxOf n + 1 = i + 1
    rw [idx_nd h2 e']
theorem sort_out {keys : Array Value} {vs : List Value} {ns : List Int} {key : Int → Int} (hk : IntsAre keys.toList (ns.map key)) (hv : IntsAre vs ns) (nd : ns.Nodup) :
    Idn (fun p => ns.idxOf (numOf p.2)) (keys.zip vs.toArray) 0 ∧ ∀ xs : Array Keyed, xs.Perm (keys.zip vs.toArray) → Inc (fun p => ns.idxOf (numOf p.2)) xs xs.size →
      ∃ os : List Int, Vals (os.map V.int) (xs.map (·.2)).toList ∧ os.Perm ns ∧ os.Pairwise (KLt key ns) := by
  have lk : keys.size = ns.length := by have := hk.length; rw [Array.length_toList, List.length_map] at this; omega
  have lv : vs.length = ns.length := by have := hv.length; omega
  have at0 : ∀ (i : Nat) (p : Keyed), (keys.zip vs.toArray)[i]? = some p → ∃ n t t', ns[i]? = some n ∧ p = (Value.int (key n) t, Value.int n t') := fun i p e => by
    have e' : (keys.toList.zip vs)[i]? = some p := by rw [← ksk_zip, Array.getElem?_toList]; exact e
    rw [List.getElem?_zip_eq_some] at e'
    obtain ⟨n1, t1, q1, r1⟩ := ints_get hk e'.1
    obtain ⟨n2, t2, q2, r2⟩ := ints_get hv e'.2
    rw [List.getElem?_map, q2] at q1
    have q1' : key n2 = n1 := by simpa using q1
    exact ⟨n2, t1, t2, q2, Prod.ext (by rw [r1, q1']) r2⟩
  have mem0 : ∀ p ∈ (keys.zip vs.toArray).toList, ∃ n t t', n ∈ ns ∧ p = (Value.int (key n) t, Value.int n t') := fun p hp => by
    obtain ⟨i, e⟩ := List.getElem?_of_mem hp
    rw [Array.getElem?_toList] at e
    obtain ⟨n, t, t', q, r⟩ := at0 i p e
    exact ⟨n, t, t', List.mem_of_getElem? q, r⟩
  refine ⟨fun i _ hi => ?_, fun xs hp hi => ?_⟩
  · obtain ⟨n, t, t', q, r⟩ := at0 i _ (Array.getElem?_eq_getElem hi)
    unfold Rk
    rw [Array.getElem?_eq_getElem hi, r]
    show ns.idxOf n = i
    exact idx_nd nd q
  · have pm := Array.perm_iff_toList_perm.mp hp
    have memx : ∀ p ∈ xs.toList, ∃ n t t', n ∈ ns ∧ p = (Value.int (key n) t, Value.int n t') := fun p hp' => mem0 p (pm.mem_iff.mp hp')
    refine ⟨xs.toList.map fun p => numOf p.2, ?_, ?_, ?_⟩
    · rw [Array.toList_map]
      refine vals_map fun p hp' => ?_
      obtain ⟨n, t, t', _, rfl⟩ := memx p hp'
      exact ⟨t', rfl⟩
    · have e : (keys.zip vs.toArray).toList.map (fun p => numOf p.2) = ns := by
        apply List.ext_getElem?
        intro i
        rw [List.getElem?_map, Array.getElem?_toList]
        by_cases hlt : i < (keys.zip vs.toArray).size
        · obtain ⟨n, t, t', q, r⟩ := at0 i _ (Array.getElem?_eq_getElem hlt)
          rw [Array.getElem?_eq_getElem hlt, r, q]
          rfl
        · have lz : (keys.zip vs.toArray).size = ns.length := by rw [Array.size_zip, lk, List.size_toArray, lv, Nat.min_self]
          rw [Array.getElem?_eq_none (by omega), List.getElem?_eq_none (by omega)]
          rfl
      rw [← e]
      exact pm.map _
    · rw [List.pairwise_iff_getElem]
      intro i j hi' hj' hij
      have hi2 : i < xs.size := by simpa using hi'
      have hj2 : j < xs.size := by simpa using hj'
      have v := hi i j hij hj2
      obtain ⟨n1, t1, t1', _, r1⟩ := memx xs[i] (by simp)
      obtain ⟨n2, t2, t2', _, r2⟩ := memx xs[j] (by simp)
      have k1 : K xs i = key n1 := by rw [K_eq hi2, r1]; rfl
      have k2 : K xs j = key n2 := by rw [K_eq hj2, r2]; rfl
      have q1 : Rk (fun p => ns.idxOf (numOf p.2)) xs i = ns.idxOf n1 := by unfold Rk; rw [Array.getElem?_eq_getElem hi2, r1]; rfl
      have q2 : Rk (fun p => ns.idxOf (numOf p.2)) xs j = ns.idxOf n2 := by unfold Rk; rw [Array.getElem?_eq_getElem hj2, r2]; rfl
      have g1 : (xs.toList.map fun p => numOf p.2)[i] = n1 := by simp [r1, numOf]
      have g2 : (xs.toList.map fun p => numOf p.2)[j] = n2 := by simp [r2, numOf]
      rw [g1, g2]
      unfold VLt at v
      rw [k1, k2, q1, q2] at v
      exact v
section
variable {X : Cx} {pins : List (Addr × Obj)} {σ : St} {H : Hp} {s : Shared} {d : Addr} {xs : List V} {o : Obj}
theorem Inv.thawedL (I : Inv X pins σ H s) (h : H d = some (.frz o (.lst xs))) (h0 : ∀ o' u, X.H₀ d ≠ some (.frz o' u)) : Inv X pins σ (upd H d (.lst xs)) s := by
  have ne : ∀ b u, H b = some u → u ≠ .frz o (.lst xs) → b ≠ d := fun b u e n z => by rw [z, h] at e; exact n (Option.some.inj e).symm
  have nn : ∀ b, H b = none → b ≠ d := fun b e z => by rw [z, h] at e; cases e
  refine ⟨I.ok, I.os, I.bare, ⟨I.base.keep, I.base.slot, fun b o' e n hx => ?_, I.base.there, fun b ys e => ?_, fun b o' u e => ?_, fun b p r e => ?_⟩, I.loc, I.cell, ?_, fun x c e => ?_, fun p hp => ?_, fun b u e => ?_, I.len⟩
  · have q := I.base.free b o' e n hx
    rw [upd_ne (nn b q)]
    exact q
  · have q := I.base.tups b ys e
    rw [upd_ne (ne b _ q (by intro z; cases z))]
    exact q
  · have q := I.base.frzs b o' u e
    rw [upd_ne (fun z => h0 o' u (by rw [← z]; exact e))]
    exact q
  · have q := I.base.tbls b p r e
    rw [upd_ne (ne b _ q (by intro z; cases z))]
    exact q
  · rw [upd_ne (nn _ I.free)]
    exact I.free
  · rw [upd_ne (nn _ (I.freeC x c e))]
    exact I.freeC x c e
  · obtain ⟨a1, a2, a3⟩ := I.pin p hp
    exact ⟨a1, by rw [upd_ne (nn _ a2)]; exact a2, a3⟩
  · by_cases hb : b = d
    · subst hb
      rw [upd_same] at e
      cases e
      exact (I.hok b _ h).2
    · rw [upd_ne hb] at e
      exact (I.hok b u e).stay (fun _ _ _ z => z) (fun c z => by rw [upd_ne (ne c _ z (by intro y; cases y))]; exact z) (fun c ys z => by rw [upd_ne (ne c _ z (by intro y; cases y))]; exact z) fun c oz z => by rw [upd_ne (ne c _ z (by intro y; cases y))]; exact z
theorem tail_key {a kS : Addr} {st : SortSt} {e1 : Nat} {H1 : Hp} {ns : List Int} {key : Int → Int} {keys : Array Value} {its : List Value} {ks : List V} {A : Around} {E : Value → Shared → Prop} {R : PySem.Fin → Shared → Prop} (I : Inv X pins σ H1 s) (hk : IntsAre keys.toList (ns.map key)) (hv : IntsAre its ns) (nd : ns.Nodup) (h64 : ns.length < 64)
    (ha : H1 a = some (.frz (seqObj "list" #[] e1) (.lst []))) (h0 : ∀ o' u, X.H₀ a ≠ some (.frz o' u)) (hkS : H1 kS = some (.lst ks)) (hlk : ks.length ≤ 64) (hp : (arrOf st).Perm (keys.zip its.toArray)) (hi : Inc (fun p => ns.idxOf (numOf p.2)) (arrOf st) (arrOf st).size) (hf : failedOf st = none)
    (h : ∀ (H' : Hp) (s' : Shared) (os : List Int), Inv X pins σ H' s' → (∀ b, b ≠ a → b ≠ kS → H' b = H1 b) → H' a = some (.lst (os.map V.int)) → os.Perm ns → os.Pairwise (KLt key ns) → R (.done (.ret .none)) s') :
    wpAny (model X.prog X.w) A (ksk_tail a false e1 (.ref kS) st) R E s := by
  have nak : a ≠ kS := fun z => by rw [z, hkS] at ha; cases ha
  obtain ⟨os, vo, po, so⟩ := (sort_out hk hv nd).2 _ hp hi
  have lo := po.length_eq
  unfold ksk_tail
  try dsimp only
  obtain ⟨_, itsK, n, rK, hlK, eK⟩ := I.lstM hkS
  have lK : itsK.length ≤ 64 := by have := rK.length; omega
  refine wpAny_bind (listUpdate_at eK rfl ?_ (by rw [List.size_toArray, sizeLine_eq]; omega) (Nat.zero_le _))
  have I6 := I.lset (t' := s.toks) (f := fun _ => #[]) (its' := []) (ys := []) hkS eK rfl .nil (Nat.zero_le _)
  have ha6 : upd H1 kS (.lst []) a = some (.frz (seqObj "list" #[] e1) (.lst [])) := by rw [upd_ne nak]; exact ha
  have oa := (I6.hok a _ ha6).1
  refine wpAny_bind (wpAny_letGo ?_)
  refine wpAny_bind (seqEpoch_at oa rfl ?_)
  have lo2 : ((arrOf st).map (·.2)).size = ns.length := by
    have e := vo.length
    rw [List.length_map] at e
    have e2 : ((arrOf st).map (·.2)).toList.length = ((arrOf st).map (·.2)).size := Array.length_toList
    omega
  refine wpAny_bind (listUpdate_at oa rfl ?_ (Nat.zero_le _) (by simp only [Bool.false_eq_true, if_false]; rw [lo2, sizeLine_eq]; omega))
  rw [hf]
  simp only [bne_self_eq_false, Bool.false_eq_true, if_false]
  have I7 := I6.thawedL ha6 h0
  have I8 := I7.lset (t' := s.toks) (f := fun _ => (arrOf st).map (·.2)) (its := []) (its' := ((arrOf st).map (·.2)).toList) (ys := os.map V.int) upd_same oa (by exact (Array.toArray_toList).symm) vo (by rw [List.length_map, sizeLine_eq]; omega)
  refine wpAny_pure (h _ _ os I8 (fun b n1 n2 => ?_) upd_same po so)
  rw [upd_ne n1, upd_ne n1, upd_ne n2]
theorem end_key {a kS : Addr} {e1 : Nat} {H1 : Hp} {ns : List Int} {key : Int → Int} {keys : Array Value} {its : List Value} {ks : List V} {A : Around} {E : Value → Shared → Prop} {R : PySem.Fin → Shared → Prop} (I : Inv X pins σ H1 s) (hk : IntsAre keys.toList (ns.map key)) (hv : IntsAre its ns) (nd : ns.Nodup) (h64 : ns.length < 64)
    (ha : H1 a = some (.frz (seqObj "list" #[] e1) (.lst []))) (h0 : ∀ o' u, X.H₀ a ≠ some (.frz o' u)) (hkS : H1 kS = some (.lst ks)) (hlk : ks.length ≤ 64)
    (h : ∀ (H' : Hp) (s' : Shared) (os : List Int), Inv X pins σ H' s' → (∀ b, b ≠ a → b ≠ kS → H' b = H1 b) → H' a = some (.lst (os.map V.int)) → os.Perm ns → os.Pairwise (KLt key ns) → R (.done (.ret .none)) s') :
    wpAny (model X.prog X.w) A (ksk_end a false its.toArray e1 (.ref kS) keys) R E s := by
  have lk : keys.size = ns.length := by have := hk.length; rw [Array.length_toList, List.length_map] at this; omega
  have lv : its.length = ns.length := by have := hv.length; omega
  have hzs : (keys.zip its.toArray).size = ns.length := by rw [Array.size_zip, lk, List.size_toArray, lv, Nat.min_self]
  obtain ⟨idn, _⟩ := sort_out hk hv nd
  unfold ksk_end
  simp only [Bool.false_eq_true, if_false]
  by_cases h2 : its.toArray.size < 2
  · rw [if_pos h2, if_pos h2]
    refine wpAny_bind (wpAny_pure ?_)
    rw [StateT.run_pure]
    refine wpAny_bind (wpAny_pure ?_)
    try dsimp only
    refine tail_key (st := SortSt.mk' general' (keys.zip its.toArray) #[] 7 none) I hk hv nd h64 ha h0 hkS hlk (Array.Perm.refl _) (fun i j hij hj => ?_) rfl h
    have hj2 : j < (keys.zip its.toArray).size := hj
    rw [List.size_toArray] at h2
    omega
  · rw [if_neg h2, if_neg h2]
    rw [List.size_toArray] at h2
    rw [ksk_kind hk (by rw [lk]; omega)]
    refine wpAny_bind (wpAny_pure ?_)
    refine wpAny_bind (wpAny_mono (runs_ok (ρ := fun p => ns.idxOf (numOf p.2)) (a₀ := keys.zip its.toArray) (st := SortSt.mk' oneType' (keys.zip its.toArray) #[] 7 none)
      (Q := fun _ st1 => (arrOf st1).Perm (keys.zip its.toArray) ∧ failedOf st1 = none ∧ Inc (fun p => ns.idxOf (numOf p.2)) (arrOf st1) (keys.zip its.toArray).size)
      (ksk_intKeys hk) idn ⟨Array.Perm.refl _, rfl, rfl, rfl⟩ idn (by rw [hzs]; omega) (by rw [hzs]; exact h64) fun st1 a1 a2 a3 => ⟨a1, a2, a3⟩) ?_ fun _ _ e => e)
    rintro ⟨⟨⟩, st1⟩ s1 ⟨rfl, hp, hf, hs⟩
    try dsimp only
    exact tail_key I hk hv nd h64 ha h0 hkS hlk hp (by rw [hp.size_eq]; exact hs) hf h
theorem sort_key {l f : Addr} {ns : List Int} {key : Int → Int} {Q : VK} {E : Value → Shared → Prop} (I : Inv X pins σ H s) (hq : SqL X.K H l (ns.map V.int)) (h64 : ns.length < 64) (nd : ns.Nodup)
    (turn : ∀ z ∈ ns, ∀ H1 s1 u, Same H H1 → Inv X pins σ H1 s1 → RelV (.int z) u → wpAny (model X.prog X.w) X.A.in1.in1 (call (.ref f) [u]) (EP X pins σ fun v H' => v = .int (key z) ∧ H' = H1) (fun _ _ => False) s1)
    (q : ∀ (D : Addr) (H' : Hp) (os : List Int), H D = none → Same H H' → H' D = some (.lst (os.map V.int)) → os.Perm ns → os.Pairwise (KLt key ns) → Q (.ref D) H') :
    wpAny (model X.prog X.w) X.A (call (.builtin "sorted") [.ref l] [(Str.ofString "key", .ref f)]) (EP X pins σ Q) E s := by
  obtain ⟨its, rv, pl, hz⟩ := I.list hq
  have hv := intsAre_of rv
  have lv : its.length = ns.length := by have := rv.length; rw [List.length_map] at this; exact this.symm
  refine call_function_entry_kw kind_sorted plain_sorted entry_sorted (ksk_s1 _ _) ?_
  unfold Builtin.«sorted»
  refine wpAny_bind (m := checkCount "sorted" 1 1 _) (wpAny_pure ?_)
  refine wpAny_bind (collect_list pl.isList ?_ (by rw [sizeLine_eq]; omega))
  refine wpAny_bind (wpAny_newList ?_ (by rw [sizeLine_eq]; omega))
  have hsz : ((s.heap.push (seqObj "list" #[] 0)).update s.heap.objs.size (Obj.mapSeq (· ++ its.toArray))).objs.size = s.heap.objs.size + 1 := by
    rw [Heap.size_update, size_push']
  have hoL : (((s.heap.push (seqObj "list" #[] 0)).update s.heap.objs.size (Obj.mapSeq (· ++ its.toArray))).push (seqObj "list" its.toArray 0)).get? (s.heap.objs.size + 1) = some (seqObj "list" its.toArray 0) := by
    rw [← hsz]
    exact Heap.get?_push_size _ rfl
  have keep : ∀ b o, s.heap.get? b = some o → (((s.heap.push (seqObj "list" #[] 0)).update s.heap.objs.size (Obj.mapSeq (· ++ its.toArray))).push (seqObj "list" its.toArray 0)).get? b = some o := fun b o e => by
    have lt : b < s.heap.objs.size := Heap.lt_size e
    rw [Heap.get?_push_ne _ _ _ (by rw [hsz]; exact Nat.ne_of_lt (Nat.lt_succ_of_lt lt)), Heap.get?_update_ne _ _ _ _ (Nat.ne_of_lt lt), Heap.get?_push_ne _ _ _ (Nat.ne_of_lt lt)]
    exact e
  show wpAny _ _ _ _ _ { s with heap := ((s.heap.push (seqObj "list" #[] 0)).update s.heap.objs.size (Obj.mapSeq (· ++ its.toArray))).push (seqObj "list" its.toArray 0) }
  rw [hsz]
  have hsz1 : (((s.heap.push (seqObj "list" #[] 0)).update s.heap.objs.size (Obj.mapSeq (· ++ its.toArray))).push (seqObj "list" its.toArray 0)).objs.size = s.heap.objs.size + 2 := by rw [size_push', hsz]
  generalize ((s.heap.push (seqObj "list" #[] 0)).update s.heap.objs.size (Obj.mapSeq (· ++ its.toArray))).push (seqObj "list" its.toArray 0) = h1 at *
  refine wpAny_bind (wpAny_holding (wpAny_call_entry_kw slot_list_sort ⟨_, hoL, rfl⟩ entry_list_sort ?body (ksk_l1 _ _)))
  case body =>
    show wpAny (model X.prog X.w) X.A.in1.in1 (Builtin.«list.sort» ⟨[.ref (s.heap.objs.size + 1)], [(Str.ofString "key", .ref f)]⟩) _ _ _
    rw [ksk_t1]
    unfold ksk_tree
    refine wpAny_bind (listItems_at hoL rfl ?_)
    refine wpAny_bind (listUpdate_at hoL rfl ?_ (by rw [List.size_toArray, sizeLine_eq]; omega) (Nat.zero_le _))
    obtain ⟨e1, ho1⟩ : ∃ e1, (h1.update (s.heap.objs.size + 1) (Obj.mapSeq fun _ => (#[] : Array Value))).get? (s.heap.objs.size + 1) = some (seqObj "list" #[] e1) := ⟨_, get?_update_seq hoL fun _ => #[]⟩
    have keep2 : ∀ b o, s.heap.get? b = some o → (h1.update (s.heap.objs.size + 1) (Obj.mapSeq fun _ => (#[] : Array Value))).get? b = some o := fun b o e => by
      have lt : b < s.heap.objs.size := Heap.lt_size e
      rw [Heap.get?_update_ne _ _ _ _ (Nat.ne_of_lt (Nat.lt_succ_of_lt lt))]
      exact keep b o e
    generalize h1.update (s.heap.objs.size + 1) (Obj.mapSeq fun _ => (#[] : Array Value)) = h2 at *
    refine wpAny_bind (seqEpoch_at ho1 rfl ?_)
    refine wpAny_bind (wpAny_newTuple ?_ (by show its.length ≤ _; rw [sizeLine_eq]; omega))
    refine wpAny_bind (wpAny_newList ?_ (Nat.zero_le _))
    refine wpAny_holding ?_
    have fr : H (s.heap.objs.size + 1) = none := I.hok.fresh (Nat.le_succ _)
    have h0 : ∀ o' u, X.H₀ (s.heap.objs.size + 1) ≠ some (.frz o' u) := fun o' u e => by rw [I.base.frzs _ _ _ e] at fr; cases fr
    have ho2 : (h2.push (seqObj "tuple" its.toArray 0)).get? (s.heap.objs.size + 1) = some (seqObj "list" #[] e1) := Heap.get?_push_of_some _ ho1
    have I3 := I.laid (a := s.heap.objs.size + 1) (t' := s.toks) (o := .frz (seqObj "list" #[] e1) (.lst [])) (h' := h2.push (seqObj "tuple" its.toArray 0)) (fun b o e => Heap.get?_push_of_some _ (keep2 b o e)) (Nat.le_succ _) ⟨ho2, Nat.zero_le _, [], e1, .nil, ho2⟩
    have fr3 := I3.hok.fresh (Nat.le_refl _)
    have I4 := I3.laid (t' := s.toks) (o := .lst []) (h' := (h2.push (seqObj "tuple" its.toArray 0)).push (seqObj "list" #[] 0)) (fun b o e => Heap.get?_push_of_some _ e) (Nat.le_refl _) ⟨Nat.zero_le _, [], 0, .nil, Heap.get?_push_size _ rfl⟩
    have nak : s.heap.objs.size + 1 ≠ (h2.push (seqObj "tuple" its.toArray 0)).objs.size := ne_of_none upd_same fr3
    have sm : Same H (upd (upd H (s.heap.objs.size + 1) (.frz (seqObj "list" #[] e1) (.lst []))) (h2.push (seqObj "tuple" its.toArray 0)).objs.size (.lst [])) := (same_upd fr _).trans (same_upd fr3 _)
    have frK : H (h2.push (seqObj "tuple" its.toArray 0)).objs.size = none := (same_upd fr _).free fr3
    have hkS0 : upd (upd H (s.heap.objs.size + 1) (.frz (seqObj "list" #[] e1) (.lst []))) (h2.push (seqObj "tuple" its.toArray 0)).objs.size (.lst []) (h2.push (seqObj "tuple" its.toArray 0)).objs.size = some (.lst []) := upd_same
    have ha0 : upd (upd H (s.heap.objs.size + 1) (.frz (seqObj "list" #[] e1) (.lst []))) (h2.push (seqObj "tuple" its.toArray 0)).objs.size (.lst []) (s.heap.objs.size + 1) = some (.frz (seqObj "list" #[] e1) (.lst [])) := by rw [upd_ne nak]; exact upd_same
    generalize upd (upd H (s.heap.objs.size + 1) (.frz (seqObj "list" #[] e1) (.lst []))) (h2.push (seqObj "tuple" its.toArray 0)).objs.size (.lst []) = H4 at *
    show wpAny (model X.prog X.w) X.A.in1.in1 (ksk_rest (s.heap.objs.size + 1) (.ref f) false its.toArray e1 (.ref (h2.push (seqObj "tuple" its.toArray 0)).objs.size)) _ _ { s with heap := (h2.push (seqObj "tuple" its.toArray 0)).push (seqObj "list" #[] 0) }
    generalize (h2.push (seqObj "tuple" its.toArray 0)).objs.size = kS at *
    generalize (h2.push (seqObj "tuple" its.toArray 0)).push (seqObj "list" #[] 0) = h4 at *
    unfold ksk_rest
    refine wpAny_bind (wpAny_rule ?_)
    rw [List.forIn_toArray]
    refine wpAny_bind (ksk_fold (fun i s1 => ∃ H1 : Hp, Inv X pins σ H1 s1 ∧ Same H H1 ∧ H1 (s.heap.objs.size + 1) = some (.frz (seqObj "list" #[] e1) (.lst [])) ∧ H1 kS = some (.lst (((ns.take i).map key).map V.int))) its 0 _
      ⟨H4, I4, sm, ha0, hkS0⟩ ?step ?done)
    case step =>
      rintro j x s1 hx ⟨H1, I1, s1', a1, k1⟩
      simp only [Nat.zero_add] at k1 ⊢
      obtain ⟨z, t, hz', rfl⟩ := ints_get hv hx
      have hj : j < ns.length := (List.getElem?_eq_some_iff.mp hz').1
      refine wpAny_bind (wpAny_attempt (wpAny_mono (turn z (List.mem_of_getElem? hz') H1 s1 _ s1' I1 ⟨t, rfl⟩) (fun v s2 he => ?_) fun _ _ hF => hF.elim))
      obtain ⟨v', H', I2, r2, rfl, rfl⟩ := he
      try dsimp only
      obtain ⟨_, itsK, n, rK, hlK, eK⟩ := I2.lstM k1
      have lK : itsK.length ≤ ns.length := by
        have := rK.length
        rw [List.length_map, List.length_map, List.length_take] at this
        omega
      refine wpAny_bind (listUpdate_at eK rfl ?_ (by rw [List.size_toArray, sizeLine_eq]; omega) (by rw [Array.size_push, List.size_toArray, sizeLine_eq]; omega))
      have ek : ns.take (j + 1) = ns.take j ++ [z] := by rw [List.take_succ, hz']; rfl
      have I5 := I2.lset (t' := s2.toks) (f := (·.push v)) (its' := itsK ++ [v]) (ys := ((ns.take (j + 1)).map key).map V.int) k1 eK (by simp) (by rw [ek, List.map_append, List.map_append]; exact rK.append (.cons r2 .nil)) (by rw [List.length_map, List.length_map, List.length_take, sizeLine_eq]; omega)
      refine wpAny_pure ⟨rfl, _, I5, fun b o y => ?_, ?_, upd_same⟩
      · rw [upd_ne (ne_of_none y frK)]
        exact s1' _ _ y
      · rw [upd_ne nak]
        exact a1
    case done =>
      rintro s1 ⟨H1, I1, s1', a1, k1⟩
      rw [Nat.zero_add, lv, List.take_length] at k1
      obtain ⟨_, itsK, n, rK, hlK, eK⟩ := I1.lstM k1
      try dsimp only
      refine wpAny_bind (listItems_at eK rfl ?_)
      refine end_key (ns := ns) (key := key) I1 (by simpa using intsAre_of rK) hv nd h64 a1 h0 k1 (by rw [List.length_map, List.length_map]; omega) fun H' s2 os I2 oth hD po so => ⟨_, rfl, ?_⟩
      refine wpAny_pure ⟨_, rfl, .ref (s.heap.objs.size + 1), H', I2, rfl, q _ H' os fr (fun b o y => ?_) hD po so⟩
      rw [oth b (ne_of_none y fr) (ne_of_none y frK)]
      exact s1' _ _ y
end
end L2
set_option Elab.async false
set_option linter.all false
set_option maxRecDepth 100000
set_option maxHeartbeats 4000000
namespace L2
open PySem PySem.Spec PyProof.Rows
structure MDef (P : Program) (w : World) (K : PySem.W.Frag) (mg : Str → Option Value) (base : Heap) (C : Addr) (m : Str) (k : Nat) (ps : List Str) (sp : Sp) : Prop where
  ex : ∃ (f : Addr) (fd : FuncData), FnOk P w K mg base CX0 k f fd ps sp ∧ Meth K C m f ∧ Binds K fd ps []
structure KDef (P : Program) (w : World) (K : PySem.W.Frag) (mg : Str → Option Value) (base : Heap) (C : Addr) (x : Str) (k : Nat) (ps : List Str) (sp : Sp) : Prop where
  ex : ∃ (f : Addr) (fd : FuncData), FnOk P w K mg base CX0 k f fd ps sp ∧ Mk K C f ∧ mg x = some (.ref C) ∧ Binds K fd ps []
section
variable {X : Cx} {x m : Str} {p pos apos : Pos} {e o : PySem.Expr} {es : List PySem.Expr} {ta : TE} {t : TA} {k : Nat} {ps : List Str} {sp : Sp} {C : Addr}
theorem pe_methN {pl : Sem Bool} (M : MDef X.prog X.w X.K X.mg X.base C m k ps sp) (hr : Room k X.A) (c : Cls X.K C) (he : PE X o ta) (ha : PA X (e :: es) t) (hn : NSs (e :: es) := by repeat' (first | exact True.intro | refine ⟨?_, ?_⟩))
    (ht : eval (.Call (.Attribute o m apos) (e :: es) [] pos) X.env = (do
      let ov ← eval o X.env
      standAt apos.atName
      let (f, first) ← holding [ov] (getMethod ov m pl)
      callWith pos f first (backTo pos (starEach (e :: es) X.env)) (backToKw pos (keywordEach [] X.env))) := by rfl) :
    PE X (.Call (.Attribute o m apos) (e :: es) [] pos) (tMeth C m sp [] E0 ta t) := by
  obtain ⟨f, fd, F, hm, hb⟩ := M.ex
  exact pe_meth he c hm F hr hb .nil pass0 ha (star_ns hn.1) (back_ns hn.2) ht
theorem pe_makeN (M : KDef X.prog X.w X.K X.mg X.base C x k ps sp) (hr : Room (k + 1) X.A) (hg : Gl X x) (ha : PA X (e :: es) t) (hn : NSs (e :: es) := by repeat' (first | exact True.intro | refine ⟨?_, ?_⟩)) (hd : (x == ("__debug__" : Str)) = false := by decide) :
    PE X (.Call (.Name x p) (e :: es) [] pos) (tMake C sp [] E0 t) := by
  obtain ⟨f, fd, F, M', hm, hb⟩ := M.ex
  exact pe_make M' F hr hg hm hb .nil pass0 ha (hdb := hd) (he := star_ns hn.1) (hpl := back_ns hn.2)
def tNo : TS := fun _ _ _ => False
theorem ps_no {st : Stmt} : PS X st tNo := fun _ _ _ _ _ _ h => False.elim h
end
theorem Fun.okC {P : Program} {w : World} {K : PySem.W.Frag} {mg : Str → Option Value} {base : Heap} {x qual : Str} {st : Stmt} {f : Addr} {fd : FuncData} {N ps : List Str} {k : Nat} {sp : Sp} (F : Fun K x qual st f fd) (S : FnScope N ps (defScope st)) (len : ∀ vs H Q E, sp vs H Q E → vs.length = ps.length)
    (hbody : ∀ (cdv : Value) (A : Around) (outer : List Env) (s : Shared) (H : Hp) (vs : List V) (Q : VK) (E : XK), fd.code = cdv → Room k (A.deeper (envOfC qual (defScope st) s.heap.objs.size f cdv)) → sp vs H Q E →
      ∃ t, PSs (cxOf CX0 P w K mg base N qual (defScope st) f cdv A outer s H E).nox (defBody st) t ∧ t { nx := fun _ H' => Q .non H', rt := Q } (start N vs) H) : FnOk P w K mg base CX0 (k + 1) f fd ps sp := by
  obtain ⟨oc, od, kV, doc, pm, an, cdv, ct, osl, rfl, lk, hcd⟩ := F.ex
  refine fn_of lk hcd S len fun A outer s H vs Q E hr hsp => ?_
  obtain ⟨t, h, q⟩ := hbody cdv A outer s H vs Q E rfl hr hsp
  exact ⟨t, h.nox, q⟩
theorem pe_fldK {X : Cx} {K : PySem.W.Frag} {e : PySem.Expr} {f : Str} {pos : Pos} {ta : TE} (hK : X.K = K) (he : PE X e ta) (hb : attributeBase e f X.env (eval e X.env) = eval e X.env) : PE X (.Attribute e f pos) (tFld K ta f) := by
  subst hK
  exact pe_fld he hb
def lamB (osc : Scope) (oN : List Str) (scope : Scope) (x : Str) (fr : List Str) (js : List Nat) : Bool :=
  scope.kind == .function && !scope.isCoroutine && !scope.isGenerator && scope.names.all (fun y => y.2 != .cell) && scope.names.lookup x == some .local &&
  scope.names.all (fun y => y.2 != .free || (osc.names.lookup y.1 == some .cell || osc.names.lookup y.1 == some .free)) && fr.length == js.length &&
  (js.map fun j => oN[j]?) == fr.map some && fr.all fun y => scope.names.lookup y == some .free
theorem lamOk_of {X : Cx} {osc : Scope} {oN : List Str} {scope : Scope} {x : Str} {fr : List Str} {js : List Nat} (h : lamB osc oN scope x fr js = true) (hs : X.env.scope = osc) (hN : X.N = oN) : LamOk X scope x fr js := by
  unfold lamB at h
  simp only [Bool.and_eq_true, List.all_eq_true, Bool.or_eq_true, beq_iff_eq, bne_iff_ne, ne_eq, Bool.not_eq_true'] at h
  obtain ⟨⟨⟨⟨⟨⟨⟨⟨h1, h2⟩, h3⟩, h4⟩, h5⟩, h6⟩, h7⟩, h8⟩, h9⟩ := h
  refine ⟨h1, h2, h3, h4, h5, fun y hy hf => ?_, h7, fun k j e => ?_, fun k y e => h9 y (List.mem_of_getElem? e)⟩
  · rcases h6 y hy with q | q
    · exact absurd hf q
    · show X.env.scope.names.lookup y.1 = _ ∨ X.env.scope.names.lookup y.1 = _
      rw [hs]; exact q
  · rw [hN]
    have z := congrArg (fun l => l[k]?) h8
    simp only [List.getElem?_map, e, Option.map_some] at z
    cases q : fr[k]? with
    | none => rw [q] at z; cases z
    | some y => rw [q] at z; exact (Option.some.inj z).symm
theorem hu_lam {A : Around} {k : Nat} {env : Env} (hr : Room k A) : (A.in1.in1.deeper env).units + 1 < cLine := by
  have := hr.un
  show A.units + 1 + 1 + 3 + 1 < cLine
  omega
def rSortK (K : PySem.W.Frag) (P : Addr) (lpos : Pos) (qual : Str) (js : List Nat) (te : TE) (σ : St) (Q : VK) (x : V) (H1 : Hp) : Prop := ∃ (l : Addr) (ns : List Int) (key : Int → Int), x = .ref l ∧ SqL K H1 l (ns.map V.int) ∧ ns.length < 64 ∧ ns.Nodup ∧ H1 P = some (.tbl lpos qual) ∧
  (∀ z ∈ ns, ∀ H2, Same H1 H2 → te (some (.int z) :: js.map fun j => (σ[j]?).join) H2 fun v H' => v = .int (key z) ∧ H' = H2) ∧
  ∀ (D : Addr) (H' : Hp) (os : List Int), H1 D = none → Same H1 H' → H' D = some (.lst (os.map V.int)) → os.Perm ns → os.Pairwise (KLt key ns) → Q (.ref D) H'
def tSortK (K : PySem.W.Frag) (P : Addr) (lpos : Pos) (qual : Str) (js : List Nat) (txs te : TE) : TE := fun σ H Q => txs σ H fun x H1 => rSortK K P lpos qual js te σ Q x H1
section
variable {X : Cx}
theorem pe_sortK {K : PySem.W.Frag} {P c0 : Addr} {k : Nat} {y : Str} {fr : List Str} {js : List Nat} {qual : Str} {params : Arguments} {body xs : PySem.Expr} {scope : Scope} {p pos lpos kpos : Pos} {txs te : TE} (hK : X.K = K) (hr : Room k X.A) (hcl : X.calm = true) (hg : Gl X "sorted") (hm : X.mg "sorted" = none)
    (c : LamOk X scope y fr js) (hc0 : X.env.code = .ref c0) (hcd : PySem.W.codeHdIn X.K c0 P = true) (bm : BMod X.base X.mg) (hq : X.env.qual ++ "<lambda>" = qual) (hd0 : params.defaults = []) (hk0 : params.kw_defaults = [])
    (hb : ∀ cl pm cd ct u, bindArgs (PySem.W.kla_fn "<lambda>" qual params body scope cl pm cd ct) ⟨[u], []⟩ = pure [(y, u)]) (ha : PE X xs txs)
    (he : ∀ f cd cl s H, PE (cxLam X X.A.in1.in1 (y :: fr) qual scope f cd cl s H) body te) (hn : NSs [xs] := by repeat' (first | exact True.intro | refine ⟨?_, ?_⟩)) :
    PE X (.Call (.Name "sorted" p) [xs] [⟨some "key", .Lambda params body scope lpos, kpos⟩] pos) (tSortK K P lpos qual js txs te) := by
  subst hK
  subst hq
  intro pins s σ H Q I h
  refine wpAny_Call_Name_kw (ld_blt I hg hm boot_sorted ?_ (by decide) (by decide))
  refine callWith_kw (thn ((pc ha pa_nil hn.1) pos pins s σ H (fun vs H1 => match vs with | [x] => rSortK X.K P lpos (X.env.qual ++ "<lambda>") js te σ Q x H1 | _ => False) I h) fun us s1 ⟨vs, H1, I1, r1, q1⟩ => ?_) (by rw [star_ns hn.1]; rfl) (by rw [star_ns hn.1]; rfl) rfl rfl
  match vs, r1, q1 with
  | [], _, z => exact z.elim
  | _ :: _ :: _, _, z => exact z.elim
  | [x], r1, q1 =>
    obtain ⟨l, ns, key, rfl, hS, h64, nd, hP, ht, q⟩ := q1
    obtain ⟨u, rfl, ru⟩ := vals1 r1
    cases ru
    show wpAny _ _ (evalAll [(do let v ← eval (.Lambda params body scope lpos) X.env; standAt pos; pure v)]) _ _ s1
    refine wpAny_evalAll_cons (wpAny_bind (lam_make c I1 hc0 hcd bm hP hd0 hk0 fun f cl cd pm ct of H2 s2 I2 sm cl1 cl2 hf hof hcode => wpAny_bind (wpAny_standAt (wpAny_pure (wpAny_evalAll_nil ?_)))))
    show wpAny _ _ (call (.builtin "sorted") [.ref l] [(Str.ofString "key", .ref f)]) _ _ s2
    refine sort_key I2 (sm.seq hS) h64 nd (fun z hz H3 s3 u sm3 I3 ru => ?_) fun D H' os hD sm' hl po so => q D H' os (sm.free hD) (sm.trans sm') hl po so
    have of3 := (I3.hok f _ (sm3 _ _ hf)).1
    obtain ⟨c', oc, vs', t', rfl, hc', hd', hv'⟩ := hcode
    have oc3 := (I3.hok c' _ (sm3 _ _ hc')).1
    exact lam_call (A := X.A.in1.in1) c I3 I3.ok.frames (I3.ok.hd hcl) hr.depth cl1 cl2 of3 hof ⟨c', oc, vs', t', rfl, oc3, hd', hv'⟩ (hb cl pm _ ct) ru (fun s => he f _ cl s H3) (ht z hz H3 (sm.trans sm3))
end
end L2
set_option Elab.async false
set_option linter.all false
set_option maxRecDepth 100000
set_option maxHeartbeats 4000000
namespace L2
open PySem PySem.Spec PyProof.Rows
theorem law_callT {P : Program} {w : World} {K : PySem.W.Frag} {mg mb : Str → Option Value} {CX : CXT} {k : Nat} {fa a tp c0 : Addr} {pos : Pos} {qual : Str} {fd : FuncData} {x : Str} {sp : Sp} {s₁ : Shared} {vs : List Value} {ns : List Int}
    (KX : K.In s₁.heap) (hns : s₁.heap.Ns mainGlobals mg) (hb : s₁.heap.Ns builtinsNs mb) (hbb : ∀ x : Str, x ≠ "__name__" → mb x = bootBuiltins x) (hlim : s₁.heap.NoLimit) (hg : s₁.gens = #[])
    (ha : s₁.heap.get? a = some { cls := .type "list", data := .seq vs.toArray }) (hi : IntsAre vs ns) (hl : ns.length ≤ sizeLine) (hr : Room k callerA)
    (htp : s₁.heap.get? tp = some { cls := .none, data := .fields #[] }) (hch : PySem.W.codeHdIn K c0 tp = true) (hKt : K.lookup tp = none)
    (hbm : BMod s₁.heap mg) (F : ∀ base : Heap, K.In base → base.Ns mainGlobals mg → BMod base mg → FnOk P w K mg base CX k fa fd [x] sp) (hbind : ∀ (s : Shared) (u : Value), BindsTo s fd ⟨[u], []⟩ [(x, u)])
    (hsp : ∀ H : Hp, H tp = some (.tbl pos qual) → SqL K H a (ns.map V.int) → sp [.ref a] H (fun v _ => v = .bl true) fun _ _ _ => False)
    (hCX : ∀ H e s', CX [] H s₁ (fun _ _ _ => False) e s' → False) :
    codeAny (model P w) callerA (.call (.ref fa) ⟨[.ref a], []⟩) (fun r s' => r = .ok (.ret (.bool true)) ∧ OldK s₁.heap s'.heap ∧ s'.os = s₁.os ∧ AllBare s'.gens) s₁ := by
  have rv := vals_ints hi
  have lenV := hi.length
  have nat : a ≠ tp := fun z => by rw [z, htp] at ha; cases ha
  have core : ∀ H : Hp, H tp = some (.tbl pos qual) → SqL K H a (ns.map V.int) → HOk P w H s₁.heap → (∀ b, H b ≠ none → b = tp ∨ (b = a ∧ ∃ o xs, H b = some (.frz o (.lst xs)))) → (H a ≠ none → K.lookup a = none) →
      codeAny (model P w) callerA (.call (.ref fa) ⟨[.ref a], []⟩) (fun r s' => r = .ok (.ret (.bool true)) ∧ OldK s₁.heap s'.heap ∧ s'.os = s₁.os ∧ AllBare s'.gens) s₁ := by
    intro H hT hS hok hA hK
    have noD : ∀ {b : Addr} {o : Obj} {es : Array DictEntry} {ep : Nat}, s₁.heap.get? b = some o → o.data = .dict es ep → H b = none := fun {b o es ep} e d => by
      cases q : H b with
      | none => rfl
      | some u =>
        rcases hA b (by rw [q]; simp) with z | ⟨z, _⟩
        · rw [z, htp] at e
          cases e
          cases d
        · rw [z, ha] at e
          cases e
          cases d
    have nsK : ∀ {b : Addr} {m : Str → Option Value}, s₁.heap.Ns b m → (hidT s₁.heap H).Ns b m := fun {b m} ⟨o, es, ep, e, d, r⟩ => ⟨o, es, ep, hidT_get e (noD e d), d, r⟩
    have hKb : K.In (hidT s₁.heap H) := fun b o e => hidT_get (KX b o e) (by
      cases q : H b with
      | none => rfl
      | some u =>
        rcases hA b (by rw [q]; simp) with z | ⟨z, _⟩
        · rw [z, hKt] at e
          cases e
        · have n : H a ≠ none := by rw [← z, q]; simp
          rw [z, hK n] at e
          cases e)
    have hM : Mod K mg (hidT s₁.heap H) := ⟨hKb, nsK hns, ⟨mb, nsK hb, hbb⟩, let ⟨mc, h1, h2⟩ := hlim; ⟨mc, nsK h1, h2⟩⟩
    have e0 : Env0 P w K mg (hidT s₁.heap H) callerA [] s₁ H := ⟨rfl, hM, fun b o e => of_hidT e, Nat.le_of_eq (hidT_size _ _), trivial, fun b hb => absurd (show b ∈ ([] : List Addr) from hb) (by simp), hok, .of_eq hg⟩
    have hB : BMod (hidT s₁.heap H) mg := by
      obtain ⟨b, o, a1, a2, a3, a4, a5, a6, a7⟩ := hbm
      refine ⟨b, o, a1, a2, a3, hidT_get a4 ?_, a5, a6, a7⟩
      cases q : H b with
      | none => rfl
      | some u =>
        rcases hA b (by rw [q]; simp) with z | ⟨z, _⟩
        · rw [z, htp] at a4
          cases a4
          cases a5
        · rw [z, ha] at a4
          cases a4
          have a8 : Value.type "list" = Value.type "module" := a5
          injection a8 with a8
          exact absurd a8 (by decide)
    refine codeAny_mono ((F _ hKb (nsK hns) hB).run callerA [] s₁ H ⟨[.ref a], []⟩ [.ref a] [.ref a] _ _ hr e0 (hbind s₁ (.ref a)) (.cons rfl .nil) (hsp H hT hS)) fun r s' h => ?_
    cases r with
    | error e => exact (hCX H e s' h).elim
    | ok fl =>
      cases fl with
      | next => exact False.elim h
      | brk => exact False.elim h
      | cont => exact False.elim h
      | ret u =>
        obtain ⟨v, H', os, bare, un, hok', r', q⟩ := h
        have q' : v = .bl true := q
        subst q'
        obtain rfl : u = Value.bool true := r'
        have tab := (PySem.W.codeHd_of_K KX hch).tab htp
        have t2 := hok' tp _ (un.tbls _ _ _ hT)
        obtain ⟨ps, hps, _⟩ := t2
        have old : ∀ b o, s₁.heap.get? b = some o → b ≠ tp → s'.heap.get? b = some o := fun b o e nb => by
          cases q : H b with
          | none => exact un.keep b o e q (by intro z; exact absurd (show b ∈ ([] : List Addr) from z) (by simp)) (by simp)
          | some u =>
            rcases hA b (by rw [q]; simp) with z | ⟨_, ob, xs, z⟩
            · exact absurd z nb
            · have z2 := un.frzs b ob _ z
              obtain ⟨e1, _⟩ := hok b _ z
              obtain ⟨e2, _⟩ := hok' b _ z2
              rw [e] at e1
              cases e1
              exact e2
        refine ⟨rfl, ⟨fun b o e => ?_, fun b o e => ?_⟩, os, bare⟩
        · by_cases nb : b = tp
          · subst nb
            rw [htp] at e
            cases e
            exact .inr (.inl ⟨tab.isCodeTable, rfl, #[], ps, rfl, by rw [hps]; simp⟩)
          · exact .inl (old b o e nb)
        · by_cases nb : b = tp
          · subst nb
            exact ⟨_, hps⟩
          · exact ⟨o, old b o e nb⟩
  have tb : ∀ H : Hp, ObjOk P w H s₁.heap tp (.tbl pos qual) := fun H => ⟨#[], htp, True.intro, fun cv e => by cases e⟩
  cases hk : K.lookup a with
  | some o =>
    have e := KX a o hk
    rw [ha] at e
    cases e
    refine core (fun b => if b = tp then some (.tbl pos qual) else none) (if_pos rfl) (.inr ⟨_, vs.toArray, _, hk, rfl, rfl, rfl, by rw [List.size_toArray, lenV]; exact hl, by simpa using rv⟩) (fun b u z => ?_) (fun b z => ?_) fun z => absurd (if_neg nat) z
    · by_cases hb : b = tp
      · have z' := (if_pos hb).symm.trans z
        cases z'
        subst hb
        exact tb _
      · have z' := (if_neg hb).symm.trans z
        cases z'
    · by_cases hb : b = tp
      · exact .inl hb
      · exact absurd (if_neg hb) z
  | none =>
    refine core (fun b => if b = tp then some (.tbl pos qual) else if b = a then some (.frz { cls := .type "list", data := .seq vs.toArray } (.lst (ns.map V.int))) else none) (if_pos rfl) (.inl (.inr ⟨{ cls := .type "list", data := .seq vs.toArray }, (if_neg nat).trans (if_pos rfl)⟩)) (fun b u z => ?_) (fun b z => ?_) fun _ => hk
    · by_cases hb : b = tp
      · have z' := (if_pos hb).symm.trans z
        cases z'
        subst hb
        exact tb _
      · have z' := (if_neg hb).symm.trans z
        by_cases hb2 : b = a
        · have z2 := (if_pos hb2).symm.trans z'
          cases z2
          subst hb2
          exact ⟨ha, by rw [List.length_map]; exact hl, vs, _, rv, ha⟩
        · have z2 := (if_neg hb2).symm.trans z'
          cases z2
    · by_cases hb : b = tp
      · exact .inl hb
      · by_cases hb2 : b = a
        · exact .inr ⟨hb2, _, _, (if_neg hb).trans (if_pos hb2)⟩
        · exact absurd (by show (if b = tp then _ else if b = a then _ else none) = none; rw [if_neg hb, if_neg hb2]) z
theorem walk_ofT {l : PySem.W.OpenLaw} {n k : Nat} {q : Program} {loose : List Str} {XP : (Str → Option Value) → Heap → Prop} {YP : World → Heap → Prop} {d : DefRec} {K : Params → PySem.W.Frag} {CX : World → CXT} {sp : World → Sp} {x : Str} {tp : Addr} {pos : Pos} {qual : Str} {G : World → Prop}
    (hn : l.most = some n) (hn2 : n ≤ sizeLine) (hdf : d.params.defaults = []) (hr : Room k callerA)
    (hY : ∀ (w : World) (h : Heap), YP w h → (K w.params).In h ∧ h.get? tp = some { cls := .none, data := .fields #[] })
    (F : ∀ (w : World) (mg : Str → Option Value) (fa : Addr) (h : Heap), (K w.params).In h → h.Ns mainGlobals mg → mg d.name = some (.ref fa) →
      G w ∧ (∃ c0, PySem.W.codeHdIn (K w.params) c0 tp = true) ∧ (K w.params).lookup tp = none ∧ ∃ fd : FuncData, (∀ (s : Shared) (u : Value), BindsTo s fd ⟨[u], []⟩ [(x, u)]) ∧
        ∀ base : Heap, (K w.params).In base → base.Ns mainGlobals mg → BMod base mg → FnOk l.prog w (K w.params) mg base (CX w) k fa fd [x] (sp w))
    (hsp : ∀ (w : World) (H : Hp) (a : Addr) (ns : List Int), G w → ns.length ≤ n → H tp = some (.tbl pos qual) → SqL (K w.params) H a (ns.map V.int) → sp w [.ref a] H (fun v _ => v = .bl true) fun _ _ _ => False)
    (hCX : ∀ (w : World) (H : Hp) (s : Shared) (e : Value) (s' : Shared), CX w [] H s (fun _ _ _ => False) e s' → False) :
    PySem.W.WalkO q loose XP YP l.row.toRowW d [] (fun f vs => PySem.call f vs) := by
  refine Att.attach_call hn hdf fun w s₀ s₁ mg mb fa o pm cd doc a vs ns G' Y ho hd hcd hmg hobj hints hlen hg => ?_
  obtain ⟨KX, htp⟩ := hY w _ Y
  obtain ⟨g, ⟨c0, hc⟩, hk, fd, hb, hF⟩ := F w mg fa _ KX G'.T.g hmg
  have hbm : BMod s₁.heap mg := by
    obtain ⟨bm, ob, b1, b2, b3, b4, b5, b6⟩ := G'.T.bmain
    refine ⟨bm, ob, b1, b2, fun z => ?_, b3, b4, b5, b6⟩
    obtain ⟨o, es, ep, e, hd', _⟩ := G'.T.g
    rw [z, e] at b3
    cases b3
    rw [hd'] at b6
    cases b6
  exact law_callT KX G'.T.g G'.T.b G'.T.builtins G'.T.nolimit hg hobj hints (Nat.le_trans hlen hn2) hr htp hc hk hbm hF hb (fun H hT hS => hsp w H a ns g hlen hT hS) fun H e s' => hCX w H s₁ e s'
def clsOf (K : PySem.W.Frag) (x : Str) : Addr := match PySem.W.nsIn K mainGlobals x with
  | some (some (.ref C)) => C
  | _ => 0
def tabOf (K : PySem.W.Frag) (x m : Str) : Addr := match PySem.W.findIn K (.ref (clsOf K x)) m with
  | some (some (.ref f)) => (match K.lookup f with
    | some ⟨_, _, .func fd, _⟩ => (match fd.code with
      | .ref c => (match K.lookup c with
        | some ⟨_, _, .fields vs, _⟩ => (match (vs[11]? : Option Value) with
          | some (.ref P) => P
          | _ => 0)
        | _ => 0)
      | _ => 0)
    | _ => 0)
  | _ => 0
theorem clsOf_eq {K : PySem.W.Frag} {x : Str} {C : Addr} (h : PySem.W.nsIn K mainGlobals x = some (some (.ref C))) : clsOf K x = C := by
  unfold clsOf
  rw [h]
theorem tabOf_eq {K : PySem.W.Frag} {x m : Str} {f c P : Addr} {oc : Value} {od : Option Addr} {fd : FuncData} {sl : Array (Option Value)} (h1 : PySem.W.findIn K (.ref (clsOf K x)) m = some (some (.ref f))) (h2 : K.lookup f = some ⟨oc, od, .func fd, sl⟩) (h3 : fd.code = .ref c)
    (h4 : PySem.W.codeHdIn K c P = true) : tabOf K x m = P := by
  unfold PySem.W.codeHdIn at h4
  split at h4
  · rename_i vs _ hk
    simp only [Bool.and_eq_true] at h4
    obtain ⟨⟨⟨⟨⟨e1, _⟩, _⟩, _⟩, _⟩, _⟩ := h4
    split at e1
    · rename_i P' h11
      have hP : P' = P := beq_iff_eq.mp e1
      subst hP
      unfold tabOf
      simp only [h1, h2, h3, hk, h11]
    · cases e1
  · cases h4
end L2
set_option Elab.async false
set_option linter.all false
set_option maxRecDepth 100000
set_option maxHeartbeats 4000000
namespace L2
open PySem PySem.Spec PyProof.Rows
end L2
set_option Elab.async false
set_option linter.all false
set_option maxRecDepth 100000
set_option maxHeartbeats 4000000
namespace L2
open PySem PySem.F PyProof.Rows PySem.MeetsSeq
variable {K : PySem.W.Frag} {X : Cx} {pins : List Pin} {σ : St} {H : Hp} {s : Shared}
theorem pe_bmC {e : PySem.Expr} {T : String} {r : V → List V → Hp → VK → Prop} {to : TE} {t : TA} (hK : X.K = K) (h : PE X e (tBM X.K T r to t)) : PE X e (tBM K T r to t) := by
  subst hK; exact h
end L2
set_option Elab.async false
set_option linter.all false
set_option maxRecDepth 100000
set_option maxHeartbeats 4000000
namespace L2
open PySem PySem.Calls PyProof.Rows PySem.MeetsSeq PySem.W
variable {K : PySem.W.Frag} {X : Cx} {pins : List Pin} {σ : St} {H : Hp} {s : Shared}
theorem pe_methN0 {C : Addr} {m : Str} {k : Nat} {ps : List Str} {sp : Sp} {o : PySem.Expr} {ta : TE} {apos pos : Pos} {pl : Sem Bool} (M : MDef X.prog X.w X.K X.mg X.base C m k ps sp) (hr : Room k X.A) (c : Cls X.K C) (he : PE X o ta)
    (ht : eval (.Call (.Attribute o m apos) [] [] pos) X.env = (do
      let ov ← eval o X.env
      standAt apos.atName
      let (f, first) ← holding [ov] (getMethod ov m pl)
      callWith pos f first (backTo pos (starEach [] X.env)) (backToKw pos (keywordEach [] X.env))) := by rfl) :
    PE X (.Call (.Attribute o m apos) [] [] pos) (tMeth C m sp [] E0 ta tNil) := by
  obtain ⟨f, fd, F, hm, hb⟩ := M
  exact pe_meth0 he c hm F hr hb .nil (fun _ _ _ _ _ _ _ z => z.elim) ht
end L2
set_option Elab.async false
set_option linter.all false
set_option maxRecDepth 100000
set_option maxHeartbeats 4000000
namespace L2
open PySem PySem.Calls PySem.Spec PyProof.Rows PySem.W
end L2
set_option Elab.async false
set_option linter.all false
set_option maxRecDepth 100000
set_option maxHeartbeats 4000000
namespace L2
open PySem PySem.Calls PySem.Spec PyProof.Rows PySem.W
end L2
set_option Elab.async false
set_option linter.all false
set_option maxRecDepth 100000
set_option maxHeartbeats 4000000
namespace L2
open PySem PySem.Calls PySem.Spec PyProof.Rows PySem.W
end L2
set_option Elab.async false
set_option linter.all false
set_option maxRecDepth 100000
set_option maxHeartbeats 4000000
namespace L2
open PySem PySem.Calls PySem.Spec PyProof.Rows PySem.W Builtin Builtin.ObjectAttr Builtin.Getset_descriptor
end L2
set_option Elab.async false
set_option linter.all false
set_option maxRecDepth 100000
set_option maxHeartbeats 4000000
namespace L2
open PySem PySem.Calls PySem.Spec PyProof.Rows PySem.W
end L2
namespace L2
open PySem PySem.Calls PySem.Spec PyProof.Rows PySem.W
end L2
set_option Elab.async false
set_option linter.all false
set_option maxRecDepth 100000
set_option maxHeartbeats 4000000
namespace L2
open PySem PySem.Calls PySem.Spec PyProof.Rows PySem.W
structure ClsFn (K : PySem.W.Frag) (C : Addr) (m : Str) (f : Addr) : Prop where
  ga : PySem.W.specialIn K (.ref C) "__getattribute__" = some (some (.builtin "type.__getattribute__"))
  rd : ∃ mc, PySem.W.readsIn K C mc = true ∧ PySem.W.findCls K (.ref C) mc m = some (.val (.ref f))
  kp : PySem.W.keepIn K (.ref f) = true
structure CDef (P : Program) (w : World) (K : PySem.W.Frag) (mg : Str → Option Value) (base : Heap) (x m : Str) (k : Nat) (ps : List Str) (sp : Sp) : Prop where
  ex : ∃ (C f : Addr) (fd : FuncData), FnOk P w K mg base CX0 k f fd ps sp ∧ ClsFn K C m f ∧ mg x = some (.ref C) ∧ Binds K fd ps []
section
variable {X : Cx} {x m : Str} {p pos apos : Pos} {e o : PySem.Expr} {es : List PySem.Expr} {ta : TE} {t : TA} {k : Nat} {ps : List Str} {sp : Sp} {C : Addr}
theorem pe_clsN {pl : Sem Bool} (M : CDef X.prog X.w X.K X.mg X.base x m k ps sp) (hr : Room k X.A) (hg : Gl X x) (ha : PA X (e :: es) t) (hn : NSs (e :: es) := by repeat' (first | exact True.intro | refine ⟨?_, ?_⟩)) (hd : (x == ("__debug__" : Str)) = false := by decide)
    (ht : eval (.Call (.Attribute (.Name x p) m apos) (e :: es) [] pos) X.env = (do
      let ov ← eval (.Name x p) X.env
      standAt apos.atName
      let (f, first) ← holding [ov] (getMethod ov m pl)
      callWith pos f first (backTo pos (starEach (e :: es) X.env)) (backToKw pos (keywordEach [] X.env))) := by rfl) :
    PE X (.Call (.Attribute (.Name x p) m apos) (e :: es) [] pos) (tCall sp [] E0 t) := by
  obtain ⟨C, f, fd, F, c, hm, hb⟩ := M.ex
  obtain ⟨mc, hr1, hr2⟩ := c.rd
  intro pins s σ H Q I h
  have he : PE X (.Name x p) (tC (.ref C)) := pe_glob (v := .ref C) hg hm rfl hd
  refine PySem.W.methodCall_KW (pl := pl) (thn (he pins s σ H (fun v H1 => v = .ref C ∧ H1 = H) I ⟨rfl, rfl⟩) fun u s1 ⟨x, H1, I1, rx, e1, e2⟩ => ?_) ht
  subst e1 e2
  obtain rfl : u = Value.ref C := rx
  have I2 : Inv X pins σ H1 { s1 with toks := s1.toks + 1 } := I1.kept (t' := s1.toks + 1) fun b o e => e
  refine PySem.W.method_cls I1.kIn c.ga (PySem.W.cls_value I1.kIn hr1 hr2 rfl ?_)
  refine PySem.W.callWith_K (first := []) (h₀ := X.base) I.ok.mod.kin c.kp (thn (ha pos pins _ σ H1 _ I2 h) fun us s2 ⟨vs, H2, I3, r, q2⟩ => ⟨I3.kIn, ?_⟩) (star_ns hn.1) (back_ns hn.2)
  exact run_fn (us := us) (vs := vs) F hr hb .nil pass0 I3 r q2
end
theorem Room.m {j k : Nat} {A : Around} (r : Room k A) (h : j ≤ k := by first | decide | omega) : Room j A := r.mono h
section
variable {X : Cx} {pos : Pos}
theorem pgn (i : Nat) {x : Str} (hN : X.N.Nodup) (hi : X.N[i]? = some x := by rfl) (hx : Loc X.env.scope x := by first | exact Or.inl rfl | exact Or.inr rfl) (hf : X.fn x = true ∨ X.env.scope.names.lookup x = some .local := by first | exact .inl rfl | exact .inr rfl | assumption) : PG X (.Name x pos) (gName i) := pg_name hN hi hx hf
theorem pst (i : Nat) {x : Str} {e : PySem.Expr} {te : TE} {pos' : Pos} (hN : X.N.Nodup) (he : PE X e te) (hi : X.N[i]? = some x := by rfl) (hx : Loc X.env.scope x := by first | exact Or.inl rfl | exact Or.inr rfl) (hs : swapsWith e (some (.Name x pos')) pos.line X.env = pure false := by rfl) (hf : X.fn x = true ∨ X.env.scope.names.lookup x = some .local := by first | exact .inl rfl | exact .inr rfl | assumption) : PS X (.Assign [.Name x pos'] e pos) (tAsg te (gName i)) := ps_set hN hi hx he hs hf
end
end L2
set_option Elab.async false
set_option linter.all false
set_option maxRecDepth 100000
set_option maxHeartbeats 4000000
namespace Mine
open PySem L2
def top (i : Nat) : Stmt := PySem.Challenge.pw_nearstairs_k36_founds_by_boards_alone.main.body.getD i (.Pass ⟨0, 0, 0, 0⟩)
abbrev s_board_of : Stmt := top 2
abbrev N_board_of : List Str := ["size", "spot"]
abbrev P_board_of : List Str := ["size", "spot"]
theorem sc_board_of : FnScope N_board_of P_board_of (defScope s_board_of) := ⟨rfl, rfl, rfl, by decide +kernel, rfl, by decide +kernel, by decide +kernel⟩
abbrev s_spots_of : Stmt := top 3
abbrev N_spots_of : List Str := ["size", "board", "first"]
abbrev P_spots_of : List Str := ["size", "board"]
theorem sc_spots_of : FnScope N_spots_of P_spots_of (defScope s_spots_of) := ⟨rfl, rfl, rfl, by decide +kernel, rfl, by decide +kernel, by decide +kernel⟩
abbrev s_shelf_of : Stmt := top 4
abbrev N_shelf_of : List Str := ["shelves", "board"]
abbrev P_shelf_of : List Str := ["shelves", "board"]
theorem sc_shelf_of : FnScope N_shelf_of P_shelf_of (defScope s_shelf_of) := ⟨rfl, rfl, rfl, by decide +kernel, rfl, by decide +kernel, by decide +kernel⟩
abbrev s_Room_init : Stmt := inClass (top 12) 0
abbrev N_Room_init : List Str := ["self", "shelves", "places", "rule"]
abbrev P_Room_init : List Str := ["self", "shelves", "places", "rule"]
theorem sc_Room_init : FnScope N_Room_init P_Room_init (defScope s_Room_init) := ⟨rfl, rfl, rfl, by decide +kernel, rfl, by decide +kernel, by decide +kernel⟩
abbrev s_Room_has : Stmt := inClass (top 12) 1
abbrev N_Room_has : List Str := ["self", "board"]
abbrev P_Room_has : List Str := ["self", "board"]
theorem sc_Room_has : FnScope N_Room_has P_Room_has (defScope s_Room_has) := ⟨rfl, rfl, rfl, by decide +kernel, rfl, by decide +kernel, by decide +kernel⟩
abbrev s_Room_bring : Stmt := inClass (top 12) 2
abbrev N_Room_bring : List Str := ["self", "board", "out"]
abbrev P_Room_bring : List Str := ["self", "board"]
theorem sc_Room_bring : FnScope N_Room_bring P_Room_bring (defScope s_Room_bring) := ⟨rfl, rfl, rfl, by decide +kernel, rfl, by decide +kernel, by decide +kernel⟩
abbrev s_Room_use : Stmt := inClass (top 12) 3
abbrev N_Room_use : List Str := ["self", "board", "mates"]
abbrev P_Room_use : List Str := ["self", "board"]
theorem sc_Room_use : FnScope N_Room_use P_Room_use (defScope s_Room_use) := ⟨rfl, rfl, rfl, by decide +kernel, rfl, by decide +kernel, by decide +kernel⟩
abbrev s_Room_drop : Stmt := inClass (top 12) 4
abbrev N_Room_drop : List Str := ["self", "board"]
abbrev P_Room_drop : List Str := ["self", "board"]
theorem sc_Room_drop : FnScope N_Room_drop P_Room_drop (defScope s_Room_drop) := ⟨rfl, rfl, rfl, by decide +kernel, rfl, by decide +kernel, by decide +kernel⟩
abbrev s_Room_need : Stmt := inClass (top 12) 7
abbrev N_Room_need : List Str := ["self", "board"]
abbrev P_Room_need : List Str := ["self", "board"]
theorem sc_Room_need : FnScope N_Room_need P_Room_need (defScope s_Room_need) := ⟨rfl, rfl, rfl, by decide +kernel, rfl, by decide +kernel, by decide +kernel⟩
abbrev s_Room_mates : Stmt := inClass (top 12) 8
abbrev N_Room_mates : List Str := ["self", "board"]
abbrev P_Room_mates : List Str := ["self", "board"]
theorem sc_Room_mates : FnScope N_Room_mates P_Room_mates (defScope s_Room_mates) := ⟨rfl, rfl, rfl, by decide +kernel, rfl, by decide +kernel, by decide +kernel⟩
abbrev s_Room_leaver_for : Stmt := inClass (top 12) 9
abbrev N_Room_leaver_for : List Str := ["self", "board", "mates"]
abbrev P_Room_leaver_for : List Str := ["self", "board"]
theorem sc_Room_leaver_for : FnScope N_Room_leaver_for P_Room_leaver_for (defScope s_Room_leaver_for) := ⟨rfl, rfl, rfl, by decide +kernel, rfl, by decide +kernel, by decide +kernel⟩
abbrev s_Room_going : Stmt := inClass (top 12) 10
abbrev N_Room_going : List Str := ["self", "mates"]
abbrev P_Room_going : List Str := ["self", "mates"]
theorem sc_Room_going : FnScope N_Room_going P_Room_going (defScope s_Room_going) := ⟨rfl, rfl, rfl, by decide +kernel, rfl, by decide +kernel, by decide +kernel⟩
abbrev s_Store_init : Stmt := inClass (top 14) 0
abbrev N_Store_init : List Str := ["self", "room_plan", "shelves", "places", "rule", "writing"]
abbrev P_Store_init : List Str := ["self", "room_plan"]
theorem sc_Store_init : FnScope N_Store_init P_Store_init (defScope s_Store_init) := ⟨rfl, rfl, rfl, by decide +kernel, rfl, by decide +kernel, by decide +kernel⟩
abbrev s_Store_has : Stmt := inClass (top 14) 1
abbrev N_Store_has : List Str := ["self", "board"]
abbrev P_Store_has : List Str := ["self", "board"]
theorem sc_Store_has : FnScope N_Store_has P_Store_has (defScope s_Store_has) := ⟨rfl, rfl, rfl, by decide +kernel, rfl, by decide +kernel, by decide +kernel⟩
abbrev s_Store_take_in : Stmt := inClass (top 14) 2
abbrev N_Store_take_in : List Str := ["self", "board", "words"]
abbrev P_Store_take_in : List Str := ["self", "board", "words"]
theorem sc_Store_take_in : FnScope N_Store_take_in P_Store_take_in (defScope s_Store_take_in) := ⟨rfl, rfl, rfl, by decide +kernel, rfl, by decide +kernel, by decide +kernel⟩
abbrev s_Store_give_out : Stmt := inClass (top 14) 3
abbrev N_Store_give_out : List Str := ["self", "board"]
abbrev P_Store_give_out : List Str := ["self", "board"]
theorem sc_Store_give_out : FnScope N_Store_give_out P_Store_give_out (defScope s_Store_give_out) := ⟨rfl, rfl, rfl, by decide +kernel, rfl, by decide +kernel, by decide +kernel⟩
abbrev s_Store_words_of : Stmt := inClass (top 14) 4
abbrev N_Store_words_of : List Str := ["self", "board"]
abbrev P_Store_words_of : List Str := ["self", "board"]
theorem sc_Store_words_of : FnScope N_Store_words_of P_Store_words_of (defScope s_Store_words_of) := ⟨rfl, rfl, rfl, by decide +kernel, rfl, by decide +kernel, by decide +kernel⟩
abbrev s_Store_lay : Stmt := inClass (top 14) 5
abbrev N_Store_lay : List Str := ["self", "board", "words"]
abbrev P_Store_lay : List Str := ["self", "board", "words"]
theorem sc_Store_lay : FnScope N_Store_lay P_Store_lay (defScope s_Store_lay) := ⟨rfl, rfl, rfl, by decide +kernel, rfl, by decide +kernel, by decide +kernel⟩
abbrev s_Memory_init : Stmt := inClass (top 15) 0
abbrev N_Memory_init : List Str := ["self", "size"]
abbrev P_Memory_init : List Str := ["self", "size"]
theorem sc_Memory_init : FnScope N_Memory_init P_Memory_init (defScope s_Memory_init) := ⟨rfl, rfl, rfl, by decide +kernel, rfl, by decide +kernel, by decide +kernel⟩
abbrev s_Memory_words_of : Stmt := inClass (top 15) 2
abbrev N_Memory_words_of : List Str := ["self", "board"]
abbrev P_Memory_words_of : List Str := ["self", "board"]
theorem sc_Memory_words_of : FnScope N_Memory_words_of P_Memory_words_of (defScope s_Memory_words_of) := ⟨rfl, rfl, rfl, by decide +kernel, rfl, by decide +kernel, by decide +kernel⟩
abbrev s_Steps_init : Stmt := inClass (top 17) 0
abbrev N_Steps_init : List Str := ["self", "size", "room_plans"]
abbrev P_Steps_init : List Str := ["self", "size", "room_plans"]
theorem sc_Steps_init : FnScope N_Steps_init P_Steps_init (defScope s_Steps_init) := ⟨rfl, rfl, rfl, by decide +kernel, rfl, by decide +kernel, by decide +kernel⟩
abbrev s_Steps_words : Stmt := inClass (top 17) 3
abbrev N_Steps_words : List Str := ["self", "k", "board"]
abbrev P_Steps_words : List Str := ["self", "k", "board"]
theorem sc_Steps_words : FnScope N_Steps_words P_Steps_words (defScope s_Steps_words) := ⟨rfl, rfl, rfl, by decide +kernel, rfl, by decide +kernel, by decide +kernel⟩
abbrev s_Steps_store : Stmt := inClass (top 17) 5
abbrev N_Steps_store : List Str := ["self", "k"]
abbrev P_Steps_store : List Str := ["self", "k"]
theorem sc_Steps_store : FnScope N_Steps_store P_Steps_store (defScope s_Steps_store) := ⟨rfl, rfl, rfl, by decide +kernel, rfl, by decide +kernel, by decide +kernel⟩
abbrev s_Steps_happened : Stmt := inClass (top 17) 6
abbrev N_Steps_happened : List Str := ["self", "events"]
abbrev P_Steps_happened : List Str := ["self"]
theorem sc_Steps_happened : FnScope N_Steps_happened P_Steps_happened (defScope s_Steps_happened) := ⟨rfl, rfl, rfl, by decide +kernel, rfl, by decide +kernel, by decide +kernel⟩
abbrev s_Steps_leaver : Stmt := inClass (top 17) 7
abbrev N_Steps_leaver : List Str := ["self", "k", "board"]
abbrev P_Steps_leaver : List Str := ["self", "k", "board"]
theorem sc_Steps_leaver : FnScope N_Steps_leaver P_Steps_leaver (defScope s_Steps_leaver) := ⟨rfl, rfl, rfl, by decide +kernel, rfl, by decide +kernel, by decide +kernel⟩
abbrev s_Steps_tell_found : Stmt := inClass (top 17) 8
abbrev N_Steps_tell_found : List Str := ["self", "k"]
abbrev P_Steps_tell_found : List Str := ["self", "k"]
theorem sc_Steps_tell_found : FnScope N_Steps_tell_found P_Steps_tell_found (defScope s_Steps_tell_found) := ⟨rfl, rfl, rfl, by decide +kernel, rfl, by decide +kernel, by decide +kernel⟩
abbrev s_Steps_use_in : Stmt := inClass (top 17) 9
abbrev N_Steps_use_in : List Str := ["self", "k", "board"]
abbrev P_Steps_use_in : List Str := ["self", "k", "board"]
theorem sc_Steps_use_in : FnScope N_Steps_use_in P_Steps_use_in (defScope s_Steps_use_in) := ⟨rfl, rfl, rfl, by decide +kernel, rfl, by decide +kernel, by decide +kernel⟩
abbrev s_Steps_come_in : Stmt := inClass (top 17) 10
abbrev N_Steps_come_in : List Str := ["self", "k", "board", "words"]
abbrev P_Steps_come_in : List Str := ["self", "k", "board", "words"]
theorem sc_Steps_come_in : FnScope N_Steps_come_in P_Steps_come_in (defScope s_Steps_come_in) := ⟨rfl, rfl, rfl, by decide +kernel, rfl, by decide +kernel, by decide +kernel⟩
abbrev s_Steps_go_out : Stmt := inClass (top 17) 11
abbrev N_Steps_go_out : List Str := ["self", "k", "board"]
abbrev P_Steps_go_out : List Str := ["self", "k", "board"]
theorem sc_Steps_go_out : FnScope N_Steps_go_out P_Steps_go_out (defScope s_Steps_go_out) := ⟨rfl, rfl, rfl, by decide +kernel, rfl, by decide +kernel, by decide +kernel⟩
abbrev s_Steps_put : Stmt := inClass (top 17) 12
abbrev P_Steps_put : List Str := ["self", "k", "board", "words"]
abbrev s_Steps_word_in : Stmt := inClass (top 17) 13
abbrev N_Steps_word_in : List Str := ["self", "k", "spot"]
abbrev P_Steps_word_in : List Str := ["self", "k", "spot"]
theorem sc_Steps_word_in : FnScope N_Steps_word_in P_Steps_word_in (defScope s_Steps_word_in) := ⟨rfl, rfl, rfl, by decide +kernel, rfl, by decide +kernel, by decide +kernel⟩
abbrev s_Stairs_init : Stmt := inClass (top 19) 0
abbrev N_Stairs_init : List Str := ["self", "plan", "size", "kind", "room_plans"]
abbrev P_Stairs_init : List Str := ["self", "plan"]
theorem sc_Stairs_init : FnScope N_Stairs_init P_Stairs_init (defScope s_Stairs_init) := ⟨rfl, rfl, rfl, by decide +kernel, rfl, by decide +kernel, by decide +kernel⟩
abbrev s_Stairs_read : Stmt := inClass (top 19) 1
abbrev N_Stairs_read : List Str := ["self", "spot", "board"]
abbrev P_Stairs_read : List Str := ["self", "spot"]
theorem sc_Stairs_read : FnScope N_Stairs_read P_Stairs_read (defScope s_Stairs_read) := ⟨rfl, rfl, rfl, by decide +kernel, rfl, by decide +kernel, by decide +kernel⟩
abbrev s_Stairs_fetch : Stmt := inClass (top 19) 5
abbrev N_Stairs_fetch : List Str := ["self", "board", "k"]
abbrev P_Stairs_fetch : List Str := ["self", "board"]
theorem sc_Stairs_fetch : FnScope N_Stairs_fetch P_Stairs_fetch (defScope s_Stairs_fetch) := ⟨rfl, rfl, rfl, by decide +kernel, rfl, by decide +kernel, by decide +kernel⟩
abbrev s_Stairs_nearest : Stmt := inClass (top 19) 6
abbrev N_Stairs_nearest : List Str := ["self", "board", "k", "store"]
abbrev P_Stairs_nearest : List Str := ["self", "board"]
theorem sc_Stairs_nearest : FnScope N_Stairs_nearest P_Stairs_nearest (defScope s_Stairs_nearest) := ⟨rfl, rfl, rfl, by decide +kernel, rfl, by decide +kernel, by decide +kernel⟩
abbrev s_Stairs_change : Stmt := inClass (top 19) 7
abbrev P_Stairs_change : List Str := ["self", "k", "board"]
abbrev s_Stairs_go_on : Stmt := inClass (top 19) 8
abbrev P_Stairs_go_on : List Str := ["self", "k", "board", "words"]
abbrev s_Stairs_fetch_down : Stmt := inClass (top 19) 9
abbrev N_Stairs_fetch_down : List Str := ["self", "k", "board", "words", "near", "out"]
abbrev P_Stairs_fetch_down : List Str := ["self", "k", "board"]
theorem sc_Stairs_fetch_down : FnScope N_Stairs_fetch_down P_Stairs_fetch_down (defScope s_Stairs_fetch_down) := ⟨rfl, rfl, rfl, by decide +kernel, rfl, by decide +kernel, by decide +kernel⟩
abbrev s_Stairs_drive_out : Stmt := inClass (top 19) 10
abbrev N_Stairs_drive_out : List Str := ["self", "k", "board", "words", "fresh", "near", "fresh_near"]
abbrev P_Stairs_drive_out : List Str := ["self", "k", "board"]
theorem sc_Stairs_drive_out : FnScope N_Stairs_drive_out P_Stairs_drive_out (defScope s_Stairs_drive_out) := ⟨rfl, rfl, rfl, by decide +kernel, rfl, by decide +kernel, by decide +kernel⟩
abbrev s_Stairs_fetch_apart : Stmt := inClass (top 19) 11
abbrev N_Stairs_fetch_apart : List Str := ["self", "k", "board", "words", "fresh"]
abbrev P_Stairs_fetch_apart : List Str := ["self", "k", "board"]
theorem sc_Stairs_fetch_apart : FnScope N_Stairs_fetch_apart P_Stairs_fetch_apart (defScope s_Stairs_fetch_apart) := ⟨rfl, rfl, rfl, by decide +kernel, rfl, by decide +kernel, by decide +kernel⟩
abbrev s_Stairs_push : Stmt := inClass (top 19) 12
abbrev N_Stairs_push : List Str := ["self", "k", "board", "words", "fresh", "out", "out_words", "out_fresh"]
abbrev P_Stairs_push : List Str := ["self", "k", "board", "words", "fresh"]
theorem sc_Stairs_push : FnScope N_Stairs_push P_Stairs_push (defScope s_Stairs_push) := ⟨rfl, rfl, rfl, by decide +kernel, rfl, by decide +kernel, by decide +kernel⟩
abbrev s_Stairs_come_apart : Stmt := inClass (top 19) 13
abbrev N_Stairs_come_apart : List Str := ["self", "k", "board", "words", "fresh"]
abbrev P_Stairs_come_apart : List Str := ["self", "k", "board", "words", "fresh"]
theorem sc_Stairs_come_apart : FnScope N_Stairs_come_apart P_Stairs_come_apart (defScope s_Stairs_come_apart) := ⟨rfl, rfl, rfl, by decide +kernel, rfl, by decide +kernel, by decide +kernel⟩
abbrev s_found_by : Stmt := top 21
abbrev N_found_by : List Str := ["stairs", "spot", "word", "events", "name", "k"]
abbrev P_found_by : List Str := ["stairs", "spot"]
theorem sc_found_by : FnScope N_found_by P_found_by (defScope s_found_by) := ⟨rfl, rfl, rfl, by decide +kernel, rfl, by decide +kernel, by decide +kernel⟩
abbrev s_founds : Stmt := top 22
abbrev N_founds : List Str := ["plan", "row", "size", "kind", "rooms", "stairs"]
abbrev P_founds : List Str := ["plan", "row"]
theorem sc_founds : FnScope N_founds P_founds (defScope s_founds) := ⟨rfl, rfl, rfl, by decide +kernel, rfl, by decide +kernel, by decide +kernel⟩
abbrev s_missed_by_stair : Stmt := top 23
abbrev N_missed_by_stair : List Str := ["plan", "row", "size", "kind", "rooms", "told"]
abbrev P_missed_by_stair : List Str := ["plan", "row"]
theorem sc_missed_by_stair : FnScope N_missed_by_stair P_missed_by_stair (defScope s_missed_by_stair) := ⟨rfl, rfl, rfl, by decide +kernel, rfl, by decide +kernel, by decide +kernel⟩
abbrev s_box : Stmt := top 25
abbrev N_box : List Str := ["_law_script", "_law_k", "_law_cell"]
abbrev P_box : List Str := ["_law_script", "_law_k"]
theorem sc_box : FnScope N_box P_box (defScope s_box) := ⟨rfl, rfl, rfl, by decide +kernel, rfl, by decide +kernel, by decide +kernel⟩
abbrev s_take : Stmt := top 26
abbrev N_take : List Str := ["_law_box_here", "_law_size", "_law_found", "_law_step", "_law_once", "_law_twice"]
abbrev P_take : List Str := ["_law_box_here", "_law_size"]
theorem sc_take : FnScope N_take P_take (defScope s_take) := ⟨rfl, rfl, rfl, by decide +kernel, rfl, by decide +kernel, by decide +kernel⟩
abbrev s_folded : Stmt := top 27
abbrev N_folded : List Str := ["_law_script", "_law_size", "_law_cells", "_law_k", "_law_cell"]
abbrev P_folded : List Str := ["_law_script", "_law_size"]
theorem sc_folded : FnScope N_folded P_folded (defScope s_folded) := ⟨rfl, rfl, rfl, by decide +kernel, rfl, by decide +kernel, by decide +kernel⟩
abbrev s_room_plan : Stmt := top 28
abbrev N_room_plan : List Str := ["_law_box_here", "_law_far", "_law_shelves", "_law_places", "_law_rule"]
abbrev P_room_plan : List Str := ["_law_box_here"]
theorem sc_room_plan : FnScope N_room_plan P_room_plan (defScope s_room_plan) := ⟨rfl, rfl, rfl, by decide +kernel, rfl, by decide +kernel, by decide +kernel⟩
abbrev s_plan : Stmt := top 29
abbrev N_plan : List Str := ["_law_box_here", "_law_kind", "_law_size"]
abbrev P_plan : List Str := ["_law_box_here"]
theorem sc_plan : FnScope N_plan P_plan (defScope s_plan) := ⟨rfl, rfl, rfl, by decide +kernel, rfl, by decide +kernel, by decide +kernel⟩
abbrev s_some_boards : Stmt := top 30
abbrev N_some_boards : List Str := ["_law_box_here", "_law_size", "_law_many_here", "_law_way", "_law_begin", "_law_first", "_law_found", "_law_far", "_law_k", "_law_at"]
abbrev P_some_boards : List Str := ["_law_box_here", "_law_size"]
theorem sc_some_boards : FnScope N_some_boards P_some_boards (defScope s_some_boards) := ⟨rfl, rfl, rfl, by decide +kernel, rfl, by decide +kernel, by decide +kernel⟩
abbrev s_many : Stmt := top 31
abbrev N_many : List Str := ["_law_box_here", "_law_few", "_law_most", "_law_great"]
abbrev P_many : List Str := ["_law_box_here", "_law_few", "_law_most"]
theorem sc_many : FnScope N_many P_many (defScope s_many) := ⟨rfl, rfl, rfl, by decide +kernel, rfl, by decide +kernel, by decide +kernel⟩
abbrev s_boxes : Stmt := top 32
abbrev N_boxes : List Str := ["_law_script", "_law_size", "_law_cells"]
abbrev P_boxes : List Str := ["_law_script", "_law_size"]
theorem sc_boxes : FnScope N_boxes P_boxes (defScope s_boxes) := ⟨rfl, rfl, rfl, by decide +kernel, rfl, by decide +kernel, by decide +kernel⟩
abbrev s_row : Stmt := top 33
abbrev N_row : List Str := ["_law_box_here", "_law_size", "_law_most", "_law_some", "_law_way", "_law_found", "_law_k", "_law_at"]
abbrev P_row : List Str := ["_law_box_here", "_law_size", "_law_most"]
theorem sc_row : FnScope N_row P_row (defScope s_row) := ⟨rfl, rfl, rfl, by decide +kernel, rfl, by decide +kernel, by decide +kernel⟩
abbrev s_otherwise : Stmt := top 34
abbrev N_otherwise : List Str := ["_law_box_here", "_law_plan_here", "_law_size", "_law_kind", "_law_rooms", "_law_some"]
abbrev P_otherwise : List Str := ["_law_box_here", "_law_plan_here"]
theorem sc_otherwise : FnScope N_otherwise P_otherwise (defScope s_otherwise) := ⟨rfl, rfl, rfl, by decide +kernel, rfl, by decide +kernel, by decide +kernel⟩
abbrev s_product : Stmt := top 35
abbrev N_product : List Str := ["_law_plan_here", "_law_found", "_law_one"]
abbrev P_product : List Str := ["_law_plan_here"]
theorem sc_product : FnScope N_product P_product (defScope s_product) := ⟨rfl, rfl, rfl, by decide +kernel, rfl, by decide +kernel, by decide +kernel⟩
abbrev s_law : Stmt := top 36
abbrev N_law : List Str := ["_law_script", "_law_box_here", "_law_plan_here", "_law_row_here", "_law_handed", "_law_due", "_law_off", "_law_cut", "_law_k", "_law_board", "_law_missed"]
abbrev P_law : List Str := ["_law_script"]
theorem sc_law : FnScope N_law P_law (defScope s_law) := ⟨rfl, rfl, rfl, by decide +kernel, rfl, by decide +kernel, by decide +kernel⟩
structure Txt (K : PySem.W.Frag) (mg : Str → Option Value) : Prop where
  z_abs : mg "abs" = none
  z_all : mg "all" = none
  z_divmod : mg "divmod" = none
  z_enumerate : mg "enumerate" = none
  z_int : mg "int" = none
  z_len : mg "len" = none
  z_list : mg "list" = none
  z_max : mg "max" = none
  z_range : mg "range" = none
  z_set : mg "set" = none
  z_sorted : mg "sorted" = none
  z_tuple : mg "tuple" = none
  z_zip : mg "zip" = none
  cl_Room : Cls K (clsOf K "Room")
  n_Room_places : NoAttr K (clsOf K "Room") "places"
  n_Room_rule : NoAttr K (clsOf K "Room") "rule"
  n_Room_shelves : NoAttr K (clsOf K "Room") "shelves"
  n_Room_standing : NoAttr K (clsOf K "Room") "standing"
  n_Room_uses : NoAttr K (clsOf K "Room") "uses"
  cl_Store : Cls K (clsOf K "Store")
  n_Store_fresh : NoAttr K (clsOf K "Store") "fresh"
  n_Store_held : NoAttr K (clsOf K "Store") "held"
  n_Store_late : NoAttr K (clsOf K "Store") "late"
  n_Store_room : NoAttr K (clsOf K "Store") "room"
  cl_Memory : Cls K (clsOf K "Memory")
  n_Memory_kept : NoAttr K (clsOf K "Memory") "kept"
  n_Memory_size : NoAttr K (clsOf K "Memory") "size"
  cl_Stairs : Cls K (clsOf K "Stairs")
  n_Stairs_bottom : NoAttr K (clsOf K "Stairs") "bottom"
  n_Stairs_events : NoAttr K (clsOf K "Stairs") "events"
  n_Stairs_kind : NoAttr K (clsOf K "Stairs") "kind"
  n_Stairs_last : NoAttr K (clsOf K "Stairs") "last"
  n_Stairs_size : NoAttr K (clsOf K "Stairs") "size"
  n_Stairs_stores : NoAttr K (clsOf K "Stairs") "stores"
structure BoxAt (H : Hp) (b : Addr) (a q c : Int) : Prop where
  at' : H b = some (.lst [.int a, .int q, .int c])
  a0 : 0 ≤ a
  q0 : 0 ≤ q
  q1 : q < 2147483647
  c0 : 0 ≤ c
theorem BoxAt.sb {H H' : Hp} {b x : Addr} {a q c : Int} (B : BoxAt H b a q c) (s : SB x H H') (n : b ≠ x) : BoxAt H' b a q c := ⟨s _ _ n B.at', B.a0, B.q0, B.q1, B.c0⟩
theorem BoxAt.same {H H' : Hp} {b : Addr} {a q c : Int} (B : BoxAt H b a q c) (s : Same H H') : BoxAt H' b a q c := ⟨s _ _ B.at', B.a0, B.q0, B.q1, B.c0⟩
def spTake : Sp := fun vs H Q _ => ∃ (b : Addr) (a q c n : Int), vs = [.ref b, .int n] ∧ BoxAt H b a q c ∧ c < 1099511627776 ∧ 0 < n ∧ n < 1073741824 ∧
  ∀ (r a' c' : Int) (H' : Hp), 0 ≤ r → r < n → BoxAt H' b a' q c' → c' ≤ c + 1 → SB b H H' → Q (.int r) H'
section
variable {P : Program} {w : World} {K : PySem.W.Frag} {mg : Str → Option Value} {base : Heap}
theorem em0 (a : Int) {b : Int} (h : 0 < b) : 0 ≤ a % b := Int.emod_nonneg a (by omega)
theorem em1 (a : Int) {b : Int} (h : 0 < b) : a % b < b := Int.emod_lt_of_pos a h
theorem ok_take {f : Addr} {fd : FuncData} (F : Fun K "_law_take" "_law_take" s_take f fd) (T : Txt K mg) : FnOk P w K mg base CX0 1 f fd P_take spTake := by
  refine F.ok sc_take (fun vs H Q E h => ?_) (fun cdv A outer s H vs Q E hr h => ?_)
  · obtain ⟨b, a, q, c, n, rfl, _⟩ := h
    rfl
  obtain ⟨b, a, q, c, n, rfl, B, hc, hn0, hn1, k⟩ := h
  have nd := sc_take.nd
  refine ⟨_, (pss_cons (ps_if (pt_cmpR op_gt (pe_ix (ix_listK (K := K) rfl) (pv 0) pe_int (fun _ _ => rfl)) pe_int (nomark _)) (pss_cons (ps_asg (pe_callBN call_divmod rfl T.z_divmod boot_divmod (pc (pe_ix (ix_listK (K := K) rfl) (pv 0) pe_int (fun _ _ => rfl)) (pc (pv 1) pa_nil))) (pg_tupK (K := K) (n := 2) rfl rfl (pgs_cons (pg_sub (pv 0) pe_int set_list) (pgs_cons (pgn 2 nd) pgs_nil))))
      (pss_one (ps_ret (pv 2)))) pss_nil)
      (pss_cons (ps_asg (pe_op op_add (pe_ix (ix_listK (K := K) rfl) (pv 0) pe_int (fun _ _ => rfl)) pe_int) (pg_sub (pv 0) pe_int set_list))
      (pss_cons (pst 3 nd (pe_op op_add pe_int (pe_op op_mul (pe_ix (ix_listK (K := K) rfl) (pv 0) pe_int (fun _ _ => rfl)) (pe_ix (ix_listK (K := K) rfl) (pv 0) pe_int (fun _ _ => rfl)))))
      (pss_cons (pst 4 nd (pe_op op_mod (pe_op op_mul (pe_op op_add (pe_ix (ix_listK (K := K) rfl) (pv 0) pe_int (fun _ _ => rfl)) (pe_op op_mul pe_int (pe_ix (ix_listK (K := K) rfl) (pv 0) pe_int (fun _ _ => rfl)))) (pv 3)) pe_int))
      (pss_cons (pst 5 nd (pe_op op_mod (pe_op op_add (pe_op op_mul (pv 4) (pe_op op_add (pe_op op_mod (pv 4) pe_int) pe_int)) (pe_ix (ix_listK (K := K) rfl) (pv 0) pe_int (fun _ _ => rfl))) pe_int))
      (pss_one (ps_ret (pe_op op_mod (pe_op op_fdiv (pe_op op_mod (pe_op op_mul (pv 5) (pe_op op_add (pe_op op_mod (pv 5) pe_int) pe_int)) pe_int) pe_int) (pv 1))))))))), ?_⟩
  have hb := B.at'
  have hc0 := B.c0
  have hq0 := B.q0
  have hq1 := B.q1
  refine ⟨_, rfl, b, _, _, _, rfl, rfl, SqL.of hb, atI0, _, _, rfl, rfl, _, rfl, ?_⟩
  refine ite_dec (fun ha => ?_) (fun ha => ?_)
  · refine ⟨_, rfl, b, _, _, _, rfl, rfl, SqL.of hb, atI0, _, rfl, _, _, rfl, ⟨hn0, hn1⟩, fun p hp => ?_⟩
    have hbp : upd H p (.tup [.int (a / n), .int (a % n)]) b = some (.lst [.int a, .int q, .int c]) := by rw [upd_ne (ne_of_none hb hp)]; exact hb
    refine ⟨p, _, rfl, SqT.of upd_same, rfl, _, _, rfl, ⟨_, rfl, b, _, _, 0, rfl, rfl, hbp, rfl, ?_⟩⟩
    refine ⟨_, _, rfl, rfl, _, rfl, ?_⟩
    exact k _ (a / n) c _ (em0 _ hn0) (em1 _ hn0) ⟨upd_same, Int.ediv_nonneg B.a0 (by omega), hq0, hq1, hc0⟩ (by omega) ((same_upd hp _).sb b |>.trans (sb_upd b _ _))
  · refine ⟨_, rfl, b, _, _, _, rfl, rfl, SqL.of hb, atI2, _, _, rfl, rfl, _, rfl, b, _, _, 2, rfl, rfl, hb, rfl, ?_⟩
    have hb1 : upd H b (.lst [.int a, .int q, .int (c + 1)]) b = some (.lst [.int a, .int q, .int (c + 1)]) := upd_same
    have i0 : SqL K (upd H b (.lst [.int a, .int q, .int (c + 1)])) b [.int a, .int q, .int (c + 1)] := SqL.of hb1
    refine ⟨_, rfl, b, _, _, _, rfl, rfl, i0, atI2, _, rfl, b, _, _, _, rfl, rfl, i0, atI2, _, _, rfl, rfl, .inl ⟨by omega, by omega⟩, _, _, rfl, rfl, ?_⟩
    refine ⟨_, rfl, b, _, _, _, rfl, rfl, i0, atI1, _, rfl, b, _, _, _, rfl, rfl, i0, atI2, _, _, rfl, rfl, .inl ⟨by decide, by decide⟩, _, _, rfl, rfl, _, rfl, _, _, rfl, rfl, .inl ⟨by omega, by omega⟩, _, _, rfl, rfl, (by show (0 : Int) < _; decide), ?_⟩
    generalize hon : (q + 39373 * (c + 1)) * (69621 + (c + 1) * (c + 1)) % 2147483587 = on
    have on0 : 0 ≤ on := by rw [← hon]; exact em0 _ (by decide)
    have on1 : on < 2147483587 := by rw [← hon]; exact em1 _ (by decide)
    refine ⟨_, rfl, _, rfl, _, _, rfl, rfl, (by show (0 : Int) < _; decide), _, _, rfl, rfl, _, _, rfl, rfl, .inl ⟨by omega, by omega⟩, _, rfl, b, _, _, _, rfl, rfl, i0, atI2, _, _, rfl, rfl, _, _, rfl, rfl, (by show (0 : Int) < _; decide), ?_⟩
    generalize htw : (on * (on % 30011 + 5) + (c + 1)) % 2147483563 = tw
    have tw0 : 0 ≤ tw := by rw [← htw]; exact em0 _ (by decide)
    have tw1 : tw < 2147483563 := by rw [← htw]; exact em1 _ (by decide)
    refine ⟨_, rfl, _, rfl, _, _, rfl, rfl, (by show (0 : Int) < _; decide), _, _, rfl, rfl, _, _, rfl, rfl, .inl ⟨by omega, by omega⟩, _, _, rfl, rfl, (by show (0 : Int) < _; decide), _, _, rfl, rfl, ⟨by decide, by decide⟩, _, rfl, _, _, rfl, rfl, hn0, ?_⟩
    exact k _ a (c + 1) _ (em0 _ hn0) (em1 _ hn0) ⟨hb1, B.a0, hq0, hq1, by omega⟩ (by omega) (sb_upd b _ _)
end
section
variable {P : Program} {w : World} {K : PySem.W.Frag} {mg : Str → Option Value} {base : Heap}
def spBox (K : PySem.W.Frag) : Sp := fun vs H Q _ => ∃ (l : Addr) (ns : List Int) (k : Int), vs = [.ref l, .int k] ∧ SqL K H l (ns.map V.int) ∧ 0 ≤ k ∧ k < 1000000 ∧
  ∀ (r : Addr) (a q : Int) (H' : Hp), H r = none → Same H H' → BoxAt H' r a q 0 → Q (.ref r) H'
theorem ite01 (b : Bool) : -(2 ^ 64) < (if b then 1 else 0 : Int) ∧ (if b then 1 else 0 : Int) < 2 ^ 64 := by cases b <;> decide
theorem atI_ints {ns : List Int} {k : Int} (h0 : 0 ≤ k) (h : k < (ns.length : Int)) : ∃ v : Int, atI (ns.map V.int) k = some (.int v) := by
  have hk : k.toNat < ns.length := by omega
  have q : atI (ns.map V.int) ((k.toNat : Nat) : Int) = some (.int ns[k.toNat]) := atI_nat (by rw [List.getElem?_map, List.getElem?_eq_getElem hk] <;> rfl)
  rw [show ((k.toNat : Nat) : Int) = k by omega] at q
  exact ⟨_, q⟩
theorem abs_nn (i : Int) : 0 ≤ (if i < 0 then -i else i) := by split <;> omega
theorem abs_mul (i : Int) (b : Bool) : 0 ≤ (if i < 0 then -i else i) * (if b then 1 else 0 : Int) := Int.mul_nonneg (abs_nn i) (by cases b <;> decide)
theorem ok_box {f : Addr} {fd : FuncData} (F : Fun K "_law_box" "_law_box" s_box f fd) (T : Txt K mg) : FnOk P w K mg base CX0 1 f fd P_box (spBox K) := by
  refine F.ok sc_box (fun vs H Q E h => ?_) (fun cdv A outer s H vs Q E hr h => ?_)
  · obtain ⟨l, ns, k, rfl, _⟩ := h
    rfl
  obtain ⟨l, ns, k, rfl, hS, hk0, hk1, kk⟩ := h
  have nd := sc_box.nd
  refine ⟨_, (pss_cons (pst 2 nd (pe_ifExp (pt_cmpR op_lt (pv 1) (pe_callBN (call_len_seqK (K := K) rfl) rfl T.z_len PySem.boot_len (pc (pv 0) pa_nil)) (nomark _)) (pe_ix (ix_listK (K := K) rfl) (pv 0) (pv 1) (fun _ _ => rfl)) pe_int))
      (pss_one (ps_ret (pe_lst (pc (pe_op op_mul (pe_callBN call_abs rfl T.z_abs boot_abs (pc (pv 2) pa_nil)) (pe_callTyN call_int1 rfl T.z_int boot_intT (pc (pe_cmpR op_ge (pe_callBN call_abs rfl T.z_abs boot_abs (pc (pv 2) pa_nil)) (pe_op op_pow pe_int pe_int) (nomark _)) pa_nil))) (pc (pe_op op_mod (pe_op op_mul (pe_op op_add (pe_op op_add (pe_op op_mod (pv 2) pe_int) (pe_op op_mul pe_int (pv 1))) pe_int) pe_int) pe_int) (pc pe_int pa_nil))))))), ?_⟩
  refine ⟨_, rfl, _, rfl, l, _, rfl, .inl hS, _, _, rfl, rfl, _, rfl, ?_⟩
  refine ite_dec (fun c => ?_) (fun c => ?_)
  · rw [List.length_map] at c
    obtain ⟨v, hv⟩ := atI_ints hk0 c
    refine ⟨_, rfl, _, rfl, l, _, _, _, rfl, rfl, hS, hv, ?_⟩
    refine ⟨_, rfl, _, rfl, _, rfl, _, rfl, _, _, rfl, rfl, ⟨by decide, by decide, by decide⟩, _, _, rfl, rfl, .inr ⟨_, rfl, _, _, rfl, rfl, .inr (ite01 _), ?_⟩⟩
    refine ⟨_, rfl, _, _, rfl, rfl, (by show (0 : Int) < _; decide), _, rfl, _, _, rfl, rfl, .inl ⟨by decide, by decide⟩, _, _, rfl, rfl, _, _, rfl, rfl, _, _, rfl, rfl, .inr ⟨by decide, by decide⟩, _, _, rfl, rfl, (by show (0 : Int) < _; decide), (by show 3 ≤ sizeLine; decide), fun r hr => ?_⟩
    exact kk r _ _ _ hr (same_upd hr _) ⟨upd_same, abs_mul _ _, em0 _ (by decide), em1 _ (by decide), Int.le_refl _⟩
  · refine ⟨_, rfl, _, rfl, _, rfl, _, rfl, _, _, rfl, rfl, ⟨by decide, by decide, by decide⟩, _, _, rfl, rfl, .inr ⟨_, rfl, _, _, rfl, rfl, .inr (ite01 _), ?_⟩⟩
    refine ⟨_, rfl, _, _, rfl, rfl, (by show (0 : Int) < _; decide), _, rfl, _, _, rfl, rfl, .inl ⟨by decide, by decide⟩, _, _, rfl, rfl, _, _, rfl, rfl, _, _, rfl, rfl, .inr ⟨by decide, by decide⟩, _, _, rfl, rfl, (by show (0 : Int) < _; decide), (by show 3 ≤ sizeLine; decide), fun r hr => ?_⟩
    exact kk r _ _ _ hr (same_upd hr _) ⟨upd_same, abs_mul _ _, em0 _ (by decide), em1 _ (by decide), Int.le_refl _⟩
def spFolded (K : PySem.W.Frag) : Sp := fun vs H Q _ => ∃ (a : Addr) (ns : List Int) (n : Nat), vs = [.ref a, .int (n : Int)] ∧ SqL K H a (ns.map V.int) ∧ ns.length ≤ 63 ∧ 0 < n ∧ n ≤ 63 ∧
  ∀ (r : Addr) (ms : List Int) (H' : Hp), H r = none → Same H H' → H' r = some (.lst (ms.map V.int)) → ms.length = min n ns.length → Q (.ref r) H'
theorem cut_map (ns : List Int) (lo hi : Option Int) : cutV (ns.map V.int) lo hi = ((ns.drop (HT.sIx ns.length 0 lo)).take (HT.sIx ns.length ns.length hi - HT.sIx ns.length 0 lo)).map V.int := by
  unfold cutV
  rw [List.length_map, ← List.map_drop, ← List.map_take]
theorem set_ints (ms : List Int) (j : Nat) (v : Int) : (ms.map V.int).set j (.int v) = (ms.set j v).map V.int := by rw [List.map_set]
theorem ixN_ok {n : Nat} {i : Int} (h0 : 0 ≤ i) (h : i < n) : ixN n i = some i.toNat := by unfold ixN; rw [if_pos h0, if_pos h]
theorem ms_get {ms : List Int} {i : Nat} {x : V} (h : (ms.map V.int)[i]? = some x) : ∃ z, x = V.int z ∧ i < ms.length := by
  rw [List.getElem?_map] at h
  cases e : ms[i]? with
  | none => rw [e] at h; cases h
  | some z => rw [e] at h; exact ⟨z, (Option.some.inj h).symm, (List.getElem?_eq_some_iff.mp e).1⟩
theorem ok_folded {f : Addr} {fd : FuncData} (F : Fun K "_law_folded" "_law_folded" s_folded f fd) (T : Txt K mg) : FnOk P w K mg base CX0 1 f fd P_folded (spFolded K) := by
  refine F.ok sc_folded (fun vs H Q E h => ?_) (fun cdv A outer s H vs Q E hr h => ?_)
  · obtain ⟨a, ns, n, rfl, _⟩ := h
    rfl
  obtain ⟨a, ns, n, rfl, hS, h63, hn0, hn1, k⟩ := h
  have nd := sc_folded.nd
  refine ⟨_, (pss_cons (pst 2 nd (pe_callTyN (call_list_ofK (K := K) rfl) rfl T.z_list boot_listT (pc (pe_slice (sl_listK (K := K) rfl) (pv 0) po_none (po_some (pv 1))) pa_nil)))
      (pss_cons (ps_for PassesOwn.never rfl (pi_enum rfl T.z_enumerate (pc (pe_slice (sl_listK (K := K) rfl) (pv 0) (po_some (pv 1)) (po_some pe_int)) pa_nil)) (pg_tupK (K := K) (n := 2) rfl rfl (pgs_cons (pgn 3 nd) (pgs_cons (pgn 4 nd) pgs_nil))) (pss_one (ps_asg (pe_op op_add (pe_ix (ix_listK (K := K) rfl) (pv 2) (pe_op op_mod (pv 3) (pv 1)) (fun _ _ => rfl)) (pe_op op_mul (pv 4) (pe_op op_add (pv 3) pe_int))) (pg_sub (pv 2) (pe_op op_mod (pv 3) (pv 1)) set_list))))
      (pss_one (ps_ret (pv 2))))), ?_⟩
  refine ⟨_, rfl, _, rfl, _, rfl, a, _, rfl, hS, fun p hp => ?_⟩
  have s1 := same_upd hp (.lst (cutV (ns.map V.int) none (some (n : Int))))
  refine ⟨p, _, rfl, .inl (SqL.of upd_same), fun r hr1 => ?_⟩
  have s2 := s1.trans (same_upd hr1 (.lst (cutV (ns.map V.int) none (some (n : Int)))))
  have hrH : H r = none := s1.free hr1
  rw [cut_map] at *
  generalize hms : (ns.drop (HT.sIx ns.length 0 none)).take (HT.sIx ns.length ns.length (some (n : Int)) - HT.sIx ns.length 0 none) = ms at *
  have lms : ms.length = min n ns.length := by
    rw [← hms, HT.sIx_none, HT.sIx_nat, List.length_take, List.length_drop]; omega
  generalize hH2 : upd (upd H p (.lst (ms.map V.int))) r (.lst (ms.map V.int)) = H2 at *
  have h2r : H2 r = some (.lst (ms.map V.int)) := by rw [← hH2]; exact upd_same
  refine ⟨_, rfl, _, rfl, _, rfl, _, rfl, a, _, rfl, s2.seq hS, fun t ht => ?_⟩
  rw [cut_map]
  generalize hws : (ns.drop (HT.sIx ns.length 0 (some (n : Int)))).take (HT.sIx ns.length ns.length (some 63) - HT.sIx ns.length 0 (some (n : Int))) = ws
  have lws : 0 < ws.length → n < ns.length := fun h => by
    rw [← hws, List.length_take, List.length_drop, HT.sIx_nat] at h; omega
  have lw63 : ws.length ≤ 63 := by rw [← hws, List.length_take, List.length_drop]; omega
  have s3 := s2.trans (same_upd ht (.lst (ws.map V.int)))
  have nrt : r ≠ t := ne_of_none h2r ht
  refine ⟨t, rfl, ⟨_, SqL.of upd_same⟩, for_enum (K := K) (a := t) (xs := ws.map V.int) (fun i σ H' => ∃ (ms' : List Int) (v3 v4 : Option V), σ = [some (.ref a), some (.int n), some (.ref r), v3, v4] ∧ ms'.length = min n ns.length ∧ H' r = some (.lst (ms'.map V.int)) ∧ H' t = some (.lst (ws.map V.int)) ∧ Same H H')
    ⟨ms, none, none, rfl, lms, by rw [upd_ne nrt]; exact h2r, upd_same, s3⟩ (fun i σ H' _ ⟨_, _, _, _, _, _, q, _⟩ => SqL.of q) ?_ ?_⟩
  · rintro i x u σ H' hi ⟨ms', v3, v4, rfl, lm, h1, h2, s4⟩ hu
    obtain ⟨z, rfl, hlt⟩ := ms_get hi
    have hnl := lws (by omega)
    have s5 := same_upd hu (.tup [.int (i : Int), .int z])
    refine ⟨u, _, rfl, SqT.of upd_same, rfl, _, _, rfl, _, _, rfl, rfl, ?_⟩
    have m0 : 0 ≤ (i : Int) % (n : Int) := em0 _ (by omega)
    have m1 : (i : Int) % (n : Int) < (n : Int) := em1 _ (by omega)
    obtain ⟨v, hv⟩ := atI_ints (ns := ms') m0 (by omega)
    refine ⟨_, rfl, _, rfl, _, rfl, _, _, rfl, rfl, (by show (0 : Int) < _; omega), r, _, _, _, rfl, rfl, SqL.of (s5 _ _ h1), hv, ?_⟩
    refine ⟨_, rfl, _, rfl, _, _, rfl, rfl, _, _, rfl, rfl, .inr ⟨by omega, by omega⟩, _, _, rfl, rfl, ?_⟩
    refine ⟨_, rfl, _, rfl, _, rfl, _, _, rfl, rfl, (by show (0 : Int) < _; omega), r, _, _, ((i : Int) % (n : Int)).toNat, rfl, rfl, s5 _ _ h1, ixN_ok m0 (by rw [List.length_map]; omega), ?_⟩
    refine ⟨ms'.set ((i : Int) % (n : Int)).toNat (v + z * ((i : Int) + 2)), _, _, rfl, by rw [List.length_set]; exact lm, by rw [upd_same, set_ints], ?_, ?_⟩
    · rw [upd_ne (Ne.symm nrt)]; exact s5 _ _ h2
    · intro b o e
      rw [upd_ne (ne_of_none e hrH)]
      exact s5 _ _ (s4 _ _ e)
  · rintro σ H' ⟨ms', v3, v4, rfl, lm, h1, h2, s4⟩
    exact ⟨_, rfl, k r ms' H' hrH s4 h1 lm⟩
structure BoxesAt (H H' : Hp) (r : Addr) (bs : List Addr) : Prop where
  at' : H' r = some (.lst (bs.map V.ref))
  new : ∀ b ∈ bs, H b = none ∧ ∃ a q, BoxAt H' b a q 0
  nd : bs.Nodup
  off : r ∉ bs
def spBoxes (K : PySem.W.Frag) : Sp := fun vs H Q _ => ∃ (a : Addr) (ns : List Int) (n : Nat), vs = [.ref a, .int (n : Int)] ∧ SqL K H a (ns.map V.int) ∧ ns.length ≤ 63 ∧ 0 < n ∧ n ≤ 63 ∧
  ∀ (r : Addr) (bs : List Addr) (H' : Hp), H r = none → Same H H' → BoxesAt H H' r bs → bs.length ≤ 63 → Q (.ref r) H'
theorem ok_boxes {f : Addr} {fd : FuncData} (F : Fun K "_law_boxes" "_law_boxes" s_boxes f fd) (T : Txt K mg) (D_folded : Def P w K mg base "_law_folded" 1 P_folded (spFolded K)) (D_box : Def P w K mg base "_law_box" 1 P_box (spBox K)) : FnOk P w K mg base CX0 2 f fd P_boxes (spBoxes K) := by
  refine F.ok sc_boxes (fun vs H Q E h => ?_) (fun cdv A outer s H vs Q E hr h => ?_)
  · obtain ⟨a, ns, n, rfl, _⟩ := h
    rfl
  obtain ⟨a, ns, n, rfl, hS, h63, hn0, hn1, k⟩ := h
  have nd := sc_boxes.nd
  refine ⟨_, (pss_cons (pst 2 nd (pe_defN D_folded hr.m rfl (pc (pv 0) (pc (pv 1) pa_nil))))
      (pss_one (ps_ret (pe_comp0 (compOk_of (osc := (defScope s_boxes)) (oN := N_boxes) (N := ["_law_k", "_law_cells"]) (own := 1) (js := [2]) (by decide +kernel) rfl rfl) rfl (pi_range1 rfl T.z_range (pc (pe_callBN (call_max2 rfl) rfl T.z_max boot_max (pc pe_int (pc (pe_callBN (call_len_seqK (K := K) rfl) rfl T.z_len PySem.boot_len (pc (pv 2) pa_nil)) pa_nil))) pa_nil)) (fun _ _ _ _ _ _ => (pgn 0 (show List.Nodup (["_law_k", "_law_cells"] : List Str) by decide +kernel))) (fun _ _ _ _ _ _ => (pe_defN D_box hr.m rfl (pc (pv 1) (pc (pv 0) pa_nil)))))))), ?_⟩
  refine ⟨_, rfl, _, rfl, a, ns, n, rfl, hS, h63, hn0, hn1, fun c ms H1 hc s1 hcm lm => ?_⟩
  refine ⟨_, rfl, c, _, rfl, .inl (SqL.of hcm), _, _, rfl, _, rfl, ?_⟩
  rw [List.length_map]
  generalize hj : (if ((ms.length : Nat) : Int) > 1 then ((ms.length : Nat) : Int) else 1) = j
  have j1 : j ≤ 63 := by rw [← hj]; split <;> omega
  have j0 : 1 ≤ j := by rw [← hj]; split <;> omega
  refine ⟨by omega, by omega, fun l hl => ?_⟩
  have hlH : H l = none := s1.free hl
  have ncl : c ≠ l := ne_of_none hcm hl
  refine comp_range (lo := 0) (n := j.toNat) (l := l) (fun i ys σ H' => ∃ (bs : List Addr) (v0 : Option V), σ = [v0, some (.ref c)] ∧ ys = bs.map V.ref ∧ BoxesAt H H' l bs ∧ H' c = some (.lst (ms.map V.int)) ∧ Same H H' ∧ bs.length ≤ i)
    ⟨[], none, rfl, rfl, ⟨upd_same, fun b hb => (nomatch hb), List.nodup_nil, fun h => (nomatch h)⟩, by rw [upd_ne ncl]; exact hcm, s1.trans (same_upd hl _), Nat.le_refl _⟩ ?_ ?_
  · rintro i ys σ H' hi hy ⟨bs, v0, rfl, rfl, B, hc', s2, hlen⟩
    refine ⟨_, rfl, _, rfl, c, ms, _, rfl, SqL.of hc', by omega, by omega, fun b a' q' H2 hb s3 Bb => ?_⟩
    have nbl : b ≠ l := fun e => by subst e; rw [B.at'] at hb; cases hb
    have nbs : b ∉ bs := fun m => by
      obtain ⟨_, x, y, Bx⟩ := B.new b m
      rw [Bx.at'] at hb; cases hb
    refine CNx.of (Nat.le_of_lt (small1000 (by omega))) hi hy (s3 _ _ B.at') ⟨bs ++ [b], _, rfl, by rw [List.map_append]; rfl, ⟨by rw [upd_same, List.map_append]; rfl, fun x hx => ?_, ?_, ?_⟩, ?_, ?_, by rw [List.length_append, List.length_singleton]; omega⟩
    · rcases List.mem_append.mp hx with m | m
      · obtain ⟨e, u, v, Bx⟩ := B.new x m
        refine ⟨e, u, v, (Bx.same s3).sb (sb_upd l _ _) fun z => ?_⟩
        subst z; exact B.off m
      · have e : x = b := by simpa using m
        subst e
        exact ⟨s2.free hb, a', q', Bb.sb (sb_upd l _ _) nbl⟩
    · exact List.nodup_append.mpr ⟨B.nd, by simp, fun x hx y hy e => by
        have ey : y = b := by simpa using hy
        subst ey; subst e; exact nbs hx⟩
    · intro m
      rcases List.mem_append.mp m with m | m
      · exact B.off m
      · exact nbl (by simpa using m : l = b).symm
    · rw [upd_ne ncl]; exact s3 _ _ hc'
    · intro x o e
      rw [upd_ne (ne_of_none e hlH)]
      exact s3 _ _ (s2 _ _ e)
  · rintro ys σ H' hy ⟨bs, v0, rfl, rfl, B, hc', s2, hlen⟩
    exact k l bs H' hlH s2 B (by omega)
end
theorem hide {t u : TS} {D : Ends} {σ : St} {H : Hp} (h : ∀ u', u' = u → tSeq t u' D σ H) : tSeq t u D σ H := h u rfl
theorem cpA {te : TE} {g : TG} {u : TS} {D : Ends} {σ : St} {H : Hp} (Post : V → Hp → Prop) (h1 : ∀ Q' : VK, (∀ v H1, Post v H1 → Q' v H1) → te σ H Q') (h2 : ∀ v H1, Post v H1 → g v σ H1 (u D)) : tSeq (tAsg te g) u D σ H := h1 _ h2
theorem cpI {ts u : TS} {D : Ends} {σ : St} {H : Hp} (Post : St → Hp → Prop) (h1 : ∀ D' : Ends, D'.rt = D.rt → (∀ σ1 H1, Post σ1 H1 → D'.nx σ1 H1) → ts D' σ H) (h2 : ∀ σ1 H1, Post σ1 H1 → u D σ1 H1) : tSeq ts u D σ H := h1 _ rfl h2
theorem cpIfS {tt : TT} {ta tb : TS} {D : Ends} {σ : St} {H : Hp} (Post : Bool → Hp → Prop) (h1 : ∀ Q' : Bool → Hp → Prop, (∀ v H1, Post v H1 → Q' v H1) → tt σ H Q') (h2 : ∀ c H1, Post c H1 → if c = true then ta D σ H1 else tb D σ H1) : tIfS tt ta tb D σ H := h1 _ h2
theorem cpOr {t u : TT} {σ : St} {H : Hp} {Q : Bool → Hp → Prop} (Post : Bool → Hp → Prop) (h1 : ∀ Q' : Bool → Hp → Prop, (∀ v H1, Post v H1 → Q' v H1) → t σ H Q') (h2 : ∀ c H1, Post c H1 → if c = true then Q true H1 else u σ H1 Q) : tOr t u σ H Q := h1 _ h2
theorem sb_fresh {b l : Addr} {H G : Hp} {xs : List V} (s : SB b H G) (hb : G b = some (.lst xs)) (hl : G l = none) : H l = none := by
  cases e : H l with
  | none => rfl
  | some o =>
    by_cases h : l = b
    · rw [h, hb] at hl; cases hl
    · rw [s _ _ h e] at hl; cases hl
theorem ints_flat (ns : List Int) : (ns.map V.int).all flatV = true := by
  rw [List.all_eq_true]
  intro x hx
  obtain ⟨n, _, rfl⟩ := List.mem_map.mp hx
  rfl
theorem ixN_last {n : Nat} (h : 0 < n) : ixN n (-1) = some (n - 1) := by
  unfold ixN
  rw [if_neg (by decide), if_pos (by omega)]
  congr 1
  omega
theorem mem_set {ns : List Int} {j : Nat} {v x : Int} (h : x ∈ ns.set j v) : x ∈ ns ∨ x = v := by
  rcases List.mem_or_eq_of_mem_set h with h | h
  · exact .inl h
  · exact .inr h
theorem eq_case {i j : Int} {A B : Prop} (h1 : i = j → A) (h2 : ¬ i = j → B) : if decide (V.int i = V.int j) = true then A else B :=
  ite_dec (fun e => h1 (by injection e)) (fun e => h2 fun z => e (by rw [z]))
theorem ifF {b : Bool} {A B : Prop} (h : b = false) (hB : B) : if b = true then A else B := by subst h; rw [if_neg Bool.false_ne_true]; exact hB
theorem ifT {b : Bool} {A B : Prop} (h : b = true) (hA : A) : if b = true then A else B := by subst h; rw [if_pos rfl]; exact hA
theorem atI_some {α : Type} {xs : List α} {i : Int} (h0 : 0 ≤ i) (h1 : i < (xs.length : Int)) : ∃ v, atI xs i = some v ∧ v ∈ xs := by
  have hk : i.toNat < xs.length := by omega
  have q : atI xs ((i.toNat : Nat) : Int) = some xs[i.toNat] := atI_nat (List.getElem?_eq_getElem hk)
  rw [show ((i.toNat : Nat) : Int) = i by omega] at q
  exact ⟨_, q, List.getElem_mem hk⟩
theorem pick01 (x y : Int) (k : Bool) : ∃ n : Int, atI [V.int x, V.int y] (if k = true then 1 else 0) = some (.int n) ∧ (n = x ∨ n = y) := by
  cases k with
  | true => exact ⟨y, atI1, .inr rfl⟩
  | false => exact ⟨x, atI0, .inl rfl⟩
theorem pick2 (x y r : Int) (h0 : 0 ≤ r) (h1 : r < 2) : ∃ n : Int, atI [V.int x, V.int y] r = some (.int n) ∧ (n = x ∨ n = y) := by
  have h : r = 0 ∨ r = 1 := by omega
  rcases h with rfl | rfl
  · exact ⟨x, atI0, .inl rfl⟩
  · exact ⟨y, atI1, .inr rfl⟩
theorem pick4s (r : Int) (h0 : 0 ≤ r) (h1 : r < 4) : ∃ n : Int, atI [V.int 1, V.int 1, V.int 12, V.int 24] r = some (.int n) ∧ (n = 1 ∨ n = 12 ∨ n = 24) := by
  obtain ⟨x, hx, m⟩ := atI_some (xs := [V.int 1, V.int 1, V.int 12, V.int 24]) h0 (by show r < ((4 : Nat) : Int); omega)
  simp only [List.mem_cons, List.not_mem_nil, or_false] at m
  rcases m with rfl | rfl | rfl | rfl
  · exact ⟨_, hx, .inl rfl⟩
  · exact ⟨_, hx, .inl rfl⟩
  · exact ⟨_, hx, .inr (.inl rfl)⟩
  · exact ⟨_, hx, .inr (.inr rfl)⟩
theorem pick5 (r : Int) (h0 : 0 ≤ r) (h1 : r < 5) : ∃ v, atI [V.int 1, V.int 1, V.int 2, V.int 3, V.int 4] r = some (.int v) ∧ 1 ≤ v ∧ v ≤ 64 := by
  obtain ⟨x, hx, m⟩ := atI_some (xs := [V.int 1, V.int 1, V.int 2, V.int 3, V.int 4]) h0 (by show r < ((5 : Nat) : Int); omega)
  simp only [List.mem_cons, List.not_mem_nil, or_false] at m
  rcases m with rfl | rfl | rfl | rfl | rfl <;> exact ⟨_, hx, by decide, by decide⟩
def Rule (z : Str) : Prop := z = "old" ∨ z = "come" ∨ z = "few"
theorem pickR (r : Int) (h0 : 0 ≤ r) (h1 : r < 3) : ∃ z : Str, atI [V.str "old", V.str "come", V.str "few"] r = some (.str z) ∧ Rule z := by
  obtain ⟨x, hx, m⟩ := atI_some (xs := [V.str "old", V.str "come", V.str "few"]) h0 (by show r < ((3 : Nat) : Int); omega)
  simp only [List.mem_cons, List.not_mem_nil, or_false] at m
  rcases m with rfl | rfl | rfl
  · exact ⟨_, hx, .inl rfl⟩
  · exact ⟨_, hx, .inr (.inl rfl)⟩
  · exact ⟨_, hx, .inr (.inr rfl)⟩
theorem top_facts {s : Int} (h0 : 1 ≤ s) (h1 : s ≤ 16) : 555 ≤ 9999 / s ∧ 9999 / s ≤ 9999 ∧ 1 ≤ (if 10000 / s - 480 > 1 then 10000 / s - 480 else 1) ∧ (if 10000 / s - 480 > 1 then 10000 / s - 480 else 1) + 455 ≤ 9999 / s := by
  have key : ∀ n : Fin 17, 1 ≤ (n.val : Int) → (555 ≤ 9999 / (n.val : Int) ∧ 9999 / (n.val : Int) ≤ 9999 ∧ 1 ≤ (if 10000 / (n.val : Int) - 480 > 1 then 10000 / (n.val : Int) - 480 else 1) ∧ (if 10000 / (n.val : Int) - 480 > 1 then 10000 / (n.val : Int) - 480 else 1) + 455 ≤ 9999 / (n.val : Int)) := by decide +kernel
  have e : ((⟨s.toNat, by omega⟩ : Fin 17).val : Int) = s := by show ((s.toNat : Nat) : Int) = s; omega
  have q := key ⟨s.toNat, by omega⟩ (by rw [e]; exact h0)
  rw [e] at q
  exact q
def Bds (t : Int) (ns : List Int) : Prop := ∀ n ∈ ns, 0 ≤ n ∧ n ≤ t
def Low (t : Int) (ns : List Int) : Prop := ∃ x ∈ ns, x + 1 ≤ t
theorem at_get {ns : List Int} {k : Int} (h0 : 0 ≤ k) (h : k < (ns.length : Int)) : ∃ v : Int, atI (ns.map V.int) k = some (.int v) ∧ ns[k.toNat]? = some v := by
  have hk : k.toNat < ns.length := by omega
  have q : atI (ns.map V.int) ((k.toNat : Nat) : Int) = some (.int ns[k.toNat]) := atI_nat (by rw [List.getElem?_map, List.getElem?_eq_getElem hk] <;> rfl)
  rw [show ((k.toNat : Nat) : Int) = k by omega] at q
  exact ⟨_, q, List.getElem?_eq_getElem hk⟩
theorem swap_mem {ns : List Int} {i j : Nat} {x1 x2 x : Int} (h1 : ns[j]? = some x1) (h2 : ns[i]? = some x2) (h : x ∈ ns) : x ∈ (ns.set i x1).set j x2 := by
  obtain ⟨p, hp⟩ := List.getElem?_of_mem h
  have li := (List.getElem?_eq_some_iff.mp h2).1
  have lj := (List.getElem?_eq_some_iff.mp h1).1
  by_cases e : p = i
  · subst e
    rw [h2] at hp; cases hp
    exact List.mem_of_getElem? (List.getElem?_set_self (i := j) (by rw [List.length_set]; exact lj))
  · by_cases e' : p = j
    · subst e'
      rw [h1] at hp; cases hp
      refine List.mem_of_getElem? (i := i) ?_
      rw [List.getElem?_set_ne e, List.getElem?_set_self li]
    · refine List.mem_of_getElem? (i := p) ?_
      rw [List.getElem?_set_ne (fun z => e' z.symm), List.getElem?_set_ne (fun z => e z.symm)]
      exact hp
section
variable {P : Program} {w : World} {K : PySem.W.Frag} {mg : Str → Option Value} {base : Heap}
def spBoards : Sp := fun vs H Q _ => ∃ (b : Addr) (a q c s : Int), vs = [.ref b, .int s] ∧ BoxAt H b a q c ∧ c < 500000000 ∧ 1 ≤ s ∧ s ≤ 16 ∧
  ∀ (l : Addr) (ns : List Int) (a' c' : Int) (H' : Hp), H l = none → H' l = some (.lst (ns.map V.int)) → 3 ≤ ns.length → ns.length ≤ 20 → Bds (9999 / s) ns → Low (9999 / s) ns → BoxAt H' b a' q c' → c' ≤ c + 40 → SB b H H' → Q (.ref l) H'
theorem ok_some_boards {f : Addr} {fd : FuncData} (F : Fun K "_law_some_boards" "_law_some_boards" s_some_boards f fd) (T : Txt K mg) (D_take : Def P w K mg base "_law_take" 1 P_take spTake) : FnOk P w K mg base CX0 2 f fd P_some_boards spBoards := by
  refine F.ok sc_some_boards (fun vs H Q E h => ?_) (fun cdv A outer st H vs Q E hr h => ?_)
  · obtain ⟨b, a, q, c, s, rfl, _⟩ := h
    rfl
  obtain ⟨b, a, q, c, s, rfl, B, hc, hs0, hs1, k⟩ := h
  have nd := sc_some_boards.nd
  obtain ⟨top0, top1, m0, m1⟩ := top_facts hs0 hs1
  refine ⟨_, (pss_cons (pst 2 nd (pe_op op_add pe_int (pe_defN D_take hr.m rfl (pc (pv 0) (pc (pe_ix (ix_listK (K := K) rfl) (pe_lst (pc pe_int (pc pe_int pa_nil))) (pe_callTyN call_int1 rfl T.z_int boot_intT (pc (pe_cmpR op_eq (pe_defN D_take hr.m rfl (pc (pv 0) (pc pe_int pa_nil))) pe_int (nomark _)) pa_nil)) (fun _ _ => rfl)) pa_nil)))))
      (pss_cons (ps_asg (pe_tup (pc (pe_defN D_take hr.m rfl (pc (pv 0) (pc pe_int pa_nil))) (pc (pe_defN D_take hr.m rfl (pc (pv 0) (pc pe_int pa_nil))) pa_nil))) (pg_tupK (K := K) (n := 2) rfl rfl (pgs_cons (pgn 3 nd) (pgs_cons (pgn 4 nd) pgs_nil))))
      (pss_cons (pst 5 nd (pe_ifExp (pt_cmpR op_lt (pv 4) pe_int (nomark _)) (pv 4) (pe_defN D_take hr.m rfl (pc (pv 0) (pc (pe_ix (ix_listK (K := K) rfl) (pe_lst (pc pe_int (pc (pe_callBN (call_max2 rfl) rfl T.z_max boot_max (pc pe_int (pc (pe_op op_sub (pe_op op_fdiv pe_int (pv 1)) pe_int) pa_nil))) pa_nil))) (pe_op op_sub (pv 4) pe_int) (fun _ _ => rfl)) pa_nil)))))
      (pss_cons (ps_comp0 6 (compOk_of (osc := (defScope s_some_boards)) (oN := N_some_boards) (N := ["_law_k", "_law_first", "_law_way"]) (own := 1) (js := [5, 3]) (by decide +kernel) rfl rfl) rfl nd rfl rfl (pi_range1 rfl T.z_range (pc (pv 2) pa_nil)) (fun _ _ _ _ _ _ => (pgn 0 (show List.Nodup (["_law_k", "_law_first", "_law_way"] : List Str) by decide +kernel))) (fun _ _ _ _ _ _ => (pe_op op_add (pv 1) (pe_op op_mul (pe_ix (ix_listK (K := K) rfl) (pe_lst (pc pe_int (pc pe_int (pc pe_int (pc pe_int pa_nil))))) (pv 2) (fun _ _ => rfl)) (pv 0)))))
      (pss_cons (pst 7 nd (pe_ifExp (pt_cmpR op_eq (pe_defN D_take hr.m rfl (pc (pv 0) (pc pe_int pa_nil))) pe_int (nomark _)) (pe_op op_fdiv pe_int (pv 1)) (pe_defN D_take hr.m rfl (pc (pv 0) (pc (pe_op op_add pe_int (pe_op op_fdiv pe_int (pv 1))) pa_nil)))))
      (pss_cons (ps_if (PW.pt (pw_or (PW.pt (pw_and (pt_cmpR op_eq (pv 3) pe_int (nomark _)) (pw_and1 (pt_cmpR (op_notIn_seqK (K := K) rfl) (pv 7) (pv 6) rfl)))) (pw_or1 (PW.pt (pw_and (pt_cmpR op_eq (pv 7) (pe_op op_fdiv pe_int (pv 1)) (nomark _)) (pw_and1 (pt_cmpR (op_notIn_seqK (K := K) rfl) (pv 7) (pv 6) rfl))))))) (pss_one (ps_asg (pv 7) (pg_sub (pv 6) (pe_un un_neg pe_int) set_list))) pss_nil)
      (pss_cons (ps_for PassesOwn.never rfl (pi_range1 rfl T.z_range (pc (pe_op op_sub (pv 2) pe_int) pa_nil)) (pgn 8 nd) (pss_cons (pst 9 nd (pe_op op_add (pv 8) (pe_defN D_take hr.m rfl (pc (pv 0) (pc (pe_op op_sub (pv 2) (pv 8)) pa_nil)))))
      (pss_one (ps_asg (pe_tup (pc (pe_ix (ix_listK (K := K) rfl) (pv 6) (pv 9) (fun _ _ => rfl)) (pc (pe_ix (ix_listK (K := K) rfl) (pv 6) (pv 8) (fun _ _ => rfl)) pa_nil))) (pg_tupK (K := K) (n := 2) rfl rfl (pgs_cons (pg_sub (pv 6) (pv 8) set_list) (pgs_cons (pg_sub (pv 6) (pv 9) set_list) pgs_nil)))))))
      (pss_one (ps_ret (pv 6)))))))))), ?_⟩
  generalize hm : (if 10000 / s - 480 > 1 then 10000 / s - 480 else 1) = m at m0 m1
  generalize ht : (9999 : Int) / s = top at *
  refine hide fun uu ee => ?_
  refine ⟨_, rfl, (by show 2 ≤ sizeLine; decide), fun p1 hp1 => ⟨_, rfl, b, a, q, c, 6, rfl, B.same (same_upd hp1 _), by omega, by decide, by decide, fun r1 a1 c1 H1 r10 r11 B1 hc1 s1 => ⟨rfl, .inr ⟨_, rfl, ?_⟩⟩⟩⟩
  have q1 : b ≠ p1 := ne_of_none B.at' hp1
  obtain ⟨n, hn, hn'⟩ := pick01 5 18 (decide (V.int r1 = V.int 0))
  refine ⟨p1, _, _, _, rfl, rfl, SqL.of (s1 _ _ (Ne.symm q1) upd_same), hn, b, a1, q, c1, n, rfl, B1, by omega, by omega, by omega, fun r2 a2 c2 H2 r20 r21 B2 hc2 s2 => ⟨_, _, rfl, rfl, ?_⟩⟩
  have mn0 : 3 ≤ 3 + r2 := by omega
  have mn1 : 3 + r2 ≤ 20 := by omega
  have u2 : SB b H H2 := (((same_upd hp1 _).sb b).trans s1).trans s2
  dsimp only [gName]
  subst ee
  try dsimp only
  refine hide fun uu ee => ?_
  refine ⟨_, rfl, b, a2, q, c2, 4, rfl, B2, by omega, by decide, by decide, fun r3 a3 c3 H3 r30 r31 B3 hc3 s3 => ?_⟩
  refine ⟨_, rfl, b, a3, q, c3, 4, rfl, B3, by omega, by decide, by decide, fun r4 a4 c4 H4' r40 r41 B4' hc4 s4 => ⟨(by show 2 ≤ sizeLine; decide), fun p4 hp4 => ⟨p4, _, rfl, SqT.of upd_same, rfl, _, _, rfl, _, _, rfl, rfl, ?_⟩⟩⟩
  have B4 := B4'.same (same_upd hp4 (.tup [.int r3, .int r4]))
  have u4 : SB b H (upd H4' p4 (.tup [.int r3, .int r4])) := ((u2.trans s3).trans s4).trans ((same_upd hp4 _).sb b)
  generalize upd H4' p4 (.tup [.int r3, .int r4]) = H4 at *
  subst ee
  try dsimp only
  refine cpA (fun v G => ∃ z a' c', v = .int z ∧ 0 ≤ z ∧ z + 456 ≤ top ∧ BoxAt G b a' q c' ∧ c' ≤ c4 + 1 ∧ SB b H G) (fun Q' k' => ?_) ?_
  · refine ⟨_, rfl, _, _, rfl, rfl, _, rfl, ite_dec (fun c2' => ⟨_, rfl, k' _ _ ⟨_, a4, c4, rfl, r40, by omega, B4, by omega, u4⟩⟩) (fun c2' => ?_)⟩
    refine ⟨_, rfl, _, rfl, _, _, rfl, rfl, ⟨by omega, by omega⟩, _, _, rfl, rfl, _, _, rfl, (by show 2 ≤ sizeLine; decide), fun p2 hp2 => ?_⟩
    have q2 : b ≠ p2 := ne_of_none B4.at' hp2
    rw [hm]
    obtain ⟨n2, hn2, hn2'⟩ := pick2 100 m (r4 - 2) (by omega) (by omega)
    refine ⟨_, rfl, _, _, rfl, rfl, p2, _, _, _, rfl, rfl, SqL.of upd_same, hn2, b, a4, q, c4, n2, rfl, B4.same (same_upd hp2 _), by omega, by omega, by omega, fun r5 a5 c5 H5 r50 r51 B5 hc5 s5 => ?_⟩
    exact k' _ _ ⟨r5, a5, c5, rfl, r50, by omega, B5, by omega, u4.trans (((same_upd hp2 _).sb b).trans s5)⟩
  rintro _ H5 ⟨z, a5, c5, rfl, z0, z1, B5, hc5, u5⟩
  dsimp only [gName]
  refine hide fun uu ee => ?_
  refine ⟨_, rfl, _, rfl, by omega, by omega, fun l hl => ?_⟩
  have hlH : H l = none := sb_fresh u5 B5.at' hl
  have nlb : l ≠ b := Ne.symm (ne_of_none B5.at' hl)
  have hmn : (3 + r2).toNat ≤ 20 := by omega
  refine comp_range (lo := 0) (n := (3 + r2).toNat) (l := l) (fun j ys σ G => ∃ (v0 : Option V) (ns : List Int), σ = [v0, some (.int z), some (.int r3)] ∧ ys = ns.map V.int ∧ ns.length = j ∧ (Bds top ns ∧ (0 < j → ns[0]? = some z)) ∧ G l = some (.lst ys) ∧ Same H5 G)
    ⟨none, [], rfl, rfl, rfl, ⟨fun n hn => (nomatch hn), fun z => absurd z (Nat.lt_irrefl 0)⟩, upd_same, same_upd hl _⟩ ?_ ?_
  · rintro j ys σ G hj hy ⟨v0, ns, rfl, rfl, hj', ⟨hb', hz'⟩, h1, h2⟩
    refine ⟨_, rfl, (by show 4 ≤ sizeLine; decide), fun p hp => ?_⟩
    obtain ⟨n4, hn4, hn4'⟩ := pick4s r3 r30 r31
    have np : l ≠ p := ne_of_none h1 hp
    have j20 : (j : Int) ≤ 19 := by omega
    refine ⟨_, rfl, p, _, _, _, rfl, rfl, SqL.of upd_same, hn4, _, rfl, _, _, rfl, rfl, .inl ⟨by omega, by omega⟩, _, _, rfl, rfl, CNx.of (Nat.le_trans hmn (by decide)) hj hy (by rw [upd_ne np]; exact h1) ⟨_, ns ++ [z + n4 * (0 + (j : Int))], rfl, by rw [List.map_append]; rfl, by rw [List.length_append, hj']; rfl, ⟨fun x hx => ?_, fun _ => ?_⟩, upd_same, fun e o y => ?_⟩⟩
    · rcases List.mem_append.mp hx with h | h
      · exact hb' x h
      · have ex : x = z + n4 * (0 + (j : Int)) := by simpa using h
        subst ex
        rcases hn4' with rfl | rfl | rfl
        · exact ⟨by omega, by omega⟩
        · exact ⟨by omega, by omega⟩
        · exact ⟨by omega, by omega⟩
    · by_cases j0 : j = 0
      · have : ns = [] := List.eq_nil_of_length_eq_zero (by omega)
        rw [this, j0]
        show some (z + n4 * (0 + ((0 : Nat) : Int))) = some z
        rw [show (0 : Int) + ((0 : Nat) : Int) = 0 by omega, Int.mul_zero, Int.add_zero]
      · rw [List.getElem?_append_left (by omega)]
        exact hz' (by omega)
    · rw [upd_ne (ne_of_none y hl)]
      exact same_upd hp _ _ _ (h2 _ _ y)
  rintro ys σ G hy ⟨v0, ns, rfl, rfl, hj', ⟨hb', hz'⟩, h1, h2⟩
  have B6 := B5.same h2
  have u6 : SB b H G := u5.trans (h2.sb b)
  have ln3 : 3 ≤ ns.length := by omega
  have ln20 : ns.length ≤ 20 := by omega
  have hz0 : ns[0]? = some z := hz' (by omega)
  dsimp only [gName]
  subst ee
  try dsimp only
  refine cpA (fun v G' => ∃ z a' c', v = .int z ∧ 0 ≤ z ∧ z ≤ top ∧ BoxAt G' b a' q c' ∧ c' ≤ c5 + 2 ∧ SB b G G') (fun Q' k' => ?_) ?_
  · refine ⟨_, rfl, b, a5, q, c5, 5, rfl, B6, by omega, by decide, by decide, fun r7 a7 c7 H7 r70 r71 B7 hc7 s7 => ⟨rfl, _, rfl, ite_dec (fun _ => ?_) (fun _ => ?_)⟩⟩
    · refine ⟨_, rfl, _, _, rfl, rfl, ⟨by omega, by omega⟩, ?_⟩
      exact k' _ _ ⟨_, a7, c7, rfl, by rw [ht]; omega, by rw [ht]; omega, B7, by omega, s7⟩
    · refine ⟨_, rfl, _, rfl, _, _, rfl, rfl, ⟨by omega, by omega⟩, _, _, rfl, rfl, b, a7, q, c7, _, rfl, B7, by omega, by rw [ht]; omega, by rw [ht]; omega, fun r8 a8 c8 H8 r80 r81 B8 hc8 s8 => ?_⟩
      exact k' _ _ ⟨_, a8, c8, rfl, r80, by rw [ht] at r81; omega, B8, by omega, s7.trans s8⟩
  rintro _ H7 ⟨fr, a7, c7, rfl, fr0, fr1, B7, hc7, s7⟩
  have h7 := s7 _ _ nlb h1
  have u7 : SB b H H7 := u6.trans s7
  refine cpI (fun σ G' => ∃ ns' : List Int, σ = [some (.ref b), some (.int s), some (.int (3 + r2)), some (.int r3), some (.int r4), some (.int z), some (.ref l), some (.int fr), none, none] ∧ G' l = some (.lst (ns'.map V.int)) ∧ ns'.length = ns.length ∧ (Bds top ns' ∧ Low top ns') ∧ BoxAt G' b a7 q c7 ∧ SB b H G') (fun D' _ k' => ?_) ?_
  · refine cpIfS (fun _ G' => G' = H7) (fun Q' k'' => ?_) ?_
    · refine cpOr (fun _ G' => G' = H7) (fun Q'' k3 => ?_) ?_
      · exact ⟨_, rfl, rfl, _, rfl, ite_dec (fun _ => ⟨_, rfl, _, rfl, l, _, rfl, .inl (SqL.of h7), rfl, ints_flat _, _, rfl, k3 _ _ rfl⟩) (fun _ => k3 _ _ rfl)⟩
      · rintro cb _ rfl
        cases cb with
        | true => exact ifT rfl (k'' _ _ rfl)
        | false => exact ifF rfl ⟨_, rfl, _, rfl, _, _, rfl, rfl, ⟨by omega, by omega⟩, rfl, _, rfl, ite_dec (fun _ => ⟨_, rfl, _, rfl, l, _, rfl, .inl (SqL.of h7), rfl, ints_flat _, _, rfl, k'' _ _ rfl⟩) (fun _ => k'' _ _ rfl)⟩
    · rintro cb _ rfl
      cases cb with
      | false => exact ifF rfl (k' _ _ ⟨ns, rfl, h7, rfl, ⟨hb', z, List.mem_of_getElem? hz0, by omega⟩, B7, u7⟩)
      | true =>
        refine ifT rfl ⟨_, rfl, _, rfl, _, rfl, l, _, _, _, rfl, rfl, h7, ixN_last (by rw [List.length_map]; omega), k' _ _ ⟨ns.set (ns.length - 1) fr, rfl, ?_, List.length_set, ⟨fun x hx => ?_, z, ?_, by omega⟩, B7.sb (sb_upd l _ _) (Ne.symm nlb), fun e o n' y => ?_⟩⟩
        · rw [upd_same, List.length_map, set_ints]
        · rcases mem_set hx with h | h
          · exact hb' x h
          · subst h; exact ⟨fr0, fr1⟩
        · refine List.mem_of_getElem? (i := 0) ?_
          rw [List.getElem?_set_ne (by omega)]
          exact hz0
        · rw [upd_ne (ne_of_none y hlH)]; exact u7 _ _ n' y
  rintro _ H8 ⟨ns8, rfl, h8, l8, b8, B8, u8⟩
  refine ⟨_, rfl, _, _, rfl, rfl, _, rfl, by omega, by omega, for_range (lo := 0) (n := (3 + r2 - 1).toNat) (fun j σ G' => ∃ (ns' : List Int) (v8 v9 : Option V) (a' c' : Int), σ = [some (.ref b), some (.int s), some (.int (3 + r2)), some (.int r3), some (.int r4), some (.int z), some (.ref l), some (.int fr), v8, v9] ∧ G' l = some (.lst (ns'.map V.int)) ∧ ns'.length = ns.length ∧ (Bds top ns' ∧ Low top ns') ∧ BoxAt G' b a' q c' ∧ c' ≤ c7 + (j : Int) ∧ SB b H G')
    ⟨ns8, _, _, a7, c7, rfl, h8, l8, b8, B8, by omega, u8⟩ ?_ ?_⟩
  · rintro j σ G' hj ⟨ns', v8, v9, a', c', rfl, h1', l', ⟨b', lo'⟩, B', hc', u'⟩
    have j20 : (j : Int) ≤ 18 := by omega
    have jl : (j : Int) + 1 < 3 + r2 := by omega
    refine ⟨_, rfl, _, rfl, _, rfl, _, rfl, _, _, rfl, rfl, b, a', q, c', _, rfl, B', by omega, by omega, by omega, fun r9 a9 c9 H9 r90 r91 B9 hc9 s9 => ⟨_, _, rfl, rfl, ?_⟩⟩
    have h9 := s9 _ _ nlb h1'
    obtain ⟨x1, hx1, gx1⟩ := at_get (ns := ns') (k := 0 + (j : Int) + r9) (by omega) (by omega)
    have mx1 := List.mem_of_getElem? gx1
    obtain ⟨x2, hx2, gx2⟩ := at_get (ns := ns') (k := 0 + (j : Int)) (by omega) (by omega)
    have mx2 := List.mem_of_getElem? gx2
    refine ⟨_, rfl, _, rfl, l, _, _, _, rfl, rfl, SqL.of h9, hx1, _, rfl, _, rfl, l, _, _, _, rfl, rfl, SqL.of h9, hx2, (by show 2 ≤ sizeLine; decide), fun t ht' => ?_⟩
    have nlt : l ≠ t := ne_of_none h9 ht'
    refine ⟨t, _, rfl, SqT.of upd_same, rfl, _, _, rfl, _, rfl, _, rfl, l, _, _, _, rfl, rfl, (by rw [upd_ne nlt]; exact h9), ixN_ok (by omega) (by rw [List.length_map]; omega), ?_⟩
    refine ⟨_, _, rfl, _, rfl, _, rfl, l, _, _, _, rfl, rfl, upd_same, ixN_ok (by omega) (by rw [List.length_set, List.length_map]; omega), rfl, ?_⟩
    refine ⟨(ns'.set (0 + (j : Int)).toNat x1).set (0 + (j : Int) + r9).toNat x2, _, _, a9, c9, rfl, by rw [upd_same, set_ints, set_ints], by rw [List.length_set, List.length_set]; exact l', ⟨fun x hx => ?_, (by obtain ⟨x, m, q⟩ := lo'; exact ⟨x, swap_mem gx1 gx2 m, q⟩)⟩, ?_, by omega, fun e o n' y => ?_⟩
    · rcases mem_set hx with h | h
      · rcases mem_set h with h | h
        · exact b' x h
        · subst h; exact b' _ mx1
      · subst h; exact b' _ mx2
    · exact ((B9.same (same_upd ht' _)).sb (sb_upd l _ _) (Ne.symm nlb)).sb (sb_upd l _ _) (Ne.symm nlb)
    · have ne : e ≠ l := ne_of_none y hlH
      rw [upd_ne ne, upd_ne ne]
      exact same_upd ht' _ _ _ (s9 _ _ n' (u' _ _ n' y))
  · rintro σ G' ⟨ns', v8, v9, a', c', rfl, h1', l', ⟨b', lo'⟩, B', hc', u'⟩
    exact ⟨_, rfl, k l ns' a' c' G' hlH h1' (by omega) (by omega) b' lo' B' (by omega) u'⟩
end
def optV : Option Int → V
  | none => .non
  | some g => .int g
theorem gN {i : Nat} {v : V} {σ : St} {H : Hp} {Q : St → Hp → Prop} (h : Q (σ.set i (some v)) H) : gName i v σ H Q := h
theorem ints_at {ns : List Int} {i : Nat} {x : V} (h : (ns.map V.int)[i]? = some x) : ∃ z, ns[i]? = some z ∧ x = V.int z := by
  rw [List.getElem?_map] at h
  cases e : ns[i]? with
  | none => rw [e] at h; cases h
  | some z => rw [e] at h; exact ⟨z, rfl, (Option.some.inj h).symm⟩
theorem inV_int (z : Int) (ns : List Int) : inV (.int z) (ns.map V.int) = decide (z ∈ ns) := by
  unfold inV
  rw [List.any_map, Bool.eq_iff_iff, List.any_eq_true, decide_eq_true_eq]
  constructor
  · rintro ⟨x, hx, e⟩
    have : x = z := by simpa [eqV] using e
    rw [← this]; exact hx
  · intro h
    exact ⟨z, h, by simp [eqV]⟩
def tpos : Pos := (match (defBody s_Room_going).head? with
  | some (.If _ (.Return (some (.Call _ _ (⟨_, .Lambda _ _ _ pos, _⟩ :: _) _)) _ :: _) _ _) => pos
  | _ => ⟨0, 0, 0, 0⟩)
abbrev tqual : Str := "Room.going" ++ ".<locals>." ++ "<lambda>"
def Tb (K : PySem.W.Frag) (H : Hp) : Prop := H (tabOf K "Room" "going") = some (.tbl tpos tqual)
theorem Tb.same {K : PySem.W.Frag} {H H' : Hp} (t : Tb K H) (s : Same H H') : Tb K H' := s _ _ t
def shelfS (sh s : Int) (there : List Int) : List Int := there.filter fun o => decide (o % sh = s)
theorem shelfS_app (sh s b : Int) (there : List Int) : shelfS sh s (there ++ [b]) = if b % sh = s then shelfS sh s there ++ [b] else shelfS sh s there := by
  unfold shelfS
  rw [List.filter_append]
  by_cases h : b % sh = s
  · rw [if_pos h, List.filter_cons, if_pos (by simpa using h), List.filter_nil]
  · rw [if_neg h, List.filter_cons, if_neg (by simpa using h), List.filter_nil, List.append_nil]
theorem shelfS_erase (sh s g : Int) (there : List Int) : shelfS sh s (there.erase g) = (shelfS sh s there).erase g := by
  unfold shelfS
  rw [List.erase_filter]
theorem mem_shelfS {sh s b : Int} {there : List Int} : b ∈ shelfS sh s there ↔ b ∈ there ∧ b % sh = s := by
  unfold shelfS
  rw [List.mem_filter, decide_eq_true_eq]
structure Shl (H : Hp) (ls : Addr) (ads : List Addr) (sh : Int) (there : List Int) : Prop where
  top : H ls = some (.lst (ads.map V.ref))
  len : ads.length = sh.toNat
  nd : ads.Nodup
  off : ls ∉ ads
  at_ : ∀ (s : Nat) (ad : Addr), ads[s]? = some ad → H ad = some (.lst ((shelfS sh s there).map V.int))
theorem Shl.other {H : Hp} {ls : Addr} {ads : List Addr} {sh : Int} {there : List Int} (h : Shl H ls ads sh there) {a : Addr} (o : HO) (h1 : a ≠ ls) (h2 : a ∉ ads) : Shl (upd H a o) ls ads sh there :=
  ⟨by rw [upd_ne (Ne.symm h1)]; exact h.top, h.len, h.nd, h.off, fun i ad e => by rw [upd_ne (fun z : ad = a => h2 (z ▸ List.mem_of_getElem? e))]; exact h.at_ i ad e⟩
theorem Shl.put {H : Hp} {ls : Addr} {ads : List Addr} {sh : Int} {there there' : List Int} (h : Shl H ls ads sh there) {s0 : Nat} {ad : Addr} {ns : List Int} (e0 : ads[s0]? = some ad) (hn : shelfS sh s0 there' = ns) (ho : ∀ s : Nat, s ≠ s0 → shelfS sh s there' = shelfS sh s there) : Shl (upd H ad (.lst (ns.map V.int))) ls ads sh there' := by
  refine ⟨by rw [upd_ne (fun z : ls = ad => h.off (z ▸ List.mem_of_getElem? e0))]; exact h.top, h.len, h.nd, h.off, fun s a e => ?_⟩
  by_cases hs : s = s0
  · subst hs
    rw [e0] at e
    cases e
    rw [upd_same, hn]
  · have ne : a ≠ ad := fun z => by
      subst z
      exact hs ((List.getElem?_inj (List.getElem?_eq_some_iff.mp e).1 h.nd).mp (e.trans e0.symm))
    rw [upd_ne ne, ho s hs]
    exact h.at_ s a e
theorem Shl.get {H : Hp} {ls : Addr} {ads : List Addr} {sh : Int} {there : List Int} (h : Shl H ls ads sh there) {k : Int} (h0 : 0 ≤ k) (h1 : k < sh) : ∃ (s : Nat) (ad : Addr), (s : Int) = k ∧ ads[s]? = some ad ∧ atI (ads.map V.ref) k = some (.ref ad) ∧ H ad = some (.lst ((shelfS sh k there).map V.int)) := by
  have hk : k.toNat < ads.length := by rw [h.len]; omega
  have e : ads[k.toNat]? = some ads[k.toNat] := List.getElem?_eq_getElem hk
  have ek : ((k.toNat : Nat) : Int) = k := by omega
  have q : atI (ads.map V.ref) ((k.toNat : Nat) : Int) = some (.ref ads[k.toNat]) := atI_nat (by rw [List.getElem?_map, e]; rfl)
  have q2 := h.at_ _ _ e
  rw [ek] at q q2
  exact ⟨k.toNat, _, ek, e, q, q2⟩
theorem Shl.one {H : Hp} {ls : Addr} {ads : List Addr} {sh : Int} {there : List Int} (h : Shl H ls ads sh there) {ad : Addr} (m : ad ∈ ads) : ∃ xs, H ad = some (.lst xs) := by
  obtain ⟨s, e⟩ := List.getElem?_of_mem m
  exact ⟨_, h.at_ s ad e⟩
def flds (sh pl : Int) (ru : Str) (ls du : Addr) : List (Str × V) := putF "uses" (.ref du) (putF "standing" (.ref ls) (putF "rule" (.str ru) (putF "places" (.int pl) (putF "shelves" (.int sh) []))))
theorem fl_uses (sh pl : Int) (ru : Str) (ls du : Addr) : (flds sh pl ru ls du).lookup ("uses" : Str) = some (.ref du) := by
  unfold flds
  rw [lookup_putF, if_pos rfl]
theorem fl_standing (sh pl : Int) (ru : Str) (ls du : Addr) : (flds sh pl ru ls du).lookup ("standing" : Str) = some (.ref ls) := by
  unfold flds
  rw [lookup_putF, if_neg (by decide +kernel), lookup_putF, if_pos rfl]
theorem fl_rule (sh pl : Int) (ru : Str) (ls du : Addr) : (flds sh pl ru ls du).lookup ("rule" : Str) = some (.str ru) := by
  unfold flds
  rw [lookup_putF, if_neg (by decide +kernel), lookup_putF, if_neg (by decide +kernel), lookup_putF, if_pos rfl]
theorem fl_places (sh pl : Int) (ru : Str) (ls du : Addr) : (flds sh pl ru ls du).lookup ("places" : Str) = some (.int pl) := by
  unfold flds
  rw [lookup_putF, if_neg (by decide +kernel), lookup_putF, if_neg (by decide +kernel), lookup_putF, if_neg (by decide +kernel), lookup_putF, if_pos rfl]
theorem fl_shelves (sh pl : Int) (ru : Str) (ls du : Addr) : (flds sh pl ru ls du).lookup ("shelves" : Str) = some (.int sh) := by
  unfold flds
  rw [lookup_putF, if_neg (by decide +kernel), lookup_putF, if_neg (by decide +kernel), lookup_putF, if_neg (by decide +kernel), lookup_putF, if_neg (by decide +kernel), lookup_putF, if_pos rfl]
theorem fl_no (sh pl : Int) (ru : Str) (ls du : Addr) {m : Str} (h1 : ¬ m = "uses" := by decide +kernel) (h2 : ¬ m = "standing" := by decide +kernel) (h3 : ¬ m = "rule" := by decide +kernel) (h4 : ¬ m = "places" := by decide +kernel) (h5 : ¬ m = "shelves" := by decide +kernel) : (flds sh pl ru ls du).lookup m = none := by
  unfold flds
  rw [lookup_putF, if_neg h1, lookup_putF, if_neg h2, lookup_putF, if_neg h3, lookup_putF, if_neg h4, lookup_putF, if_neg h5]
  rfl
def KI (kvs : List (Key × V)) : Prop := ∃ ks : List Int, kvs.map Prod.fst = ks.map Sum.inl ∧ ks.Nodup
theorem KI.nil : KI [] := ⟨[], rfl, List.nodup_nil⟩
theorem KI.put {kvs : List (Key × V)} (h : KI kvs) (b : Int) (v : V) : KI (putK kvs (Sum.inl b) v) := by
  obtain ⟨ks, e, nd⟩ := h
  unfold putK
  split
  · refine ⟨ks, ?_, nd⟩
    rw [← e, List.map_map]
    exact List.map_congr_left fun q _ => by
      show (if q.1 = Sum.inl b then (q.1, v) else q).1 = q.1
      split <;> rfl
  · rename_i c
    refine ⟨ks ++ [b], by rw [List.map_append, List.map_append, e]; rfl, ?_⟩
    rw [List.nodup_append]
    refine ⟨nd, by simp, fun x hx y hy z => c ?_⟩
    rw [List.mem_singleton.mp hy] at z
    subst z
    have m : (Sum.inl x : Key) ∈ kvs.map Prod.fst := by rw [e]; exact List.mem_map_of_mem hx
    obtain ⟨q, hq, eq⟩ := List.mem_map.mp m
    exact List.any_eq_true.mpr ⟨q, hq, by simpa using eq⟩
theorem KI.drop {kvs : List (Key × V)} (h : KI kvs) (b : Int) : KI (dropK kvs (Sum.inl b)) := by
  obtain ⟨ks, e, nd⟩ := h
  unfold dropK
  refine ⟨ks.filter fun x => decide (x ≠ b), ?_, nd.sublist List.filter_sublist⟩
  have l : (kvs.filter fun kv => decide (kv.1 ≠ Sum.inl b)).map Prod.fst = (kvs.map Prod.fst).filter fun k => decide (k ≠ Sum.inl b) := by
    rw [List.filter_map]; rfl
  rw [l, e, List.filter_map]
  congr 1
  refine List.filter_congr fun x _ => ?_
  show decide ((Sum.inl x : Key) ≠ Sum.inl b) = decide (x ≠ b)
  rw [decide_eq_decide]
  exact ⟨fun z y => z (by rw [y]), fun z y => z (Sum.inl.inj y)⟩
theorem val_key {kvs : List (Key × V)} (k : Key) : (valV kvs k).isSome = true ↔ k ∈ kvs.map Prod.fst := by
  rw [← valV_any, List.any_eq_true, List.mem_map]
  exact ⟨fun ⟨q, h1, h2⟩ => ⟨q, h1, by simpa using h2⟩, fun ⟨q, h1, h2⟩ => ⟨q, h1, by simpa using h2⟩⟩
structure RoomAt (K : PySem.W.Frag) (H : Hp) (p : Addr) (sh pl : Int) (ru : Str) (ls : Addr) (ads : List Addr) (du : Addr) (seq : List Int) (us : Int → Int) (n : Nat) : Prop where
  ob : ∃ dx, H p = some (.ins (clsOf K "Room") dx (flds sh pl ru ls du))
  st : Shl H ls ads sh seq
  dc : ∃ kvs, H du = some (.dK kvs) ∧ (kvs.length ≤ n ∧ KI kvs) ∧ ∀ b, valV kvs (Sum.inl b : Key) = if b ∈ seq then some (.int (us b)) else none
  nd : seq.Nodup
  s0 : 1 ≤ sh
  s1 : sh ≤ 64
def SR (ads : List Addr) (du : Addr) (H H' : Hp) : Prop := ∀ b o, H b = some o → b ≠ du → b ∉ ads → H' b = some o
theorem SR.of {ads : List Addr} {du : Addr} {H H' : Hp} (s : Same H H') : SR ads du H H' := fun b o h _ _ => s b o h
theorem SR.trans {ads : List Addr} {du : Addr} {H H1 H2 : Hp} (a : SR ads du H H1) (b : SR ads du H1 H2) : SR ads du H H2 := fun c o h n1 n2 => b c o (a c o h n1 n2) n1 n2
section
variable {K : PySem.W.Frag} {H H' : Hp} {p : Addr} {sh pl : Int} {ru : Str} {ls : Addr} {ads : List Addr} {du : Addr} {seq : List Int} {us : Int → Int} {n : Nat}
theorem RoomAt.off (R : RoomAt K H p sh pl ru ls ads du seq us n) : p ≠ du ∧ p ∉ ads ∧ ls ≠ du ∧ ls ∉ ads ∧ du ∉ ads ∧ p ≠ ls := by
  obtain ⟨dx, h1⟩ := R.ob
  obtain ⟨kvs, h2, _⟩ := R.dc
  refine ⟨fun z => ?_, fun z => ?_, fun z => ?_, R.st.off, fun z => ?_, fun z => ?_⟩
  · rw [z, h2] at h1; cases h1
  · obtain ⟨xs, e⟩ := R.st.one z
    rw [e] at h1; cases h1
  · have e := R.st.top
    rw [z, h2] at e; cases e
  · obtain ⟨xs, e⟩ := R.st.one z
    rw [e] at h2; cases h2
  · have e := R.st.top
    rw [← z, h1] at e; cases e
theorem RoomAt.same (R : RoomAt K H p sh pl ru ls ads du seq us n) (s : Same H H') : RoomAt K H' p sh pl ru ls ads du seq us n := by
  obtain ⟨dx, h1⟩ := R.ob
  obtain ⟨kvs, h2, h3⟩ := R.dc
  exact ⟨⟨dx, s _ _ h1⟩, ⟨s _ _ R.st.top, R.st.len, R.st.nd, R.st.off, fun i ad e => s _ _ (R.st.at_ i ad e)⟩, ⟨kvs, s _ _ h2, h3⟩, R.nd, R.s0, R.s1⟩
theorem SR.keep {o : HO} {b : Addr} (s : SR ads du H H') (R : RoomAt K H p sh pl ru ls ads du seq us n) (h : H b = some o) (n1 : ∀ kvs, o ≠ .dK kvs) (n2 : ∀ xs, o ≠ .lst xs) : H' b = some o := by
  refine s _ _ h (fun z => ?_) fun z => ?_
  · obtain ⟨kvs, e, _⟩ := R.dc
    rw [z, e] at h
    exact n1 kvs (Option.some.inj h).symm
  · obtain ⟨xs, e⟩ := R.st.one z
    rw [e] at h
    exact n2 xs (Option.some.inj h).symm
theorem RoomAt.shelf (R : RoomAt K H p sh pl ru ls ads du seq us n) (b : Int) : ∃ (s : Nat) (ad : Addr), (s : Int) = b % sh ∧ ads[s]? = some ad ∧ atI (ads.map V.ref) (b % sh) = some (.ref ad) ∧ H ad = some (.lst ((shelfS sh (b % sh) seq).map V.int)) := by
  have h0 := R.s0
  exact R.st.get (Int.emod_nonneg _ (by omega)) (Int.emod_lt_of_pos _ (by omega))
end
section
variable {P : Program} {w : World} {K : PySem.W.Frag} {mg : Str → Option Value} {base : Heap}
def spShelf : Sp := fun vs H Q _ => ∃ sh b : Int, vs = [.int sh, .int b] ∧ 1 ≤ sh ∧ Q (.int (b % sh)) H
theorem ok_shelf_of {f : Addr} {fd : FuncData} (F : Fun K "shelf_of" "shelf_of" s_shelf_of f fd) (T : Txt K mg) : FnOk P w K mg base CX0 1 f fd P_shelf_of spShelf := by
  refine F.ok sc_shelf_of (fun vs H Q E h => ?_) (fun cdv A outer st H vs Q E hr h => ?_)
  · obtain ⟨sh, b, rfl, _⟩ := h
    rfl
  obtain ⟨sh, b, rfl, h0, k⟩ := h
  have nd := sc_shelf_of.nd
  refine ⟨_, (pss_one (ps_ret (pe_op op_mod (pv 1) (pv 0)))), ?_⟩
  exact ⟨_, rfl, _, rfl, _, _, rfl, rfl, (by show 0 < sh; omega), k⟩
def spHas (K : PySem.W.Frag) : Sp := fun vs H Q _ => ∃ (p : Addr) (b sh pl : Int) (ru : Str) (ls : Addr) (ads : List Addr) (du : Addr) (seq : List Int) (us : Int → Int) (n : Nat), vs = [.ref p, .int b] ∧ RoomAt K H p sh pl ru ls ads du seq us n ∧ Q (.bl (decide (b ∈ seq))) H
theorem ok_Room_has {f : Addr} {fd : FuncData} (F : Fun K "has" "Room.has" s_Room_has f fd) (T : Txt K mg) : FnOk P w K mg base CX0 1 f fd P_Room_has (spHas K) := by
  refine F.ok sc_Room_has (fun vs H Q E h => ?_) (fun cdv A outer st H vs Q E hr h => ?_)
  · obtain ⟨p, b, sh, pl, ru, ls, ads, du, seq, us, n, rfl, _⟩ := h
    rfl
  obtain ⟨p, b, sh, pl, ru, ls, ads, du, seq, us, n, rfl, R, k⟩ := h
  have nd := sc_Room_has.nd
  have hu := hu_of hr
  refine ⟨_, (pss_one (ps_ret (pe_cmp (pc_din hu (pv 1) (pe_fldK (K := K) rfl (pv 0) rfl))))), ?_⟩
  obtain ⟨dx, h1⟩ := R.ob
  obtain ⟨kvs, h2, h3, h4⟩ := R.dc
  refine ⟨_, rfl, _, rfl, p, _, dx, _, _, rfl, h1, T.cl_Room, T.n_Room_uses, fl_uses .., du, _, rfl, DGet.k (k := Sum.inl b) h2, ?_⟩
  rw [h4 b]
  by_cases c : b ∈ seq
  · rw [if_pos c]
    rw [decide_eq_true c] at k
    exact k
  · rw [if_neg c]
    rw [decide_eq_false c] at k
    exact k
def spMates (K : PySem.W.Frag) : Sp := fun vs H Q _ => ∃ (p : Addr) (b sh pl : Int) (ru : Str) (ls : Addr) (ads : List Addr) (du : Addr) (seq : List Int) (us : Int → Int) (n : Nat), vs = [.ref p, .int b] ∧ RoomAt K H p sh pl ru ls ads du seq us n ∧
  ∀ (s : Nat) (ad : Addr), (s : Int) = b % sh → ads[s]? = some ad → H ad = some (.lst ((shelfS sh (b % sh) seq).map V.int)) → Q (.ref ad) H
theorem ok_Room_mates {f : Addr} {fd : FuncData} (F : Fun K "mates" "Room.mates" s_Room_mates f fd) (T : Txt K mg) (D_shelf_of : Def P w K mg base "shelf_of" 1 P_shelf_of spShelf) : FnOk P w K mg base CX0 2 f fd P_Room_mates (spMates K) := by
  refine F.ok sc_Room_mates (fun vs H Q E h => ?_) (fun cdv A outer st H vs Q E hr h => ?_)
  · obtain ⟨p, b, sh, pl, ru, ls, ads, du, seq, us, n, rfl, _⟩ := h
    rfl
  obtain ⟨p, b, sh, pl, ru, ls, ads, du, seq, us, n, rfl, R, k⟩ := h
  have nd := sc_Room_mates.nd
  refine ⟨_, (pss_one (ps_ret (pe_ix (ix_listK (K := K) rfl) (pe_fldK (K := K) rfl (pv 0) rfl) (pe_defN D_shelf_of hr.m rfl (pc (pe_fldK (K := K) rfl (pv 0) rfl) (pc (pv 1) pa_nil))) (fun _ _ => rfl)))), ?_⟩
  obtain ⟨dx, h1⟩ := R.ob
  obtain ⟨s, ad, e1, e2, e3, e4⟩ := R.shelf b
  exact ⟨_, rfl, p, _, dx, _, _, rfl, h1, T.cl_Room, T.n_Room_standing, fl_standing .., _, rfl, p, _, dx, _, _, rfl, h1, T.cl_Room, T.n_Room_shelves, fl_shelves .., _, rfl, sh, b, rfl, R.s0, ls, _, _, _, rfl, rfl, SqL.of R.st.top, e3, k s ad e1 e2 e4⟩
def spNeed (K : PySem.W.Frag) : Sp := fun vs H Q _ => ∃ (p : Addr) (b sh pl : Int) (ru : Str) (ls : Addr) (ads : List Addr) (du : Addr) (seq : List Int) (us : Int → Int) (n : Nat), vs = [.ref p, .int b] ∧ RoomAt K H p sh pl ru ls ads du seq us n ∧ b ∈ seq ∧ Q .non H
theorem ok_Room_need {f : Addr} {fd : FuncData} (F : Fun K "need" "Room.need" s_Room_need f fd) (T : Txt K mg) (M_Room_has : MDef P w K mg base (clsOf K "Room") "has" 1 P_Room_has (spHas K)) : FnOk P w K mg base CX0 2 f fd P_Room_need (spNeed K) := by
  refine F.ok sc_Room_need (fun vs H Q E h => ?_) (fun cdv A outer st H vs Q E hr h => ?_)
  · obtain ⟨p, b, sh, pl, ru, ls, ads, du, seq, us, n, rfl, _⟩ := h
    rfl
  obtain ⟨p, b, sh, pl, ru, ls, ads, du, seq, us, n, rfl, R, hb, k⟩ := h
  have nd := sc_Room_need.nd
  refine ⟨_, (pss_one (ps_if (pt_not (pt_val (pe_methN M_Room_has hr.m T.cl_Room (pv 0) (pc (pv 1) pa_nil)))) (pss_one ps_no) pss_nil)), ?_⟩
  obtain ⟨dx, h1⟩ := R.ob
  refine ⟨_, rfl, p, dx, _, rfl, h1, fl_no .., _, rfl, p, b, sh, pl, ru, ls, ads, du, seq, us, n, rfl, R, ?_⟩
  rw [decide_eq_true hb]
  exact ⟨_, rfl, ifF rfl k⟩
end
section
variable {P : Program} {w : World} {K : PySem.W.Frag} {mg : Str → Option Value} {base : Heap}
def spGoing (K : PySem.W.Frag) : Sp := fun vs H Q _ => ∃ (p m : Addr) (ms : List Int) (sh pl : Int) (ru : Str) (ls : Addr) (ads : List Addr) (du : Addr) (seq : List Int) (us : Int → Int) (n : Nat), vs = [.ref p, .ref m] ∧ RoomAt K H p sh pl ru ls ads du seq us n ∧ Tb K H ∧ H m = some (.lst (ms.map V.int)) ∧ ms.length < 64 ∧ ms.Nodup ∧ (∀ b ∈ ms, b ∈ seq) ∧
  ∀ (D : Addr) (H' : Hp) (os : List Int), H D = none → Same H H' → H' D = some (.lst (os.map V.int)) → os.Perm ms → (ru = "few" → os.Pairwise (KLt us ms)) → (ru ≠ "few" → os = ms) → Q (.ref D) H'
theorem ok_Room_going {f tp cg : Addr} {fd : FuncData} (F : Fun K "going" "Room.going" s_Room_going f fd) (hfc : fd.code = .ref cg) (htp : tabOf K "Room" "going" = tp) (hch : PySem.W.codeHdIn K cg tp = true) (bm : BMod base mg) (T : Txt K mg) : FnOk P w K mg base CX0 2 f fd P_Room_going (spGoing K) := by
  refine F.okC sc_Room_going (fun vs H Q E h => ?_) (fun cdv A outer st H vs Q E hcv hr h => ?_)
  · obtain ⟨p, m, ms, sh, pl, ru, ls, ads, du, seq, us, n, rfl, _⟩ := h
    rfl
  obtain ⟨p, m, ms, sh, pl, ru, ls, ads, du, seq, us, n, rfl, R, tb, hm, h64, hnd, hin, k⟩ := h
  have nd := sc_Room_going.nd
  have hu := hu_of hr
  have hc0 : cdv = .ref cg := hcv.symm.trans hfc
  refine ⟨_, (pss_cons (ps_if (pt_cmpR op_eq (pe_fldK (K := K) rfl (pv 0) rfl) pe_str (nomark _)) (pss_one (ps_ret (pe_sortK (X := (cxOf CX0 P w K mg base N_Room_going "Room.going" (defScope s_Room_going) f cdv A outer st H E).nox) (K := K) (P := tp) (c0 := cg) rfl hr rfl rfl T.z_sorted (lamOk_of (osc := (defScope s_Room_going)) (oN := N_Room_going) (x := "board") (fr := ["self"]) (js := [0]) (by decide +kernel) rfl rfl) hc0 hch bm rfl rfl rfl (fun _ _ _ _ _ => rfl) (pv 1) (fun _ _ _ _ _ => (pe_dget (hu_lam hr) (pe_fldK (K := K) rfl (pv 1) rfl) (pv 0) (fun _ _ => rfl)))))) pss_nil)
      (pss_one (ps_ret (pe_callTyN (call_list_ofK (K := K) rfl) rfl T.z_list boot_listT (pc (pv 1) pa_nil))))), ?_⟩
  obtain ⟨dx, h1⟩ := R.ob
  obtain ⟨kvs, h2, h3, h4⟩ := R.dc
  refine ⟨_, rfl, p, _, dx, _, _, rfl, h1, T.cl_Room, T.n_Room_rule, fl_rule .., rfl, _, rfl, ?_⟩
  refine ite_dec (fun c => ?_) (fun c => ?_)
  · have c' : ru = "few" := by injection c
    have tb' : H tp = some (.tbl tpos tqual) := by
      have t := tb
      unfold Tb at t
      rw [htp] at t
      exact t
    refine ⟨_, rfl, m, ms, us, rfl, SqL.of hm, h64, hnd, tb', fun z hz H2 sm => ?_, fun D H' os hD sm hl po so => k D H' os hD sm hl po (fun _ => so) fun z => absurd c' z⟩
    have v := h4 z
    rw [if_pos (hin z hz)] at v
    exact ⟨_, rfl, p, _, dx, _, _, rfl, sm _ _ h1, T.cl_Room, T.n_Room_uses, fl_uses .., _, rfl, du, _, rfl, (by have q := DGet.k (k := Sum.inl z) (sm _ _ h2); rw [v] at q; exact q), rfl, rfl⟩
  · have c' : ¬ ru = "few" := fun z => c (by rw [z])
    exact ⟨_, rfl, m, _, rfl, .inl (SqL.of hm), fun D hD => k D _ ms hD (same_upd hD _) upd_same (List.Perm.refl _) (fun z => absurd z c') fun _ => rfl⟩
theorem val_drop {kvs : List (Key × V)} {k : Key} (j : Key) : valV (dropK kvs k) j = if j = k then none else valV kvs j := by
  induction kvs with
  | nil => by_cases e : j = k <;> simp [dropK, valV, e]
  | cons q r ih =>
    by_cases e : q.1 = k
    · rw [dropK_pos e, ih]
      by_cases c : j = k
      · rw [if_pos c, if_pos c]
      · rw [if_neg c, if_neg c, valV_neg (fun z => c (z.symm.trans e))]
    · rw [dropK_neg e]
      by_cases c : q.1 = j
      · rw [valV_pos c, if_neg (fun z => e (c.trans z)), valV_pos c]
      · rw [valV_neg c, ih, valV_neg c]
theorem drop_lenK (kvs : List (Key × V)) (k : Key) : (dropK kvs k).length ≤ kvs.length := List.length_filter_le ..
def spDrop (K : PySem.W.Frag) : Sp := fun vs H Q _ => ∃ (p : Addr) (b sh pl : Int) (ru : Str) (ls : Addr) (ads : List Addr) (du : Addr) (seq : List Int) (us : Int → Int) (n : Nat), vs = [.ref p, .int b] ∧ RoomAt K H p sh pl ru ls ads du seq us n ∧ b ∈ seq ∧
  ∀ H', RoomAt K H' p sh pl ru ls ads du (seq.erase b) us n → SR ads du H H' → Q .non H'
theorem ok_Room_drop {f : Addr} {fd : FuncData} (F : Fun K "drop" "Room.drop" s_Room_drop f fd) (T : Txt K mg) (M_Room_need : MDef P w K mg base (clsOf K "Room") "need" 2 P_Room_need (spNeed K)) (M_Room_mates : MDef P w K mg base (clsOf K "Room") "mates" 2 P_Room_mates (spMates K)) : FnOk P w K mg base CX0 3 f fd P_Room_drop (spDrop K) := by
  refine F.ok sc_Room_drop (fun vs H Q E h => ?_) (fun cdv A outer st H vs Q E hr h => ?_)
  · obtain ⟨p, b, sh, pl, ru, ls, ads, du, seq, us, n, rfl, _⟩ := h
    rfl
  obtain ⟨p, b, sh, pl, ru, ls, ads, du, seq, us, n, rfl, R, hb, k⟩ := h
  have nd := sc_Room_drop.nd
  refine ⟨_, (pss_cons (ps_expr (pe_methN M_Room_need hr.m T.cl_Room (pv 0) (pc (pv 1) pa_nil)))
      (pss_cons (ps_expr (pe_bmC (K := K) rfl (pe_bm PySem.F.plainAttrs_list PySem.F.slot_list_remove PySem.F.type_list_remove mt_remove (pe_methN M_Room_mates hr.m T.cl_Room (pv 0) (pc (pv 1) pa_nil)) (pc (pv 1) pa_nil))))
      (pss_one (ps_expr (pe_dpop1 (pe_fldK (K := K) rfl (pv 0) rfl) (pv 1) ⟨rfl, rfl, rfl, rfl⟩))))), ?_⟩
  obtain ⟨dx, h1⟩ := R.ob
  obtain ⟨kvs, h2, h3, h4⟩ := R.dc
  obtain ⟨o1, o2, o3, o4, o5, o6⟩ := R.off
  refine ⟨_, rfl, p, dx, _, rfl, h1, fl_no .., _, rfl, p, b, sh, pl, ru, ls, ads, du, seq, us, n, rfl, R, hb, ?_⟩
  refine ⟨_, rfl, p, dx, _, rfl, h1, fl_no .., _, rfl, p, b, sh, pl, ru, ls, ads, du, seq, us, n, rfl, R, fun s ad es hs had => ?_⟩
  have mad : ad ∈ ads := List.mem_of_getElem? hs
  have hmem : b ∈ shelfS sh (b % sh) seq := mem_shelfS.mpr ⟨hb, rfl⟩
  refine ⟨.inl ⟨rfl, _, SqL.of had⟩, _, rfl, ad, _, b, rfl, rfl, had, hmem, ?_⟩
  have S1 : Shl (upd H ad (.lst (((shelfS sh (b % sh) seq).erase b).map V.int))) ls ads sh (seq.erase b) := by
    refine R.st.put hs ?_ fun s' hs' => ?_
    · rw [shelfS_erase, es]
    · rw [shelfS_erase]
      exact List.erase_of_not_mem fun m => hs' (by have := (mem_shelfS.mp m).2; omega)
  have np : p ≠ ad := fun z => o2 (z ▸ mad)
  have nd' : du ≠ ad := fun z => o5 (z ▸ mad)
  have h1' : upd H ad (.lst (((shelfS sh (b % sh) seq).erase b).map V.int)) p = some (.ins (clsOf K "Room") dx (flds sh pl ru ls du)) := by rw [upd_ne np]; exact h1
  have h2' : upd H ad (.lst (((shelfS sh (b % sh) seq).erase b).map V.int)) du = some (.dK kvs) := by rw [upd_ne nd']; exact h2
  refine ⟨_, rfl, p, _, dx, _, _, rfl, h1', T.cl_Room, T.n_Room_uses, fl_uses .., du, rfl, .inl ⟨_, .inl h2'⟩, _, rfl, kvs, Sum.inl b, _, h2', rfl, (by rw [h4 b, if_pos hb]), ?_⟩
  refine k _ ⟨⟨dx, by rw [upd_ne o1]; exact h1'⟩, S1.other _ (Ne.symm o3) o5, ⟨_, upd_same, ⟨Nat.le_trans (drop_lenK _ _) h3.1, h3.2.drop b⟩, fun x => ?_⟩, R.nd.erase b, R.s0, R.s1⟩ fun x o e n1 n2 => ?_
  · rw [val_drop, h4 x]
    by_cases c : x = b
    · subst c
      rw [if_pos rfl, if_neg (fun m => ((List.Nodup.mem_erase_iff R.nd).mp m).1 rfl)]
    · rw [if_neg (fun z => c (Sum.inl.inj z))]
      by_cases m : x ∈ seq
      · rw [if_pos m, if_pos ((List.Nodup.mem_erase_iff R.nd).mpr ⟨c, m⟩)]
      · rw [if_neg m, if_neg (fun z => m (List.mem_of_mem_erase z))]
  · rw [upd_ne n1, upd_ne (fun z : x = ad => n2 (z ▸ mad))]
    exact e
def bump (us : Int → Int) (b : Int) : Int → Int := fun x => if x = b then us b + 1 else us x
def spUse (K : PySem.W.Frag) : Sp := fun vs H Q _ => ∃ (p : Addr) (b sh pl : Int) (ru : Str) (ls : Addr) (ads : List Addr) (du : Addr) (seq : List Int) (us : Int → Int) (n : Nat), vs = [.ref p, .int b] ∧ RoomAt K H p sh pl ru ls ads du seq us n ∧ n ≤ 900 ∧ b ∈ seq ∧ seq.length ≤ 900 ∧
  ∀ H', RoomAt K H' p sh pl ru ls ads du (if ru = "old" then seq.erase b ++ [b] else seq) (bump us b) (n + 1) → SR ads du H H' → Q .non H'
theorem ok_Room_use {f : Addr} {fd : FuncData} (F : Fun K "use" "Room.use" s_Room_use f fd) (T : Txt K mg) (M_Room_need : MDef P w K mg base (clsOf K "Room") "need" 2 P_Room_need (spNeed K)) (M_Room_mates : MDef P w K mg base (clsOf K "Room") "mates" 2 P_Room_mates (spMates K)) : FnOk P w K mg base CX0 3 f fd P_Room_use (spUse K) := by
  refine F.ok sc_Room_use (fun vs H Q E h => ?_) (fun cdv A outer st H vs Q E hr h => ?_)
  · obtain ⟨p, b, sh, pl, ru, ls, ads, du, seq, us, n, rfl, _⟩ := h
    rfl
  obtain ⟨p, b, sh, pl, ru, ls, ads, du, seq, us, n, rfl, R, hn, hb, hsl, k⟩ := h
  have nd := sc_Room_use.nd
  have hu := hu_of hr
  refine ⟨_, (pss_cons (ps_expr (pe_methN M_Room_need hr.m T.cl_Room (pv 0) (pc (pv 1) pa_nil)))
      (pss_cons (ps_daug hu (pe_fldK (K := K) rfl (pv 0) rfl) (pv 1) pe_int in_add (fun _ _ _ => rfl))
      (pss_one (ps_if (pt_cmpR op_eq (pe_fldK (K := K) rfl (pv 0) rfl) pe_str (nomark _)) (pss_cons (pst 2 nd (pe_methN M_Room_mates hr.m T.cl_Room (pv 0) (pc (pv 1) pa_nil)))
      (pss_cons (ps_expr (pe_bmC (K := K) rfl (pe_bm PySem.F.plainAttrs_list PySem.F.slot_list_remove PySem.F.type_list_remove mt_remove (pv 2) (pc (pv 1) pa_nil))))
      (pss_one (ps_expr (pe_bmC (K := K) rfl (pe_bm PySem.F.plainAttrs_list PySem.F.slot_list_append PySem.F.type_list_append mt_append (pv 2) (pc (pv 1) pa_nil))))))) pss_nil)))), ?_⟩
  obtain ⟨dx, h1⟩ := R.ob
  obtain ⟨kvs, h2, h3, h4⟩ := R.dc
  obtain ⟨o1, o2, o3, o4, o5, o6⟩ := R.off
  refine ⟨_, rfl, p, dx, _, rfl, h1, fl_no .., _, rfl, p, b, sh, pl, ru, ls, ads, du, seq, us, n, rfl, R, hb, ?_⟩
  refine ⟨_, rfl, p, _, dx, _, _, rfl, h1, T.cl_Room, T.n_Room_uses, fl_uses .., _, rfl, du, _, rfl, (by have q := DGet.k (k := Sum.inl b) h2; rw [h4 b, if_pos hb] at q; exact q), _, _, rfl, rfl, _, DPut.k (k := Sum.inl b) h2 (small1000 (by omega)), ?_⟩
  have R1 : RoomAt K (upd H du (.dK (putK kvs (Sum.inl b) (.int (us b + 1))))) p sh pl ru ls ads du seq (bump us b) (n + 1) := by
    refine ⟨⟨dx, by rw [upd_ne o1]; exact h1⟩, R.st.other _ (Ne.symm o3) o5, ⟨_, upd_same, ⟨Nat.le_trans (length_putK ..) (by have := h3.1; omega), h3.2.put b _⟩, fun x => ?_⟩, R.nd, R.s0, R.s1⟩
    rw [valV_put]
    unfold bump
    by_cases c : x = b
    · subst c
      rw [if_pos rfl, if_pos hb, if_pos rfl]
    · rw [if_neg (fun z => c (Sum.inl.inj z)), h4 x, if_neg c]
  have s1 : SR ads du H (upd H du (.dK (putK kvs (Sum.inl b) (.int (us b + 1))))) := fun x o e n1 n2 => by rw [upd_ne n1]; exact e
  generalize upd H du (.dK (putK kvs (Sum.inl b) (.int (us b + 1)))) = H1 at *
  obtain ⟨dx1, g1⟩ := R1.ob
  refine ⟨_, rfl, p, _, dx1, _, _, rfl, g1, T.cl_Room, T.n_Room_rule, fl_rule .., rfl, _, rfl, ?_⟩
  refine ite_dec (fun c => ?_) (fun c => ?_)
  · have c' : ru = "old" := by injection c
    rw [if_pos c'] at k
    refine ⟨_, rfl, p, dx1, _, rfl, g1, fl_no .., _, rfl, p, b, sh, pl, ru, ls, ads, du, seq, _, _, rfl, R1, fun s ad es hs had => ?_⟩
    have mad : ad ∈ ads := List.mem_of_getElem? hs
    have hmem : b ∈ shelfS sh (b % sh) seq := mem_shelfS.mpr ⟨hb, rfl⟩
    refine ⟨_, rfl, .inl ⟨rfl, _, SqL.of had⟩, _, rfl, ad, _, b, rfl, rfl, had, hmem, ?_⟩
    have ll : ((shelfS sh (b % sh) seq).erase b).length ≤ 900 := Nat.le_trans List.length_erase_le (Nat.le_trans (List.length_filter_le ..) hsl)
    refine ⟨_, rfl, .inl ⟨rfl, _, SqL.of upd_same⟩, _, rfl, ad, _, _, rfl, rfl, upd_same, small1000 (by rw [List.length_map]; omega), ?_⟩
    rw [upd_upd]
    have e1 : (((shelfS sh (b % sh) seq).erase b).map V.int ++ [V.int b]) = ((shelfS sh (b % sh) seq).erase b ++ [b]).map V.int := by rw [List.map_append]; rfl
    have S2 : Shl (upd H1 ad (.lst (((shelfS sh (b % sh) seq).erase b ++ [b]).map V.int))) ls ads sh (seq.erase b ++ [b]) := by
      refine R1.st.put hs ?_ fun s' hs' => ?_
      · rw [shelfS_app, if_pos es.symm, shelfS_erase, es]
      · rw [shelfS_app, if_neg (by omega), shelfS_erase]
        exact List.erase_of_not_mem fun m => hs' (by have := (mem_shelfS.mp m).2; omega)
    have np : p ≠ ad := fun z => o2 (z ▸ mad)
    have ndu : du ≠ ad := fun z => o5 (z ▸ mad)
    obtain ⟨kvs1, g2, g3, g4⟩ := R1.dc
    have hme : ∀ x, x ∈ seq.erase b ++ [b] ↔ x ∈ seq := fun x => by
      rw [List.mem_append, List.mem_singleton, List.Nodup.mem_erase_iff R.nd]
      constructor
      · rintro (⟨_, m⟩ | rfl)
        · exact m
        · exact hb
      · intro m
        by_cases z : x = b
        · exact .inr z
        · exact .inl ⟨z, m⟩
    rw [e1]
    refine k _ ⟨⟨dx1, by rw [upd_ne np]; exact g1⟩, S2, ⟨kvs1, by rw [upd_ne ndu]; exact g2, g3, fun x => ?_⟩, ?_, R.s0, R.s1⟩ fun x o e n1 n2 => ?_
    · rw [g4 x]
      by_cases m : x ∈ seq
      · rw [if_pos m, if_pos ((hme x).mpr m)]
      · rw [if_neg m, if_neg (fun z => m ((hme x).mp z))]
    · refine nd_snoc (R.nd.erase b) fun m => ((List.Nodup.mem_erase_iff R.nd).mp m).1 rfl
    · rw [upd_ne (fun z : x = ad => n2 (z ▸ mad))]
      exact s1 _ _ e n1 n2
  · have c' : ¬ ru = "old" := fun z => c (by rw [z])
    rw [if_neg c'] at k
    exact k _ R1 s1
end
def lessO (seq : List Int) : Option Int → List Int
  | none => seq
  | some g => seq.erase g
def goneP (ru : Str) (us : Int → Int) (pl : Int) (ms : List Int) (gone : Option Int) : Prop :=
  ((ms.length : Int) < pl → gone = none) ∧ (¬ (ms.length : Int) < pl → ∃ (g : Int) (rest : List Int), gone = some g ∧ (g :: rest).Perm ms ∧ (ru = "few" → (g :: rest).Pairwise (KLt us ms)) ∧ (ru ≠ "few" → g :: rest = ms))
theorem less_sub {seq : List Int} {g : Option Int} : (lessO seq g).Sublist seq := by
  cases g with
  | none => exact List.Sublist.refl _
  | some g => exact List.erase_sublist
section
variable {P : Program} {w : World} {K : PySem.W.Frag} {mg : Str → Option Value} {base : Heap}
def spRoom (K : PySem.W.Frag) : Sp := fun vs H Q _ => ∃ (p dx : Addr) (sh pl : Int) (ru : Str), vs = [.ref p, .int sh, .int pl, .str ru] ∧ H p = some (.ins (clsOf K "Room") dx []) ∧ 1 ≤ sh ∧ sh ≤ 64 ∧
  ∀ (ls : Addr) (ads : List Addr) (du : Addr) (H' : Hp), RoomAt K H' p sh pl ru ls ads du [] (fun _ => 0) 0 → H ls = none → H du = none → (∀ ad ∈ ads, H ad = none) → (∀ b o, H b = some o → b ≠ p → H' b = some o) → Q .non H'
theorem ok_Room_init {f : Addr} {fd : FuncData} (F : Fun K "__init__" "Room.__init__" s_Room_init f fd) (T : Txt K mg) : FnOk P w K mg base CX0 1 f fd P_Room_init (spRoom K) := by
  refine F.ok sc_Room_init (fun vs H Q E h => ?_) (fun cdv A outer st H vs Q E hr h => ?_)
  · obtain ⟨p, dx, sh, pl, ru, rfl, _⟩ := h
    rfl
  obtain ⟨p, dx, sh, pl, ru, rfl, hp, hs0, hs1, k⟩ := h
  have nd := sc_Room_init.nd
  refine ⟨_, (pss_cons (ps_fld (pv 0) (pv 1) rfl)
      (pss_cons (ps_fld (pv 0) (pv 2) rfl)
      (pss_cons (ps_fld (pv 0) (pv 3) rfl)
      (pss_cons (ps_fld (pv 0) (pe_comp0 (compOk_of (osc := (defScope s_Room_init)) (oN := N_Room_init) (N := ["number"]) (own := 1) (js := []) (by decide +kernel) rfl rfl) rfl (pi_range1 rfl T.z_range (pc (pv 1) pa_nil)) (fun _ _ _ _ _ _ => (pgn 0 (show List.Nodup (["number"] : List Str) by decide +kernel))) (fun _ _ _ _ _ _ => (pe_lst pa_nil))) rfl)
      (pss_one (ps_fld (pv 0) pe_dnewK rfl)))))), ?_⟩
  refine ⟨_, rfl, _, rfl, p, _, dx, _, rfl, hp, T.cl_Room, T.n_Room_shelves, (by show 0 < 1000; decide), ?_⟩
  refine ⟨_, rfl, _, rfl, p, _, dx, _, rfl, upd_same, T.cl_Room, T.n_Room_places, (by show 1 < 1000; decide), ?_⟩
  refine ⟨_, rfl, _, rfl, p, _, dx, _, rfl, upd_same, T.cl_Room, T.n_Room_rule, (by show 2 < 1000; decide), ?_⟩
  have e3 : upd (upd (upd H p (.ins (clsOf K "Room") dx (putF "shelves" (.int sh) []))) p (.ins (clsOf K "Room") dx (putF "places" (.int pl) (putF "shelves" (.int sh) [])))) p (.ins (clsOf K "Room") dx (putF "rule" (.str ru) (putF "places" (.int pl) (putF "shelves" (.int sh) [])))) p = some (.ins (clsOf K "Room") dx (putF "rule" (.str ru) (putF "places" (.int pl) (putF "shelves" (.int sh) [])))) := upd_same
  have o3 : ∀ b o, H b = some o → b ≠ p → upd (upd (upd H p (.ins (clsOf K "Room") dx (putF "shelves" (.int sh) []))) p (.ins (clsOf K "Room") dx (putF "places" (.int pl) (putF "shelves" (.int sh) [])))) p (.ins (clsOf K "Room") dx (putF "rule" (.str ru) (putF "places" (.int pl) (putF "shelves" (.int sh) [])))) b = some o := fun b o e n => by rw [upd_ne n, upd_ne n, upd_ne n]; exact e
  generalize upd (upd (upd H p (.ins (clsOf K "Room") dx (putF "shelves" (.int sh) []))) p (.ins (clsOf K "Room") dx (putF "places" (.int pl) (putF "shelves" (.int sh) [])))) p (.ins (clsOf K "Room") dx (putF "rule" (.str ru) (putF "places" (.int pl) (putF "shelves" (.int sh) [])))) = H3 at *
  have f3 : ∀ b, H3 b = none → H b = none := fun b e => by
    cases q : H b with
    | none => rfl
    | some o =>
      by_cases z : b = p
      · rw [z, e3] at e; cases e
      · rw [o3 b o q z] at e; cases e
  refine ⟨_, rfl, sh, rfl, by omega, by omega, fun ls hls => ?_⟩
  refine comp_range (lo := 0) (n := sh.toNat) (l := ls) (fun j ys σ G => ∃ (v0 : Option V) (ads : List Addr), σ = [v0] ∧ ys = ads.map V.ref ∧ ads.length = j ∧ ads.Nodup ∧ ls ∉ ads ∧ G ls = some (.lst ys) ∧ (∀ ad ∈ ads, H3 ad = none ∧ G ad = some (.lst [])) ∧ Same H3 G)
    ⟨none, [], rfl, rfl, rfl, List.nodup_nil, by simp, upd_same, by simp, same_upd hls _⟩ ?_ ?_
  · rintro j ys σ G hj hy ⟨v0, ads, rfl, rfl, hlen, hnd, hoff, g1, g2, s1⟩
    refine ⟨(by show 0 ≤ sizeLine; decide), fun q hq => ?_⟩
    have nq : ls ≠ q := ne_of_none g1 hq
    have niq : q ∉ ads := fun m => by rw [(g2 q m).2] at hq; cases hq
    refine CNx.of (Nat.le_trans (by omega : sh.toNat ≤ 64) (by decide)) hj hy (by rw [upd_ne nq]; exact g1) ⟨_, ads ++ [q], rfl, by rw [List.map_append]; rfl, by rw [List.length_append, hlen]; rfl, nd_snoc hnd niq, ?_, upd_same, fun ad m => ?_, ?_⟩
    · intro m
      rcases List.mem_append.mp m with m | m
      · exact hoff m
      · exact nq (by simpa using m)
    · rcases List.mem_append.mp m with m | m
      · rw [upd_ne (fun z : ad = ls => hoff (z ▸ m)), upd_ne (fun z : ad = q => niq (z ▸ m))]
        exact g2 ad m
      · have e : ad = q := by simpa using m
        subst e
        rw [upd_ne (Ne.symm nq)]
        exact ⟨s1.free hq, upd_same⟩
    · intro e o y
      rw [upd_ne (ne_of_none y hls), upd_ne (ne_of_none (s1 _ _ y) hq)]
      exact s1 _ _ y
  rintro ys σ G hy ⟨v0, ads, rfl, rfl, hlen, hnd, hoff, g1, g2, s1⟩
  have gp := s1 _ _ e3
  refine ⟨_, rfl, p, _, dx, _, rfl, gp, T.cl_Room, T.n_Room_standing, (by show 3 < 1000; decide), ?_⟩
  intro du hdu
  have nls : ls ≠ p := fun z => by rw [z, e3] at hls; cases hls
  have nas : ∀ ad ∈ ads, ad ≠ p := fun ad m z => by have q := (g2 ad m).1; rw [z, e3] at q; cases q
  have npd : p ≠ du := ne_of_none (upd_same (H := G) (a := p) (o := .ins (clsOf K "Room") dx (putF "standing" (.ref ls) (putF "rule" (.str ru) (putF "places" (.int pl) (putF "shelves" (.int sh) [])))))) hdu
  have gl : ls ≠ du := fun z => by rw [← z, upd_ne nls, g1] at hdu; cases hdu
  have ga : du ∉ ads := fun m => by rw [upd_ne (Ne.symm npd), (g2 du m).2] at hdu; cases hdu
  refine ⟨_, rfl, p, _, dx, _, rfl, (by rw [upd_ne npd]; exact upd_same), T.cl_Room, T.n_Room_uses, (by show 4 < 1000; decide), ?_⟩
  have hduH3 : H3 du = none := by
    rw [upd_ne (Ne.symm npd)] at hdu
    exact s1.free hdu
  refine k ls ads du _ ⟨⟨dx, upd_same⟩, ⟨?_, hlen, hnd, hoff, fun i ad e => ?_⟩, ⟨[], ?_, ⟨Nat.le_refl _, KI.nil⟩, fun b => by simp [valV]⟩, List.nodup_nil, hs0, hs1⟩ (f3 _ hls) (f3 _ hduH3) (fun ad m => f3 _ (g2 ad m).1) fun b o e n => ?_
  · rw [upd_ne nls, upd_ne gl, upd_ne nls]
    exact g1
  · have m := List.mem_of_getElem? e
    rw [upd_ne (nas ad m), upd_ne (fun z : ad = du => ga (z ▸ m)), upd_ne (nas ad m)]
    exact (g2 ad m).2
  · rw [upd_ne (Ne.symm npd)]
    exact upd_same
  · have q := s1 _ _ (o3 b o e n)
    have nb : b ≠ du := fun z => by
      rw [← z, upd_ne n, q] at hdu
      cases hdu
    rw [upd_ne n, upd_ne nb, upd_ne n]
    exact q
def zero (us : Int → Int) (b : Int) : Int → Int := fun x => if x = b then 0 else us x
def spBring (K : PySem.W.Frag) : Sp := fun vs H Q _ => ∃ (p : Addr) (b sh pl : Int) (ru : Str) (ls : Addr) (ads : List Addr) (du : Addr) (seq : List Int) (us : Int → Int) (n : Nat), vs = [.ref p, .int b] ∧ RoomAt K H p sh pl ru ls ads du seq us n ∧ Tb K H ∧ n ≤ 900 ∧ b ∉ seq ∧ 1 ≤ pl ∧ (shelfS sh (b % sh) seq).length < 64 ∧
  ∀ (gone : Option Int) (H' : Hp), goneP ru us pl (shelfS sh (b % sh) seq) gone → RoomAt K H' p sh pl ru ls ads du (lessO seq gone ++ [b]) (zero us b) (n + 1) → SR ads du H H' → Q (optV gone) H'
def spLeaver (K : PySem.W.Frag) : Sp := fun vs H Q _ => ∃ (p : Addr) (b sh pl : Int) (ru : Str) (ls : Addr) (ads : List Addr) (du : Addr) (seq : List Int) (us : Int → Int) (n : Nat), vs = [.ref p, .int b] ∧ RoomAt K H p sh pl ru ls ads du seq us n ∧ Tb K H ∧ 1 ≤ pl ∧ (shelfS sh (b % sh) seq).length < 64 ∧
  ∀ (gone : Option Int) (H' : Hp), goneP ru us pl (shelfS sh (b % sh) seq) gone → Same H H' → Q (optV gone) H'
theorem ok_Room_leaver_for {f : Addr} {fd : FuncData} (F : Fun K "leaver_for" "Room.leaver_for" s_Room_leaver_for f fd) (T : Txt K mg) (M_Room_mates : MDef P w K mg base (clsOf K "Room") "mates" 2 P_Room_mates (spMates K)) (M_Room_going : MDef P w K mg base (clsOf K "Room") "going" 2 P_Room_going (spGoing K)) : FnOk P w K mg base CX0 3 f fd P_Room_leaver_for (spLeaver K) := by
  refine F.ok sc_Room_leaver_for (fun vs H Q E h => ?_) (fun cdv A outer st H vs Q E hr h => ?_)
  · obtain ⟨p, b, sh, pl, ru, ls, ads, du, seq, us, n, rfl, _⟩ := h
    rfl
  obtain ⟨p, b, sh, pl, ru, ls, ads, du, seq, us, n, rfl, R, tb, hpl, h64, k⟩ := h
  have nd := sc_Room_leaver_for.nd
  have hu := hu_of hr
  refine ⟨_, (pss_cons (pst 2 nd (pe_methN M_Room_mates hr.m T.cl_Room (pv 0) (pc (pv 1) pa_nil)))
      (pss_cons (ps_if (pt_cmpR op_lt (pe_callBN (call_len_seqK (K := K) rfl) rfl T.z_len PySem.boot_len (pc (pv 2) pa_nil)) (pe_fldK (K := K) rfl (pv 0) rfl) (nomark _)) (pss_one (ps_ret pe_non)) pss_nil)
      (pss_one (ps_ret (pe_ix (ix_listK (K := K) rfl) (pe_methN M_Room_going hr.m T.cl_Room (pv 0) (pc (pv 2) pa_nil)) pe_int (fun _ _ => rfl)))))), ?_⟩
  obtain ⟨dx, h1⟩ := R.ob
  refine ⟨_, rfl, p, dx, _, rfl, h1, fl_no .., _, rfl, p, b, sh, pl, ru, ls, ads, du, seq, us, n, rfl, R, fun s ad es hs had => ?_⟩
  have hnd : (shelfS sh (b % sh) seq).Nodup := R.nd.sublist List.filter_sublist
  refine ⟨_, rfl, ad, _, rfl, .inl (SqL.of had), _, rfl, p, _, dx, _, _, rfl, h1, T.cl_Room, T.n_Room_places, fl_places .., _, _, rfl, rfl, _, rfl, ?_⟩
  rw [List.length_map]
  refine ite_dec (fun c => ?_) (fun c => ?_)
  · exact k none H ⟨fun _ => rfl, fun z => absurd z (by omega)⟩ (Same.refl _)
  · refine ⟨_, rfl, p, dx, _, rfl, h1, fl_no .., _, rfl, p, ad, shelfS sh (b % sh) seq, sh, pl, ru, ls, ads, du, seq, us, n, rfl, R, tb, had, h64, hnd, (fun x m => (mem_shelfS.mp m).1), fun D H' os hD sm hl po s1 s2 => ?_⟩
    have lo := po.length_eq
    match os, hl, po, s1, s2, lo with
    | [], _, _, _, _, lo => exact absurd lo (by simp; omega)
    | g :: rest, hl, po, s1, s2, lo =>
      refine ⟨D, _, _, _, rfl, rfl, SqL.of hl, atI0, ?_⟩
      exact k (some g) H' ⟨fun z => absurd c (by omega), fun _ => ⟨g, rest, rfl, po, s1, s2⟩⟩ sm
theorem ok_Room_bring {f : Addr} {fd : FuncData} (F : Fun K "bring" "Room.bring" s_Room_bring f fd) (T : Txt K mg) (M_Room_has : MDef P w K mg base (clsOf K "Room") "has" 1 P_Room_has (spHas K)) (M_Room_leaver_for : MDef P w K mg base (clsOf K "Room") "leaver_for" 3 P_Room_leaver_for (spLeaver K)) (M_Room_mates : MDef P w K mg base (clsOf K "Room") "mates" 2 P_Room_mates (spMates K)) (M_Room_drop : MDef P w K mg base (clsOf K "Room") "drop" 3 P_Room_drop (spDrop K)) : FnOk P w K mg base CX0 4 f fd P_Room_bring (spBring K) := by
  refine F.ok sc_Room_bring (fun vs H Q E h => ?_) (fun cdv A outer st H vs Q E hr h => ?_)
  · obtain ⟨p, b, sh, pl, ru, ls, ads, du, seq, us, n, rfl, _⟩ := h
    rfl
  obtain ⟨p, b, sh, pl, ru, ls, ads, du, seq, us, n, rfl, R, tb, hn, hb, hpl, h64, k⟩ := h
  have nd := sc_Room_bring.nd
  have hu := hu_of hr
  refine ⟨_, (pss_cons (ps_if (pt_val (pe_methN M_Room_has hr.m T.cl_Room (pv 0) (pc (pv 1) pa_nil))) (pss_one ps_no) pss_nil)
      (pss_cons (pst 2 nd (pe_methN M_Room_leaver_for hr.m T.cl_Room (pv 0) (pc (pv 1) pa_nil)))
      (pss_cons (ps_if (pt_cmp (pc_notN (pv 2))) (pss_one (ps_expr (pe_methN M_Room_drop hr.m T.cl_Room (pv 0) (pc (pv 2) pa_nil)))) pss_nil)
      (pss_cons (ps_expr (pe_bmC (K := K) rfl (pe_bm PySem.F.plainAttrs_list PySem.F.slot_list_append PySem.F.type_list_append mt_append (pe_methN M_Room_mates hr.m T.cl_Room (pv 0) (pc (pv 1) pa_nil)) (pc (pv 1) pa_nil))))
      (pss_cons (ps_dput hu (pe_fldK (K := K) rfl (pv 0) rfl) (pv 1) pe_int rfl)
      (pss_one (ps_ret (pv 2)))))))), ?_⟩
  obtain ⟨dx, h1⟩ := R.ob
  refine ⟨_, rfl, p, dx, _, rfl, h1, fl_no .., _, rfl, p, b, sh, pl, ru, ls, ads, du, seq, us, n, rfl, R, ?_⟩
  rw [decide_eq_false hb]
  refine ⟨_, rfl, ifF rfl ?_⟩
  refine ⟨_, rfl, p, dx, _, rfl, h1, fl_no .., _, rfl, p, b, sh, pl, ru, ls, ads, du, seq, us, n, rfl, R, tb, hpl, h64, fun gone H1 gp sm => ?_⟩
  refine gN ?_
  dsimp only
  have R0 := R.same sm
  have hnd : (shelfS sh (b % sh) seq).Nodup := R.nd.sublist List.filter_sublist
  refine cpI (fun σ G => σ = [some (.ref p), some (.int b), some (optV gone)] ∧ RoomAt K G p sh pl ru ls ads du (lessO seq gone) us n ∧ SR ads du H G) (fun D' _ k' => ?_) ?_
  · match gone, gp with
    | none, gp => exact ⟨_, rfl, _, rfl, ifF rfl (k' _ _ ⟨rfl, R0, SR.of sm⟩)⟩
    | some g, gp =>
      have hg : g ∈ shelfS sh (b % sh) seq := by
        by_cases c : ((shelfS sh (b % sh) seq).length : Int) < pl
        · exact absurd (gp.1 c) (by simp)
        · obtain ⟨g', rest, e, po, _⟩ := gp.2 c
          injection e with e
          subst e
          exact po.mem_iff.mp List.mem_cons_self
      obtain ⟨dx', h1'⟩ := R0.ob
      exact ⟨_, rfl, _, rfl, ifT rfl ⟨_, rfl, p, dx', _, rfl, h1', fl_no .., _, rfl, p, g, sh, pl, ru, ls, ads, du, seq, us, n, rfl, R0, (mem_shelfS.mp hg).1, fun H2 R2 s3 => k' _ _ ⟨rfl, R2, (SR.of sm).trans s3⟩⟩⟩
  rintro _ G ⟨rfl, R1, s1⟩
  obtain ⟨dx1, g1⟩ := R1.ob
  obtain ⟨kvs, g2, g3, g4⟩ := R1.dc
  obtain ⟨o1, o2, o3, o4, o5, o6⟩ := R1.off
  refine ⟨_, rfl, p, dx1, _, rfl, g1, fl_no .., _, rfl, p, b, sh, pl, ru, ls, ads, du, lessO seq gone, us, n, rfl, R1, fun s ad es hs had0 => ?_⟩
  have mad : ad ∈ ads := List.mem_of_getElem? hs
  have had1 := R1.st.at_ s ad hs
  have ll : (shelfS sh s (lessO seq gone)).length ≤ 64 := by
    have q : (shelfS sh s (lessO seq gone)).Sublist (shelfS sh s seq) := List.Sublist.filter _ (less_sub (g := gone))
    have q2 := q.length_le
    rw [es] at q2 ⊢
    omega
  refine ⟨.inl ⟨rfl, _, SqL.of had1⟩, _, rfl, ad, _, _, rfl, rfl, had1, small1000 (by rw [List.length_map]; omega), ?_⟩
  have nb : b ∉ lessO seq gone := fun m => hb (less_sub.subset m)
  have e1 : ((shelfS sh s (lessO seq gone)).map V.int ++ [V.int b]) = (shelfS sh s (lessO seq gone) ++ [b]).map V.int := by rw [List.map_append]; rfl
  rw [e1]
  have S2 : Shl (upd G ad (.lst ((shelfS sh s (lessO seq gone) ++ [b]).map V.int))) ls ads sh (lessO seq gone ++ [b]) := by
    refine R1.st.put hs ?_ fun s' hs' => ?_
    · rw [shelfS_app, if_pos es.symm]
    · rw [shelfS_app, if_neg (by omega)]
  have np : p ≠ ad := fun z => o2 (z ▸ mad)
  have ndu : du ≠ ad := fun z => o5 (z ▸ mad)
  have g1' : upd G ad (.lst ((shelfS sh s (lessO seq gone) ++ [b]).map V.int)) p = some (.ins (clsOf K "Room") dx1 (flds sh pl ru ls du)) := by rw [upd_ne np]; exact g1
  have g2' : upd G ad (.lst ((shelfS sh s (lessO seq gone) ++ [b]).map V.int)) du = some (.dK kvs) := by rw [upd_ne ndu]; exact g2
  refine ⟨_, rfl, p, _, dx1, _, _, rfl, g1', T.cl_Room, T.n_Room_uses, fl_uses .., _, rfl, du, _, rfl, DPut.k (k := Sum.inl b) g2' (small1000 (by omega)), ?_⟩
  refine ⟨_, rfl, k gone _ gp ⟨⟨dx1, by rw [upd_ne o1]; exact g1'⟩, S2.other _ (Ne.symm o3) o5, ⟨_, upd_same, ⟨Nat.le_trans (length_putK ..) (by have := g3.1; omega), g3.2.put b _⟩, fun x => ?_⟩, nd_snoc R1.nd nb, R.s0, R.s1⟩ fun x o e n1 n2 => ?_⟩
  · rw [valV_put]
    unfold zero
    by_cases c : x = b
    · subst c
      rw [if_pos rfl, if_pos (List.mem_append_right _ (List.mem_singleton.mpr rfl)), if_pos rfl]
    · rw [if_neg (fun z => c (Sum.inl.inj z)), g4 x, if_neg c]
      by_cases m : x ∈ lessO seq gone
      · rw [if_pos m, if_pos (List.mem_append_left _ m)]
      · rw [if_neg m, if_neg (fun z => (List.mem_append.mp z).elim m fun q => c (List.mem_singleton.mp q))]
  · rw [upd_ne n1, upd_ne (fun z : x = ad => n2 (z ▸ mad))]
    exact s1 _ _ e n1 n2
end
theorem ki_perm {kvs : List (Key × V)} {seq : List Int} (h : KI kvs) (nd : seq.Nodup) (e : ∀ b, (valV kvs (Sum.inl b : Key)).isSome = true ↔ b ∈ seq) : kvs.length = seq.length := by
  obtain ⟨ks, h4, h5⟩ := h
  have per : ks.Perm seq := by
    refine (List.perm_ext_iff_of_nodup h5 nd).mpr fun b => ?_
    rw [← e b, val_key, h4, List.mem_map]
    constructor
    · intro m
      exact ⟨b, m, rfl⟩
    · rintro ⟨x, hx, q⟩
      rw [← Sum.inl.inj q]; exact hx
  have l := congrArg List.length h4
  rw [List.length_map, List.length_map] at l
  rw [l, per.length_eq]
theorem RoomAt.norm {K : PySem.W.Frag} {H : Hp} {p : Addr} {sh pl : Int} {ru : Str} {ls : Addr} {ads : List Addr} {du : Addr} {seq : List Int} {us : Int → Int} {n : Nat} (R : RoomAt K H p sh pl ru ls ads du seq us n) : RoomAt K H p sh pl ru ls ads du seq us seq.length := by
  obtain ⟨kvs, h2, ⟨h3, h5⟩, h4⟩ := R.dc
  refine ⟨R.ob, R.st, ⟨kvs, h2, ⟨Nat.le_of_eq (ki_perm h5 R.nd fun b => ?_), h5⟩, h4⟩, R.nd, R.s0, R.s1⟩
  rw [h4 b]
  by_cases c : b ∈ seq
  · simp [c]
  · simp [c]
structure SA where
  sp : Addr
  rp : Addr
  ls : Addr
  ads : List Addr
  du : Addr
  dh : Addr
  df : Addr
structure Cf where
  sh : Int
  pl : Int
  ru : Str
  late : Bool
def sflds (rp : Addr) (late : Bool) (dh df : Addr) : List (Str × V) := putF "fresh" (.ref df) (putF "held" (.ref dh) (putF "late" (.bl late) (putF "room" (.ref rp) [])))
theorem sf_fresh (rp : Addr) (late : Bool) (dh df : Addr) : (sflds rp late dh df).lookup ("fresh" : Str) = some (.ref df) := by
  unfold sflds; rw [lookup_putF, if_pos rfl]
theorem sf_held (rp : Addr) (late : Bool) (dh df : Addr) : (sflds rp late dh df).lookup ("held" : Str) = some (.ref dh) := by
  unfold sflds; rw [lookup_putF, if_neg (by decide +kernel), lookup_putF, if_pos rfl]
theorem sf_room (rp : Addr) (late : Bool) (dh df : Addr) : (sflds rp late dh df).lookup ("room" : Str) = some (.ref rp) := by
  unfold sflds; rw [lookup_putF, if_neg (by decide +kernel), lookup_putF, if_neg (by decide +kernel), lookup_putF, if_neg (by decide +kernel), lookup_putF, if_pos rfl]
theorem sf_no (rp : Addr) (late : Bool) (dh df : Addr) {m : Str} (h1 : ¬ m = "fresh" := by decide +kernel) (h2 : ¬ m = "held" := by decide +kernel) (h3 : ¬ m = "late" := by decide +kernel) (h4 : ¬ m = "room" := by decide +kernel) : (sflds rp late dh df).lookup m = none := by
  unfold sflds
  rw [lookup_putF, if_neg h1, lookup_putF, if_neg h2, lookup_putF, if_neg h3, lookup_putF, if_neg h4]
  rfl
structure StoreAt (K : PySem.W.Frag) (H : Hp) (a : SA) (c : Cf) (zs : List V) (M : Addr → Prop) (seq : List Int) (us : Int → Int) : Prop where
  ob : ∃ dx, H a.sp = some (.ins (clsOf K "Store") dx (sflds a.rp c.late a.dh a.df))
  room : RoomAt K H a.rp c.sh c.pl c.ru a.ls a.ads a.du seq us seq.length
  held : ∃ kvs, H a.dh = some (.dK kvs) ∧ KI kvs ∧ (∀ b, b ∉ seq → valV kvs (Sum.inl b : Key) = none) ∧ ∀ b, b ∈ seq → ∃ l, valV kvs (Sum.inl b : Key) = some (.ref l) ∧ H l = some (.lst zs) ∧ ¬ M l
  fresh : H a.df = some (.dK [])
  n1 : a.du ≠ a.dh
  n2 : a.df ≠ a.dh
  n3 : a.df ≠ a.du
def SRs (a : SA) (H H' : Hp) : Prop := ∀ x o, H x = some o → x ≠ a.du → x ≠ a.dh → x ∉ a.ads → H' x = some o
section
variable {K : PySem.W.Frag} {H H' : Hp} {a : SA} {c : Cf} {zs : List V} {M : Addr → Prop} {seq : List Int} {us : Int → Int}
theorem SRs.room (s : SR a.ads a.du H H') : SRs a H H' := fun x o e n1 _ n3 => s x o e n1 n3
theorem StoreAt.same (S : StoreAt K H a c zs M seq us) (s : Same H H') : StoreAt K H' a c zs M seq us := by
  obtain ⟨dx, h1⟩ := S.ob
  obtain ⟨kvs, h2, h3, h4, h5⟩ := S.held
  exact ⟨⟨dx, s _ _ h1⟩, S.room.same s, ⟨kvs, s _ _ h2, h3, h4, fun b hb => by obtain ⟨l, e1, e2, e3⟩ := h5 b hb; exact ⟨l, e1, s _ _ e2, e3⟩⟩, s _ _ S.fresh, S.n1, S.n2, S.n3⟩
theorem StoreAt.mono {M' : Addr → Prop} (S : StoreAt K H a c zs M seq us) (h : ∀ x xs, H x = some (.lst xs) → M' x → M x) : StoreAt K H a c zs M' seq us := by
  obtain ⟨kvs, h2, h3, h4, h5⟩ := S.held
  exact ⟨S.ob, S.room, ⟨kvs, h2, h3, h4, fun b hb => by obtain ⟨l, e1, e2, e3⟩ := h5 b hb; exact ⟨l, e1, e2, fun z => e3 (h _ _ e2 z)⟩⟩, S.fresh, S.n1, S.n2, S.n3⟩
theorem StoreAt.deed {seq' : List Int} {us' : Int → Int} {n : Nat} (S : StoreAt K H a c zs M seq us) (hM : ∀ x ∈ a.ads, M x) (R : RoomAt K H' a.rp c.sh c.pl c.ru a.ls a.ads a.du seq' us' n) (s : SR a.ads a.du H H') (hs : ∀ b, b ∈ seq' ↔ b ∈ seq) : StoreAt K H' a c zs M seq' us' := by
  obtain ⟨dx, h1⟩ := S.ob
  obtain ⟨kvs, h2, h3, h4, h5⟩ := S.held
  have df : a.df ∉ a.ads := fun m => by obtain ⟨xs, e⟩ := S.room.st.one m; rw [S.fresh] at e; cases e
  have dh : a.dh ∉ a.ads := fun m => by obtain ⟨xs, e⟩ := S.room.st.one m; rw [h2] at e; cases e
  refine ⟨⟨dx, s.keep S.room h1 (fun _ z => by cases z) (fun _ z => by cases z)⟩, R.norm, ⟨kvs, s _ _ h2 (Ne.symm S.n1) dh, h3, fun b hb => h4 b fun m => hb ((hs b).mpr m), fun b hb => ?_⟩, s _ _ S.fresh S.n3 df, S.n1, S.n2, S.n3⟩
  obtain ⟨l, e1, e2, e3⟩ := h5 b ((hs b).mp hb)
  refine ⟨l, e1, s _ _ e2 (fun z => ?_) (fun z => e3 (hM _ z)), e3⟩
  obtain ⟨kv, g, _⟩ := S.room.dc
  rw [z, g] at e2; cases e2
end
section
variable {P : Program} {w : World} {K : PySem.W.Frag} {mg : Str → Option Value} {base : Heap}
def spStore (K : PySem.W.Frag) : Sp := fun vs H Q _ => ∃ (p dx tp : Addr) (sh pl : Int) (ru wr : Str), vs = [.ref p, .ref tp] ∧ H p = some (.ins (clsOf K "Store") dx []) ∧ SqT K H tp [.int sh, .int pl, .str ru, .str wr] ∧ 1 ≤ sh ∧ sh ≤ 64 ∧
  ∀ (a : SA) (H' : Hp), a.sp = p → (∀ zs M, StoreAt K H' a ⟨sh, pl, ru, decide (wr = "late")⟩ zs M [] (fun _ => 0)) → H a.rp = none → H a.ls = none → H a.du = none → H a.dh = none → H a.df = none → (∀ ad ∈ a.ads, H ad = none) → (∀ b o, H b = some o → b ≠ p → H' b = some o) → Q .non H'
theorem ok_Store_init {f : Addr} {fd : FuncData} (F : Fun K "__init__" "Store.__init__" s_Store_init f fd) (T : Txt K mg) (K_Room : KDef P w K mg base (clsOf K "Room") "Room" 1 P_Room_init (spRoom K)) : FnOk P w K mg base CX0 3 f fd P_Store_init (spStore K) := by
  refine F.ok sc_Store_init (fun vs H Q E h => ?_) (fun cdv A outer st H vs Q E hr h => ?_)
  · obtain ⟨p, dx, tp, sh, pl, ru, wr, rfl, _⟩ := h
    rfl
  obtain ⟨p, dx, tp, sh, pl, ru, wr, rfl, hp, htp, s0, s1, k⟩ := h
  have nd := sc_Store_init.nd
  refine ⟨_, (pss_cons (ps_asg (pv 1) (pg_tupK (K := K) (n := 4) rfl rfl (pgs_cons (pgn 2 nd) (pgs_cons (pgn 3 nd) (pgs_cons (pgn 4 nd) (pgs_cons (pgn 5 nd) pgs_nil))))))
      (pss_cons (ps_fld (pv 0) (pe_makeN K_Room hr.m rfl (pc (pv 2) (pc (pv 3) (pc (pv 4) pa_nil)))) rfl)
      (pss_cons (ps_fld (pv 0) (pe_cmpR op_eq (pv 5) pe_str (nomark _)) rfl)
      (pss_cons (ps_fld (pv 0) pe_dnewK rfl)
      (pss_one (ps_fld (pv 0) pe_dnewK rfl)))))), ?_⟩
  refine ⟨_, rfl, tp, _, rfl, htp, rfl, _, _, rfl, gN ⟨_, _, rfl, gN ⟨_, _, rfl, gN ⟨_, _, rfl, gN ⟨rfl, ?_⟩⟩⟩⟩⟩
  try dsimp only
  refine ⟨_, rfl, _, rfl, _, rfl, fun rp rx hrp hrx nrx => ⟨rp, rx, sh, pl, ru, rfl, upd_same, s0, s1, fun ls ads du H1 R1 f1 f2 f3 k1 => ⟨rfl, ?_⟩⟩⟩
  have npr : p ≠ rp := ne_of_none hp hrp
  have k1' : ∀ x o, H x = some o → H1 x = some o := fun x o e => k1 x o (by rw [upd_ne (ne_of_none e hrp), upd_ne (ne_of_none e hrx)]; exact e) (ne_of_none e hrp)
  have fr : ∀ x, upd (upd H rx (.own rp)) rp (.ins (clsOf K "Room") rx []) x = none → H x = none := fun x e => by
    cases q : H x with
    | none => rfl
    | some o => rw [upd_ne (ne_of_none q hrp), upd_ne (ne_of_none q hrx), q] at e; cases e
  have f1 := fr _ f1
  have f2 := fr _ f2
  have f3 : ∀ ad ∈ ads, H ad = none := fun ad m => fr _ (f3 ad m)
  have h1 := k1' _ _ hp
  refine ⟨_, rfl, p, _, dx, _, rfl, h1, T.cl_Store, T.n_Store_room, (by show 0 < 1000; decide), ?_⟩
  obtain ⟨o1, o2, o3, o4, o5, o6⟩ := R1.off
  have q1 : p ≠ ls := fun z => by rw [z, R1.st.top] at h1; cases h1
  have q2 : p ≠ du := fun z => by obtain ⟨kv, g, _⟩ := R1.dc; rw [z, g] at h1; cases h1
  have q3 : p ∉ ads := fun z => by obtain ⟨xs, g⟩ := R1.st.one z; rw [g] at h1; cases h1
  have put : ∀ {G : Hp} {o : HO}, RoomAt K G rp sh pl ru ls ads du [] (fun _ => 0) 0 → RoomAt K (upd G p o) rp sh pl ru ls ads du [] (fun _ => 0) 0 := fun {G o} R => by
    obtain ⟨dx', e1⟩ := R.ob
    obtain ⟨kv, e2, e3⟩ := R.dc
    exact ⟨⟨dx', by rw [upd_ne (Ne.symm npr)]; exact e1⟩, R.st.other o q1 q3, ⟨kv, by rw [upd_ne (Ne.symm q2)]; exact e2, e3⟩, R.nd, R.s0, R.s1⟩
  have R2 := put (o := .ins (clsOf K "Store") dx (putF "room" (.ref rp) [])) R1
  have e2 : upd H1 p (.ins (clsOf K "Store") dx (putF "room" (.ref rp) [])) p = some (.ins (clsOf K "Store") dx (putF "room" (.ref rp) [])) := upd_same
  have k2 : ∀ x o, H x = some o → x ≠ p → upd H1 p (.ins (clsOf K "Store") dx (putF "room" (.ref rp) [])) x = some o := fun x o e n => by rw [upd_ne n]; exact k1' x o e
  generalize upd H1 p (.ins (clsOf K "Store") dx (putF "room" (.ref rp) [])) = H2 at *
  refine ⟨_, rfl, rfl, _, rfl, p, _, dx, _, rfl, e2, T.cl_Store, T.n_Store_late, (by show 1 < 1000; decide), ?_⟩
  have el : decide (V.str wr = V.str "late") = decide (wr = "late") := decide_eq_decide.mpr ⟨fun e => by injection e, fun e => by rw [e]⟩
  rw [el]
  have R3 := put (o := .ins (clsOf K "Store") dx (putF "late" (.bl (decide (wr = "late"))) (putF "room" (.ref rp) []))) R2
  have e3 : upd H2 p (.ins (clsOf K "Store") dx (putF "late" (.bl (decide (wr = "late"))) (putF "room" (.ref rp) []))) p = some (.ins (clsOf K "Store") dx (putF "late" (.bl (decide (wr = "late"))) (putF "room" (.ref rp) []))) := upd_same
  have k3 : ∀ x o, H x = some o → x ≠ p → upd H2 p (.ins (clsOf K "Store") dx (putF "late" (.bl (decide (wr = "late"))) (putF "room" (.ref rp) []))) x = some o := fun x o e n => by rw [upd_ne n]; exact k2 x o e n
  generalize upd H2 p (.ins (clsOf K "Store") dx (putF "late" (.bl (decide (wr = "late"))) (putF "room" (.ref rp) []))) = H3 at *
  refine fun dh hdh => ?_
  have nh : p ≠ dh := ne_of_none e3 hdh
  refine ⟨_, rfl, p, _, dx, _, rfl, (by rw [upd_ne nh]; exact e3), T.cl_Store, T.n_Store_held, (by show 2 < 1000; decide), ?_⟩
  have R4 := put (o := .ins (clsOf K "Store") dx (putF "held" (.ref dh) (putF "late" (.bl (decide (wr = "late"))) (putF "room" (.ref rp) [])))) (R3.same (same_upd hdh (.dK [])))
  have e4 : upd (upd H3 dh (.dK [])) p (.ins (clsOf K "Store") dx (putF "held" (.ref dh) (putF "late" (.bl (decide (wr = "late"))) (putF "room" (.ref rp) [])))) p = some (.ins (clsOf K "Store") dx (putF "held" (.ref dh) (putF "late" (.bl (decide (wr = "late"))) (putF "room" (.ref rp) [])))) := upd_same
  have d4 : upd (upd H3 dh (.dK [])) p (.ins (clsOf K "Store") dx (putF "held" (.ref dh) (putF "late" (.bl (decide (wr = "late"))) (putF "room" (.ref rp) [])))) dh = some (.dK []) := by rw [upd_ne (Ne.symm nh)]; exact upd_same
  have fdh : H dh = none := by
    cases q : H dh with
    | none => rfl
    | some o => rw [k3 dh o q (Ne.symm nh)] at hdh; cases hdh
  have k4 : ∀ x o, H x = some o → x ≠ p → upd (upd H3 dh (.dK [])) p (.ins (clsOf K "Store") dx (putF "held" (.ref dh) (putF "late" (.bl (decide (wr = "late"))) (putF "room" (.ref rp) [])))) x = some o := fun x o e n => by rw [upd_ne n, upd_ne (fun z : x = dh => by rw [z, fdh] at e; cases e)]; exact k3 x o e n
  generalize upd (upd H3 dh (.dK [])) p (.ins (clsOf K "Store") dx (putF "held" (.ref dh) (putF "late" (.bl (decide (wr = "late"))) (putF "room" (.ref rp) [])))) = H4 at *
  refine fun df hdf => ?_
  have nf : p ≠ df := ne_of_none e4 hdf
  refine ⟨_, rfl, p, _, dx, _, rfl, (by rw [upd_ne nf]; exact e4), T.cl_Store, T.n_Store_fresh, (by show 3 < 1000; decide), ?_⟩
  have fdf : H df = none := by
    cases q : H df with
    | none => rfl
    | some o => rw [k4 df o q (Ne.symm nf)] at hdf; cases hdf
  have nhf : dh ≠ df := fun z => by rw [← z, d4] at hdf; cases hdf
  obtain ⟨kv, g, _⟩ := R3.dc
  obtain ⟨kv4, g4, _⟩ := R4.dc
  have R5 := put (o := .ins (clsOf K "Store") dx (sflds rp (decide (wr = "late")) dh df)) (R4.same (same_upd hdf (.dK [])))
  refine k ⟨p, rp, ls, ads, du, dh, df⟩ _ rfl (fun zs M => ⟨⟨dx, upd_same⟩, R5, ⟨[], by rw [upd_ne (Ne.symm nh), upd_ne nhf]; exact d4, KI.nil, fun _ _ => rfl, fun b m => absurd m (by simp)⟩, by rw [upd_ne (Ne.symm nf)]; exact upd_same, fun z => ?_, Ne.symm nhf, fun z => ?_⟩) hrp f1 f2 fdh fdf f3 fun x o e n => ?_
  · have z : du = dh := z
    rw [← z, g] at hdh; cases hdh
  · have z : df = du := z
    rw [z, g4] at hdf; cases hdf
  · rw [upd_ne n, upd_ne (fun z : x = df => by rw [z, fdf] at e; cases e)]
    exact k4 x o e n
end
section
variable {P : Program} {w : World} {K : PySem.W.Frag} {mg : Str → Option Value} {base : Heap}
def spSHas (K : PySem.W.Frag) : Sp := fun vs H Q _ => ∃ (a : SA) (c : Cf) (zs : List V) (M : Addr → Prop) (seq : List Int) (us : Int → Int) (b : Int), vs = [.ref a.sp, .int b] ∧ StoreAt K H a c zs M seq us ∧ Q (.bl (decide (b ∈ seq))) H
theorem ok_Store_has {f : Addr} {fd : FuncData} (F : Fun K "has" "Store.has" s_Store_has f fd) (T : Txt K mg) (M_Room_has : MDef P w K mg base (clsOf K "Room") "has" 1 P_Room_has (spHas K)) : FnOk P w K mg base CX0 2 f fd P_Store_has (spSHas K) := by
  refine F.ok sc_Store_has (fun vs H Q E h => ?_) (fun cdv A outer st H vs Q E hr h => ?_)
  · obtain ⟨a, c, zs, M, seq, us, b, rfl, _⟩ := h
    rfl
  obtain ⟨a, c, zs, M, seq, us, b, rfl, S, k⟩ := h
  have nd := sc_Store_has.nd
  refine ⟨_, (pss_one (ps_ret (pe_methN M_Room_has hr.m T.cl_Room (pe_fldK (K := K) rfl (pv 0) rfl) (pc (pv 1) pa_nil)))), ?_⟩
  obtain ⟨dx, h1⟩ := S.ob
  obtain ⟨dr, h2⟩ := S.room.ob
  exact ⟨_, rfl, a.sp, _, dx, _, _, rfl, h1, T.cl_Store, T.n_Store_room, sf_room .., a.rp, dr, _, rfl, h2, fl_no .., _, rfl, a.rp, b, c.sh, c.pl, c.ru, a.ls, a.ads, a.du, seq, us, _, rfl, S.room, k⟩
def spLay (K : PySem.W.Frag) : Sp := fun vs H Q _ => ∃ (p dx rp dh df : Addr) (late : Bool) (kvs : List (Key × V)) (b : Int) (lw : Addr) (zs : List V), vs = [.ref p, .int b, .ref lw] ∧ H p = some (.ins (clsOf K "Store") dx (sflds rp late dh df)) ∧ H dh = some (.dK kvs) ∧ kvs.length ≤ 900 ∧ H lw = some (.lst zs) ∧
  ∀ l, H l = none → Q .non (upd (upd H l (.lst zs)) dh (.dK (putK kvs (Sum.inl b) (.ref l))))
theorem ok_Store_lay {f : Addr} {fd : FuncData} (F : Fun K "lay" "Store.lay" s_Store_lay f fd) (T : Txt K mg) : FnOk P w K mg base CX0 1 f fd P_Store_lay (spLay K) := by
  refine F.ok sc_Store_lay (fun vs H Q E h => ?_) (fun cdv A outer st H vs Q E hr h => ?_)
  · obtain ⟨p, dx, rp, dh, df, late, kvs, b, lw, zs, rfl, _⟩ := h
    rfl
  obtain ⟨p, dx, rp, dh, df, late, kvs, b, lw, zs, rfl, hp, hd, hl, hw, k⟩ := h
  have nd := sc_Store_lay.nd
  have hu := hu_of hr
  refine ⟨_, (pss_one (ps_dput hu (pe_fldK (K := K) rfl (pv 0) rfl) (pv 1) (pe_callTyN (call_list_ofK (K := K) rfl) rfl T.z_list boot_listT (pc (pv 2) pa_nil)) rfl)), ?_⟩
  refine ⟨_, rfl, lw, _, rfl, .inl (SqL.of hw), fun l hl' => ?_⟩
  have s1 := same_upd hl' (.lst zs)
  exact ⟨_, rfl, p, _, dx, _, _, rfl, s1 _ _ hp, T.cl_Store, T.n_Store_held, sf_held .., _, rfl, dh, _, rfl, DPut.k (k := Sum.inl b) (s1 _ _ hd) (small1000 (by omega)), k l hl'⟩
def spTakeIn (K : PySem.W.Frag) : Sp := fun vs H Q _ => ∃ (a : SA) (c : Cf) (zs : List V) (M : Addr → Prop) (seq : List Int) (us : Int → Int) (b : Int) (lw : Addr), vs = [.ref a.sp, .int b, .ref lw] ∧ StoreAt K H a c zs M seq us ∧ Tb K H ∧ (∀ x ∈ a.ads, M x) ∧ (∀ x, M x → H x ≠ none) ∧ H lw = some (.lst zs) ∧ ¬ M lw ∧ b ∉ seq ∧ seq.length ≤ 800 ∧ 1 ≤ c.pl ∧ c.pl ≤ 16 ∧ ((shelfS c.sh (b % c.sh) seq).length : Int) < c.pl ∧
  ∀ H', StoreAt K H' a c zs M (seq ++ [b]) (zero us b) → SRs a H H' → Q .non H'
theorem ok_Store_take_in {f : Addr} {fd : FuncData} (F : Fun K "take_in" "Store.take_in" s_Store_take_in f fd) (T : Txt K mg) (M_Room_bring : MDef P w K mg base (clsOf K "Room") "bring" 4 P_Room_bring (spBring K)) (M_Store_lay : MDef P w K mg base (clsOf K "Store") "lay" 1 P_Store_lay (spLay K)) : FnOk P w K mg base CX0 5 f fd P_Store_take_in (spTakeIn K) := by
  refine F.ok sc_Store_take_in (fun vs H Q E h => ?_) (fun cdv A outer st H vs Q E hr h => ?_)
  · obtain ⟨a, c, zs, M, seq, us, b, lw, rfl, _⟩ := h
    rfl
  obtain ⟨a, c, zs, M, seq, us, b, lw, rfl, S, tb, hM, hME, hlw, hMl, hb, hsl, hpl, hpl2, hsh, k⟩ := h
  have nd := sc_Store_take_in.nd
  refine ⟨_, (pss_cons (ps_expr (pe_methN M_Room_bring hr.m T.cl_Room (pe_fldK (K := K) rfl (pv 0) rfl) (pc (pv 1) pa_nil)))
      (pss_one (ps_expr (pe_methN M_Store_lay hr.m T.cl_Store (pv 0) (pc (pv 1) (pc (pv 2) pa_nil)))))), ?_⟩
  obtain ⟨dx, h1⟩ := S.ob
  obtain ⟨dr, h2⟩ := S.room.ob
  refine ⟨_, rfl, a.sp, _, dx, _, _, rfl, h1, T.cl_Store, T.n_Store_room, sf_room .., a.rp, dr, _, rfl, h2, fl_no .., _, rfl, a.rp, b, c.sh, c.pl, c.ru, a.ls, a.ads, a.du, seq, us, _, rfl, S.room, tb, by omega, hb, hpl, by omega, fun gone G gp R1 s1 => ?_⟩
  have gn : gone = none := gp.1 hsh
  subst gn
  obtain ⟨kvs, g2, g3, g4, g5⟩ := S.held
  obtain ⟨kd, gd, _⟩ := S.room.dc
  have ndh : a.dh ∉ a.ads := fun m => by obtain ⟨xs, e⟩ := S.room.st.one m; rw [g2] at e; cases e
  have ndf : a.df ∉ a.ads := fun m => by obtain ⟨xs, e⟩ := S.room.st.one m; rw [S.fresh] at e; cases e
  have h1' := s1.keep S.room h1 (fun _ z => by cases z) (fun _ z => by cases z)
  have g2' := s1 _ _ g2 (Ne.symm S.n1) ndh
  have nl : ∀ {x xs}, H x = some (.lst xs) → x ≠ a.du := fun {x xs} e z => by rw [z, gd] at e; cases e
  have hlw' := s1 _ _ hlw (nl hlw) fun m => hMl (hM _ m)
  have kl : kvs.length ≤ 900 := by
    have := ki_perm g3 S.room.nd fun x => ?_
    · omega
    · constructor
      · intro q
        by_cases m : x ∈ seq
        · exact m
        · rw [g4 x m] at q; cases q
      · intro m
        obtain ⟨l, e, _⟩ := g5 x m
        rw [e]; rfl
  refine ⟨_, rfl, a.sp, dx, _, rfl, h1', sf_no .., _, rfl, _, rfl, a.sp, dx, a.rp, a.dh, a.df, c.late, kvs, b, lw, zs, rfl, h1', g2', kl, hlw', fun l hl => ?_⟩
  have ME : ∀ x, M x → G x ≠ none := fun x hx z => by
    by_cases m : x ∈ a.ads
    · obtain ⟨xs, e⟩ := R1.st.one m; rw [e] at z; cases z
    · by_cases d : x = a.du
      · obtain ⟨kv, e, _⟩ := R1.dc; rw [d, e] at z; cases z
      · cases e : H x with
        | none => exact hME x hx e
        | some o => rw [s1 _ _ e d m] at z; cases z
  have sl := same_upd hl (.lst zs)
  have R2 := R1.same sl
  have nlh : l ≠ a.dh := fun z => by rw [z, g2'] at hl; cases hl
  obtain ⟨o1, o2, o3, o4, o5, o6⟩ := R2.off
  obtain ⟨dr', hr'⟩ := R2.ob
  have npd : a.dh ≠ a.rp := fun z => by rw [← z, sl _ _ g2'] at hr'; cases hr'
  have nls : a.dh ≠ a.ls := fun z => by have q := R2.st.top; rw [← z, sl _ _ g2'] at q; cases q
  have R3 : RoomAt K (upd (upd G l (.lst zs)) a.dh (.dK (putK kvs (Sum.inl b) (.ref l)))) a.rp c.sh c.pl c.ru a.ls a.ads a.du (seq ++ [b]) (zero us b) (seq.length + 1) := by
    obtain ⟨kv, e2, e3⟩ := R2.dc
    exact ⟨⟨dr', by rw [upd_ne (Ne.symm npd)]; exact hr'⟩, R2.st.other _ nls ndh, ⟨kv, by rw [upd_ne S.n1]; exact e2, e3⟩, R2.nd, R2.s0, R2.s1⟩
  have nsp : a.dh ≠ a.sp := fun z => by rw [z, h1'] at g2'; cases g2'
  refine k _ ⟨⟨dx, by rw [upd_ne (Ne.symm nsp)]; exact sl _ _ h1'⟩, R3.norm, ⟨_, upd_same, g3.put b _, fun x hx => ?_, fun x hx => ?_⟩, by rw [upd_ne S.n2]; exact sl _ _ (s1 _ _ S.fresh S.n3 ndf), S.n1, S.n2, S.n3⟩ fun x o e n1 n2 n3 => ?_
  · have nx : x ≠ b := fun z => hx (by rw [z]; exact List.mem_append_right _ (List.mem_singleton.mpr rfl))
    rw [valV_put, if_neg (fun z => nx (Sum.inl.inj z))]
    exact g4 x fun m => hx (List.mem_append_left _ m)
  · rw [valV_put]
    by_cases z : x = b
    · subst z
      exact ⟨l, by rw [if_pos rfl], by rw [upd_ne nlh]; exact upd_same, fun m => ME l m hl⟩
    · rw [if_neg (fun q => z (Sum.inl.inj q))]
      have m : x ∈ seq := (List.mem_append.mp hx).resolve_right fun q => z (List.mem_singleton.mp q)
      obtain ⟨l', e1, e2, e3⟩ := g5 x m
      have e4 := s1 _ _ e2 (nl e2) fun q => e3 (hM _ q)
      exact ⟨l', e1, by rw [upd_ne (fun q => by rw [q, g2'] at e4; cases e4)]; exact sl _ _ e4, e3⟩
  · rw [upd_ne n2]
    exact sl _ _ (s1 _ _ e n1 n3)
def spGiveOut (K : PySem.W.Frag) : Sp := fun vs H Q _ => ∃ (a : SA) (c : Cf) (zs : List V) (M : Addr → Prop) (seq : List Int) (us : Int → Int) (b : Int), vs = [.ref a.sp, .int b] ∧ StoreAt K H a c zs M seq us ∧ (∀ x ∈ a.ads, M x) ∧ b ∈ seq ∧
  ∀ (t l : Addr) (H' : Hp), H' t = some (.tup [.ref l, .bl false]) → H' l = some (.lst zs) → ¬ M l → StoreAt K H' a c zs M (seq.erase b) us → SRs a H H' → Q (.ref t) H'
theorem ok_Store_give_out {f : Addr} {fd : FuncData} (F : Fun K "give_out" "Store.give_out" s_Store_give_out f fd) (T : Txt K mg) (M_Room_drop : MDef P w K mg base (clsOf K "Room") "drop" 3 P_Room_drop (spDrop K)) : FnOk P w K mg base CX0 4 f fd P_Store_give_out (spGiveOut K) := by
  refine F.ok sc_Store_give_out (fun vs H Q E h => ?_) (fun cdv A outer st H vs Q E hr h => ?_)
  · obtain ⟨a, c, zs, M, seq, us, b, rfl, _⟩ := h
    rfl
  obtain ⟨a, c, zs, M, seq, us, b, rfl, S, hM, hb, k⟩ := h
  have nd := sc_Store_give_out.nd
  refine ⟨_, (pss_cons (ps_expr (pe_methN M_Room_drop hr.m T.cl_Room (pe_fldK (K := K) rfl (pv 0) rfl) (pc (pv 1) pa_nil)))
      (pss_one (ps_ret (pe_tup (pc (pe_dpop1 (pe_fldK (K := K) rfl (pv 0) rfl) (pv 1) ⟨rfl, rfl, rfl, rfl⟩) (pc (pe_dpop2 (pe_fldK (K := K) rfl (pv 0) rfl) (pv 1) pe_bl ⟨rfl, rfl, rfl, rfl⟩) pa_nil)))))), ?_⟩
  obtain ⟨dx, h1⟩ := S.ob
  obtain ⟨dr, h2⟩ := S.room.ob
  refine ⟨_, rfl, a.sp, _, dx, _, _, rfl, h1, T.cl_Store, T.n_Store_room, sf_room .., a.rp, dr, _, rfl, h2, fl_no .., _, rfl, a.rp, b, c.sh, c.pl, c.ru, a.ls, a.ads, a.du, seq, us, _, rfl, S.room, hb, fun G R1 s1 => ?_⟩
  obtain ⟨kvs, g2, g3, g4, g5⟩ := S.held
  obtain ⟨kd, gd, _⟩ := S.room.dc
  have ndh : a.dh ∉ a.ads := fun m => by obtain ⟨xs, e⟩ := S.room.st.one m; rw [g2] at e; cases e
  have ndf : a.df ∉ a.ads := fun m => by obtain ⟨xs, e⟩ := S.room.st.one m; rw [S.fresh] at e; cases e
  have h1' := s1.keep S.room h1 (fun _ z => by cases z) (fun _ z => by cases z)
  have g2' := s1 _ _ g2 (Ne.symm S.n1) ndh
  have gf' := s1 _ _ S.fresh S.n3 ndf
  have nl : ∀ {x xs}, H x = some (.lst xs) → x ≠ a.du := fun {x xs} e z => by rw [z, gd] at e; cases e
  obtain ⟨l, e1, e2, e3⟩ := g5 b hb
  have e4 := s1 _ _ e2 (nl e2) fun q => e3 (hM _ q)
  obtain ⟨o1, o2, o3, o4, o5, o6⟩ := R1.off
  obtain ⟨dr', hr'⟩ := R1.ob
  have npd : a.dh ≠ a.rp := fun z => by rw [← z, g2'] at hr'; cases hr'
  have nls : a.dh ≠ a.ls := fun z => by have q := R1.st.top; rw [← z, g2'] at q; cases q
  have nsp : a.dh ≠ a.sp := fun z => by rw [z, h1'] at g2'; cases g2'
  have nlh : ∀ {x xs}, G x = some (.lst xs) → x ≠ a.dh := fun {x xs} e z => by rw [z, g2'] at e; cases e
  refine ⟨_, rfl, a.sp, _, dx, _, _, rfl, h1', T.cl_Store, T.n_Store_held, sf_held .., a.dh, rfl, .inl ⟨_, .inl g2'⟩, _, rfl, kvs, Sum.inl b, _, g2', rfl, e1, ?_⟩
  have R2 : RoomAt K (upd G a.dh (.dK (dropK kvs (Sum.inl b)))) a.rp c.sh c.pl c.ru a.ls a.ads a.du (seq.erase b) us seq.length := by
    obtain ⟨kv, q2, q3⟩ := R1.dc
    exact ⟨⟨dr', by rw [upd_ne (Ne.symm npd)]; exact hr'⟩, R1.st.other _ nls ndh, ⟨kv, by rw [upd_ne S.n1]; exact q2, q3⟩, R1.nd, R1.s0, R1.s1⟩
  have h1'' : upd G a.dh (.dK (dropK kvs (Sum.inl b))) a.sp = some (.ins (clsOf K "Store") dx (sflds a.rp c.late a.dh a.df)) := by rw [upd_ne (Ne.symm nsp)]; exact h1'
  have gf'' : upd G a.dh (.dK (dropK kvs (Sum.inl b))) a.df = some (.dK []) := by rw [upd_ne S.n2]; exact gf'
  refine ⟨_, rfl, a.sp, _, dx, _, _, rfl, h1'', T.cl_Store, T.n_Store_fresh, sf_fresh .., a.df, rfl, .inl ⟨_, .inl gf''⟩, _, rfl, [], Sum.inl b, gf'', rfl, (fun v z => by cases z), fun _ => ?_⟩
  refine ⟨(by show 2 ≤ sizeLine; decide), fun t ht => ?_⟩
  have st' := same_upd ht (.tup [.ref l, .bl false])
  refine k t l _ upd_same (st' _ _ (by rw [upd_ne (nlh e4)]; exact e4)) e3 (StoreAt.same ⟨⟨dx, h1''⟩, R2.norm, ⟨_, upd_same, g3.drop b, fun x hx => ?_, fun x hx => ?_⟩, gf'', S.n1, S.n2, S.n3⟩ st') fun x o e n1 n2 n3 => ?_
  · rw [val_drop]
    by_cases z : x = b
    · rw [if_pos (by rw [z])]
    · rw [if_neg (fun q => z (Sum.inl.inj q))]
      exact g4 x fun m => hx ((List.Nodup.mem_erase_iff S.room.nd).mpr ⟨z, m⟩)
  · obtain ⟨z, m⟩ := (List.Nodup.mem_erase_iff S.room.nd).mp hx
    obtain ⟨l', q1, q2, q3⟩ := g5 x m
    have q4 := s1 _ _ q2 (nl q2) fun q => q3 (hM _ q)
    exact ⟨l', by rw [val_drop, if_neg (fun q => z (Sum.inl.inj q))]; exact q1, by rw [upd_ne (nlh q4)]; exact q4, q3⟩
  · exact st' _ _ (by rw [upd_ne n2]; exact s1 _ _ e n1 n3)
def spWordsOf (K : PySem.W.Frag) : Sp := fun vs H Q _ => ∃ (a : SA) (c : Cf) (zs : List V) (M : Addr → Prop) (seq : List Int) (us : Int → Int) (b : Int), vs = [.ref a.sp, .int b] ∧ StoreAt K H a c zs M seq us ∧ b ∈ seq ∧ ∀ l, H l = none → Q (.ref l) (upd H l (.lst zs))
theorem ok_Store_words_of {f : Addr} {fd : FuncData} (F : Fun K "words_of" "Store.words_of" s_Store_words_of f fd) (T : Txt K mg) (M_Room_need : MDef P w K mg base (clsOf K "Room") "need" 2 P_Room_need (spNeed K)) : FnOk P w K mg base CX0 3 f fd P_Store_words_of (spWordsOf K) := by
  refine F.ok sc_Store_words_of (fun vs H Q E h => ?_) (fun cdv A outer st H vs Q E hr h => ?_)
  · obtain ⟨a, c, zs, M, seq, us, b, rfl, _⟩ := h
    rfl
  obtain ⟨a, c, zs, M, seq, us, b, rfl, S, hb, k⟩ := h
  have nd := sc_Store_words_of.nd
  have hu := hu_of hr
  refine ⟨_, (pss_cons (ps_expr (pe_methN M_Room_need hr.m T.cl_Room (pe_fldK (K := K) rfl (pv 0) rfl) (pc (pv 1) pa_nil)))
      (pss_one (ps_ret (pe_callTyN (call_list_ofK (K := K) rfl) rfl T.z_list boot_listT (pc (pe_dget hu (pe_fldK (K := K) rfl (pv 0) rfl) (pv 1) (fun _ _ => rfl)) pa_nil))))), ?_⟩
  obtain ⟨dx, h1⟩ := S.ob
  obtain ⟨dr, h2⟩ := S.room.ob
  obtain ⟨kvs, g2, g3, g4, g5⟩ := S.held
  obtain ⟨l0, e1, e2, e3⟩ := g5 b hb
  refine ⟨_, rfl, a.sp, _, dx, _, _, rfl, h1, T.cl_Store, T.n_Store_room, sf_room .., a.rp, dr, _, rfl, h2, fl_no .., _, rfl, a.rp, b, c.sh, c.pl, c.ru, a.ls, a.ads, a.du, seq, us, _, rfl, S.room, hb, ?_⟩
  exact ⟨_, rfl, a.sp, _, dx, _, _, rfl, h1, T.cl_Store, T.n_Store_held, sf_held .., _, rfl, a.dh, _, rfl, (by have q := DGet.k (k := Sum.inl b) g2; rw [e1] at q; exact q), l0, _, rfl, .inl (SqL.of e2), k⟩
end
section
variable {P : Program} {w : World} {K : PySem.W.Frag} {mg : Str → Option Value} {base : Heap}
def spBoard : Sp := fun vs H Q _ => ∃ s p : Int, vs = [.int s, .int p] ∧ 0 < s ∧ s < 1073741824 ∧ Q (.int (p / s)) H
theorem ok_board_of {f : Addr} {fd : FuncData} (F : Fun K "board_of" "board_of" s_board_of f fd) (T : Txt K mg) : FnOk P w K mg base CX0 1 f fd P_board_of spBoard := by
  refine F.ok sc_board_of (fun vs H Q E h => ?_) (fun cdv A outer s H vs Q E hr h => ?_)
  · obtain ⟨s, p, rfl, _⟩ := h
    rfl
  obtain ⟨s, p, rfl, h0, h1, k⟩ := h
  have nd := sc_board_of.nd
  refine ⟨_, (pss_one (ps_ret (pe_op op_fdiv (pv 1) (pv 0)))), ?_⟩
  exact ⟨_, rfl, _, rfl, _, _, rfl, rfl, ⟨h0, h1⟩, k⟩
def spots (s b : Int) : List V := (List.range s.toNat).map fun k => V.int (b * s + (k : Nat))
def spSpots : Sp := fun vs H Q _ => ∃ s b : Int, vs = [.int s, .int b] ∧ 0 < s ∧ s ≤ 1000 ∧ 0 ≤ b ∧ b ≤ 1000000 ∧ ∀ (r : Addr) (H' : Hp), H r = none → Same H H' → H' r = some (.lst (spots s b)) → Q (.ref r) H'
theorem mul_bd {b s : Int} (h0 : 0 ≤ b) (h1 : b ≤ 1000000) (s0 : 0 < s) (s1 : s ≤ 1000) : 0 ≤ b * s ∧ b * s ≤ 1000000000 := by
  refine ⟨Int.mul_nonneg h0 (by omega), ?_⟩
  exact Int.le_trans (Int.mul_le_mul_of_nonneg_right h1 (by omega)) (Int.mul_le_mul_of_nonneg_left s1 (by decide))
theorem ok_spots_of {f : Addr} {fd : FuncData} (F : Fun K "spots_of" "spots_of" s_spots_of f fd) (T : Txt K mg) : FnOk P w K mg base CX0 1 f fd P_spots_of spSpots := by
  refine F.ok sc_spots_of (fun vs H Q E h => ?_) (fun cdv A outer s H vs Q E hr h => ?_)
  · obtain ⟨s, p, rfl, _⟩ := h
    rfl
  obtain ⟨s, b, rfl, s0, s1, b0, b1, k⟩ := h
  have nd := sc_spots_of.nd
  refine ⟨_, (pss_cons (pst 2 nd (pe_op op_mul (pv 1) (pv 0)))
      (pss_one (ps_ret (pe_listrange rfl rfl T.z_list rfl T.z_range (pc (pv 2) (pc (pe_op op_add (pv 2) (pv 0)) pa_nil)))))), ?_⟩
  obtain ⟨m0, m1⟩ := mul_bd b0 b1 s0 s1
  have e : (b * s + s - b * s).toNat = s.toNat := by omega
  refine ⟨_, rfl, _, rfl, _, _, rfl, rfl, .inl ⟨by omega, by omega⟩, ?_⟩
  refine ⟨_, rfl, _, rfl, _, rfl, _, _, rfl, rfl, _, _, rfl, ⟨by omega, by omega, by omega, by omega⟩, ?_⟩
  rw [e]
  refine ⟨Nat.le_of_lt (small1000 (by omega)), fun p hp => ?_⟩
  exact k p _ hp (same_upd hp _) upd_same
def mflds (size : Int) (dk : Addr) : List (Str × V) := putF "kept" (.ref dk) (putF "size" (.int size) [])
theorem mf_kept (size : Int) (dk : Addr) : (mflds size dk).lookup ("kept" : Str) = some (.ref dk) := by
  unfold mflds; rw [lookup_putF, if_pos rfl]
theorem mf_size (size : Int) (dk : Addr) : (mflds size dk).lookup ("size" : Str) = some (.int size) := by
  unfold mflds; rw [lookup_putF, if_neg (by decide +kernel), lookup_putF, if_pos rfl]
theorem mf_no (size : Int) (dk : Addr) {m : Str} (h1 : ¬ m = "kept" := by decide +kernel) (h2 : ¬ m = "size" := by decide +kernel) : (mflds size dk).lookup m = none := by
  unfold mflds
  rw [lookup_putF, if_neg h1, lookup_putF, if_neg h2]
  rfl
structure MemAt (K : PySem.W.Frag) (H : Hp) (bm dk : Addr) (size : Int) : Prop where
  ob : ∃ dx, H bm = some (.ins (clsOf K "Memory") dx (mflds size dk))
  kept : H dk = some (.dK [])
theorem MemAt.same {H H' : Hp} {bm dk : Addr} {size : Int} (m : MemAt K H bm dk size) (s : Same H H') : MemAt K H' bm dk size := by
  obtain ⟨dx, e⟩ := m.ob
  exact ⟨⟨dx, s _ _ e⟩, s _ _ m.kept⟩
def spMem (K : PySem.W.Frag) : Sp := fun vs H Q _ => ∃ (p dx : Addr) (size : Int), vs = [.ref p, .int size] ∧ H p = some (.ins (clsOf K "Memory") dx []) ∧
  ∀ (dk : Addr) (H' : Hp), MemAt K H' p dk size → H dk = none → (∀ b o, H b = some o → b ≠ p → H' b = some o) → Q .non H'
theorem ok_Memory_init {f : Addr} {fd : FuncData} (F : Fun K "__init__" "Memory.__init__" s_Memory_init f fd) (T : Txt K mg) : FnOk P w K mg base CX0 1 f fd P_Memory_init (spMem K) := by
  refine F.ok sc_Memory_init (fun vs H Q E h => ?_) (fun cdv A outer st H vs Q E hr h => ?_)
  · obtain ⟨p, dx, size, rfl, _⟩ := h
    rfl
  obtain ⟨p, dx, size, rfl, hp, k⟩ := h
  have nd := sc_Memory_init.nd
  refine ⟨_, (pss_cons (ps_fld (pv 0) (pv 1) rfl)
      (pss_one (ps_fld (pv 0) pe_dnewK rfl))), ?_⟩
  refine ⟨_, rfl, _, rfl, p, _, dx, _, rfl, hp, T.cl_Memory, T.n_Memory_size, (by show 0 < 1000; decide), fun dk hdk => ?_⟩
  have np : p ≠ dk := ne_of_none (upd_same (H := H) (a := p) (o := .ins (clsOf K "Memory") dx (putF "size" (.int size) []))) hdk
  refine ⟨_, rfl, p, _, dx, _, rfl, (by rw [upd_ne np]; exact upd_same), T.cl_Memory, T.n_Memory_kept, (by show 1 < 1000; decide), ?_⟩
  rw [upd_ne (Ne.symm np)] at hdk
  refine k dk _ ⟨⟨dx, upd_same⟩, by rw [upd_ne (Ne.symm np)]; exact upd_same⟩ hdk fun x o e n => ?_
  rw [upd_ne n, upd_ne (ne_of_none e hdk), upd_ne n]
  exact e
def zerosV (size : Int) : List V := List.replicate size.toNat (V.int 0)
def spMWords (K : PySem.W.Frag) : Sp := fun vs H Q _ => ∃ (bm dk : Addr) (size b : Int), vs = [.ref bm, .int b] ∧ MemAt K H bm dk size ∧ 0 < size ∧ size ≤ 1000 ∧ 0 ≤ b ∧ b ≤ 1000000 ∧ ∀ l H', H l = none → Same H H' → H' l = some (.lst (zerosV size)) → Q (.ref l) H'
theorem ok_Memory_words_of {f : Addr} {fd : FuncData} (F : Fun K "words_of" "Memory.words_of" s_Memory_words_of f fd) (T : Txt K mg) (D_spots_of : Def P w K mg base "spots_of" 1 P_spots_of spSpots) : FnOk P w K mg base CX0 2 f fd P_Memory_words_of (spMWords K) := by
  refine F.ok sc_Memory_words_of (fun vs H Q E h => ?_) (fun cdv A outer st H vs Q E hr h => ?_)
  · obtain ⟨bm, dk, size, b, rfl, _⟩ := h
    rfl
  obtain ⟨bm, dk, size, b, rfl, M, z0, z1, b0, b1, k⟩ := h
  have nd := sc_Memory_words_of.nd
  have hu := hu_of hr
  refine ⟨_, (pss_one (ps_ret (pe_comp0 (compOk_of (osc := (defScope s_Memory_words_of)) (oN := N_Memory_words_of) (N := ["spot", "self"]) (own := 1) (js := [0]) (by decide +kernel) rfl rfl) rfl (pi_listK (K := K) rfl (pe_defN D_spots_of hr.m rfl (pc (pe_fldK (K := K) rfl (pv 0) rfl) (pc (pv 1) pa_nil)))) (fun _ _ _ _ _ _ => (pgn 0 (show List.Nodup (["spot", "self"] : List Str) by decide +kernel))) (fun _ _ _ _ _ _ => (pe_dget2 hu (pe_fldK (K := K) rfl (pv 1) rfl) (pv 0) pe_int ⟨rfl, rfl, rfl, rfl⟩))))), ?_⟩
  obtain ⟨dx, h1⟩ := M.ob
  refine ⟨_, rfl, bm, _, dx, _, _, rfl, h1, T.cl_Memory, T.n_Memory_size, mf_size .., _, rfl, size, b, rfl, z0, z1, b0, b1, fun r H1 hr1 s1 e1 => ⟨r, rfl, ⟨_, SqL.of e1⟩, fun l hl => ?_⟩⟩
  have h1' := s1 _ _ h1
  have hk := s1 _ _ M.kept
  have lsp : (spots size b).length = size.toNat := by unfold spots; rw [List.length_map, List.length_range]
  refine comp_list (K := K) (a := r) (xs := spots size b) (l := l) (fun i ys σ' G' => ∃ v0 : Option V, σ' = [v0, some (.ref bm)] ∧ ys = List.replicate i (V.int 0) ∧ G' = upd H1 l (.lst ys)) ⟨none, rfl, rfl, rfl⟩ (fun i ys σ' G' _ ⟨_, _, _, q⟩ => SqL.of (by rw [q, upd_ne (ne_of_none e1 hl)]; exact e1)) ?_ ?_
  · rintro i x ys σ' G' hi hxi hys ⟨v0, rfl, rfl, rfl⟩
    obtain ⟨z, rfl⟩ : ∃ z, x = V.int z := by
      have m := List.mem_of_getElem? hxi
      unfold spots at m
      obtain ⟨j, _, e⟩ := List.mem_map.mp m
      exact ⟨_, e.symm⟩
    have sl := same_upd hl (.lst (List.replicate i (V.int 0)))
    refine ⟨_, rfl, bm, _, dx, _, _, rfl, sl _ _ h1', T.cl_Memory, T.n_Memory_kept, mf_kept .., dk, rfl, .inl ⟨_, .inl (sl _ _ hk)⟩, _, rfl, none, (by have q := DGet.k (k := Sum.inl z) (sl _ _ hk); exact q), ?_⟩
    exact CNx.of (Nat.le_of_lt (small1000 (by omega))) hi hys upd_same ⟨_, rfl, by rw [List.replicate_succ']; rfl, upd_upd⟩
  · rintro ys σ' G' _ ⟨v0, rfl, rfl, rfl⟩
    rw [lsp]
    exact k l _ (s1.free hl) (s1.trans (same_upd hl _)) upd_same
end
theorem nd_len : ∀ {a b : List Int}, a.Nodup → (∀ x ∈ a, x ∈ b) → a.length ≤ b.length
  | [], _, _, _ => Nat.zero_le _
  | x :: a, b, nd, h => by
    have nd' := List.nodup_cons.mp nd
    have mx := h x List.mem_cons_self
    have q := nd_len (b := b.erase x) nd'.2 fun y hy => (List.mem_erase_of_ne (fun z : y = x => nd'.1 (by rw [← z]; exact hy))).mpr (h y (List.mem_cons_of_mem _ hy))
    rw [List.length_erase_of_mem mx] at q
    have := List.length_pos_of_mem mx
    show a.length + 1 ≤ b.length
    omega
theorem tb_upd {K : PySem.W.Frag} {G : Hp} {x : Addr} {xs : List V} {o : HO} (t : Tb K G) (h : G x = some (.lst xs)) : Tb K (upd G x o) := by
  unfold Tb at t ⊢
  rw [upd_ne (fun z => by rw [z, h] at t; cases t)]
  exact t
abbrev RS := List Int × (Int → Int)
structure TA where
  p : Addr
  ss : Addr
  bm : Addr
  dk : Addr
  ev : Addr
  as : List SA
  out : List Addr
structure Pln where
  size : Int
  kind : Str
  cfs : List Cf
def MutL (A : TA) (x : Addr) : Prop := x = A.ev ∨ (∃ a ∈ A.as, x ∈ a.ads) ∨ x ∈ A.out
structure Sep (a b : SA) : Prop where
  ads : ∀ x ∈ a.ads, x ∉ b.ads
  ls : b.ls ∉ a.ads
  d1 : b.du ≠ a.du
  d2 : b.du ≠ a.dh
  d3 : b.dh ≠ a.du
  d4 : b.dh ≠ a.dh
  d5 : b.df ≠ a.du
  d6 : b.df ≠ a.dh
def tflds (size : Int) (ss bm : Addr) (last : Nat) (ev : Addr) (kind : Str) : List (Str × V) := putF "kind" (.str kind) (putF "events" (.ref ev) (putF "last" (.int last) (putF "bottom" (.ref bm) (putF "stores" (.ref ss) (putF "size" (.int size) [])))))
section
variable (size : Int) (ss bm : Addr) (last : Nat) (ev : Addr) (kind : Str)
theorem tf_kind : (tflds size ss bm last ev kind).lookup ("kind" : Str) = some (.str kind) := by
  unfold tflds; rw [lookup_putF, if_pos rfl]
theorem tf_events : (tflds size ss bm last ev kind).lookup ("events" : Str) = some (.ref ev) := by
  unfold tflds; rw [lookup_putF, if_neg (by decide +kernel), lookup_putF, if_pos rfl]
theorem tf_last : (tflds size ss bm last ev kind).lookup ("last" : Str) = some (.int last) := by
  unfold tflds; rw [lookup_putF, if_neg (by decide +kernel), lookup_putF, if_neg (by decide +kernel), lookup_putF, if_pos rfl]
theorem tf_bottom : (tflds size ss bm last ev kind).lookup ("bottom" : Str) = some (.ref bm) := by
  unfold tflds; rw [lookup_putF, if_neg (by decide +kernel), lookup_putF, if_neg (by decide +kernel), lookup_putF, if_neg (by decide +kernel), lookup_putF, if_pos rfl]
theorem tf_stores : (tflds size ss bm last ev kind).lookup ("stores" : Str) = some (.ref ss) := by
  unfold tflds; rw [lookup_putF, if_neg (by decide +kernel), lookup_putF, if_neg (by decide +kernel), lookup_putF, if_neg (by decide +kernel), lookup_putF, if_neg (by decide +kernel), lookup_putF, if_pos rfl]
theorem tf_size : (tflds size ss bm last ev kind).lookup ("size" : Str) = some (.int size) := by
  unfold tflds; rw [lookup_putF, if_neg (by decide +kernel), lookup_putF, if_neg (by decide +kernel), lookup_putF, if_neg (by decide +kernel), lookup_putF, if_neg (by decide +kernel), lookup_putF, if_neg (by decide +kernel), lookup_putF, if_pos rfl]
theorem tf_no {m : Str} (h1 : ¬ m = "kind" := by decide +kernel) (h2 : ¬ m = "events" := by decide +kernel) (h3 : ¬ m = "last" := by decide +kernel) (h4 : ¬ m = "bottom" := by decide +kernel) (h5 : ¬ m = "stores" := by decide +kernel) (h6 : ¬ m = "size" := by decide +kernel) : (tflds size ss bm last ev kind).lookup m = none := by
  unfold tflds
  rw [lookup_putF, if_neg h1, lookup_putF, if_neg h2, lookup_putF, if_neg h3, lookup_putF, if_neg h4, lookup_putF, if_neg h5, lookup_putF, if_neg h6]
  rfl
theorem putF_ne {f g : Str} {v x : V} {r : List (Str × V)} (h : ¬ g = f) : putF f v ((g, x) :: r) = (g, x) :: putF f v r := by
  show (if g = f then _ else _) = _; rw [if_neg h]
theorem putF_eq {f : Str} {v x : V} {r : List (Str × V)} : putF f v ((f, x) :: r) = (f, v) :: r := by
  show (if f = f then _ else _) = _; rw [if_pos rfl]
theorem putF_nil {f : Str} {v : V} : putF f v [] = [(f, v)] := rfl
theorem tflds_list : tflds size ss bm last ev kind = ([(("size" : Str), V.int size), (("stores" : Str), V.ref ss), (("bottom" : Str), V.ref bm), (("last" : Str), V.int last), (("events" : Str), V.ref ev), (("kind" : Str), V.str kind)] : List (Str × V)) := by
  unfold tflds
  have a1 : ¬ ("size" : Str) = "stores" := by decide +kernel
  have a2 : ¬ ("size" : Str) = "bottom" := by decide +kernel
  have a3 : ¬ ("size" : Str) = "last" := by decide +kernel
  have a4 : ¬ ("size" : Str) = "events" := by decide +kernel
  have a5 : ¬ ("size" : Str) = "kind" := by decide +kernel
  have b2 : ¬ ("stores" : Str) = "bottom" := by decide +kernel
  have b3 : ¬ ("stores" : Str) = "last" := by decide +kernel
  have b4 : ¬ ("stores" : Str) = "events" := by decide +kernel
  have b5 : ¬ ("stores" : Str) = "kind" := by decide +kernel
  have c3 : ¬ ("bottom" : Str) = "last" := by decide +kernel
  have c4 : ¬ ("bottom" : Str) = "events" := by decide +kernel
  have c5 : ¬ ("bottom" : Str) = "kind" := by decide +kernel
  have d4 : ¬ ("last" : Str) = "events" := by decide +kernel
  have d5 : ¬ ("last" : Str) = "kind" := by decide +kernel
  have e5 : ¬ ("events" : Str) = "kind" := by decide +kernel
  rw [putF_nil, putF_ne a1, putF_nil, putF_ne a2, putF_ne b2, putF_nil, putF_ne a3, putF_ne b3, putF_ne c3, putF_nil, putF_ne a4, putF_ne b4, putF_ne c4, putF_ne d4, putF_nil, putF_ne a5, putF_ne b5, putF_ne c5, putF_ne d5, putF_ne e5, putF_nil]
theorem tf_put (ev' : Addr) : putF "events" (.ref ev') (tflds size ss bm last ev kind) = tflds size ss bm last ev' kind := by
  rw [tflds_list, tflds_list]
  have a4 : ¬ ("size" : Str) = "events" := by decide +kernel
  have b4 : ¬ ("stores" : Str) = "events" := by decide +kernel
  have c4 : ¬ ("bottom" : Str) = "events" := by decide +kernel
  have d4 : ¬ ("last" : Str) = "events" := by decide +kernel
  rw [putF_ne a4, putF_ne b4, putF_ne c4, putF_ne d4, putF_eq]
end
structure StairsAt (K : PySem.W.Frag) (H : Hp) (A : TA) (g : Pln) (S : List RS) (xs : List V) (U : List Int) : Prop where
  ob : ∃ dx, H A.p = some (.ins (clsOf K "Stairs") dx (tflds g.size A.ss A.bm A.as.length A.ev g.kind))
  ss : H A.ss = some (.lst (A.as.map fun a => V.ref a.sp))
  mem : MemAt K H A.bm A.dk g.size
  ev : H A.ev = some (.lst xs)
  lc : g.cfs.length = A.as.length
  lS : S.length = A.as.length
  st : ∀ (k : Nat) (a : SA) (c : Cf) (s : RS), A.as[k]? = some a → g.cfs[k]? = some c → S[k]? = some s → StoreAt K H a c (zerosV g.size) (MutL A) s.1 s.2
  sep : ∀ (i j : Nat) (a b : SA), A.as[i]? = some a → A.as[j]? = some b → i ≠ j → Sep a b
  off : ∀ a ∈ A.as, A.ss ∉ a.ads ∧ A.ev ∉ a.ads ∧ A.ev ≠ a.ls ∧ A.dk ≠ a.du ∧ A.dk ≠ a.dh
  nse : A.ss ≠ A.ev
  oex : ∀ x ∈ A.out, ∃ ys, H x = some (.lst ys)
  on : ∀ x ∈ A.out, x ≠ A.ss ∧ x ≠ A.ev ∧ ∀ a ∈ A.as, x ≠ a.ls ∧ x ∉ a.ads
  uni : ∀ s ∈ S, ∀ b ∈ s.1, b ∈ U
  full : ∀ (k : Nat) (c : Cf) (s : RS), g.cfs[k]? = some c → S[k]? = some s → ∀ t, ((shelfS c.sh t s.1).length : Int) ≤ c.pl
  cf : ∀ c ∈ g.cfs, 1 ≤ c.pl ∧ c.pl ≤ 16
  z0 : 1 ≤ g.size
  z1 : g.size ≤ 1000
  lU : U.length ≤ 800
  l4 : A.as.length ≤ 4
  tb : Tb K H
def Foot (A : TA) (x : Addr) : Prop := x = A.p ∨ x = A.ev ∨ ∃ a ∈ A.as, x = a.du ∨ x = a.dh ∨ x ∈ a.ads
def SF (A : TA) (H H' : Hp) : Prop := ∀ x o, H x = some o → ¬ Foot A x → H' x = some o
theorem SF.of {A : TA} {H H' : Hp} (s : Same H H') : SF A H H' := fun x o e _ => s x o e
theorem SF.trans {A : TA} {H H1 H2 : Hp} (s : SF A H H1) (t : SF A H1 H2) : SF A H H2 := fun x o e n => t x o (s x o e n) n
section
variable {K : PySem.W.Frag} {H H' : Hp} {A : TA} {g : Pln} {S : List RS} {xs : List V} {U : List Int} {a : SA} {c : Cf} {zs : List V} {M : Addr → Prop} {seq : List Int} {us : Int → Int}
theorem StoreAt.kinds (T : StoreAt K H a c zs M seq us) {x : Addr} {o : HO} (h : H x = some o) (n1 : ∀ kvs, o ≠ .dK kvs) : x ≠ a.du ∧ x ≠ a.dh := by
  obtain ⟨kv, e, _⟩ := T.room.dc
  obtain ⟨kv', e', _⟩ := T.held
  exact ⟨(fun z => by rw [z, e] at h; exact n1 kv (Option.some.inj h).symm), (fun z => by rw [z, e'] at h; exact n1 kv' (Option.some.inj h).symm)⟩
theorem StoreAt.nads (T : StoreAt K H a c zs M seq us) {x : Addr} {o : HO} (h : H x = some o) (n2 : ∀ xs, o ≠ .lst xs) : x ∉ a.ads := fun z => by
  obtain ⟨xs, e⟩ := T.room.st.one z
  rw [e] at h; exact n2 xs (Option.some.inj h).symm
theorem SRs.keep (s : SRs a H H') (T : StoreAt K H a c zs M seq us) {x : Addr} {o : HO} (h : H x = some o) (n1 : ∀ kvs, o ≠ .dK kvs) (n2 : ∀ xs, o ≠ .lst xs) : H' x = some o :=
  s x o h (T.kinds h n1).1 (T.kinds h n1).2 (T.nads h n2)
theorem StoreAt.beside {b : SA} {cb : Cf} {sb : List Int} {ub : Int → Int} (B : StoreAt K H b cb zs M sb ub) (T : StoreAt K H a c zs M seq us) (p : Sep a b) (hM : ∀ x ∈ a.ads, M x) (s : SRs a H H') : StoreAt K H' b cb zs M sb ub := by
  obtain ⟨dx, h1⟩ := B.ob
  obtain ⟨dr, h2⟩ := B.room.ob
  obtain ⟨kr, h3, h4⟩ := B.room.dc
  obtain ⟨kv, h5, h6, h7, h8⟩ := B.held
  have l : ∀ {x ys}, H x = some (.lst ys) → x ∉ a.ads → H' x = some (.lst ys) := fun {x ys} e n => s x _ e (T.kinds e (fun _ z => by cases z)).1 (T.kinds e (fun _ z => by cases z)).2 n
  have d : ∀ {x kvs}, H x = some (.dK kvs) → x ≠ a.du → x ≠ a.dh → H' x = some (.dK kvs) := fun {x kvs} e n1 n2 => s x _ e n1 n2 (T.nads e (fun _ z => by cases z))
  refine ⟨⟨dx, s.keep T h1 (fun _ z => by cases z) (fun _ z => by cases z)⟩, ⟨⟨dr, s.keep T h2 (fun _ z => by cases z) (fun _ z => by cases z)⟩, ⟨l B.room.st.top p.ls, B.room.st.len, B.room.st.nd, B.room.st.off, fun i ad e => l (B.room.st.at_ i ad e) fun m => p.ads _ m (List.mem_of_getElem? e)⟩, ⟨kr, d h3 p.d1 p.d2, h4⟩, B.room.nd, B.room.s0, B.room.s1⟩, ⟨kv, d h5 p.d3 p.d4, h6, h7, fun x hx => ?_⟩, d B.fresh p.d5 p.d6, B.n1, B.n2, B.n3⟩
  obtain ⟨y, e1, e2, e3⟩ := h8 x hx
  exact ⟨y, e1, l e2 fun m => e3 (hM _ m), e3⟩
theorem StoreAt.put (T : StoreAt K H a c zs M seq us) {x : Addr} {ys : List V} (u : HO) (hx : H x = some (.lst ys)) (n1 : x ≠ a.ls) (n2 : x ∉ a.ads) (n3 : M x) : StoreAt K (upd H x u) a c zs M seq us := by
  obtain ⟨dx, h1⟩ := T.ob
  obtain ⟨dr, h2⟩ := T.room.ob
  obtain ⟨kr, h3, h4⟩ := T.room.dc
  obtain ⟨kv, h5, h6, h7, h8⟩ := T.held
  have ne : ∀ {y o}, H y = some o → (∀ xs, o ≠ .lst xs) → y ≠ x := fun {y o} e n z => by rw [z, hx] at e; exact n ys (Option.some.inj e).symm
  refine ⟨⟨dx, by rw [upd_ne (ne h1 (fun _ z => by cases z))]; exact h1⟩, ⟨⟨dr, by rw [upd_ne (ne h2 (fun _ z => by cases z))]; exact h2⟩, T.room.st.other u n1 n2, ⟨kr, by rw [upd_ne (ne h3 (fun _ z => by cases z))]; exact h3, h4⟩, T.room.nd, T.room.s0, T.room.s1⟩, ⟨kv, by rw [upd_ne (ne h5 (fun _ z => by cases z))]; exact h5, h6, h7, fun y hy => ?_⟩, by rw [upd_ne (ne T.fresh (fun _ z => by cases z))]; exact T.fresh, T.n1, T.n2, T.n3⟩
  obtain ⟨l, e1, e2, e3⟩ := h8 y hy
  exact ⟨l, e1, by rw [upd_ne (fun z : l = x => e3 (z ▸ n3))]; exact e2, e3⟩
theorem tb_keep {x : Addr} {o u : HO} (t : Tb K H) (h : H x = some o) (n : ∀ p q, o ≠ .tbl p q) : Tb K (upd H x u) := by
  unfold Tb at t ⊢
  rw [upd_ne (fun z => by rw [z, h] at t; exact n _ _ (Option.some.inj t))]
  exact t
theorem StairsAt.same (T : StairsAt K H A g S xs U) (s : Same H H') : StairsAt K H' A g S xs U := by
  obtain ⟨dx, h1⟩ := T.ob
  exact ⟨⟨dx, s _ _ h1⟩, s _ _ T.ss, T.mem.same s, s _ _ T.ev, T.lc, T.lS, fun k a c r h1 h2 h3 => (T.st k a c r h1 h2 h3).same s, T.sep, T.off, T.nse, (fun x hx => by obtain ⟨ys, e⟩ := T.oex x hx; exact ⟨ys, s _ _ e⟩), T.on, T.uni, T.full, T.cf, T.z0, T.z1, T.lU, T.l4, T.tb.same s⟩
theorem StairsAt.at_ (T : StairsAt K H A g S xs U) {k : Nat} (hk : k < A.as.length) : ∃ a c s, A.as[k]? = some a ∧ g.cfs[k]? = some c ∧ S[k]? = some s ∧ StoreAt K H a c (zerosV g.size) (MutL A) s.1 s.2 := by
  have h1 : A.as[k]? = some A.as[k] := List.getElem?_eq_getElem hk
  have h2 : g.cfs[k]? = some (g.cfs[k]'(by rw [T.lc]; exact hk)) := List.getElem?_eq_getElem _
  have h3 : S[k]? = some (S[k]'(by rw [T.lS]; exact hk)) := List.getElem?_eq_getElem _
  exact ⟨_, _, _, h1, h2, h3, T.st _ _ _ _ h1 h2 h3⟩
theorem StairsAt.len (T : StairsAt K H A g S xs U) {k : Nat} {s : RS} (hs : S[k]? = some s) : s.1.length ≤ 800 := by
  have hk : k < A.as.length := by rw [← T.lS]; exact (List.getElem?_eq_some_iff.mp hs).1
  obtain ⟨a, c, s', h1, h2, h3, R⟩ := T.at_ hk
  rw [hs] at h3; cases h3
  exact Nat.le_trans (nd_len R.room.nd (T.uni s (List.mem_of_getElem? hs))) T.lU
theorem mut_ads {a : SA} (h : a ∈ A.as) : ∀ x ∈ a.ads, MutL A x := fun x hx => .inr (.inl ⟨a, h, hx⟩)
theorem StairsAt.mex (T : StairsAt K H A g S xs U) : ∀ x, MutL A x → H x ≠ none := fun x hx e => by
  rcases hx with rfl | ⟨a, ha, hx⟩ | hx
  · rw [T.ev] at e; cases e
  · obtain ⟨k, hk⟩ := List.getElem?_of_mem ha
    obtain ⟨a', c, s, h1, h2, h3, R⟩ := T.at_ (List.getElem?_eq_some_iff.mp hk).1
    rw [hk] at h1; cases h1
    obtain ⟨ys, q⟩ := R.room.st.one hx
    rw [q] at e; cases e
  · obtain ⟨ys, q⟩ := T.oex x hx
    rw [q] at e; cases e
theorem StairsAt.deed (T : StairsAt K H A g S xs U) {k : Nat} {seq' : List Int} {us' : Int → Int} (ha : A.as[k]? = some a) (hc : g.cfs[k]? = some c) (R : StoreAt K H' a c (zerosV g.size) (MutL A) seq' us') (s : SRs a H H') (hu : ∀ b ∈ seq', b ∈ U) (hf : ∀ t, ((shelfS c.sh t seq').length : Int) ≤ c.pl) :
    StairsAt K H' A g (S.set k (seq', us')) xs U ∧ SF A H H' := by
  have hk : k < A.as.length := (List.getElem?_eq_some_iff.mp ha).1
  obtain ⟨a', c', r, h1, h2, h3, B⟩ := T.at_ hk
  rw [ha] at h1; cases h1
  rw [hc] at h2; cases h2
  have hm := mut_ads (A := A) (List.mem_of_getElem? ha)
  obtain ⟨dx, e1⟩ := T.ob
  obtain ⟨dm, e2⟩ := T.mem.ob
  obtain ⟨o1, o2, o3, o4, o5⟩ := T.off a (List.mem_of_getElem? ha)
  have l : ∀ {x ys}, H x = some (.lst ys) → x ∉ a.ads → H' x = some (.lst ys) := fun {x ys} e n => s x _ e (B.kinds e (fun _ z => by cases z)).1 (B.kinds e (fun _ z => by cases z)).2 n
  have t := T.tb
  unfold Tb at t
  refine ⟨⟨⟨dx, s.keep B e1 (fun _ z => by cases z) (fun _ z => by cases z)⟩, l T.ss o1, ⟨⟨dm, s.keep B e2 (fun _ z => by cases z) (fun _ z => by cases z)⟩, s _ _ T.mem.kept o4 o5 (B.nads T.mem.kept (fun _ z => by cases z))⟩, l T.ev o2, T.lc, by rw [List.length_set]; exact T.lS, fun j b cb sb hb hcb hsb => ?_, T.sep, T.off, T.nse, (fun x hx => by obtain ⟨ys, e⟩ := T.oex x hx; exact ⟨ys, l e ((T.on x hx).2.2 a (List.mem_of_getElem? ha)).2⟩), T.on, fun q hq b hb => ?_, fun j cb sb hcb hsb => ?_, T.cf, T.z0, T.z1, T.lU, T.l4, s.keep B t (fun _ z => by cases z) (fun _ z => by cases z)⟩, fun x o e n => s x o e (fun z => n (.inr (.inr ⟨a, List.mem_of_getElem? ha, .inl z⟩))) (fun z => n (.inr (.inr ⟨a, List.mem_of_getElem? ha, .inr (.inl z)⟩))) (fun z => n (.inr (.inr ⟨a, List.mem_of_getElem? ha, .inr (.inr z)⟩)))⟩
  · by_cases e : j = k
    · subst e
      rw [ha] at hb; cases hb
      rw [hc] at hcb; cases hcb
      rw [List.getElem?_set_self (by rw [T.lS]; exact hk)] at hsb
      cases hsb
      exact R
    · rw [List.getElem?_set_ne (fun z => e z.symm)] at hsb
      exact (T.st j b cb sb hb hcb hsb).beside B (T.sep k j a b ha hb fun z => e z.symm) hm s
  · rcases List.mem_or_eq_of_mem_set hq with hq | rfl
    · exact T.uni q hq b hb
    · exact hu b hb
  · by_cases e : j = k
    · subst e
      rw [hc] at hcb; cases hcb
      rw [List.getElem?_set_self (by rw [T.lS]; exact hk)] at hsb
      cases hsb
      exact hf
    · rw [List.getElem?_set_ne (fun z => e z.symm)] at hsb
      exact T.full j cb sb hcb hsb
theorem StairsAt.event (T : StairsAt K H A g S xs U) (v : V) : StairsAt K (upd H A.ev (.lst (xs ++ [v]))) A g S (xs ++ [v]) U ∧ SF A H (upd H A.ev (.lst (xs ++ [v]))) := by
  obtain ⟨dx, e1⟩ := T.ob
  obtain ⟨dm, e2⟩ := T.mem.ob
  have ne : ∀ {y o}, H y = some o → (∀ xs, o ≠ .lst xs) → y ≠ A.ev := fun {y o} e n z => by rw [z, T.ev] at e; exact n xs (Option.some.inj e).symm
  refine ⟨⟨⟨dx, by rw [upd_ne (ne e1 (fun _ z => by cases z))]; exact e1⟩, by rw [upd_ne T.nse]; exact T.ss, ⟨⟨dm, by rw [upd_ne (ne e2 (fun _ z => by cases z))]; exact e2⟩, by rw [upd_ne (ne T.mem.kept (fun _ z => by cases z))]; exact T.mem.kept⟩, upd_same, T.lc, T.lS, fun j b cb sb hb hcb hsb => ?_, T.sep, T.off, T.nse, (fun x hx => by obtain ⟨ys, e⟩ := T.oex x hx; exact ⟨ys, by rw [upd_ne (T.on x hx).2.1]; exact e⟩), T.on, T.uni, T.full, T.cf, T.z0, T.z1, T.lU, T.l4, tb_upd T.tb T.ev⟩, fun x o e n => by rw [upd_ne (fun z => n (.inr (.inl z)))]; exact e⟩
  obtain ⟨o1, o2, o3, o4, o5⟩ := T.off b (List.mem_of_getElem? hb)
  exact (T.st j b cb sb hb hcb hsb).put _ T.ev o3 o2 (.inl rfl)
theorem StoreAt.putI (T : StoreAt K H a c zs M seq us) {x C d : Addr} {fs : List (Str × V)} {v : V} (hx : H x = some (.ins C d fs)) (hk : fs.lookup ("kind" : Str) = some v) (u : HO) : StoreAt K (upd H x u) a c zs M seq us := by
  obtain ⟨dx, h1⟩ := T.ob
  obtain ⟨dr, h2⟩ := T.room.ob
  obtain ⟨kr, h3, h4⟩ := T.room.dc
  obtain ⟨kv, h5, h6, h7, h8⟩ := T.held
  have ne : ∀ {y o}, H y = some o → (∀ C d fs, o = .ins C d fs → fs.lookup ("kind" : Str) = none) → y ≠ x := fun {y o} e n z => by
    rw [z, hx] at e
    have q := n _ _ _ (Option.some.inj e).symm
    rw [hk] at q; cases q
  have n1 := ne h1 (fun _ _ _ z => by cases z; exact sf_no ..)
  have n2 := ne h2 (fun _ _ _ z => by cases z; exact fl_no ..)
  refine ⟨⟨dx, by rw [upd_ne n1]; exact h1⟩, ⟨⟨dr, by rw [upd_ne n2]; exact h2⟩, ⟨by rw [upd_ne (ne T.room.st.top (fun _ _ _ z => by cases z))]; exact T.room.st.top, T.room.st.len, T.room.st.nd, T.room.st.off, fun i ad e => by have q := T.room.st.at_ i ad e; rw [upd_ne (ne q (fun _ _ _ z => by cases z))]; exact q⟩, ⟨kr, by rw [upd_ne (ne h3 (fun _ _ _ z => by cases z))]; exact h3, h4⟩, T.room.nd, T.room.s0, T.room.s1⟩, ⟨kv, by rw [upd_ne (ne h5 (fun _ _ _ z => by cases z))]; exact h5, h6, h7, fun y hy => ?_⟩, by rw [upd_ne (ne T.fresh (fun _ _ _ z => by cases z))]; exact T.fresh, T.n1, T.n2, T.n3⟩
  obtain ⟨l, e1, e2, e3⟩ := h8 y hy
  exact ⟨l, e1, by rw [upd_ne (ne e2 (fun _ _ _ z => by cases z))]; exact e2, e3⟩
theorem StairsAt.told (T : StairsAt K H A g S xs U) {e' dx : Addr} (he : H e' = none) : StairsAt K (upd (upd H e' (.lst [])) A.p (.ins (clsOf K "Stairs") dx (tflds g.size A.ss A.bm A.as.length e' g.kind))) { A with ev := e' } g S [] U := by
  obtain ⟨dx0, e1⟩ := T.ob
  obtain ⟨dm, e2⟩ := T.mem.ob
  have s := same_upd he (.lst [])
  have e1' := s _ _ e1
  have npe : A.p ≠ e' := ne_of_none e1 he
  have ne : ∀ {y o}, upd H e' (.lst []) y = some o → (∀ C d fs, o = .ins C d fs → fs.lookup ("kind" : Str) = none) → y ≠ A.p := fun {y o} e n z => by
    rw [z, e1'] at e
    have q := n _ _ _ (Option.some.inj e).symm
    rw [tf_kind] at q; cases q
  have nads : ∀ a ∈ A.as, e' ∉ a.ads := fun a ha m => T.mex e' (.inr (.inl ⟨a, ha, m⟩)) he
  have nls : ∀ a ∈ A.as, e' ≠ a.ls := fun a ha z => by
    obtain ⟨k, hk⟩ := List.getElem?_of_mem ha
    obtain ⟨a', c, r, h1, h2, h3, R⟩ := T.at_ (List.getElem?_eq_some_iff.mp hk).1
    rw [hk] at h1; cases h1
    have q := R.room.st.top
    rw [← z, he] at q; cases q
  have t := T.tb.same s
  refine ⟨⟨dx, upd_same⟩, by rw [upd_ne (ne (s _ _ T.ss) (fun _ _ _ z => by cases z))]; exact s _ _ T.ss, ⟨⟨dm, by rw [upd_ne (ne (s _ _ e2) (fun _ _ _ z => by cases z; exact mf_no ..))]; exact s _ _ e2⟩, by rw [upd_ne (ne (s _ _ T.mem.kept) (fun _ _ _ z => by cases z))]; exact s _ _ T.mem.kept⟩, by rw [upd_ne (Ne.symm npe)]; exact upd_same, T.lc, T.lS, fun j b cb sb hb hcb hsb => ?_, T.sep, fun b hb => ?_, fun z => ?_, (fun x hx => by obtain ⟨ys, e⟩ := T.oex x hx; exact ⟨ys, by rw [upd_ne (ne (s _ _ e) (fun _ _ _ z => by cases z))]; exact s _ _ e⟩), (fun x hx => ⟨(T.on x hx).1, (fun z => by obtain ⟨ys, e⟩ := T.oex x hx; have z : x = e' := z; rw [z, he] at e; cases e), (T.on x hx).2.2⟩), T.uni, T.full, T.cf, T.z0, T.z1, T.lU, T.l4, tb_keep t e1' (fun _ _ z => by cases z)⟩
  · have B := T.st j b cb sb hb hcb hsb
    have B' : StoreAt K H b cb (zerosV g.size) (MutL { A with ev := e' }) sb.1 sb.2 := B.mono fun x ys hx hm => by
      rcases hm with z | m
      · have z : x = e' := z
        rw [z, he] at hx; cases hx
      · exact .inr m
    exact (B'.same s).putI e1' (tf_kind ..) _
  · obtain ⟨o1, o2, o3, o4, o5⟩ := T.off b hb
    exact ⟨o1, nads b hb, nls b hb, o4, o5⟩
  · have z : A.ss = e' := z
    have q := T.ss
    rw [z, he] at q; cases q
theorem StairsAt.alloc (T : StairsAt K H A g S xs U) {r : Addr} (ys : List V) (hr : H r = none) : StairsAt K (upd H r (.lst ys)) { A with out := r :: A.out } g S xs U := by
  have s := same_upd hr (.lst ys)
  have T' := T.same s
  have nr : ∀ {x o}, H x = some o → r ≠ x := fun {x o} e z => by rw [← z, hr] at e; cases e
  have nads : ∀ a ∈ A.as, r ∉ a.ads := fun a ha m => T.mex r (.inr (.inl ⟨a, ha, m⟩)) hr
  have nls : ∀ a ∈ A.as, r ≠ a.ls := fun a ha => by
    obtain ⟨k, hk⟩ := List.getElem?_of_mem ha
    obtain ⟨a', c, q, h1, h2, h3, R⟩ := T.at_ (List.getElem?_eq_some_iff.mp hk).1
    rw [hk] at h1; cases h1
    exact nr R.room.st.top
  refine ⟨T'.ob, T'.ss, T'.mem, T'.ev, T.lc, T.lS, fun j b cb sb hb hcb hsb => ?_, T.sep, T.off, T.nse, fun x hx => ?_, fun x hx => ?_, T.uni, T.full, T.cf, T.z0, T.z1, T.lU, T.l4, T'.tb⟩
  · have B := T.st j b cb sb hb hcb hsb
    have B' : StoreAt K H b cb (zerosV g.size) (MutL { A with out := r :: A.out }) sb.1 sb.2 := B.mono fun x zs hx hm => by
      rcases hm with z | m | m
      · exact .inl z
      · exact .inr (.inl m)
      · rcases List.mem_cons.mp m with rfl | m
        · rw [hr] at hx; cases hx
        · exact .inr (.inr m)
    exact B'.same s
  · rcases List.mem_cons.mp hx with rfl | hx
    · exact ⟨ys, upd_same⟩
    · exact T'.oex x hx
  · rcases List.mem_cons.mp hx with rfl | hx
    · exact ⟨nr T.ss, nr T.ev, fun a ha => ⟨nls a ha, nads a ha⟩⟩
    · exact T.on x hx
theorem StairsAt.outp (T : StairsAt K H A g S xs U) {r : Addr} (hr : r ∈ A.out) (ys : List V) : StairsAt K (upd H r (.lst ys)) A g S xs U := by
  obtain ⟨zs, er⟩ := T.oex r hr
  obtain ⟨n1, n2, n3⟩ := T.on r hr
  obtain ⟨dx, e1⟩ := T.ob
  obtain ⟨dm, e2⟩ := T.mem.ob
  have ne : ∀ {y o}, H y = some o → (∀ xs, o ≠ .lst xs) → y ≠ r := fun {y o} e n z => by rw [z, er] at e; exact n _ (Option.some.inj e).symm
  refine ⟨⟨dx, by rw [upd_ne (ne e1 (fun _ z => by cases z))]; exact e1⟩, by rw [upd_ne (Ne.symm n1)]; exact T.ss, ⟨⟨dm, by rw [upd_ne (ne e2 (fun _ z => by cases z))]; exact e2⟩, by rw [upd_ne (ne T.mem.kept (fun _ z => by cases z))]; exact T.mem.kept⟩, by rw [upd_ne (Ne.symm n2)]; exact T.ev, T.lc, T.lS, fun j b cb sb hb hcb hsb => ?_, T.sep, T.off, T.nse, fun x hx => ?_, T.on, T.uni, T.full, T.cf, T.z0, T.z1, T.lU, T.l4, tb_upd T.tb er⟩
  · obtain ⟨m1, m2⟩ := n3 b (List.mem_of_getElem? hb)
    exact (T.st j b cb sb hb hcb hsb).put _ er m1 m2 (.inr (.inr hr))
  · by_cases z : x = r
    · subst z; exact ⟨ys, upd_same⟩
    · obtain ⟨us, e⟩ := T.oex x hx
      exact ⟨us, by rw [upd_ne z]; exact e⟩
end
def useR (c : Cf) (s : RS) (b : Int) : RS := (if c.ru = "old" then s.1.erase b ++ [b] else s.1, bump s.2 b)
def outR (s : RS) (b : Int) : RS := (s.1.erase b, s.2)
def inR (s : RS) (b : Int) : RS := (s.1 ++ [b], zero s.2 b)
theorem pw_uniq {R : Int → Int → Prop} (anti : ∀ a b, R a b → R b a → a = b) : ∀ {l1 l2 : List Int}, l1.Perm l2 → l1.Pairwise R → l2.Pairwise R → l1 = l2
  | [], l2, p, _, _ => (List.nil_perm.mp p).symm
  | a :: l1, l2, p, h1, h2 => by
    match l2, p, h2 with
    | [], p, _ => exact absurd p.length_eq (by simp)
    | b :: l2, p, h2 =>
      have e : a = b := by
        by_cases c : a = b
        · exact c
        · have ma : a ∈ l2 := (List.mem_cons.mp (p.mem_iff.mp List.mem_cons_self)).resolve_left c
          have mb : b ∈ l1 := (List.mem_cons.mp (p.mem_iff.mpr List.mem_cons_self)).resolve_left (fun z => c z.symm)
          exact anti a b ((List.pairwise_cons.mp h1).1 b mb) ((List.pairwise_cons.mp h2).1 a ma)
      subst e
      rw [pw_uniq anti (List.Perm.cons_inv p) (List.pairwise_cons.mp h1).2 (List.pairwise_cons.mp h2).2]
theorem klt_anti {us : Int → Int} {ms : List Int} (a b : Int) (h1 : KLt us ms a b) (h2 : KLt us ms b a) : a = b := by
  rcases h1 with h1 | ⟨h1, h3⟩ <;> rcases h2 with h2 | ⟨h2, h4⟩ <;> omega
theorem gone_uniq {ru : Str} {us : Int → Int} {pl : Int} {ms : List Int} {g g' : Option Int} (h : goneP ru us pl ms g) (h' : goneP ru us pl ms g') : g = g' := by
  by_cases c : (ms.length : Int) < pl
  · rw [h.1 c, h'.1 c]
  · obtain ⟨x, r, rfl, p, f, n⟩ := h.2 c
    obtain ⟨x', r', rfl, p', f', n'⟩ := h'.2 c
    have e : x :: r = x' :: r' := by
      by_cases q : ru = "few"
      · exact pw_uniq klt_anti (p.trans p'.symm) (f q) (f' q)
      · rw [n q, n' q]
    injection e with e1 _
    rw [e1]
open Classical in
noncomputable def goneF (c : Cf) (s : RS) (b : Int) : Option Int := if h : ∃ g, goneP c.ru s.2 c.pl (shelfS c.sh (b % c.sh) s.1) g then Classical.choose h else none
theorem goneF_eq {c : Cf} {s : RS} {b : Int} {g : Option Int} (h : goneP c.ru s.2 c.pl (shelfS c.sh (b % c.sh) s.1) g) : goneF c s b = g := by
  unfold goneF
  have e : ∃ g, goneP c.ru s.2 c.pl (shelfS c.sh (b % c.sh) s.1) g := ⟨g, h⟩
  rw [dif_pos e]
  exact gone_uniq (Classical.choose_spec e) h
theorem full_less {sh pl : Int} {seq seq' : List Int} (h : ∀ s, ((shelfS sh s seq).length : Int) ≤ pl) (hs : seq'.Sublist seq) : ∀ s, ((shelfS sh s seq').length : Int) ≤ pl := fun s => by
  have q : (shelfS sh s seq').Sublist (shelfS sh s seq) := List.Sublist.filter _ hs
  have := q.length_le
  have := h s
  omega
theorem full_perm {sh pl : Int} {seq seq' : List Int} (h : ∀ s, ((shelfS sh s seq).length : Int) ≤ pl) (hs : seq'.Perm seq) : ∀ s, ((shelfS sh s seq').length : Int) ≤ pl := fun s => by
  have q : (shelfS sh s seq').Perm (shelfS sh s seq) := List.Perm.filter _ hs
  rw [q.length_eq]
  exact h s
theorem full_in {sh pl b : Int} {seq : List Int} (h : ∀ s, ((shelfS sh s seq).length : Int) ≤ pl) (hb : ((shelfS sh (b % sh) seq).length : Int) < pl) : ∀ s, ((shelfS sh s (seq ++ [b])).length : Int) ≤ pl := fun s => by
  rw [shelfS_app]
  split
  · rename_i e
    rw [← e, List.length_append]
    show ((_ + 1 : Nat) : Int) ≤ pl
    omega
  · exact h s
theorem use_mem {c : Cf} {s : RS} {b x : Int} (hb : b ∈ s.1) (nd : s.1.Nodup) : x ∈ (useR c s b).1 ↔ x ∈ s.1 := by
  unfold useR
  by_cases e : c.ru = "old"
  · rw [if_pos e, List.mem_append, List.mem_singleton, List.Nodup.mem_erase_iff nd]
    constructor
    · rintro (⟨_, m⟩ | rfl)
      · exact m
      · exact hb
    · intro m
      by_cases z : x = b
      · exact .inr z
      · exact .inl ⟨z, m⟩
  · rw [if_neg e]
theorem use_perm {c : Cf} {s : RS} {b : Int} (hb : b ∈ s.1) : (useR c s b).1.Perm s.1 := by
  unfold useR
  by_cases e : c.ru = "old"
  · rw [if_pos e]; exact (List.perm_append_comm).trans (List.perm_cons_erase hb).symm
  · rw [if_neg e]
section
variable {K : PySem.W.Frag} {H H' : Hp} {A : TA} {g : Pln} {S : List RS} {xs : List V} {U : List Int}
theorem StairsAt.ix {k : Nat} {a : SA} (ha : A.as[k]? = some a) : atI (A.as.map fun a => V.ref a.sp) (k : Int) = some (.ref a.sp) := atI_nat (by rw [List.getElem?_map, ha]; rfl)
theorem StairsAt.nfoot (T : StairsAt K H A g S xs U) {l : Addr} {ys : List V} (h : H l = some (.lst ys)) (n : ¬ MutL A l) : ¬ Foot A l := fun z => by
  rcases z with rfl | rfl | ⟨a, ha, z⟩
  · obtain ⟨dx, e⟩ := T.ob; rw [e] at h; cases h
  · exact n (.inl rfl)
  · obtain ⟨k, hk⟩ := List.getElem?_of_mem ha
    obtain ⟨a', c, s, h1, h2, h3, R⟩ := T.at_ (List.getElem?_eq_some_iff.mp hk).1
    rw [hk] at h1; cases h1
    obtain ⟨q1, q2⟩ := R.kinds h (fun _ z => by cases z)
    rcases z with z | z | z
    · exact q1 z
    · exact q2 z
    · exact n (.inr (.inl ⟨a, ha, z⟩))
theorem StairsAt.sfp (T : StairsAt K H A g S xs U) {o : HO} {x : Addr} (h : H x = some o) (n1 : ∀ xs, o ≠ .lst xs) (n2 : ∀ kvs, o ≠ .dK kvs) (n3 : ∀ C d fs, o ≠ .ins C d fs) : ¬ Foot A x := fun z => by
  rcases z with rfl | rfl | ⟨a, ha, z⟩
  · obtain ⟨dx, e⟩ := T.ob; rw [e] at h; exact n3 _ _ _ (Option.some.inj h).symm
  · rw [T.ev] at h; exact n1 _ (Option.some.inj h).symm
  · obtain ⟨k, hk⟩ := List.getElem?_of_mem ha
    obtain ⟨a', c, s, h1, h2, h3, R⟩ := T.at_ (List.getElem?_eq_some_iff.mp hk).1
    rw [hk] at h1; cases h1
    obtain ⟨q1, q2⟩ := R.kinds h n2
    rcases z with z | z | z
    · exact q1 z
    · exact q2 z
    · exact R.nads h n1 z
end
section
variable {P : Program} {w : World} {K : PySem.W.Frag} {mg : Str → Option Value} {base : Heap}
def spTStore (K : PySem.W.Frag) : Sp := fun vs H Q _ => ∃ (A : TA) (g : Pln) (S : List RS) (xs : List V) (U : List Int) (k : Nat) (a : SA), vs = [.ref A.p, .int (k : Int)] ∧ StairsAt K H A g S xs U ∧ A.as[k]? = some a ∧ Q (.ref a.sp) H
theorem ok_Steps_store {f : Addr} {fd : FuncData} (F : Fun K "store" "Steps.store" s_Steps_store f fd) (T : Txt K mg) : FnOk P w K mg base CX0 1 f fd P_Steps_store (spTStore K) := by
  refine F.ok sc_Steps_store (fun vs H Q E h => ?_) (fun cdv A outer st H vs Q E hr h => ?_)
  · obtain ⟨A, g, S, xs, U, k, a, rfl, _⟩ := h
    rfl
  obtain ⟨A, g, S, xs, U, k, a, rfl, R, ha, q⟩ := h
  have nd := sc_Steps_store.nd
  refine ⟨_, (pss_cons (ps_if (pt_not (pt_chain op_le op_lt pe_int (pv 1) (pe_fldK (K := K) rfl (pv 0) rfl))) (pss_one ps_no) pss_nil)
      (pss_one (ps_ret (pe_ix (ix_listK (K := K) rfl) (pe_fldK (K := K) rfl (pv 0) rfl) (pv 1) (fun _ _ => rfl))))), ?_⟩
  obtain ⟨dx, h1⟩ := R.ob
  have hk : k < A.as.length := (List.getElem?_eq_some_iff.mp ha).1
  refine ⟨_, rfl, _, _, rfl, rfl, _, rfl, ifT (decide_eq_true (by omega)) ⟨_, rfl, A.p, _, dx, _, _, rfl, h1, T.cl_Stairs, T.n_Stairs_last, tf_last .., _, _, rfl, rfl, _, rfl, ifF (by rw [decide_eq_true (by omega)]; rfl) ?_⟩⟩
  exact ⟨_, rfl, A.p, _, dx, _, _, rfl, h1, T.cl_Stairs, T.n_Stairs_stores, tf_stores .., _, rfl, A.ss, _, _, _, rfl, rfl, SqL.of R.ss, StairsAt.ix ha, q⟩
def spTWords (K : PySem.W.Frag) : Sp := fun vs H Q _ => ∃ (A : TA) (g : Pln) (S : List RS) (xs : List V) (U : List Int) (k : Nat) (b : Int), vs = [.ref A.p, .int (k : Int), .int b] ∧ StairsAt K H A g S xs U ∧ k ≤ A.as.length ∧ (∀ s, S[k]? = some s → b ∈ s.1) ∧ 0 ≤ b ∧ b ≤ 1000000 ∧ ∀ l H', H l = none → Same H H' → H' l = some (.lst (zerosV g.size)) → Q (.ref l) H'
theorem ok_Steps_words {f : Addr} {fd : FuncData} (F : Fun K "words" "Steps.words" s_Steps_words f fd) (T : Txt K mg) (M_Memory_words_of : MDef P w K mg base (clsOf K "Memory") "words_of" 2 P_Memory_words_of (spMWords K)) (M_Steps_store : MDef P w K mg base (clsOf K "Stairs") "store" 1 P_Steps_store (spTStore K)) (M_Store_words_of : MDef P w K mg base (clsOf K "Store") "words_of" 3 P_Store_words_of (spWordsOf K)) : FnOk P w K mg base CX0 4 f fd P_Steps_words (spTWords K) := by
  refine F.ok sc_Steps_words (fun vs H Q E h => ?_) (fun cdv A outer st H vs Q E hr h => ?_)
  · obtain ⟨A, g, S, xs, U, k, b, rfl, _⟩ := h
    rfl
  obtain ⟨A, g, S, xs, U, k, b, rfl, R, hk, hb, b0, b1, q⟩ := h
  have nd := sc_Steps_words.nd
  refine ⟨_, (pss_cons (ps_if (pt_cmpR op_eq (pv 1) (pe_fldK (K := K) rfl (pv 0) rfl) (nomark _)) (pss_one (ps_ret (pe_methN M_Memory_words_of hr.m T.cl_Memory (pe_fldK (K := K) rfl (pv 0) rfl) (pc (pv 2) pa_nil)))) pss_nil)
      (pss_one (ps_ret (pe_methN M_Store_words_of hr.m T.cl_Store (pe_methN M_Steps_store hr.m T.cl_Stairs (pv 0) (pc (pv 1) pa_nil)) (pc (pv 2) pa_nil))))), ?_⟩
  obtain ⟨dx, h1⟩ := R.ob
  obtain ⟨dm, h2⟩ := R.mem.ob
  refine ⟨_, rfl, _, rfl, A.p, _, dx, _, _, rfl, h1, T.cl_Stairs, T.n_Stairs_last, tf_last .., rfl, _, rfl, eq_case (fun e => ?_) (fun e => ?_)⟩
  · exact ⟨_, rfl, A.p, _, dx, _, _, rfl, h1, T.cl_Stairs, T.n_Stairs_bottom, tf_bottom .., A.bm, dm, _, rfl, h2, mf_no .., _, rfl, A.bm, A.dk, g.size, b, rfl, R.mem, by have := R.z0; omega, R.z1, b0, b1, q⟩
  · obtain ⟨a, c, s, e1, e2, e3, B⟩ := R.at_ (k := k) (by omega)
    obtain ⟨ds, h3⟩ := B.ob
    exact ⟨_, rfl, A.p, dx, _, rfl, h1, tf_no .., _, rfl, A, g, S, xs, U, k, a, rfl, R, e1, a.sp, ds, _, rfl, h3, sf_no .., _, rfl, a, c, _, _, s.1, s.2, b, rfl, B, hb s e3, fun l hl => q l _ hl (same_upd hl _) upd_same⟩
def spHappened (K : PySem.W.Frag) : Sp := fun vs H Q _ => ∃ (A : TA) (g : Pln) (S : List RS) (xs : List V) (U : List Int), vs = [.ref A.p] ∧ StairsAt K H A g S xs U ∧ ∀ e' H', H e' = none → StairsAt K H' { A with ev := e' } g S [] U → (∀ x o, H x = some o → x ≠ A.p → H' x = some o) → Q (.ref A.ev) H'
theorem ok_Steps_happened {f : Addr} {fd : FuncData} (F : Fun K "happened" "Steps.happened" s_Steps_happened f fd) (T : Txt K mg) : FnOk P w K mg base CX0 1 f fd P_Steps_happened (spHappened K) := by
  refine F.ok sc_Steps_happened (fun vs H Q E h => ?_) (fun cdv A outer st H vs Q E hr h => ?_)
  · obtain ⟨A, g, S, xs, U, rfl, _⟩ := h
    rfl
  obtain ⟨A, g, S, xs, U, rfl, R, q⟩ := h
  have nd := sc_Steps_happened.nd
  refine ⟨_, (pss_cons (pst 1 nd (pe_fldK (K := K) rfl (pv 0) rfl))
      (pss_cons (ps_fld (pv 0) (pe_lst pa_nil) rfl)
      (pss_one (ps_ret (pv 1))))), ?_⟩
  obtain ⟨dx, h1⟩ := R.ob
  refine ⟨_, rfl, A.p, _, dx, _, _, rfl, h1, T.cl_Stairs, T.n_Stairs_events, tf_events .., gN ?_⟩
  try dsimp only
  refine ⟨(by show 0 ≤ sizeLine; decide), fun e' he => ⟨_, rfl, A.p, _, dx, _, rfl, same_upd he _ _ _ h1, T.cl_Stairs, T.n_Stairs_events, (by rw [tflds_list]; show 6 < 1000; decide), ?_⟩⟩
  rw [tf_put]
  refine ⟨_, rfl, q e' _ he (R.told he) fun x o e n => ?_⟩
  rw [upd_ne n]
  exact same_upd he _ _ _ e
def spLeav (K : PySem.W.Frag) : Sp := fun vs H Q _ => ∃ (A : TA) (g : Pln) (S : List RS) (xs : List V) (U : List Int) (k : Nat) (b : Int) (c : Cf) (s : RS), vs = [.ref A.p, .int (k : Int), .int b] ∧ StairsAt K H A g S xs U ∧ g.cfs[k]? = some c ∧ S[k]? = some s ∧ ∀ H', Same H H' → goneP c.ru s.2 c.pl (shelfS c.sh (b % c.sh) s.1) (goneF c s b) → Q (optV (goneF c s b)) H'
theorem ok_Steps_leaver {f : Addr} {fd : FuncData} (F : Fun K "leaver" "Steps.leaver" s_Steps_leaver f fd) (T : Txt K mg) (M_Room_leaver_for : MDef P w K mg base (clsOf K "Room") "leaver_for" 3 P_Room_leaver_for (spLeaver K)) : FnOk P w K mg base CX0 4 f fd P_Steps_leaver (spLeav K) := by
  refine F.ok sc_Steps_leaver (fun vs H Q E h => ?_) (fun cdv A outer st H vs Q E hr h => ?_)
  · obtain ⟨A, g, S, xs, U, k, b, c, s, rfl, _⟩ := h
    rfl
  obtain ⟨A, g, S, xs, U, k, b, c, s, rfl, R, hc, hs, q⟩ := h
  have nd := sc_Steps_leaver.nd
  refine ⟨_, (pss_one (ps_ret (pe_methN M_Room_leaver_for hr.m T.cl_Room (pe_fldK (K := K) rfl (pe_ix (ix_listK (K := K) rfl) (pe_fldK (K := K) rfl (pv 0) rfl) (pv 1) (fun _ _ => rfl)) rfl) (pc (pv 2) pa_nil)))), ?_⟩
  obtain ⟨dx, h1⟩ := R.ob
  obtain ⟨a, c', s', e1, e2, e3, B⟩ := R.at_ (k := k) (by rw [← R.lS]; exact (List.getElem?_eq_some_iff.mp hs).1)
  rw [hc] at e2; cases e2
  rw [hs] at e3; cases e3
  obtain ⟨ds, h3⟩ := B.ob
  obtain ⟨dr, h4⟩ := B.room.ob
  have cb := R.cf c (List.mem_of_getElem? hc)
  have fl := R.full k c s hc hs (b % c.sh)
  refine ⟨_, rfl, A.p, _, dx, _, _, rfl, h1, T.cl_Stairs, T.n_Stairs_stores, tf_stores .., _, rfl, A.ss, _, _, _, rfl, rfl, SqL.of R.ss, StairsAt.ix e1, a.sp, _, ds, _, _, rfl, h3, T.cl_Store, T.n_Store_room, sf_room .., a.rp, dr, _, rfl, h4, fl_no .., _, rfl, a.rp, b, c.sh, c.pl, c.ru, a.ls, a.ads, a.du, s.1, s.2, _, rfl, B.room, R.tb, cb.1, by omega, fun gone H' gp sm => ?_⟩
  have e := goneF_eq gp
  have q' := q H' sm (by rw [e]; exact gp)
  rw [e] at q'
  exact q'
def spTell (K : PySem.W.Frag) : Sp := fun vs H Q _ => ∃ (A : TA) (g : Pln) (S : List RS) (xs : List V) (U : List Int) (k : Nat), vs = [.ref A.p, .int (k : Int)] ∧ StairsAt K H A g S xs U ∧ xs.length ≤ 500 ∧ ∀ t H', H t = none → H' t = some (.tup [.str "found", .int (k : Int)]) → StairsAt K H' A g S (xs ++ [.ref t]) U → SF A H H' → Q .non H'
theorem ok_Steps_tell_found {f : Addr} {fd : FuncData} (F : Fun K "tell_found" "Steps.tell_found" s_Steps_tell_found f fd) (T : Txt K mg) : FnOk P w K mg base CX0 1 f fd P_Steps_tell_found (spTell K) := by
  refine F.ok sc_Steps_tell_found (fun vs H Q E h => ?_) (fun cdv A outer st H vs Q E hr h => ?_)
  · obtain ⟨A, g, S, xs, U, k, rfl, _⟩ := h
    rfl
  obtain ⟨A, g, S, xs, U, k, rfl, R, hl, q⟩ := h
  have nd := sc_Steps_tell_found.nd
  refine ⟨_, (pss_one (ps_expr (pe_bmC (K := K) rfl (pe_bm PySem.F.plainAttrs_list PySem.F.slot_list_append PySem.F.type_list_append mt_append (pe_fldK (K := K) rfl (pv 0) rfl) (pc (pe_tup (pc pe_str (pc (pv 1) pa_nil))) pa_nil))))), ?_⟩
  obtain ⟨dx, h1⟩ := R.ob
  refine ⟨_, rfl, A.p, _, dx, _, _, rfl, h1, T.cl_Stairs, T.n_Stairs_events, tf_events .., .inl ⟨rfl, _, SqL.of R.ev⟩, _, rfl, (by show 2 ≤ sizeLine; decide), fun t ht => ?_⟩
  have s1 := same_upd ht (.tup [.str "found", .int (k : Int)])
  have R1 := R.same s1
  have et : upd H t (.tup [.str "found", .int (k : Int)]) t = some (.tup [.str "found", .int (k : Int)]) := upd_same
  generalize upd H t (.tup [.str "found", .int (k : Int)]) = H1 at *
  obtain ⟨R2, f2⟩ := R1.event (.ref t)
  exact ⟨A.ev, _, _, rfl, rfl, R1.ev, small1000 (by omega), q t _ ht (by rw [upd_ne (fun z => by rw [z, R1.ev] at et; cases et)]; exact et) R2 ((SF.of s1).trans f2)⟩
def spUseIn (K : PySem.W.Frag) : Sp := fun vs H Q _ => ∃ (A : TA) (g : Pln) (S : List RS) (xs : List V) (U : List Int) (k : Nat) (b : Int) (c : Cf) (s : RS), vs = [.ref A.p, .int (k : Int), .int b] ∧ StairsAt K H A g S xs U ∧ g.cfs[k]? = some c ∧ S[k]? = some s ∧ b ∈ s.1 ∧ ∀ H', StairsAt K H' A g (S.set k (useR c s b)) xs U → SF A H H' → Q .non H'
theorem ok_Steps_use_in {f : Addr} {fd : FuncData} (F : Fun K "use_in" "Steps.use_in" s_Steps_use_in f fd) (T : Txt K mg) (M_Room_use : MDef P w K mg base (clsOf K "Room") "use" 3 P_Room_use (spUse K)) : FnOk P w K mg base CX0 4 f fd P_Steps_use_in (spUseIn K) := by
  refine F.ok sc_Steps_use_in (fun vs H Q E h => ?_) (fun cdv A outer st H vs Q E hr h => ?_)
  · obtain ⟨A, g, S, xs, U, k, b, c, s, rfl, _⟩ := h
    rfl
  obtain ⟨A, g, S, xs, U, k, b, c, s, rfl, R, hc, hs, hb, q⟩ := h
  have nd := sc_Steps_use_in.nd
  refine ⟨_, (pss_one (ps_expr (pe_methN M_Room_use hr.m T.cl_Room (pe_fldK (K := K) rfl (pe_ix (ix_listK (K := K) rfl) (pe_fldK (K := K) rfl (pv 0) rfl) (pv 1) (fun _ _ => rfl)) rfl) (pc (pv 2) pa_nil)))), ?_⟩
  obtain ⟨dx, h1⟩ := R.ob
  obtain ⟨a, c', s', e1, e2, e3, B⟩ := R.at_ (k := k) (by rw [← R.lS]; exact (List.getElem?_eq_some_iff.mp hs).1)
  rw [hc] at e2; cases e2
  rw [hs] at e3; cases e3
  obtain ⟨ds, h3⟩ := B.ob
  obtain ⟨dr, h4⟩ := B.room.ob
  have ln := R.len hs
  refine ⟨_, rfl, A.p, _, dx, _, _, rfl, h1, T.cl_Stairs, T.n_Stairs_stores, tf_stores .., _, rfl, A.ss, _, _, _, rfl, rfl, SqL.of R.ss, StairsAt.ix e1, a.sp, _, ds, _, _, rfl, h3, T.cl_Store, T.n_Store_room, sf_room .., a.rp, dr, _, rfl, h4, fl_no .., _, rfl, a.rp, b, c.sh, c.pl, c.ru, a.ls, a.ads, a.du, s.1, s.2, _, rfl, B.room, by omega, hb, by omega, fun H' R1 s1 => ?_⟩
  have B' := B.deed (mut_ads (List.mem_of_getElem? e1)) R1 s1 (fun x => use_mem (c := c) (s := s) hb B.room.nd)
  obtain ⟨R2, f2⟩ := R.deed e1 hc B' (SRs.room s1) (fun x hx => R.uni s (List.mem_of_getElem? hs) x ((use_mem (c := c) hb B.room.nd).mp hx)) (full_perm (R.full k c s hc hs) (use_perm (c := c) hb))
  exact q H' R2 f2
def spComeIn (K : PySem.W.Frag) : Sp := fun vs H Q _ => ∃ (A : TA) (g : Pln) (S : List RS) (xs : List V) (U : List Int) (k : Nat) (b : Int) (lw : Addr) (c : Cf) (s : RS), vs = [.ref A.p, .int (k : Int), .int b, .ref lw] ∧ StairsAt K H A g S xs U ∧ g.cfs[k]? = some c ∧ S[k]? = some s ∧ b ∉ s.1 ∧ b ∈ U ∧ ((shelfS c.sh (b % c.sh) s.1).length : Int) < c.pl ∧ H lw = some (.lst (zerosV g.size)) ∧ ¬ MutL A lw ∧ xs.length ≤ 500 ∧
  ∀ H' v, StairsAt K H' A g (S.set k (inR s b)) (xs ++ [v]) U → SF A H H' → Q .non H'
theorem ok_Steps_come_in {f : Addr} {fd : FuncData} (F : Fun K "come_in" "Steps.come_in" s_Steps_come_in f fd) (T : Txt K mg) (M_Store_take_in : MDef P w K mg base (clsOf K "Store") "take_in" 5 P_Store_take_in (spTakeIn K)) : FnOk P w K mg base CX0 6 f fd P_Steps_come_in (spComeIn K) := by
  refine F.ok sc_Steps_come_in (fun vs H Q E h => ?_) (fun cdv A outer st H vs Q E hr h => ?_)
  · obtain ⟨A, g, S, xs, U, k, b, lw, c, s, rfl, _⟩ := h
    rfl
  obtain ⟨A, g, S, xs, U, k, b, lw, c, s, rfl, R, hc, hs, hb, hbU, hsh, hlw, hml, hl, q⟩ := h
  have nd := sc_Steps_come_in.nd
  refine ⟨_, (pss_cons (ps_expr (pe_methN M_Store_take_in hr.m T.cl_Store (pe_ix (ix_listK (K := K) rfl) (pe_fldK (K := K) rfl (pv 0) rfl) (pv 1) (fun _ _ => rfl)) (pc (pv 2) (pc (pv 3) pa_nil))))
      (pss_one (ps_expr (pe_bmC (K := K) rfl (pe_bm PySem.F.plainAttrs_list PySem.F.slot_list_append PySem.F.type_list_append mt_append (pe_fldK (K := K) rfl (pv 0) rfl) (pc (pe_tup (pc pe_str (pc (pv 1) (pc (pv 2) pa_nil)))) pa_nil)))))), ?_⟩
  obtain ⟨dx, h1⟩ := R.ob
  obtain ⟨a, c', s', e1, e2, e3, B⟩ := R.at_ (k := k) (by rw [← R.lS]; exact (List.getElem?_eq_some_iff.mp hs).1)
  rw [hc] at e2; cases e2
  rw [hs] at e3; cases e3
  obtain ⟨ds, h3⟩ := B.ob
  have ln := R.len hs
  have cb := R.cf c (List.mem_of_getElem? hc)
  refine ⟨_, rfl, A.p, _, dx, _, _, rfl, h1, T.cl_Stairs, T.n_Stairs_stores, tf_stores .., _, rfl, A.ss, _, _, _, rfl, rfl, SqL.of R.ss, StairsAt.ix e1, a.sp, ds, _, rfl, h3, sf_no .., _, rfl, _, rfl, a, c, _, _, s.1, s.2, b, lw, rfl, B, R.tb, mut_ads (List.mem_of_getElem? e1), R.mex, hlw, hml, hb, ln, cb.1, cb.2, hsh, fun H1 B' s1 => ?_⟩
  obtain ⟨R2, f2⟩ := R.deed e1 hc B' s1 (fun x hx => (List.mem_append.mp hx).elim (R.uni s (List.mem_of_getElem? hs) x) fun m => by rw [List.mem_singleton.mp m]; exact hbU) (full_in (R.full k c s hc hs) hsh)
  obtain ⟨dx2, g2⟩ := R2.ob
  refine ⟨_, rfl, A.p, _, dx2, _, _, rfl, g2, T.cl_Stairs, T.n_Stairs_events, tf_events .., .inl ⟨rfl, _, SqL.of R2.ev⟩, _, rfl, _, rfl, (by show 3 ≤ sizeLine; decide), fun t ht => ?_⟩
  have s3 := same_upd ht (.tup [.str "in", .int (k : Int), .int b])
  have R3 := R2.same s3
  obtain ⟨R4, f4⟩ := R3.event (.ref t)
  exact ⟨A.ev, _, _, rfl, rfl, R3.ev, small1000 (by omega), q _ _ R4 ((f2.trans (SF.of s3)).trans f4)⟩
def spGoOut (K : PySem.W.Frag) : Sp := fun vs H Q _ => ∃ (A : TA) (g : Pln) (S : List RS) (xs : List V) (U : List Int) (k : Nat) (b : Int) (s : RS), vs = [.ref A.p, .int (k : Int), .int b] ∧ StairsAt K H A g S xs U ∧ S[k]? = some s ∧ b ∈ s.1 ∧ xs.length ≤ 500 ∧
  ∀ H' t l v, H' t = some (.tup [.ref l, .bl false]) → H' l = some (.lst (zerosV g.size)) → ¬ MutL A l → StairsAt K H' A g (S.set k (outR s b)) (xs ++ [v]) U → SF A H H' → Q (.ref t) H'
theorem ok_Steps_go_out {f : Addr} {fd : FuncData} (F : Fun K "go_out" "Steps.go_out" s_Steps_go_out f fd) (T : Txt K mg) (M_Store_give_out : MDef P w K mg base (clsOf K "Store") "give_out" 4 P_Store_give_out (spGiveOut K)) : FnOk P w K mg base CX0 5 f fd P_Steps_go_out (spGoOut K) := by
  refine F.ok sc_Steps_go_out (fun vs H Q E h => ?_) (fun cdv A outer st H vs Q E hr h => ?_)
  · obtain ⟨A, g, S, xs, U, k, b, s, rfl, _⟩ := h
    rfl
  obtain ⟨A, g, S, xs, U, k, b, s, rfl, R, hs, hb, hl, q⟩ := h
  have nd := sc_Steps_go_out.nd
  refine ⟨_, (pss_cons (ps_expr (pe_bmC (K := K) rfl (pe_bm PySem.F.plainAttrs_list PySem.F.slot_list_append PySem.F.type_list_append mt_append (pe_fldK (K := K) rfl (pv 0) rfl) (pc (pe_tup (pc pe_str (pc (pv 1) (pc (pv 2) pa_nil)))) pa_nil))))
      (pss_one (ps_ret (pe_methN M_Store_give_out hr.m T.cl_Store (pe_ix (ix_listK (K := K) rfl) (pe_fldK (K := K) rfl (pv 0) rfl) (pv 1) (fun _ _ => rfl)) (pc (pv 2) pa_nil))))), ?_⟩
  obtain ⟨dx, h1⟩ := R.ob
  refine ⟨_, rfl, A.p, _, dx, _, _, rfl, h1, T.cl_Stairs, T.n_Stairs_events, tf_events .., .inl ⟨rfl, _, SqL.of R.ev⟩, _, rfl, _, rfl, (by show 3 ≤ sizeLine; decide), fun t ht => ?_⟩
  have s3 := same_upd ht (.tup [.str "out", .int (k : Int), .int b])
  have R3 := R.same s3
  obtain ⟨R4, f4⟩ := R3.event (.ref t)
  refine ⟨A.ev, _, _, rfl, rfl, R3.ev, small1000 (by omega), ?_⟩
  generalize upd (upd H t (.tup [.str "out", .int (k : Int), .int b])) A.ev (.lst (xs ++ [.ref t])) = H4 at *
  obtain ⟨dx4, g4⟩ := R4.ob
  obtain ⟨a, c, s', e1, e2, e3, B⟩ := R4.at_ (k := k) (by rw [← R.lS]; exact (List.getElem?_eq_some_iff.mp hs).1)
  rw [hs] at e3; cases e3
  obtain ⟨ds, h3⟩ := B.ob
  refine ⟨_, rfl, A.p, _, dx4, _, _, rfl, g4, T.cl_Stairs, T.n_Stairs_stores, tf_stores .., _, rfl, A.ss, _, _, _, rfl, rfl, SqL.of R4.ss, StairsAt.ix e1, a.sp, ds, _, rfl, h3, sf_no .., _, rfl, a, c, _, _, s.1, s.2, b, rfl, B, mut_ads (List.mem_of_getElem? e1), hb, fun t2 l H5 et el nl B' s5 => ?_⟩
  obtain ⟨R5, f5⟩ := R4.deed e1 e2 B' s5 (fun x hx => R.uni s (List.mem_of_getElem? hs) x (List.mem_of_mem_erase hx)) (full_less (R.full k c s e2 hs) List.erase_sublist)
  exact q H5 t2 l _ et el nl R5 (((SF.of s3).trans f4).trans f5)
def spWordIn (K : PySem.W.Frag) : Sp := fun vs H Q _ => ∃ (A : TA) (g : Pln) (S : List RS) (xs : List V) (U : List Int) (k : Nat) (sp b : Int) (s : RS), vs = [.ref A.p, .int (k : Int), .int sp] ∧ StairsAt K H A g S xs U ∧ S[k]? = some s ∧ b ∈ s.1 ∧ sp / g.size = b ∧ ∀ H', Same H H' → Q (.int 0) H'
theorem ok_Steps_word_in {f : Addr} {fd : FuncData} (F : Fun K "word_in" "Steps.word_in" s_Steps_word_in f fd) (T : Txt K mg) (M_Store_words_of : MDef P w K mg base (clsOf K "Store") "words_of" 3 P_Store_words_of (spWordsOf K)) (D_board_of : Def P w K mg base "board_of" 1 P_board_of spBoard) : FnOk P w K mg base CX0 4 f fd P_Steps_word_in (spWordIn K) := by
  refine F.ok sc_Steps_word_in (fun vs H Q E h => ?_) (fun cdv A outer st H vs Q E hr h => ?_)
  · obtain ⟨A, g, S, xs, U, k, sp, b, s, rfl, _⟩ := h
    rfl
  obtain ⟨A, g, S, xs, U, k, sp, b, s, rfl, R, hs, hb, e, q⟩ := h
  have nd := sc_Steps_word_in.nd
  refine ⟨_, (pss_one (ps_ret (pe_ix (ix_listK (K := K) rfl) (pe_methN M_Store_words_of hr.m T.cl_Store (pe_ix (ix_listK (K := K) rfl) (pe_fldK (K := K) rfl (pv 0) rfl) (pv 1) (fun _ _ => rfl)) (pc (pe_defN D_board_of hr.m rfl (pc (pe_fldK (K := K) rfl (pv 0) rfl) (pc (pv 2) pa_nil))) pa_nil)) (pe_op op_mod (pv 2) (pe_fldK (K := K) rfl (pv 0) rfl)) (fun _ _ => rfl)))), ?_⟩
  obtain ⟨dx, h1⟩ := R.ob
  obtain ⟨a, c, s', e1, e2, e3, B⟩ := R.at_ (k := k) (by rw [← R.lS]; exact (List.getElem?_eq_some_iff.mp hs).1)
  rw [hs] at e3; cases e3
  obtain ⟨ds, h3⟩ := B.ob
  have z0 := R.z0
  have z1 := R.z1
  refine ⟨_, rfl, A.p, _, dx, _, _, rfl, h1, T.cl_Stairs, T.n_Stairs_stores, tf_stores .., _, rfl, A.ss, _, _, _, rfl, rfl, SqL.of R.ss, StairsAt.ix e1, a.sp, ds, _, rfl, h3, sf_no .., _, rfl, A.p, _, dx, _, _, rfl, h1, T.cl_Stairs, T.n_Stairs_size, tf_size .., _, rfl, g.size, sp, rfl, by omega, by omega, a, c, _, _, s.1, s.2, _, rfl, B, by rw [e]; exact hb, fun l hl => ?_⟩
  have s1 := same_upd hl (.lst (zerosV g.size))
  have m0 : 0 ≤ sp % g.size := Int.emod_nonneg _ (by omega)
  have m1 : sp % g.size < g.size := Int.emod_lt_of_pos _ (by omega)
  have at0 : atI (zerosV g.size) (sp % g.size) = some (.int 0) := by
    have e : ((sp % g.size).toNat : Int) = sp % g.size := by omega
    rw [← e]
    refine atI_nat ?_
    unfold zerosV
    rw [List.getElem?_replicate, if_pos (by omega)]
  exact ⟨_, rfl, _, rfl, A.p, _, dx, _, _, rfl, s1 _ _ h1, T.cl_Stairs, T.n_Stairs_size, tf_size .., _, _, rfl, rfl, (by show 0 < g.size; omega), l, _, _, _, rfl, rfl, SqL.of upd_same, at0, q _ s1⟩
end
structure PlanAt (K : PySem.W.Frag) (H : Hp) (tp : Addr) (ts : List Addr) (cfs : List Cf) : Prop where
  top : H tp = some (.tup (ts.map V.ref))
  len : ts.length = cfs.length
  at_ : ∀ (i : Nat) (t : Addr) (c : Cf), ts[i]? = some t → cfs[i]? = some c → ∃ wr : Str, H t = some (.tup [.int c.sh, .int c.pl, .str c.ru, .str wr]) ∧ c.late = decide (wr = "late")
  cf : ∀ c ∈ cfs, 1 ≤ c.sh ∧ c.sh ≤ 64 ∧ 1 ≤ c.pl ∧ c.pl ≤ 16
theorem PlanAt.same {K : PySem.W.Frag} {H H' : Hp} {tp : Addr} {ts : List Addr} {cfs : List Cf} (p : PlanAt K H tp ts cfs) (s : Same H H') : PlanAt K H' tp ts cfs :=
  ⟨s _ _ p.top, p.len, fun i t c h1 h2 => by obtain ⟨wr, e1, e2⟩ := p.at_ i t c h1 h2; exact ⟨wr, s _ _ e1, e2⟩, p.cf⟩
def tf0 (size : Int) (ss bm : Addr) (last : Nat) (ev : Addr) : List (Str × V) := putF "events" (.ref ev) (putF "last" (.int last) (putF "bottom" (.ref bm) (putF "stores" (.ref ss) (putF "size" (.int size) []))))
structure Mks (K : PySem.W.Frag) (G : Hp) (as : List SA) (cfs : List Cf) : Prop where
  at_ : ∀ (i : Nat) (a : SA) (c : Cf), as[i]? = some a → cfs[i]? = some c → ∀ zs M, StoreAt K G a c zs M [] (fun _ => 0)
  sep : ∀ (i j : Nat) (a b : SA), as[i]? = some a → as[j]? = some b → i ≠ j → Sep a b
theorem mks_some {K : PySem.W.Frag} {G : Hp} {a : SA} {c : Cf} (S : ∀ zs M, StoreAt K G a c zs M [] (fun _ => 0)) : G a.du ≠ none ∧ G a.dh ≠ none ∧ G a.df ≠ none ∧ G a.ls ≠ none ∧ ∀ x ∈ a.ads, G x ≠ none := by
  have T := S [] fun _ => True
  obtain ⟨kv, e1, _⟩ := T.room.dc
  obtain ⟨kv', e2, _⟩ := T.held
  refine ⟨(fun z => by rw [e1] at z; cases z), (fun z => by rw [e2] at z; cases z), (fun z => by rw [T.fresh] at z; cases z), (fun z => by rw [T.room.st.top] at z; cases z), fun x hx z => ?_⟩
  obtain ⟨ys, e⟩ := T.room.st.one hx
  rw [e] at z; cases z
section
variable {P : Program} {w : World} {K : PySem.W.Frag} {mg : Str → Option Value} {base : Heap}
def spSteps (K : PySem.W.Frag) : Sp := fun vs H Q _ => ∃ (p dx tp : Addr) (size : Int) (ts : List Addr) (cfs : List Cf), vs = [.ref p, .int size, .ref tp] ∧ H p = some (.ins (clsOf K "Stairs") dx []) ∧ PlanAt K H tp ts cfs ∧ 1 ≤ size ∧ size ≤ 1000 ∧ cfs.length ≤ 4 ∧ Tb K H ∧
  ∀ (A : TA) (H' : Hp), A.p = p → A.as.length = cfs.length → H' p = some (.ins (clsOf K "Stairs") dx (tf0 size A.ss A.bm A.as.length A.ev)) → (∀ kind U, U.length ≤ 800 → StairsAt K (upd H' p (.ins (clsOf K "Stairs") dx (tflds size A.ss A.bm A.as.length A.ev kind))) A ⟨size, kind, cfs⟩ (List.replicate cfs.length ([], fun _ => 0)) [] U) →
    (∀ x, Foot A x → x ≠ p → H x = none) → (∀ b o, H b = some o → b ≠ p → H' b = some o) → Q .non H'
theorem ok_Steps_init {f : Addr} {fd : FuncData} (F : Fun K "__init__" "Steps.__init__" s_Steps_init f fd) (T : Txt K mg) (K_Store : KDef P w K mg base (clsOf K "Store") "Store" 3 P_Store_init (spStore K)) (K_Memory : KDef P w K mg base (clsOf K "Memory") "Memory" 1 P_Memory_init (spMem K)) : FnOk P w K mg base CX0 5 f fd P_Steps_init (spSteps K) := by
  refine F.ok sc_Steps_init (fun vs H Q E h => ?_) (fun cdv A outer st H vs Q E hr h => ?_)
  · obtain ⟨p, dx, tp, size, ts, cfs, rfl, _⟩ := h
    rfl
  obtain ⟨p, dx, tp, size, ts, cfs, rfl, hp, pa, z0, z1, l4, tb, k⟩ := h
  have nd := sc_Steps_init.nd
  refine ⟨_, (pss_cons (ps_fld (pv 0) (pv 1) rfl)
      (pss_cons (ps_fld (pv 0) (pe_comp0 (compOk_of (osc := (defScope s_Steps_init)) (oN := N_Steps_init) (N := ["room_plan"]) (own := 1) (js := []) (by decide +kernel) rfl rfl) rfl (pi_tupK (K := K) rfl (pv 2)) (fun _ _ _ _ _ _ => (pgn 0 (show List.Nodup (["room_plan"] : List Str) by decide +kernel))) (fun _ _ _ _ _ _ => (pe_makeN K_Store hr.m rfl (pc (pv 0) pa_nil)))) rfl)
      (pss_cons (ps_fld (pv 0) (pe_makeN K_Memory hr.m rfl (pc (pv 1) pa_nil)) rfl)
      (pss_cons (ps_fld (pv 0) (pe_callBN (call_len_seqK (K := K) rfl) rfl T.z_len PySem.boot_len (pc (pe_fldK (K := K) rfl (pv 0) rfl) pa_nil)) rfl)
      (pss_one (ps_fld (pv 0) (pe_lst pa_nil) rfl)))))), ?_⟩
  refine ⟨_, rfl, _, rfl, p, _, dx, _, rfl, hp, T.cl_Stairs, T.n_Stairs_size, (by show 0 < 1000; decide), ?_⟩
  have e1 : upd H p (.ins (clsOf K "Stairs") dx (putF "size" (.int size) [])) p = some (.ins (clsOf K "Stairs") dx (putF "size" (.int size) [])) := upd_same
  have nt : ∀ {x o}, H x = some o → (∀ C d fs, o ≠ .ins C d fs) → x ≠ p := fun {x o} e n z => by rw [z, hp] at e; exact n _ _ _ (Option.some.inj e).symm
  have pa1 : PlanAt K (upd H p (.ins (clsOf K "Stairs") dx (putF "size" (.int size) []))) tp ts cfs := ⟨by rw [upd_ne (nt pa.top (fun _ _ _ z => by cases z))]; exact pa.top, pa.len, fun i t c h1 h2 => by obtain ⟨wr, q1, q2⟩ := pa.at_ i t c h1 h2; exact ⟨wr, by rw [upd_ne (nt q1 (fun _ _ _ z => by cases z))]; exact q1, q2⟩, pa.cf⟩
  have tb1 : Tb K (upd H p (.ins (clsOf K "Stairs") dx (putF "size" (.int size) []))) := tb_keep tb hp (fun _ _ z => by cases z)
  have k1 : ∀ x o, H x = some o → x ≠ p → upd H p (.ins (clsOf K "Stairs") dx (putF "size" (.int size) [])) x = some o := fun x o e n => by rw [upd_ne n]; exact e
  have f1 : ∀ x, upd H p (.ins (clsOf K "Stairs") dx (putF "size" (.int size) [])) x = none → H x = none := fun x e => by
    by_cases z : x = p
    · rw [z, upd_same] at e; cases e
    · rw [upd_ne z] at e; exact e
  generalize upd H p (.ins (clsOf K "Stairs") dx (putF "size" (.int size) [])) = H1 at *
  refine ⟨_, rfl, tp, rfl, ⟨_, SqT.of pa1.top⟩, fun ss hss => ?_⟩
  refine comp_tup (K := K) (a := tp) (xs := ts.map V.ref) (l := ss) (fun j ys σ G => ∃ (v0 : Option V) (as : List SA), σ = [v0] ∧ ys = as.map (fun a => V.ref a.sp) ∧ as.length = j ∧ G ss = some (.lst ys) ∧ Same H1 G ∧ Mks K G as cfs ∧ ∀ a ∈ as, H1 a.du = none ∧ H1 a.dh = none ∧ (∀ x ∈ a.ads, H1 x = none) ∧ ss ∉ a.ads)
    ⟨none, [], rfl, rfl, rfl, upd_same, same_upd hss _, ⟨fun i a c h => by simp at h, fun i j a b h => by simp at h⟩, by simp⟩ (fun j ys σ G _ ⟨_, _, _, _, _, _, s, _⟩ => SqT.of (s _ _ pa1.top)) ?_ ?_
  · rintro j x ys σ G hj hxj hys ⟨v0, as, rfl, rfl, hlen, g1, s1, mk, fr⟩
    rw [List.length_map] at hj
    rw [List.getElem?_map] at hxj
    obtain ⟨t, et, rfl⟩ : ∃ t, ts[j]? = some t ∧ V.ref t = x := by
      cases e : ts[j]? with
      | none => rw [e] at hxj; cases hxj
      | some t => rw [e] at hxj; exact ⟨t, rfl, Option.some.inj hxj⟩
    have hjc : j < cfs.length := by rw [← pa.len]; exact hj
    have ec : cfs[j]? = some cfs[j] := List.getElem?_eq_getElem hjc
    obtain ⟨wr, q1, q2⟩ := pa1.at_ j t _ et ec
    have cb := pa.cf _ (List.getElem_mem hjc)
    have q1' := s1 _ _ q1
    refine ⟨_, rfl, fun x dx' hx hdx ne => ⟨x, dx', t, cfs[j].sh, cfs[j].pl, cfs[j].ru, wr, rfl, upd_same, SqT.of ?_, cb.1, cb.2.1, fun a G1 ea S1 f_rp f_ls f_du f_dh f_df f_ads k2 => ⟨rfl, ?_⟩⟩⟩
    · rw [upd_ne (ne_of_none q1' hx), upd_ne (ne_of_none q1' hdx)]; exact q1'
    have frG : ∀ y, upd (upd G dx' (.own x)) x (.ins (clsOf K "Store") dx' []) y = none → G y = none := fun y e => by
      cases q : G y with
      | none => rfl
      | some o => rw [upd_ne (ne_of_none q hx), upd_ne (ne_of_none q hdx), q] at e; cases e
    have sG : Same G G1 := fun y o e => k2 y o (by rw [upd_ne (ne_of_none e hx), upd_ne (ne_of_none e hdx)]; exact e) (ne_of_none e hx)
    have n_du := frG _ f_du
    have n_dh := frG _ f_dh
    have n_df := frG _ f_df
    have n_ls := frG _ f_ls
    have n_ads : ∀ y ∈ a.ads, G y = none := fun y hy => frG _ (f_ads y hy)
    have g1' := sG _ _ g1
    have nss : ss ∉ a.ads := fun m => by rw [n_ads ss m] at g1; cases g1
    have ecf : (⟨cfs[j].sh, cfs[j].pl, cfs[j].ru, decide (wr = "late")⟩ : Cf) = cfs[j] := by rw [← q2]
    rw [ecf] at S1
    have lst_put : ∀ {b : SA} {c : Cf}, (∀ zs M, StoreAt K G1 b c zs M [] (fun _ => 0)) → ss ∉ b.ads → ss ≠ b.ls → ∀ u zs M, StoreAt K (upd G1 ss u) b c zs M [] (fun _ => 0) := fun {b c} S h1 h2 u zs M => ((S zs fun _ => True).put u g1' h2 h1 trivial).mono fun _ _ _ _ => trivial
    have nls : ss ≠ a.ls := fun z => by rw [← z, g1] at n_ls; cases n_ls
    have ea' : V.ref x = V.ref a.sp := by rw [ea]
    rw [ea']
    have olds : ∀ {i : Nat} {b : SA}, as[i]? = some b → G b.du ≠ none ∧ G b.dh ≠ none ∧ G b.df ≠ none ∧ G b.ls ≠ none ∧ ∀ y ∈ b.ads, G y ≠ none := fun {i b} hb => by
      have hi : i < cfs.length := by have := (List.getElem?_eq_some_iff.mp hb).1; omega
      exact mks_some (mk.at_ i b _ hb (List.getElem?_eq_getElem hi))
    refine CNx.of (Nat.le_of_lt (small1000 (by rw [List.length_map, pa.len]; omega))) (by rw [List.length_map]; exact hj) hys g1' ⟨_, as ++ [a], rfl, by rw [List.map_append]; rfl, by rw [List.length_append, hlen]; rfl, upd_same, fun y o e => ?_, ⟨fun i b c hb hc zs M => ?_, fun i i' b b' hb hb' nn => ?_⟩, fun b hb => ?_⟩
    · rw [upd_ne (ne_of_none e hss)]; exact sG _ _ (s1 _ _ e)
    · by_cases hi : i < as.length
      · rw [List.getElem?_append_left hi] at hb
        have o := fr b (List.mem_of_getElem? hb)
        refine lst_put (fun zs M => (mk.at_ i b c hb hc zs M).same sG) o.2.2.2 (fun z => ?_) _ zs M
        have T0 := mk.at_ i b c hb hc [] fun _ => True
        have q := T0.room.st.top
        rw [← z, g1] at q
        have q' := (Option.some.inj q)
        injection q' with q'
        have T1 := T0.room.st.len
        have s0 := T0.room.s0
        have lnz : 0 < b.ads.length := by rw [T1]; omega
        match hb' : b.ads, lnz with
        | y :: _, _ =>
          rw [hb'] at q'
          cases as with
          | nil => simp at hi
          | cons a0 r =>
            simp only [List.map_cons, List.cons.injEq] at q'
            have e0 : a0.sp = y := by have := q'.1; injection this
            have T2 := mk.at_ 0 a0 _ rfl (List.getElem?_eq_getElem (by have := hjc; omega)) [] fun _ => True
            obtain ⟨d0, o0⟩ := T2.ob
            obtain ⟨ys, oy⟩ := T0.room.st.one (ad := y) (by rw [hb']; exact List.mem_cons_self)
            rw [e0, oy] at o0; cases o0
      · have hi2 : i = j := by
          have := (List.getElem?_eq_some_iff.mp hb).1
          rw [List.length_append, List.length_singleton] at this
          omega
        subst hi2
        rw [List.getElem?_append_right (by omega), show i - as.length = 0 by omega] at hb
        cases hb
        rw [ec] at hc; cases hc
        exact lst_put S1 nss nls _ zs M
    · have two : ∀ {i : Nat} {b : SA}, as[i]? = some b → Sep b a ∧ Sep a b := fun {i b} hb => by
        obtain ⟨o1, o2, o3, o4, o5⟩ := olds hb
        exact ⟨⟨fun y h1 h2 => o5 y h1 (n_ads y h2), fun m => o5 _ m n_ls, (fun z => o1 (z ▸ n_du)), (fun z => o2 (z ▸ n_du)), (fun z => o1 (z ▸ n_dh)), (fun z => o2 (z ▸ n_dh)), (fun z => o1 (z ▸ n_df)), (fun z => o2 (z ▸ n_df))⟩,
          ⟨fun y h1 h2 => o5 y h2 (n_ads y h1), fun m => o4 (n_ads _ m), (fun z => o1 (z ▸ n_du)), (fun z => o1 (z ▸ n_dh)), (fun z => o2 (z ▸ n_du)), (fun z => o2 (z ▸ n_dh)), (fun z => o3 (z ▸ n_du)), (fun z => o3 (z ▸ n_dh))⟩⟩
      have lastA : ∀ {i : Nat} {b : SA}, (as ++ [a])[i]? = some b → as[i]? = some b ∨ (i = as.length ∧ b = a) := fun {i b} hb => by
        by_cases hi : i < as.length
        · rw [List.getElem?_append_left hi] at hb; exact .inl hb
        · have := (List.getElem?_eq_some_iff.mp hb).1
          rw [List.length_append, List.length_singleton] at this
          have hi2 : i = as.length := by omega
          subst hi2
          rw [List.getElem?_append_right (Nat.le_refl _), Nat.sub_self] at hb
          cases hb
          exact .inr ⟨rfl, rfl⟩
      rcases lastA hb with h1 | ⟨h1, rfl⟩
      · rcases lastA hb' with h2 | ⟨h2, rfl⟩
        · exact mk.sep i i' b b' h1 h2 nn
        · exact (two h1).1
      · rcases lastA hb' with h2 | ⟨h2, rfl⟩
        · exact (two h2).2
        · exact absurd (h1.trans h2.symm) nn
    · rcases List.mem_append.mp hb with hb | hb
      · exact fr b hb
      · rw [List.mem_singleton.mp hb]
        exact ⟨s1.free n_du, s1.free n_dh, fun y hy => s1.free (n_ads y hy), nss⟩
  rintro ys σ G hys ⟨v0, as, rfl, rfl, hlen, g1, s1, mk, fr⟩
  rw [List.length_map, pa.len] at hlen
  have hp2 := s1 _ _ e1
  refine ⟨_, rfl, p, _, dx, _, rfl, hp2, T.cl_Stairs, T.n_Stairs_stores, (by show 1 < 1000; decide), ?_⟩
  have npS : ∀ {G : Hp} {d : Addr} {fs : List (Str × V)}, G p = some (.ins (clsOf K "Stairs") d fs) → ∀ {x xs}, G x = some (.lst xs) → x ≠ p := fun {G d fs} h {x xs} e z => by rw [z, h] at e; cases e
  have fld : ∀ {G : Hp} {fs : List (Str × V)} (u : HO), Mks K G as cfs → G p = some (.ins (clsOf K "Stairs") dx fs) → fs.lookup ("room" : Str) = none → fs.lookup ("rule" : Str) = none → Mks K (upd G p u) as cfs := fun {G fs} u mk hG h1 h2 => by
    refine ⟨fun i b c hb hc zs M => ?_, mk.sep⟩
    have B := mk.at_ i b c hb hc zs M
    obtain ⟨ds, g1⟩ := B.ob
    obtain ⟨dr, g2⟩ := B.room.ob
    obtain ⟨kr, g3, g4⟩ := B.room.dc
    obtain ⟨kv, g5, g6, g7, g8⟩ := B.held
    have ne : ∀ {y o}, G y = some o → (∀ C d fs, o ≠ .ins C d fs) → y ≠ p := fun {y o} e n z => by rw [z, hG] at e; exact n _ _ _ (Option.some.inj e).symm
    have n1 : b.sp ≠ p := fun z => by
      rw [z, hG] at g1
      have q := Option.some.inj g1
      injection q with _ _ q
      rw [q, sf_room] at h1; cases h1
    have n2 : b.rp ≠ p := fun z => by
      rw [z, hG] at g2
      have q := Option.some.inj g2
      injection q with _ _ q
      rw [q, fl_rule] at h2; cases h2
    exact ⟨⟨ds, by rw [upd_ne n1]; exact g1⟩, ⟨⟨dr, by rw [upd_ne n2]; exact g2⟩, ⟨by rw [upd_ne (ne B.room.st.top (fun _ _ _ z => by cases z))]; exact B.room.st.top, B.room.st.len, B.room.st.nd, B.room.st.off, fun i ad e => by have q := B.room.st.at_ i ad e; rw [upd_ne (ne q (fun _ _ _ z => by cases z))]; exact q⟩, ⟨kr, by rw [upd_ne (ne g3 (fun _ _ _ z => by cases z))]; exact g3, g4⟩, B.room.nd, B.room.s0, B.room.s1⟩, ⟨kv, by rw [upd_ne (ne g5 (fun _ _ _ z => by cases z))]; exact g5, g6, g7, fun y hy => by simp at hy⟩, by rw [upd_ne (ne B.fresh (fun _ _ _ z => by cases z))]; exact B.fresh, B.n1, B.n2, B.n3⟩
  have mkS : ∀ {G G' : Hp}, Mks K G as cfs → Same G G' → Mks K G' as cfs := fun {G G'} m s => ⟨fun i b c hb hc zs M => (m.at_ i b c hb hc zs M).same s, m.sep⟩
  have lk1 : (putF "size" (.int size) [] : List (Str × V)).lookup ("room" : Str) = none := by rw [lookup_putF, if_neg (by decide +kernel)]; rfl
  have lk2 : (putF "size" (.int size) [] : List (Str × V)).lookup ("rule" : Str) = none := by rw [lookup_putF, if_neg (by decide +kernel)]; rfl
  have mk2 := fld (.ins (clsOf K "Stairs") dx (putF "stores" (.ref ss) (putF "size" (.int size) []))) mk hp2 lk1 lk2
  have e2 : upd G p (.ins (clsOf K "Stairs") dx (putF "stores" (.ref ss) (putF "size" (.int size) []))) p = some (.ins (clsOf K "Stairs") dx (putF "stores" (.ref ss) (putF "size" (.int size) []))) := upd_same
  have g2 : upd G p (.ins (clsOf K "Stairs") dx (putF "stores" (.ref ss) (putF "size" (.int size) []))) ss = some (.lst (as.map fun a => V.ref a.sp)) := by rw [upd_ne (npS hp2 g1)]; exact g1
  have k2 : ∀ x o, H x = some o → x ≠ p → upd G p (.ins (clsOf K "Stairs") dx (putF "stores" (.ref ss) (putF "size" (.int size) []))) x = some o := fun x o e n => by rw [upd_ne n]; exact s1 _ _ (k1 x o e n)
  have tb2 : Tb K (upd G p (.ins (clsOf K "Stairs") dx (putF "stores" (.ref ss) (putF "size" (.int size) [])))) := tb_keep (tb1.same s1) hp2 (fun _ _ z => by cases z)
  generalize upd G p (.ins (clsOf K "Stairs") dx (putF "stores" (.ref ss) (putF "size" (.int size) []))) = H2 at *
  refine ⟨_, rfl, fun bm bx hbm hbx nbx => ⟨bm, bx, size, rfl, upd_same, fun dk H3 M3 fdk k3 => ⟨rfl, ?_⟩⟩⟩
  have s3 : Same H2 H3 := fun y o e => k3 y o (by rw [upd_ne (ne_of_none e hbm), upd_ne (ne_of_none e hbx)]; exact e) (ne_of_none e hbm)
  have ndk : H2 dk = none := by
    cases q : H2 dk with
    | none => rfl
    | some o => rw [upd_ne (ne_of_none q hbm), upd_ne (ne_of_none q hbx), q] at fdk; cases fdk
  have e3 := s3 _ _ e2
  have npb : p ≠ bm := ne_of_none e2 hbm
  refine ⟨_, rfl, p, _, dx, _, rfl, e3, T.cl_Stairs, T.n_Stairs_bottom, (by show 2 < 1000; decide), ?_⟩
  have lk3 : (putF "stores" (.ref ss) (putF "size" (.int size) []) : List (Str × V)).lookup ("room" : Str) = none := by rw [lookup_putF, if_neg (by decide +kernel)]; exact lk1
  have lk4 : (putF "stores" (.ref ss) (putF "size" (.int size) []) : List (Str × V)).lookup ("rule" : Str) = none := by rw [lookup_putF, if_neg (by decide +kernel)]; exact lk2
  have mk4 := fld (.ins (clsOf K "Stairs") dx (putF "bottom" (.ref bm) (putF "stores" (.ref ss) (putF "size" (.int size) [])))) (mkS mk2 s3) e3 lk3 lk4
  have e4 : upd H3 p (.ins (clsOf K "Stairs") dx (putF "bottom" (.ref bm) (putF "stores" (.ref ss) (putF "size" (.int size) [])))) p = some (.ins (clsOf K "Stairs") dx (putF "bottom" (.ref bm) (putF "stores" (.ref ss) (putF "size" (.int size) [])))) := upd_same
  have g4 : upd H3 p (.ins (clsOf K "Stairs") dx (putF "bottom" (.ref bm) (putF "stores" (.ref ss) (putF "size" (.int size) [])))) ss = some (.lst (as.map fun a => V.ref a.sp)) := by rw [upd_ne (npS e2 g2)]; exact s3 _ _ g2
  have k4 : ∀ x o, H x = some o → x ≠ p → upd H3 p (.ins (clsOf K "Stairs") dx (putF "bottom" (.ref bm) (putF "stores" (.ref ss) (putF "size" (.int size) [])))) x = some o := fun x o e n => by rw [upd_ne n]; exact s3 _ _ (k2 x o e n)
  have tb4 : Tb K (upd H3 p (.ins (clsOf K "Stairs") dx (putF "bottom" (.ref bm) (putF "stores" (.ref ss) (putF "size" (.int size) []))))) := tb_keep (tb2.same s3) e3 (fun _ _ z => by cases z)
  have M4 : MemAt K (upd H3 p (.ins (clsOf K "Stairs") dx (putF "bottom" (.ref bm) (putF "stores" (.ref ss) (putF "size" (.int size) []))))) bm dk size := by
    obtain ⟨dm, q⟩ := M3.ob
    exact ⟨⟨dm, by rw [upd_ne (Ne.symm npb)]; exact q⟩, by rw [upd_ne (fun z : dk = p => by rw [z, e2] at ndk; cases ndk)]; exact M3.kept⟩
  have dkn : ∀ a ∈ as, dk ≠ a.du ∧ dk ≠ a.dh := fun a ha => by
    obtain ⟨i, hi⟩ := List.getElem?_of_mem ha
    have := (List.getElem?_eq_some_iff.mp hi).1
    obtain ⟨o1, o2, _⟩ := mks_some (mk2.at_ i a _ hi (List.getElem?_eq_getElem (by omega)))
    exact ⟨(fun z => o1 (z ▸ ndk)), (fun z => o2 (z ▸ ndk))⟩
  generalize upd H3 p (.ins (clsOf K "Stairs") dx (putF "bottom" (.ref bm) (putF "stores" (.ref ss) (putF "size" (.int size) [])))) = H4 at *
  have lks : (putF "bottom" (.ref bm) (putF "stores" (.ref ss) (putF "size" (.int size) [])) : List (Str × V)).lookup ("stores" : Str) = some (.ref ss) := by rw [lookup_putF, if_neg (by decide +kernel), lookup_putF, if_pos rfl]
  refine ⟨_, rfl, p, _, dx, _, _, rfl, e4, T.cl_Stairs, T.n_Stairs_stores, lks, ss, _, rfl, .inl (SqL.of g4), _, rfl, p, _, dx, _, rfl, e4, T.cl_Stairs, T.n_Stairs_last, (by show 3 < 1000; decide), ?_⟩
  rw [List.length_map]
  have lk5 : (putF "bottom" (.ref bm) (putF "stores" (.ref ss) (putF "size" (.int size) [])) : List (Str × V)).lookup ("room" : Str) = none := by rw [lookup_putF, if_neg (by decide +kernel)]; exact lk3
  have lk6 : (putF "bottom" (.ref bm) (putF "stores" (.ref ss) (putF "size" (.int size) [])) : List (Str × V)).lookup ("rule" : Str) = none := by rw [lookup_putF, if_neg (by decide +kernel)]; exact lk4
  have mk5 := fld (.ins (clsOf K "Stairs") dx (putF "last" (.int (as.length : Int)) (putF "bottom" (.ref bm) (putF "stores" (.ref ss) (putF "size" (.int size) []))))) mk4 e4 lk5 lk6
  have e5 : upd H4 p (.ins (clsOf K "Stairs") dx (putF "last" (.int (as.length : Int)) (putF "bottom" (.ref bm) (putF "stores" (.ref ss) (putF "size" (.int size) []))))) p = some (.ins (clsOf K "Stairs") dx (putF "last" (.int (as.length : Int)) (putF "bottom" (.ref bm) (putF "stores" (.ref ss) (putF "size" (.int size) []))))) := upd_same
  have g5 : upd H4 p (.ins (clsOf K "Stairs") dx (putF "last" (.int (as.length : Int)) (putF "bottom" (.ref bm) (putF "stores" (.ref ss) (putF "size" (.int size) []))))) ss = some (.lst (as.map fun a => V.ref a.sp)) := by rw [upd_ne (npS e4 g4)]; exact g4
  have k5 : ∀ x o, H x = some o → x ≠ p → upd H4 p (.ins (clsOf K "Stairs") dx (putF "last" (.int (as.length : Int)) (putF "bottom" (.ref bm) (putF "stores" (.ref ss) (putF "size" (.int size) []))))) x = some o := fun x o e n => by rw [upd_ne n]; exact k4 x o e n
  have tb5 : Tb K (upd H4 p (.ins (clsOf K "Stairs") dx (putF "last" (.int (as.length : Int)) (putF "bottom" (.ref bm) (putF "stores" (.ref ss) (putF "size" (.int size) [])))))) := tb_keep tb4 e4 (fun _ _ z => by cases z)
  have M5 : MemAt K (upd H4 p (.ins (clsOf K "Stairs") dx (putF "last" (.int (as.length : Int)) (putF "bottom" (.ref bm) (putF "stores" (.ref ss) (putF "size" (.int size) [])))))) bm dk size := by
    obtain ⟨dm, q⟩ := M4.ob
    exact ⟨⟨dm, by rw [upd_ne (Ne.symm npb)]; exact q⟩, by have q := M4.kept; rw [upd_ne (fun z : dk = p => by rw [z, e4] at q; cases q)]; exact q⟩
  generalize upd H4 p (.ins (clsOf K "Stairs") dx (putF "last" (.int (as.length : Int)) (putF "bottom" (.ref bm) (putF "stores" (.ref ss) (putF "size" (.int size) []))))) = H5 at *
  refine ⟨(by show 0 ≤ sizeLine; decide), fun ev hev => ⟨_, rfl, p, _, dx, _, rfl, same_upd hev _ _ _ e5, T.cl_Stairs, T.n_Stairs_events, (by show 4 < 1000; decide), ?_⟩⟩
  have s6 := same_upd hev (.lst [])
  have nev : ev ≠ p := fun z => by rw [z, e5] at hev; cases hev
  have nss : ss ≠ ev := ne_of_none g5 hev
  have lk7 : (putF "last" (.int (as.length : Int)) (putF "bottom" (.ref bm) (putF "stores" (.ref ss) (putF "size" (.int size) []))) : List (Str × V)).lookup ("room" : Str) = none := by rw [lookup_putF, if_neg (by decide +kernel)]; exact lk5
  have lk8 : (putF "last" (.int (as.length : Int)) (putF "bottom" (.ref bm) (putF "stores" (.ref ss) (putF "size" (.int size) []))) : List (Str × V)).lookup ("rule" : Str) = none := by rw [lookup_putF, if_neg (by decide +kernel)]; exact lk6
  have e6 := s6 _ _ e5
  have g6 := s6 _ _ g5
  have olds : ∀ a ∈ as, ev ∉ a.ads ∧ ev ≠ a.ls := fun a ha => by
    obtain ⟨i, hi⟩ := List.getElem?_of_mem ha
    have := (List.getElem?_eq_some_iff.mp hi).1
    obtain ⟨o1, o2, o3, o4, o5⟩ := mks_some (mk5.at_ i a _ hi (List.getElem?_eq_getElem (by omega)))
    exact ⟨fun m => o5 _ m hev, (fun z => o4 (z ▸ hev))⟩
  refine k ⟨p, ss, bm, dk, ev, as, []⟩ _ rfl hlen upd_same (fun kind U hU => ?_) (fun x hx n => ?_) fun x o e n => ?_
  · rw [upd_upd]
    have mk6 := fld (.ins (clsOf K "Stairs") dx (tflds size ss bm as.length ev kind)) (mkS mk5 s6) e6 lk7 lk8
    have M6 := M5.same s6
    obtain ⟨dm, q⟩ := M6.ob
    refine ⟨⟨dx, upd_same⟩, by show upd _ p _ ss = _; rw [upd_ne (npS e6 g6)]; exact g6, ⟨⟨dm, by show upd _ p _ bm = _; rw [upd_ne (Ne.symm npb)]; exact q⟩, by show upd _ p _ dk = _; have q := M6.kept; rw [upd_ne (fun z : dk = p => by rw [z, e6] at q; cases q)]; exact q⟩, by show upd _ p _ ev = _; rw [upd_ne nev]; exact upd_same, hlen.symm, by rw [List.length_replicate]; exact hlen.symm, fun j b c s hb hc hs => ?_, mk6.sep, fun b hb => ?_, nss, (fun x hx => by simp at hx), (fun x hx => by simp at hx), fun s hs b hb => ?_, fun j c s hc hs t => ?_, fun c hc => (pa.cf c hc).2.2, z0, z1, hU, by show as.length ≤ 4; omega, tb_keep (tb5.same s6) e6 (fun _ _ z => by cases z)⟩
    · have es := List.mem_of_getElem? hs
      rw [(List.mem_replicate.mp es).2]
      exact mk6.at_ j b c hb hc _ _
    · obtain ⟨o1, o2⟩ := olds b hb
      obtain ⟨o3, o4⟩ := dkn b hb
      exact ⟨(fr b hb).2.2.2, o1, o2, o3, o4⟩
    · rw [(List.mem_replicate.mp hs).2] at hb
      exact absurd hb (by simp)
    · rw [(List.mem_replicate.mp (List.mem_of_getElem? hs)).2]
      show ((0 : Nat) : Int) ≤ c.pl
      have := (pa.cf c (List.mem_of_getElem? hc)).2.2.1
      omega
  · rcases hx with z | z | ⟨a, ha, z⟩
    · exact absurd z n
    · have z : x = ev := z
      subst z
      cases q : H x with
      | none => rfl
      | some o => rw [k5 x o q n] at hev; cases hev
    · obtain ⟨o1, o2, o3, _⟩ := fr a ha
      rcases z with rfl | rfl | z
      · exact f1 _ o1
      · exact f1 _ o2
      · exact f1 _ (o3 x z)
  · rw [upd_ne n]
    exact s6 _ _ (k5 x o e n)
end
def nearF (S : List RS) (b : Int) : Nat := S.findIdx fun s => decide (b ∈ s.1)
def dS (S : List RS) (k : Nat) (g : Int) (i : Nat) : List RS := S.mapIdx fun j s => if j = k ∨ (k - i ≤ j ∧ j < k) then outR s g else s
def driveS (kind : Str) (S : List RS) (k : Nat) (g : Int) : List RS := if kind = "within" then dS S k g k else dS S k g 0
theorem dS_get (S : List RS) (k : Nat) (g : Int) (i j : Nat) : (dS S k g i)[j]? = (S[j]?).map fun s => if j = k ∨ (k - i ≤ j ∧ j < k) then outR s g else s := by
  unfold dS
  rw [List.getElem?_mapIdx]
theorem dS_zero {S : List RS} {k : Nat} {g : Int} {s : RS} (hs : S[k]? = some s) : dS S k g 0 = S.set k (outR s g) := by
  apply List.ext_getElem?
  intro j
  rw [dS_get]
  by_cases e : j = k
  · subst e
    rw [hs, List.getElem?_set_self (List.getElem?_eq_some_iff.mp hs).1]
    show some (if _ then _ else _) = _
    rw [if_pos (.inl rfl)]
  · rw [List.getElem?_set_ne (fun z => e z.symm)]
    cases q : S[j]? with
    | none => rfl
    | some r => show some (if _ then _ else _) = _; rw [if_neg (by omega)]
theorem out_id {s : RS} {g : Int} (h : g ∉ s.1) : outR s g = s := by
  unfold outR
  rw [List.erase_of_not_mem h]
theorem dS_stay {S : List RS} {k : Nat} {g : Int} {i : Nat} {s : RS} (hi : i < k) (hs : S[k - 1 - i]? = some s) (hg : g ∉ s.1) : dS S k g (i + 1) = dS S k g i := by
  apply List.ext_getElem?
  intro j
  rw [dS_get, dS_get]
  cases q : S[j]? with
  | none => rfl
  | some r =>
    show some (if _ then _ else _) = some (if _ then _ else _)
    by_cases e : j = k - 1 - i
    · subst e
      rw [hs] at q; cases q
      rw [if_pos (by omega), if_neg (by omega), out_id hg]
    · by_cases c : j = k ∨ (k - i ≤ j ∧ j < k)
      · rw [if_pos c, if_pos (by omega)]
      · rw [if_neg c, if_neg (by omega)]
theorem dS_go {S : List RS} {k : Nat} {g : Int} {i : Nat} {s : RS} (hi : i < k) (hs : S[k - 1 - i]? = some s) : dS S k g (i + 1) = (dS S k g i).set (k - 1 - i) (outR s g) := by
  apply List.ext_getElem?
  intro j
  by_cases e : j = k - 1 - i
  · subst e
    have hl : k - 1 - i < (dS S k g i).length := by unfold dS; rw [List.length_mapIdx]; exact (List.getElem?_eq_some_iff.mp hs).1
    rw [List.getElem?_set_self hl, dS_get, hs]
    show some (if _ then _ else _) = _
    rw [if_pos (by omega)]
  · rw [List.getElem?_set_ne (fun z => e z.symm), dS_get, dS_get]
    cases q : S[j]? with
    | none => rfl
    | some r =>
      show some (if _ then _ else _) = some (if _ then _ else _)
      by_cases c : j = k ∨ (k - i ≤ j ∧ j < k)
      · rw [if_pos c, if_pos (by omega)]
      · rw [if_neg c, if_neg (by omega)]
theorem dS_near {S : List RS} {k : Nat} {g : Int} {i : Nat} (hi : i < k) : (dS S k g i)[k - 1 - i]? = S[k - 1 - i]? := by
  rw [dS_get]
  cases q : S[k - 1 - i]? with
  | none => rfl
  | some r => show some (if _ then _ else _) = _; rw [if_neg (by omega)]
theorem driveS_get (kind : Str) (S : List RS) (k : Nat) (g : Int) (j : Nat) : ∃ p : Bool, (driveS kind S k g)[j]? = (S[j]?).map (fun s => if p then outR s g else s) ∧ (j = k → p = true) := by
  unfold driveS
  split
  · refine ⟨decide (j = k ∨ (k - k ≤ j ∧ j < k)), ?_, fun e => by simp [e]⟩
    rw [dS_get]
    congr 1
    funext s
    by_cases c : j = k ∨ (k - k ≤ j ∧ j < k)
    · rw [if_pos c, if_pos (decide_eq_true c)]
    · rw [if_neg c, if_neg (by simpa using c)]
  · refine ⟨decide (j = k ∨ (k - 0 ≤ j ∧ j < k)), ?_, fun e => by simp [e]⟩
    rw [dS_get]
    congr 1
    funext s
    by_cases c : j = k ∨ (k - 0 ≤ j ∧ j < k)
    · rw [if_pos c, if_pos (decide_eq_true c)]
    · rw [if_neg c, if_neg (by simpa using c)]
theorem driveS_len (kind : Str) (S : List RS) (k : Nat) (g : Int) : (driveS kind S k g).length = S.length := by
  unfold driveS dS
  split <;> rw [List.length_mapIdx]
theorem driveS_self {kind : Str} {S : List RS} {k : Nat} {g : Int} {s : RS} (h : S[k]? = some s) : (driveS kind S k g)[k]? = some (outR s g) := by
  obtain ⟨p, e, hp⟩ := driveS_get kind S k g k
  rw [e, h, hp rfl]
  rfl
theorem driveS_sub {kind : Str} {S : List RS} {k : Nat} {g : Int} {j : Nat} {r : RS} (h : (driveS kind S k g)[j]? = some r) : ∃ s, S[j]? = some s ∧ ∀ x ∈ r.1, x ∈ s.1 := by
  obtain ⟨p, e, _⟩ := driveS_get kind S k g j
  rw [e] at h
  cases q : S[j]? with
  | none => rw [q] at h; cases h
  | some s =>
    rw [q] at h
    refine ⟨s, rfl, fun x hx => ?_⟩
    have h : (if p then outR s g else s) = r := Option.some.inj h
    rw [← h] at hx
    cases p with
    | true => exact List.mem_of_mem_erase hx
    | false => exact hx
noncomputable def downS (kind : Str) (cfs : List Cf) (S : List RS) (near : Nat) (b : Int) : List RS :=
  match cfs[near]?, S[near]? with
  | some c, some s => (match goneF c s b with
    | none => S.set near (inR s b)
    | some g => (driveS kind S near g).set near (inR (outR s g) b))
  | _, _ => S
noncomputable def downAll (kind : Str) (cfs : List Cf) (b : Int) : Nat → List RS → List RS
  | 0, S => S
  | k + 1, S => downAll kind cfs b k (downS kind cfs S k b)
noncomputable def pushS (cfs : List Cf) : Nat → List RS → Nat → Int → List RS
  | 0, S, _, _ => S
  | n + 1, S, k, b => match cfs[k]?, S[k]? with
    | some c, some s => (match goneF c s b with
      | none => S.set k (inR s b)
      | some g => pushS cfs n (S.set k (inR (outR s g) b)) (k + 1) g)
    | _, _ => S
theorem near_lt {S : List RS} {b : Int} (h : nearF S b < S.length) : ∃ s, S[nearF S b]? = some s ∧ b ∈ s.1 := by
  refine ⟨_, List.getElem?_eq_getElem h, ?_⟩
  have := List.findIdx_getElem (w := h)
  rw [decide_eq_true_eq] at this
  exact this
theorem near_not {S : List RS} {b : Int} {j : Nat} (h : j < nearF S b) {s : RS} (hs : S[j]? = some s) : b ∉ s.1 := by
  obtain ⟨hj, e⟩ := List.getElem?_eq_some_iff.mp hs
  have := List.not_of_lt_findIdx h
  rw [e] at this
  simpa using this
theorem near_le (S : List RS) (b : Int) : nearF S b ≤ S.length := List.findIdx_le_length
section
variable {P : Program} {w : World} {K : PySem.W.Frag} {mg : Str → Option Value} {base : Heap}
def spNever : Sp := fun _ _ _ _ => False
theorem ok_Steps_put {f : Addr} {fd : FuncData} (F : Fun K "put" "Steps.put" s_Steps_put f fd) (T : Txt K mg) : FnOk P w K mg base CX0 1 f fd P_Steps_put spNever := ⟨fun _ _ _ _ h => h.elim, fun _ _ _ _ _ _ _ _ _ _ _ _ _ h => h.elim⟩
theorem ok_Stairs_go_on {f : Addr} {fd : FuncData} (F : Fun K "go_on" "Stairs.go_on" s_Stairs_go_on f fd) (T : Txt K mg) : FnOk P w K mg base CX0 1 f fd P_Stairs_go_on spNever := ⟨fun _ _ _ _ h => h.elim, fun _ _ _ _ _ _ _ _ _ _ _ _ _ h => h.elim⟩
theorem ok_Stairs_change {f : Addr} {fd : FuncData} (F : Fun K "change" "Stairs.change" s_Stairs_change f fd) (T : Txt K mg) : FnOk P w K mg base CX0 1 f fd P_Stairs_change spNever := ⟨fun _ _ _ _ h => h.elim, fun _ _ _ _ _ _ _ _ _ _ _ _ _ h => h.elim⟩
def spNearest (K : PySem.W.Frag) : Sp := fun vs H Q _ => ∃ (A : TA) (g : Pln) (S : List RS) (xs : List V) (U : List Int) (b : Int), vs = [.ref A.p, .int b] ∧ StairsAt K H A g S xs U ∧ ∀ H', Same H H' → Q (.int (nearF S b : Nat)) H'
theorem ok_Stairs_nearest {f : Addr} {fd : FuncData} (F : Fun K "nearest" "Stairs.nearest" s_Stairs_nearest f fd) (T : Txt K mg) (M_Store_has : MDef P w K mg base (clsOf K "Store") "has" 2 P_Store_has (spSHas K)) : FnOk P w K mg base CX0 3 f fd P_Stairs_nearest (spNearest K) := by
  refine F.ok sc_Stairs_nearest (fun vs H Q E h => ?_) (fun cdv A outer st H vs Q E hr h => ?_)
  · obtain ⟨A, g, S, xs, U, b, rfl, _⟩ := h
    rfl
  obtain ⟨A, g, S, xs, U, b, rfl, R, q⟩ := h
  have nd := sc_Stairs_nearest.nd
  refine ⟨_, (pss_cons (ps_for PassesOwn.never rfl (pi_enum rfl T.z_enumerate (pc (pe_fldK (K := K) rfl (pv 0) rfl) pa_nil)) (pg_tupK (K := K) (n := 2) rfl rfl (pgs_cons (pgn 2 nd) (pgs_cons (pgn 3 nd) pgs_nil))) (pss_one (ps_if (pt_val (pe_methN M_Store_has hr.m T.cl_Store (pv 3) (pc (pv 1) pa_nil))) (pss_one (ps_ret (pv 2))) pss_nil)))
      (pss_one (ps_ret (pe_fldK (K := K) rfl (pv 0) rfl)))), ?_⟩
  obtain ⟨dx, h1⟩ := R.ob
  refine ⟨_, rfl, A.p, _, dx, _, _, rfl, h1, T.cl_Stairs, T.n_Stairs_stores, tf_stores .., A.ss, rfl, ⟨_, SqL.of R.ss⟩, for_enum (K := K) (a := A.ss) (xs := A.as.map fun a => V.ref a.sp) (fun i σ G => ∃ v2 v3 : Option V, σ = [some (.ref A.p), some (.int b), v2, v3] ∧ Same H G ∧ i ≤ nearF S b) ⟨_, _, rfl, Same.refl _, Nat.zero_le _⟩ (fun i σ G _ ⟨_, _, _, s, _⟩ => SqL.of (s _ _ R.ss)) ?_ ?_⟩
  · rintro i x t σ G hi ⟨v2, v3, rfl, s, hle⟩ ht
    rw [List.getElem?_map] at hi
    obtain ⟨a, ea, rfl⟩ : ∃ a, A.as[i]? = some a ∧ V.ref a.sp = x := by
      cases e : A.as[i]? with
      | none => rw [e] at hi; cases hi
      | some a => rw [e] at hi; exact ⟨a, rfl, Option.some.inj hi⟩
    obtain ⟨a', c, r, e1, e2, e3, B⟩ := R.at_ (List.getElem?_eq_some_iff.mp ea).1
    rw [ea] at e1; cases e1
    refine ⟨t, _, rfl, SqT.of upd_same, rfl, _, _, rfl, gN ⟨_, _, rfl, gN ⟨rfl, ?_⟩⟩⟩
    try dsimp only
    have s2 := s.trans (same_upd ht (.tup [.int (i : Int), .ref a.sp]))
    have B' := B.same s2
    obtain ⟨ds, h3⟩ := B'.ob
    refine ⟨_, rfl, a.sp, ds, _, rfl, h3, sf_no .., _, rfl, a, c, _, _, r.1, r.2, b, rfl, B', _, rfl, ?_⟩
    by_cases m : b ∈ r.1
    · refine ifT (decide_eq_true m) ⟨_, rfl, ?_⟩
      have e : nearF S b = i := by
        by_cases z : i < nearF S b
        · exact absurd m (near_not z e3)
        · omega
      have q' := q _ s2
      rw [e] at q'
      exact q'
    · refine ifF (decide_eq_false m) ⟨_, _, rfl, s2, ?_⟩
      by_cases z : i = nearF S b
      · exfalso
        obtain ⟨s', h1', h2'⟩ := near_lt (S := S) (b := b) (by rw [← z]; exact (List.getElem?_eq_some_iff.mp e3).1)
        rw [← z, e3] at h1'; cases h1'
        exact m h2'
      · omega
  · rintro σ G ⟨v2, v3, rfl, s, hle⟩
    rw [List.length_map] at hle
    have e : nearF S b = A.as.length := by have := near_le S b; rw [R.lS] at this; omega
    have q' := q _ s
    rw [e] at q'
    exact ⟨_, rfl, A.p, _, dx, _, _, rfl, s _ _ h1, T.cl_Stairs, T.n_Stairs_last, tf_last .., q'⟩
def spDrive (K : PySem.W.Frag) : Sp := fun vs H Q _ => ∃ (A : TA) (g : Pln) (S : List RS) (xs : List V) (U : List Int) (k : Nat) (b : Int) (s : RS), vs = [.ref A.p, .int (k : Int), .int b] ∧ StairsAt K H A g S xs U ∧ S[k]? = some s ∧ b ∈ s.1 ∧ xs.length ≤ 400 ∧
  ∀ H' ys, ys.length ≤ 5 → StairsAt K H' A g (driveS g.kind S k b) (xs ++ ys) U → SF A H H' → Q .non H'
theorem ok_Stairs_drive_out {f : Addr} {fd : FuncData} (F : Fun K "drive_out" "Stairs.drive_out" s_Stairs_drive_out f fd) (T : Txt K mg) (M_Steps_go_out : MDef P w K mg base (clsOf K "Stairs") "go_out" 5 P_Steps_go_out (spGoOut K)) (M_Store_has : MDef P w K mg base (clsOf K "Store") "has" 2 P_Store_has (spSHas K)) (M_Stairs_go_on : MDef P w K mg base (clsOf K "Stairs") "go_on" 1 P_Stairs_go_on spNever) : FnOk P w K mg base CX0 6 f fd P_Stairs_drive_out (spDrive K) := by
  refine F.ok sc_Stairs_drive_out (fun vs H Q E h => ?_) (fun cdv A outer st H vs Q E hr h => ?_)
  · obtain ⟨A, g, S, xs, U, k, b, s, rfl, _⟩ := h
    rfl
  obtain ⟨A, g, S, xs, U, k, b, s, rfl, R, hs, hb, hl, q⟩ := h
  have nd := sc_Stairs_drive_out.nd
  refine ⟨_, (pss_cons (ps_asg (pe_methN M_Steps_go_out hr.m T.cl_Stairs (pv 0) (pc (pv 1) (pc (pv 2) pa_nil))) (pg_tupK (K := K) (n := 2) rfl rfl (pgs_cons (pgn 3 nd) (pgs_cons (pgn 4 nd) pgs_nil))))
      (pss_cons (ps_if (pt_cmpR op_eq (pe_fldK (K := K) rfl (pv 0) rfl) pe_str (nomark _)) (pss_one (ps_for PassesOwn.never rfl (pi_range3 rfl T.z_range (pc (pe_op op_sub (pv 1) pe_int) (pc (pe_un un_neg pe_int) (pc (pe_un un_neg pe_int) pa_nil)))) (pgn 5 nd) (pss_one (ps_if (pt_val (pe_methN M_Store_has hr.m T.cl_Store (pe_ix (ix_listK (K := K) rfl) (pe_fldK (K := K) rfl (pv 0) rfl) (pv 5) (fun _ _ => rfl)) (pc (pv 2) pa_nil))) (pss_cons (ps_asg (pe_methN M_Steps_go_out hr.m T.cl_Stairs (pv 0) (pc (pv 5) (pc (pv 2) pa_nil))) (pg_tupK (K := K) (n := 2) rfl rfl (pgs_cons (pgn 3 nd) (pgs_cons (pgn 6 nd) pgs_nil))))
      (pss_one (pst 4 nd (pe_or (pv 4) (pe_one (pv 6)))))) pss_nil)))) pss_nil)
      (pss_one (ps_if (pt_val (pv 4)) (pss_one (ps_expr (pe_methN M_Stairs_go_on hr.m T.cl_Stairs (pv 0) (pc (pe_op op_add (pv 1) pe_int) (pc (pv 2) (pc (pv 3) pa_nil)))))) pss_nil)))), ?_⟩
  obtain ⟨dx, h1⟩ := R.ob
  have hk4 : k < 4 := by have := (List.getElem?_eq_some_iff.mp hs).1; have := R.l4; have := R.lS; omega
  refine hide fun u1 e1 => ?_
  refine ⟨_, rfl, A.p, dx, _, rfl, h1, tf_no .., _, rfl, _, rfl, A, g, S, xs, U, k, b, s, rfl, R, hs, hb, by omega, fun H1 t l v et el nl R1 f1 => ⟨t, _, rfl, SqT.of et, rfl, _, _, rfl, gN ⟨_, _, rfl, gN ⟨rfl, ?_⟩⟩⟩⟩
  subst e1
  try dsimp only
  rw [← dS_zero hs] at R1
  refine cpI (fun σ G => ∃ (v3 v5 v6 : Option V) (ys : List V), σ = [some (.ref A.p), some (.int (k : Int)), some (.int b), v3, some (.bl false), v5, v6] ∧ ys.length ≤ 5 ∧ StairsAt K G A g (driveS g.kind S k b) (xs ++ ys) U ∧ SF A H G) (fun D' _ k' => ?_) ?_
  · obtain ⟨dx1, g1⟩ := R1.ob
    refine ⟨_, rfl, A.p, _, dx1, _, _, rfl, g1, T.cl_Stairs, T.n_Stairs_kind, tf_kind .., rfl, _, rfl, ite_dec (fun c => ?_) (fun c => ?_)⟩
    · have c' : g.kind = "within" := by injection c
      refine ⟨_, rfl, _, _, rfl, rfl, _, rfl, _, rfl, _, _, rfl, ⟨by omega, by omega, by omega, by omega⟩, for_down (hi := (k : Int) - 1) (n := ((k : Int) - 1 - -1).toNat) (fun i σ G => ∃ (v3 v5 v6 : Option V) (ys : List V), σ = [some (.ref A.p), some (.int (k : Int)), some (.int b), v3, some (.bl false), v5, v6] ∧ i ≤ k ∧ ys.length ≤ i + 1 ∧ StairsAt K G A g (dS S k b i) (xs ++ ys) U ∧ SF A H G) ⟨_, _, _, [v], rfl, Nat.zero_le _, Nat.le_refl _, R1, f1⟩ ?_ ?_⟩
      · rintro i σ G hi ⟨v3, v5, v6, ys, rfl, hik, hy, R2, f2⟩
        have hi' : i < k := by omega
        have en : ((k : Int) - 1 - (i : Int)) = ((k - 1 - i : Nat) : Int) := by omega
        rw [en]
        refine gN ?_
        try dsimp only
        have hlt : k - 1 - i < A.as.length := by have := (List.getElem?_eq_some_iff.mp hs).1; have := R.lS; omega
        obtain ⟨a, c2, r, q1, q2, q3, B⟩ := R2.at_ hlt
        rw [dS_near hi'] at q3
        obtain ⟨ds, h3⟩ := B.ob
        obtain ⟨dx2, g2⟩ := R2.ob
        refine ⟨_, rfl, A.p, _, dx2, _, _, rfl, g2, T.cl_Stairs, T.n_Stairs_stores, tf_stores .., _, rfl, A.ss, _, _, _, rfl, rfl, SqL.of R2.ss, StairsAt.ix q1, a.sp, ds, _, rfl, h3, sf_no .., _, rfl, a, c2, _, _, r.1, r.2, b, rfl, B, _, rfl, ?_⟩
        by_cases m : b ∈ r.1
        · refine ifT (decide_eq_true m) ⟨_, rfl, A.p, dx2, _, rfl, g2, tf_no .., _, rfl, _, rfl, A, g, _, _, U, k - 1 - i, b, r, rfl, R2, by rw [dS_near hi']; exact q3, m, by rw [List.length_append]; omega, fun H3 t3 l3 v' et3 el3 nl3 R3 f3 => ⟨t3, _, rfl, SqT.of et3, rfl, _, _, rfl, gN ⟨_, _, rfl, gN ⟨rfl, ?_⟩⟩⟩⟩
          try dsimp only
          rw [← dS_go hi' q3] at R3
          refine ⟨_, rfl, _, rfl, ifF rfl ⟨_, rfl, gN ⟨_, _, _, ys ++ [v'], rfl, by omega, by rw [List.length_append]; show ys.length + 1 ≤ _; omega, by rw [← List.append_assoc]; exact R3, f2.trans f3⟩⟩⟩
        · refine ifF (decide_eq_false m) ⟨_, _, _, ys, rfl, by omega, by omega, by rw [dS_stay hi' q3 m]; exact R2, f2⟩
      · rintro σ G ⟨v3, v5, v6, ys, rfl, hik, hy, R2, f2⟩
        have en : ((k : Int) - 1 - -1).toNat = k := by omega
        rw [en] at R2 hy
        exact k' _ _ ⟨_, _, _, ys, rfl, by omega, by unfold driveS; rw [if_pos c']; exact R2, f2⟩
    · have c' : ¬ g.kind = "within" := fun z => c (by rw [z])
      exact k' _ _ ⟨_, _, _, [v], rfl, by show 1 ≤ 5; decide, by unfold driveS; rw [if_neg c']; exact R1, f1⟩
  rintro _ G ⟨v3, v5, v6, ys, rfl, hy, R2, f2⟩
  exact ⟨_, rfl, _, rfl, ifF rfl (q G ys hy R2 f2)⟩
end
def useAt (cfs : List Cf) (S : List RS) (k : Nat) (b : Int) : List RS := match cfs[k]?, S[k]? with
  | some c, some s => S.set k (useR c s b)
  | _, _ => S
theorem useAt_get {cfs : List Cf} {S : List RS} {k : Nat} {b : Int} {j : Nat} (h : j ≠ k) : (useAt cfs S k b)[j]? = S[j]? := by
  unfold useAt
  split
  · exact List.getElem?_set_ne (fun z => h z.symm)
  · rfl
theorem goneF_mem {c : Cf} {s : RS} {b g : Int} (h : goneF c s b = some g) : g ∈ s.1 ∧ g % c.sh = b % c.sh ∧ goneP c.ru s.2 c.pl (shelfS c.sh (b % c.sh) s.1) (some g) := by
  unfold goneF at h
  split at h
  · rename_i e
    have q := Classical.choose_spec e
    rw [h] at q
    by_cases l : ((shelfS c.sh (b % c.sh) s.1).length : Int) < c.pl
    · exact absurd (q.1 l) (by simp)
    · obtain ⟨g', r, e', p, _⟩ := q.2 l
      cases e'
      have m := mem_shelfS.mp (p.mem_iff.mp List.mem_cons_self)
      exact ⟨m.1, m.2, q⟩
  · cases h
theorem downS_none {kind : Str} {cfs : List Cf} {S : List RS} {k : Nat} {b : Int} {c : Cf} {s : RS} (hc : cfs[k]? = some c) (hs : S[k]? = some s) (hg : goneF c s b = none) : downS kind cfs S k b = S.set k (inR s b) := by
  unfold downS
  rw [hc, hs]
  dsimp only
  rw [hg]
theorem downS_some {kind : Str} {cfs : List Cf} {S : List RS} {k : Nat} {b g : Int} {c : Cf} {s : RS} (hc : cfs[k]? = some c) (hs : S[k]? = some s) (hg : goneF c s b = some g) : downS kind cfs S k b = (driveS kind S k g).set k (inR (outR s g) b) := by
  unfold downS
  rw [hc, hs]
  dsimp only
  rw [hg]
theorem gone_lt {c : Cf} {s : RS} {b : Int} (h : goneP c.ru s.2 c.pl (shelfS c.sh (b % c.sh) s.1) none) : ((shelfS c.sh (b % c.sh) s.1).length : Int) < c.pl := by
  by_cases l : ((shelfS c.sh (b % c.sh) s.1).length : Int) < c.pl
  · exact l
  · obtain ⟨_, _, z, _⟩ := h.2 l
    cases z
theorem gone_out {c : Cf} {s : RS} {b g : Int} (hf : ∀ t, ((shelfS c.sh t s.1).length : Int) ≤ c.pl) (h : g ∈ s.1) (e : g % c.sh = b % c.sh) : ((shelfS c.sh (b % c.sh) (outR s g).1).length : Int) < c.pl := by
  have m : g ∈ shelfS c.sh (b % c.sh) s.1 := mem_shelfS.mpr ⟨h, e⟩
  show ((shelfS c.sh (b % c.sh) (s.1.erase g)).length : Int) < c.pl
  rw [shelfS_erase, List.length_erase_of_mem m]
  have := List.length_pos_of_mem m
  have := hf (b % c.sh)
  omega
section
variable {P : Program} {w : World} {K : PySem.W.Frag} {mg : Str → Option Value} {base : Heap}
def spDown (K : PySem.W.Frag) : Sp := fun vs H Q _ => ∃ (A : TA) (g : Pln) (S : List RS) (xs : List V) (U : List Int) (k : Nat) (b : Int), vs = [.ref A.p, .int (k : Int), .int b] ∧ StairsAt K H A g S xs U ∧ k = nearF S b ∧ 0 ≤ b ∧ b ≤ 1000000 ∧ b ∈ U ∧ xs.length ≤ 100 ∧
  ∀ H' ys, ys.length ≤ 30 → StairsAt K H' A g (downAll g.kind g.cfs b k (useAt g.cfs S k b)) (xs ++ ys) U → (∀ s, (downAll g.kind g.cfs b k (useAt g.cfs S k b))[0]? = some s → b ∈ s.1) → SF A H H' → Q .non H'
theorem ok_Stairs_fetch_down {f : Addr} {fd : FuncData} (F : Fun K "fetch_down" "Stairs.fetch_down" s_Stairs_fetch_down f fd) (T : Txt K mg) (M_Steps_use_in : MDef P w K mg base (clsOf K "Stairs") "use_in" 4 P_Steps_use_in (spUseIn K)) (M_Steps_words : MDef P w K mg base (clsOf K "Stairs") "words" 4 P_Steps_words (spTWords K)) (M_Steps_leaver : MDef P w K mg base (clsOf K "Stairs") "leaver" 4 P_Steps_leaver (spLeav K)) (M_Stairs_drive_out : MDef P w K mg base (clsOf K "Stairs") "drive_out" 6 P_Stairs_drive_out (spDrive K)) (M_Steps_come_in : MDef P w K mg base (clsOf K "Stairs") "come_in" 6 P_Steps_come_in (spComeIn K)) : FnOk P w K mg base CX0 7 f fd P_Stairs_fetch_down (spDown K) := by
  refine F.ok sc_Stairs_fetch_down (fun vs H Q E h => ?_) (fun cdv A outer st H vs Q E hr h => ?_)
  · obtain ⟨A, g, S, xs, U, k, b, rfl, _⟩ := h
    rfl
  obtain ⟨A, g, S, xs, U, k, b, rfl, R, hk, b0, b1, hU, hl, q⟩ := h
  have nd := sc_Stairs_fetch_down.nd
  refine ⟨_, (pss_cons (ps_if (pt_cmpR op_lt (pv 1) (pe_fldK (K := K) rfl (pv 0) rfl) (nomark _)) (pss_one (ps_expr (pe_methN M_Steps_use_in hr.m T.cl_Stairs (pv 0) (pc (pv 1) (pc (pv 2) pa_nil))))) pss_nil)
      (pss_cons (pst 3 nd (pe_methN M_Steps_words hr.m T.cl_Stairs (pv 0) (pc (pv 1) (pc (pv 2) pa_nil))))
      (pss_one (ps_for PassesOwn.never rfl (pi_range3 rfl T.z_range (pc (pe_op op_sub (pv 1) pe_int) (pc (pe_un un_neg pe_int) (pc (pe_un un_neg pe_int) pa_nil)))) (pgn 4 nd) (pss_cons (pst 5 nd (pe_methN M_Steps_leaver hr.m T.cl_Stairs (pv 0) (pc (pv 4) (pc (pv 2) pa_nil))))
      (pss_cons (ps_if (pt_cmp (pc_notN (pv 5))) (pss_one (ps_expr (pe_methN M_Stairs_drive_out hr.m T.cl_Stairs (pv 0) (pc (pv 4) (pc (pv 5) pa_nil))))) pss_nil)
      (pss_one (ps_expr (pe_methN M_Steps_come_in hr.m T.cl_Stairs (pv 0) (pc (pv 4) (pc (pv 2) (pc (pv 3) pa_nil)))))))))))), ?_⟩
  have hkl : k ≤ A.as.length := by rw [hk, ← R.lS]; exact near_le S b
  have l4 := R.l4
  refine cpI (fun σ G => σ = [some (.ref A.p), some (.int (k : Int)), some (.int b), none, none, none] ∧ StairsAt K G A g (useAt g.cfs S k b) xs U ∧ SF A H G) (fun D' _ k' => ?_) ?_
  · obtain ⟨dx, h1⟩ := R.ob
    refine ⟨_, rfl, _, rfl, A.p, _, dx, _, _, rfl, h1, T.cl_Stairs, T.n_Stairs_last, tf_last .., _, _, rfl, rfl, _, rfl, ?_⟩
    by_cases c : k < A.as.length
    · obtain ⟨a, cc, s, e1, e2, e3, B⟩ := R.at_ c
      have hb : b ∈ s.1 := by
        obtain ⟨s', q1, q2⟩ := near_lt (S := S) (b := b) (by rw [← hk, R.lS]; exact c)
        rw [← hk, e3] at q1; cases q1
        exact q2
      refine ifT (decide_eq_true (by omega)) ⟨_, rfl, A.p, dx, _, rfl, h1, tf_no .., _, rfl, _, rfl, A, g, S, xs, U, k, b, cc, s, rfl, R, e2, e3, hb, fun H1 R1 f1 => k' _ _ ⟨rfl, ?_, f1⟩⟩
      unfold useAt
      rw [e2, e3]
      exact R1
    · refine ifF (decide_eq_false (by omega)) (k' _ _ ⟨rfl, ?_, SF.of (Same.refl _)⟩)
      have e : S[k]? = none := List.getElem?_eq_none (by rw [R.lS]; omega)
      unfold useAt
      rw [e]
      cases g.cfs[k]? <;> exact R
  rintro _ G ⟨rfl, R0, f0⟩
  have nb : ∀ j, j < k → ∀ s, (useAt g.cfs S k b)[j]? = some s → b ∉ s.1 := fun j hj s hs => by
    rw [useAt_get (by omega)] at hs
    exact near_not (by rw [← hk]; exact hj) hs
  have hb0 : ∀ s, (useAt g.cfs S k b)[k]? = some s → b ∈ s.1 := fun s hs => by
    have c : k < A.as.length := by rw [← R0.lS]; exact (List.getElem?_eq_some_iff.mp hs).1
    obtain ⟨a, cc, r, e1, e2, e3, B⟩ := R.at_ c
    have hb : b ∈ r.1 := by
      obtain ⟨s', q1, q2⟩ := near_lt (S := S) (b := b) (by rw [← hk, R.lS]; exact c)
      rw [← hk, e3] at q1; cases q1
      exact q2
    unfold useAt at hs
    rw [e2, e3] at hs
    dsimp only at hs
    rw [List.getElem?_set_self (by rw [R.lS]; exact c)] at hs
    cases hs
    exact (use_mem hb B.room.nd).mpr hb
  generalize useAt g.cfs S k b = S0 at *
  obtain ⟨dx, h1⟩ := R0.ob
  refine hide fun u1 e1 => ?_
  refine ⟨_, rfl, A.p, dx, _, rfl, h1, tf_no .., _, rfl, _, rfl, A, g, S0, xs, U, k, b, rfl, R0, hkl, hb0, b0, b1, fun lw H1 hlw s1 ew => gN ?_⟩
  subst e1
  try dsimp only
  have nm : ¬ MutL A lw := fun z => R0.mex lw z hlw
  have R1 := R0.same s1
  refine ⟨_, rfl, _, _, rfl, rfl, _, rfl, _, rfl, _, _, rfl, ⟨by omega, by omega, by omega, by omega⟩, for_down (hi := (k : Int) - 1) (n := ((k : Int) - 1 - -1).toNat) (fun i σ G' => ∃ (v4 v5 : Option V) (S' : List RS) (ys : List V), σ = [some (.ref A.p), some (.int (k : Int)), some (.int b), some (.ref lw), v4, v5] ∧ i ≤ k ∧ ys.length ≤ 6 * i ∧ StairsAt K G' A g S' (xs ++ ys) U ∧ SF A H G' ∧ downAll g.kind g.cfs b (k - i) S' = downAll g.kind g.cfs b k S0 ∧ (∀ j, j < k - i → ∀ s, S'[j]? = some s → b ∉ s.1) ∧ (∀ s, S'[k - i]? = some s → b ∈ s.1) ∧ G' lw = some (.lst (zerosV g.size)))
    ⟨_, _, S0, [], rfl, Nat.zero_le _, Nat.zero_le _, by rw [List.append_nil]; exact R1, f0.trans (SF.of s1), rfl, nb, hb0, ew⟩ ?_ ?_⟩
  · rintro i σ G' hi ⟨v4, v5, S', ys, rfl, hik, hy, R2, f2, ed, nb2, hb2, ew2⟩
    have hi' : i < k := by omega
    have en : ((k : Int) - 1 - (i : Int)) = ((k - 1 - i : Nat) : Int) := by omega
    rw [en]
    refine gN ?_
    try dsimp only
    have hlt : k - 1 - i < A.as.length := by omega
    obtain ⟨a, cc, s, q1, q2, q3, B⟩ := R2.at_ hlt
    have hbn : b ∉ s.1 := nb2 (k - 1 - i) (by omega) s q3
    obtain ⟨dx2, g2⟩ := R2.ob
    have edn : k - i = (k - 1 - i) + 1 := by omega
    rw [edn] at ed
    refine hide fun u1 e1 => ?_
    refine ⟨_, rfl, A.p, dx2, _, rfl, g2, tf_no .., _, rfl, _, rfl, A, g, S', xs ++ ys, U, k - 1 - i, b, cc, s, rfl, R2, q2, q3, fun H3 s3 gp => gN ?_⟩
    subst e1
    try dsimp only
    have R3 := R2.same s3
    have ew3 := s3 _ _ ew2
    obtain ⟨dx3, g3⟩ := R3.ob
    refine cpI (fun σ' G3 => ∃ (S1 : List RS) (zs : List V) (r : RS), σ' = [some (.ref A.p), some (.int (k : Int)), some (.int b), some (.ref lw), some (.int ((k - 1 - i : Nat) : Int)), some (optV (goneF cc s b))] ∧ zs.length ≤ 5 ∧ StairsAt K G3 A g S1 (xs ++ ys ++ zs) U ∧ SF A H3 G3 ∧ S1[k - 1 - i]? = some r ∧ b ∉ r.1 ∧ ((shelfS cc.sh (b % cc.sh) r.1).length : Int) < cc.pl ∧ S1.set (k - 1 - i) (inR r b) = downS g.kind g.cfs S' (k - 1 - i) b ∧ ∀ j, j < k - 1 - i → ∀ s, S1[j]? = some s → b ∉ s.1) (fun D' _ k' => ?_) ?_
    · cases eg : goneF cc s b with
      | none =>
        rw [eg] at gp k'
        refine ⟨_, rfl, _, rfl, ifF rfl (k' _ _ ⟨S', [], s, rfl, Nat.zero_le _, by rw [List.append_nil]; exact R3, SF.of (Same.refl _), q3, hbn, gone_lt gp, (downS_none q2 q3 eg).symm, fun j hj => nb2 j (by omega)⟩)⟩
      | some go =>
        rw [eg] at gp k'
        obtain ⟨m1, m2, m3⟩ := goneF_mem eg
        refine ⟨_, rfl, _, rfl, ifT rfl ⟨_, rfl, A.p, dx3, _, rfl, g3, tf_no .., _, rfl, _, rfl, A, g, S', xs ++ ys, U, k - 1 - i, go, s, rfl, R3, q3, m1, by rw [List.length_append]; omega, fun H4 zs hz R4 f4 => k' _ _ ⟨_, zs, outR s go, rfl, hz, R4, f4, driveS_self q3, fun m => hbn (List.mem_of_mem_erase m), gone_out (R2.full _ cc s q2 q3) m1 m2, (downS_some q2 q3 eg).symm, fun j hj r hr => ?_⟩⟩⟩
        obtain ⟨s', z1, z2⟩ := driveS_sub hr
        exact fun m => nb2 j (by omega) s' z1 (z2 b m)
    rintro _ G3 ⟨S1, zs, r, rfl, hz, R4, f4, q4, hbr, hsh, eS, nb3⟩
    have ew4 := f4 _ _ ew3 (R3.nfoot ew3 nm)
    obtain ⟨dx4, g4⟩ := R4.ob
    refine ⟨_, rfl, A.p, dx4, _, rfl, g4, tf_no .., _, rfl, _, rfl, _, rfl, A, g, S1, xs ++ ys ++ zs, U, k - 1 - i, b, lw, cc, r, rfl, R4, q2, q4, hbr, hU, hsh, ew4, nm, by rw [List.length_append, List.length_append]; omega, fun H5 v R5 f5 => ?_⟩
    have ew5 := f5 _ _ ew4 (R4.nfoot ew4 nm)
    refine ⟨_, _, S1.set (k - 1 - i) (inR r b), ys ++ zs ++ [v], rfl, by omega, by rw [List.length_append, List.length_append]; show ys.length + zs.length + 1 ≤ _; omega, by rw [← List.append_assoc, ← List.append_assoc]; exact R5, ((f2.trans (SF.of s3)).trans f4).trans f5, ?_, fun j hj s' hs' => ?_, fun s' hs' => ?_, ew5⟩
    · rw [eS, show k - (i + 1) = k - 1 - i by omega]
      exact ed
    · rw [List.getElem?_set_ne (by omega)] at hs'
      exact nb3 j (by omega) s' hs'
    · rw [show k - (i + 1) = k - 1 - i by omega, List.getElem?_set_self (List.getElem?_eq_some_iff.mp q4).1] at hs'
      cases hs'
      exact List.mem_append_right _ (List.mem_singleton.mpr rfl)
  · rintro σ G' ⟨v4, v5, S', ys, rfl, hik, hy, R2, f2, ed, nb2, hb2, ew2⟩
    have en : ((k : Int) - 1 - -1).toNat = k := by omega
    rw [en, Nat.sub_self] at ed hb2
    rw [en] at hy
    have ed : S' = downAll g.kind g.cfs b k S0 := ed
    subst ed
    exact q G' ys (by omega) R2 hb2 f2
def spComeA (K : PySem.W.Frag) : Sp := fun vs H Q _ => ∃ (A : TA) (g : Pln) (S : List RS) (xs : List V) (U : List Int) (k : Nat) (b : Int) (lw : Addr) (c : Cf) (s : RS), vs = [.ref A.p, .int (k : Int), .int b, .ref lw, .bl false] ∧ StairsAt K H A g S xs U ∧ g.cfs[k]? = some c ∧ S[k]? = some s ∧ b ∉ s.1 ∧ b ∈ U ∧ ((shelfS c.sh (b % c.sh) s.1).length : Int) < c.pl ∧ H lw = some (.lst (zerosV g.size)) ∧ ¬ MutL A lw ∧ xs.length ≤ 500 ∧
  ∀ H' v, StairsAt K H' A g (S.set k (inR s b)) (xs ++ [v]) U → SF A H H' → Q .non H'
theorem ok_Stairs_come_apart {f : Addr} {fd : FuncData} (F : Fun K "come_apart" "Stairs.come_apart" s_Stairs_come_apart f fd) (T : Txt K mg) (M_Steps_come_in : MDef P w K mg base (clsOf K "Stairs") "come_in" 6 P_Steps_come_in (spComeIn K)) (M_Stairs_change : MDef P w K mg base (clsOf K "Stairs") "change" 1 P_Stairs_change spNever) : FnOk P w K mg base CX0 7 f fd P_Stairs_come_apart (spComeA K) := by
  refine F.ok sc_Stairs_come_apart (fun vs H Q E h => ?_) (fun cdv A outer st H vs Q E hr h => ?_)
  · obtain ⟨A, g, S, xs, U, k, b, lw, c, s, rfl, _⟩ := h
    rfl
  obtain ⟨A, g, S, xs, U, k, b, lw, c, s, rfl, R, hc, hs, hb, hU, hsh, hlw, nm, hl, q⟩ := h
  have nd := sc_Stairs_come_apart.nd
  refine ⟨_, (pss_cons (ps_expr (pe_methN M_Steps_come_in hr.m T.cl_Stairs (pv 0) (pc (pv 1) (pc (pv 2) (pc (pv 3) pa_nil)))))
      (pss_one (ps_if (pt_val (pv 4)) (pss_one (ps_expr (pe_methN M_Stairs_change hr.m T.cl_Stairs (pv 0) (pc (pv 1) (pc (pv 2) pa_nil))))) pss_nil))), ?_⟩
  obtain ⟨dx, h1⟩ := R.ob
  exact ⟨_, rfl, A.p, dx, _, rfl, h1, tf_no .., _, rfl, _, rfl, _, rfl, A, g, S, xs, U, k, b, lw, c, s, rfl, R, hc, hs, hb, hU, hsh, hlw, nm, hl, fun H' v R1 f1 => ⟨_, rfl, _, rfl, ifF rfl (q H' v R1 f1)⟩⟩
def DisjF (k : Nat) (S : List RS) : Prop := ∀ (i j : Nat) (s t : RS), k ≤ i → k ≤ j → S[i]? = some s → S[j]? = some t → i ≠ j → ∀ x ∈ s.1, x ∉ t.1
def spPush (K : PySem.W.Frag) (n : Nat) : Sp := fun vs H Q _ => ∃ (A : TA) (g : Pln) (S : List RS) (xs : List V) (U : List Int) (k : Nat) (b : Int) (lw : Addr), vs = [.ref A.p, .int (k : Int), .int b, .ref lw, .bl false] ∧ StairsAt K H A g S xs U ∧ k + n = A.as.length ∧ (∀ j s, k ≤ j → S[j]? = some s → b ∉ s.1) ∧ DisjF k S ∧ b ∈ U ∧ H lw = some (.lst (zerosV g.size)) ∧ ¬ MutL A lw ∧ xs.length + 2 * n ≤ 400 ∧
  ∀ H' ys, ys.length ≤ 2 * n → StairsAt K H' A g (pushS g.cfs n S k b) (xs ++ ys) U → SF A H H' → Q .non H'
theorem ok_Stairs_push {n : Nat} {sp0 : Sp} (hsp : ∀ m, n = m + 1 → sp0 = spPush K m) {f : Addr} {fd : FuncData} (F : Fun K "push" "Stairs.push" s_Stairs_push f fd) (T : Txt K mg) (M_Steps_put : MDef P w K mg base (clsOf K "Stairs") "put" 1 P_Steps_put spNever) (M_Steps_leaver : MDef P w K mg base (clsOf K "Stairs") "leaver" 4 P_Steps_leaver (spLeav K)) (M_Stairs_come_apart : MDef P w K mg base (clsOf K "Stairs") "come_apart" 7 P_Stairs_come_apart (spComeA K)) (M_Steps_go_out : MDef P w K mg base (clsOf K "Stairs") "go_out" 5 P_Steps_go_out (spGoOut K)) (M_Stairs_push : MDef P w K mg base (clsOf K "Stairs") "push" (n + 7) P_Stairs_push sp0) : FnOk P w K mg base CX0 (n + 8) f fd P_Stairs_push (spPush K n) := by
  refine F.ok sc_Stairs_push (fun vs H Q E h => ?_) (fun cdv A outer st H vs Q E hr h => ?_)
  · obtain ⟨A, g, S, xs, U, k, b, lw, rfl, _⟩ := h
    rfl
  obtain ⟨A, g, S, xs, U, k, b, lw, rfl, R, hk, hb, dj, hU, hlw, nm, hl, q⟩ := h
  have nd := sc_Stairs_push.nd
  refine ⟨_, (pss_cons (ps_if (pt_cmpR op_eq (pv 1) (pe_fldK (K := K) rfl (pv 0) rfl) (nomark _)) (pss_cons (ps_if (pt_val (pv 4)) (pss_one (ps_expr (pe_methN M_Steps_put hr.m T.cl_Stairs (pv 0) (pc (pv 1) (pc (pv 2) (pc (pv 3) pa_nil)))))) pss_nil)
      (pss_one ps_retN)) pss_nil)
      (pss_cons (pst 5 nd (pe_methN M_Steps_leaver hr.m T.cl_Stairs (pv 0) (pc (pv 1) (pc (pv 2) pa_nil))))
      (pss_cons (ps_if (pt_cmp (pc_isN (pv 5))) (pss_cons (ps_expr (pe_methN M_Stairs_come_apart hr.m T.cl_Stairs (pv 0) (pc (pv 1) (pc (pv 2) (pc (pv 3) (pc (pv 4) pa_nil))))))
      (pss_one ps_retN)) pss_nil)
      (pss_cons (ps_asg (pe_methN M_Steps_go_out hr.m T.cl_Stairs (pv 0) (pc (pv 1) (pc (pv 5) pa_nil))) (pg_tupK (K := K) (n := 2) rfl rfl (pgs_cons (pgn 6 nd) (pgs_cons (pgn 7 nd) pgs_nil))))
      (pss_cons (ps_expr (pe_methN M_Stairs_come_apart hr.m T.cl_Stairs (pv 0) (pc (pv 1) (pc (pv 2) (pc (pv 3) (pc (pv 4) pa_nil))))))
      (pss_one (ps_expr (pe_methN M_Stairs_push hr.m T.cl_Stairs (pv 0) (pc (pe_op op_add (pv 1) pe_int) (pc (pv 5) (pc (pv 6) (pc (pv 7) pa_nil)))))))))))), ?_⟩
  obtain ⟨dx, h1⟩ := R.ob
  cases n with
  | zero =>
    refine ⟨_, rfl, _, rfl, A.p, _, dx, _, _, rfl, h1, T.cl_Stairs, T.n_Stairs_last, tf_last .., rfl, _, rfl, eq_case (fun e => ?_) (fun e => absurd (show (k : Int) = (A.as.length : Int) by omega) e)⟩
    exact ⟨_, rfl, _, rfl, ifF rfl (q H [] (Nat.le_refl _) (by rw [List.append_nil]; exact R) (SF.of (Same.refl _)))⟩
  | succ n =>
    have hkl : k < A.as.length := by omega
    obtain ⟨a, c, s, e1, e2, e3, B⟩ := R.at_ hkl
    refine ⟨_, rfl, _, rfl, A.p, _, dx, _, _, rfl, h1, T.cl_Stairs, T.n_Stairs_last, tf_last .., rfl, _, rfl, eq_case (fun e => absurd e (by omega)) (fun e => ?_)⟩
    dsimp only [tNext]
    refine hide fun u1 eu => ?_
    refine ⟨_, rfl, A.p, dx, _, rfl, h1, tf_no .., _, rfl, _, rfl, A, g, S, xs, U, k, b, c, s, rfl, R, e2, e3, fun H1 s1 gp => gN ?_⟩
    subst eu
    try dsimp only
    have R1 := R.same s1
    have hlw1 := s1 _ _ hlw
    obtain ⟨dx1, h2⟩ := R1.ob
    have hbs := hb k s (Nat.le_refl _) e3
    cases eg : goneF c s b with
    | none =>
      rw [eg] at gp
      refine ⟨_, rfl, _, rfl, ifT rfl ⟨_, rfl, A.p, dx1, _, rfl, h2, tf_no .., _, rfl, _, rfl, _, rfl, _, rfl, A, g, S, xs, U, k, b, lw, c, s, rfl, R1, e2, e3, hbs, hU, gone_lt gp, hlw1, nm, by omega, fun H2 v R2 f2 => q H2 [v] (by show 1 ≤ _; omega) ?_ ((SF.of s1).trans f2)⟩⟩
      unfold pushS
      rw [e2, e3]
      dsimp only
      rw [eg]
      exact R2
    | some go =>
      rw [eg] at gp
      obtain ⟨m1, m2, m3⟩ := goneF_mem eg
      refine ⟨_, rfl, _, rfl, ifF rfl ?_⟩
      dsimp only [tNext]
      refine hide fun u1 eu => ?_
      refine ⟨_, rfl, A.p, dx1, _, rfl, h2, tf_no .., _, rfl, _, rfl, A, g, S, xs, U, k, go, s, rfl, R1, e3, m1, by omega, fun H2 t l v et el nl R2 f2 => ⟨t, _, rfl, SqT.of et, rfl, _, _, rfl, gN ⟨_, _, rfl, gN ⟨rfl, ?_⟩⟩⟩⟩
      subst eu
      try dsimp only
      have hlw2 := f2 _ _ hlw1 (R1.nfoot hlw1 nm)
      obtain ⟨dx2, h3⟩ := R2.ob
      have e3' : (S.set k (outR s go))[k]? = some (outR s go) := List.getElem?_set_self (List.getElem?_eq_some_iff.mp e3).1
      refine ⟨_, rfl, A.p, dx2, _, rfl, h3, tf_no .., _, rfl, _, rfl, _, rfl, _, rfl, A, g, _, _, U, k, b, lw, c, outR s go, rfl, R2, e2, e3', fun m => hbs (List.mem_of_mem_erase m), hU, gone_out (R.full k c s e2 e3) m1 m2, hlw2, nm, by rw [List.length_append]; show xs.length + 1 ≤ 500; omega, fun H3 v' R3 f3 => ?_⟩
      rw [List.set_set] at R3
      have el3 := f3 _ _ el (R2.nfoot el nl)
      obtain ⟨dx3, h4⟩ := R3.ob
      have e0 := hsp n rfl
      subst e0
      have eS : pushS g.cfs (n + 1) S k b = pushS g.cfs n (S.set k (inR (outR s go) b)) (k + 1) go := by
        rw [pushS, e2, e3]
        dsimp only
        rw [eg]
      refine ⟨_, rfl, A.p, dx3, _, rfl, h4, tf_no .., _, rfl, _, _, rfl, rfl, _, rfl, _, rfl, _, rfl, A, g, _, _, U, k + 1, go, l, rfl, R3, by omega, fun j r hj hr => ?_, fun i j r r' hi hj hr hr' ne x hx => ?_, R.uni s (List.mem_of_getElem? e3) go m1, el3, nl, by rw [List.length_append, List.length_append]; show xs.length + 1 + 1 + 2 * n ≤ 400; omega, fun H4 ys hy R4 f4 => q H4 ([v] ++ [v'] ++ ys) (by rw [List.length_append, List.length_append]; show 1 + 1 + ys.length ≤ _; omega) ?_ ((((SF.of s1).trans f2).trans f3).trans f4)⟩
      · rw [List.getElem?_set_ne (by omega)] at hr
        exact dj k j s r (Nat.le_refl _) (by omega) e3 hr (by omega) go m1
      · rw [List.getElem?_set_ne (by omega)] at hr hr'
        exact dj i j r r' (by omega) (by omega) hr hr' ne x hx
      · rw [eS, ← List.append_assoc, ← List.append_assoc]
        exact R4
theorem own_Stairs_push {f : Addr} {fd : FuncData} (F : Fun K "push" "Stairs.push" s_Stairs_push f fd) (bi : Binds K fd P_Stairs_push []) (m : Meth K (clsOf K "Stairs") "push" f) (T : Txt K mg) (M_Steps_put : MDef P w K mg base (clsOf K "Stairs") "put" 1 P_Steps_put spNever) (M_Steps_leaver : MDef P w K mg base (clsOf K "Stairs") "leaver" 4 P_Steps_leaver (spLeav K)) (M_Stairs_come_apart : MDef P w K mg base (clsOf K "Stairs") "come_apart" 7 P_Stairs_come_apart (spComeA K)) (M_Steps_go_out : MDef P w K mg base (clsOf K "Stairs") "go_out" 5 P_Steps_go_out (spGoOut K)) : ∀ n, MDef P w K mg base (clsOf K "Stairs") "push" (n + 8) P_Stairs_push (spPush K n)
  | 0 => by
    have M0 : MDef P w K mg base (clsOf K "Stairs") "push" 7 P_Stairs_push spNever := ⟨f, fd, ⟨fun _ _ _ _ h => h.elim, fun _ _ _ _ _ _ _ _ _ _ _ _ _ h => h.elim⟩, m, bi⟩
    exact ⟨f, fd, ok_Stairs_push (n := 0) (fun _ h => by omega) F T M_Steps_put M_Steps_leaver M_Stairs_come_apart M_Steps_go_out M0, m, bi⟩
  | n + 1 => ⟨f, fd, ok_Stairs_push (n := n + 1) (fun j h => by cases (show j = n by omega); rfl) F T M_Steps_put M_Steps_leaver M_Stairs_come_apart M_Steps_go_out (own_Stairs_push F bi m T M_Steps_put M_Steps_leaver M_Stairs_come_apart M_Steps_go_out n), m, bi⟩
end
def Disj (S : List RS) : Prop := DisjF 0 S
def NDs (S : List RS) : Prop := ∀ s ∈ S, s.1.Nodup
theorem disj_set {S : List RS} {k : Nat} {r : RS} (d : Disj S) (h : ∀ (j : Nat) (t : RS), j ≠ k → S[j]? = some t → (∀ x ∈ r.1, x ∉ t.1)) : Disj (S.set k r) := fun i j s t _ _ hs ht ne x hx hx' => by
  by_cases ei : i = k
  · subst ei
    have hl : i < S.length := by have := (List.getElem?_eq_some_iff.mp hs).1; rwa [List.length_set] at this
    rw [List.getElem?_set_self hl] at hs
    cases hs
    rw [List.getElem?_set_ne ne] at ht
    exact h j t (fun z => ne z.symm) ht x hx hx'
  · rw [List.getElem?_set_ne (fun z => ei z.symm)] at hs
    by_cases ej : j = k
    · subst ej
      have hl : j < S.length := by have := (List.getElem?_eq_some_iff.mp ht).1; rwa [List.length_set] at this
      rw [List.getElem?_set_self hl] at ht
      cases ht
      exact h i s ei hs x hx' hx
    · rw [List.getElem?_set_ne (fun z => ej z.symm)] at ht
      exact d i j s t (Nat.zero_le _) (Nat.zero_le _) hs ht ne x hx hx'
theorem nds_set {S : List RS} {k : Nat} {r : RS} (d : NDs S) (h : r.1.Nodup) : NDs (S.set k r) := fun s hs => by
  rcases List.mem_or_eq_of_mem_set hs with hs | rfl
  · exact d s hs
  · exact h
theorem nd_in {s : RS} {b : Int} (h : s.1.Nodup) (hb : b ∉ s.1) : (inR s b).1.Nodup := nd_snoc h hb
theorem pushS_disj {cfs : List Cf} : ∀ (n : Nat) (S : List RS) (k : Nat) (b : Int), Disj S → NDs S → (∀ s ∈ S, b ∉ s.1) → Disj (pushS cfs n S k b)
  | 0, S, k, b, d, _, _ => d
  | n + 1, S, k, b, d, nds, hb => by
    unfold pushS
    split
    · rename_i c s hc hs
      have hbs := hb s (List.mem_of_getElem? hs)
      have ns := nds s (List.mem_of_getElem? hs)
      have dj : ∀ (j : Nat) (t : RS), j ≠ k → S[j]? = some t → ∀ x ∈ s.1, x ∉ t.1 := fun j t ne ht x hx => d k j s t (Nat.zero_le _) (Nat.zero_le _) hs ht (fun z => ne z.symm) x hx
      split
      · refine disj_set d fun j t ne ht x hx => ?_
        rcases List.mem_append.mp hx with hx | hx
        · exact dj j t ne ht x hx
        · rw [List.mem_singleton.mp hx]; exact hb t (List.mem_of_getElem? ht)
      · rename_i g hg
        obtain ⟨m1, _⟩ := goneF_mem hg
        have dS' : Disj (S.set k (inR (outR s g) b)) := disj_set d fun j t ne ht x hx => by
          rcases List.mem_append.mp hx with hx | hx
          · exact dj j t ne ht x (List.mem_of_mem_erase hx)
          · rw [List.mem_singleton.mp hx]; exact hb t (List.mem_of_getElem? ht)
        refine pushS_disj n _ (k + 1) g dS' (nds_set nds (nd_in (ns.erase g) fun m => hbs (List.mem_of_mem_erase m))) fun r hr => ?_
        obtain ⟨j, hj⟩ := List.getElem?_of_mem hr
        by_cases e : j = k
        · subst e
          rw [List.getElem?_set_self (List.getElem?_eq_some_iff.mp hs).1] at hj
          cases hj
          intro m
          rcases List.mem_append.mp m with m | m
          · exact ((List.Nodup.mem_erase_iff ns).mp m).1 rfl
          · exact hbs (by rw [← List.mem_singleton.mp m]; exact m1)
        · rw [List.getElem?_set_ne (fun z => e z.symm)] at hj
          exact dj j r e hj g m1
    · exact d
theorem pushS_lt {cfs : List Cf} : ∀ (n : Nat) (S : List RS) (k : Nat) (b : Int) (j : Nat), j < k → (pushS cfs n S k b)[j]? = S[j]?
  | 0, _, _, _, _, _ => rfl
  | n + 1, S, k, b, j, hj => by
    unfold pushS
    split
    · split
      · rw [List.getElem?_set_ne (by omega)]
      · rw [pushS_lt n _ _ _ j (by omega), List.getElem?_set_ne (by omega)]
    · rfl
theorem pushS_at {cfs : List Cf} {n : Nat} {S : List RS} {k : Nat} {b : Int} {c : Cf} {s : RS} (hc : cfs[k]? = some c) (hs : S[k]? = some s) : ∃ r, (pushS cfs (n + 1) S k b)[k]? = some r ∧ b ∈ r.1 := by
  unfold pushS
  rw [hc, hs]
  dsimp only
  have hl := (List.getElem?_eq_some_iff.mp hs).1
  split
  · exact ⟨_, List.getElem?_set_self hl, List.mem_append_right _ (List.mem_singleton.mpr rfl)⟩
  · rw [pushS_lt n _ _ _ k (Nat.lt_succ_self k), List.getElem?_set_self hl]
    exact ⟨_, rfl, List.mem_append_right _ (List.mem_singleton.mpr rfl)⟩
noncomputable def apartS (cfs : List Cf) (S : List RS) (k : Nat) (b : Int) : List RS :=
  if k = S.length then pushS cfs S.length S 0 b else (match cfs[k]?, S[k]? with
    | some c, some s => if k = 0 then S.set 0 (useR c s b) else pushS cfs S.length (S.set k (outR s b)) 0 b
    | _, _ => S)
theorem near_none {S : List RS} {b : Int} (h : nearF S b = S.length) : ∀ s ∈ S, b ∉ s.1 := fun s hs => by
  obtain ⟨j, hj⟩ := List.getElem?_of_mem hs
  exact near_not (by rw [h]; exact (List.getElem?_eq_some_iff.mp hj).1) hj
theorem apart_out {S : List RS} {b : Int} {k : Nat} {s : RS} (d : Disj S) (nds : NDs S) (hs : S[k]? = some s) (hb : b ∈ s.1) : Disj (S.set k (outR s b)) ∧ NDs (S.set k (outR s b)) ∧ ∀ r ∈ S.set k (outR s b), b ∉ r.1 := by
  have dj : ∀ (j : Nat) (t : RS), j ≠ k → S[j]? = some t → ∀ x ∈ s.1, x ∉ t.1 := fun j t ne ht x hx => d k j s t (Nat.zero_le _) (Nat.zero_le _) hs ht (fun z => ne z.symm) x hx
  have ns := nds s (List.mem_of_getElem? hs)
  refine ⟨disj_set d fun j t ne ht x hx => dj j t ne ht x (List.mem_of_mem_erase hx), nds_set nds (ns.erase b), fun r hr => ?_⟩
  obtain ⟨j, hj⟩ := List.getElem?_of_mem hr
  by_cases e : j = k
  · subst e
    rw [List.getElem?_set_self (List.getElem?_eq_some_iff.mp hs).1] at hj
    cases hj
    exact fun m => ((List.Nodup.mem_erase_iff ns).mp m).1 rfl
  · rw [List.getElem?_set_ne (fun z => e z.symm)] at hj
    exact dj j r e hj b hb
theorem apartS_disj {cfs : List Cf} {S : List RS} {b : Int} (d : Disj S) (nds : NDs S) : Disj (apartS cfs S (nearF S b) b) := by
  unfold apartS
  split
  · rename_i e
    exact pushS_disj _ _ _ _ d nds (near_none e)
  · rename_i e
    split
    · rename_i c s hc hs
      obtain ⟨s', q1, q2⟩ := near_lt (S := S) (b := b) (by have := near_le S b; omega)
      rw [hs] at q1; cases q1
      split
      · rename_i e0
        refine disj_set d fun j t ne ht x hx => ?_
        rw [e0] at hs
        exact d 0 j s t (Nat.zero_le _) (Nat.zero_le _) hs ht (fun z => ne z.symm) x ((use_mem q2 (nds s (List.mem_of_getElem? hs))).mp hx)
      · obtain ⟨d1, d2, d3⟩ := apart_out d nds hs q2
        exact pushS_disj _ _ _ _ d1 d2 d3
    · exact d
section
variable {K : PySem.W.Frag} {H : Hp} {A : TA} {g : Pln} {S : List RS} {xs : List V} {U : List Int}
theorem StairsAt.nds (T : StairsAt K H A g S xs U) : NDs S := fun s hs => by
  obtain ⟨k, hk⟩ := List.getElem?_of_mem hs
  obtain ⟨a, c, s', h1, h2, h3, B⟩ := T.at_ (k := k) (by rw [← T.lS]; exact (List.getElem?_eq_some_iff.mp hk).1)
  rw [hk] at h3; cases h3
  exact B.room.nd
end
section
variable {P : Program} {w : World} {K : PySem.W.Frag} {mg : Str → Option Value} {base : Heap}
def spApart (K : PySem.W.Frag) : Sp := fun vs H Q _ => ∃ (A : TA) (g : Pln) (S : List RS) (xs : List V) (U : List Int) (b : Int), vs = [.ref A.p, .int (nearF S b : Nat), .int b] ∧ StairsAt K H A g S xs U ∧ Disj S ∧ 0 ≤ b ∧ b ≤ 1000000 ∧ b ∈ U ∧ xs.length ≤ 100 ∧ 1 ≤ A.as.length ∧
  ∀ H' ys, ys.length ≤ 30 → StairsAt K H' A g (apartS g.cfs S (nearF S b) b) (xs ++ ys) U → (∀ s, (apartS g.cfs S (nearF S b) b)[0]? = some s → b ∈ s.1) → SF A H H' → Q .non H'
theorem ok_Stairs_fetch_apart {f : Addr} {fd : FuncData} (F : Fun K "fetch_apart" "Stairs.fetch_apart" s_Stairs_fetch_apart f fd) (T : Txt K mg) (M_Steps_use_in : MDef P w K mg base (clsOf K "Stairs") "use_in" 4 P_Steps_use_in (spUseIn K)) (M_Steps_words : MDef P w K mg base (clsOf K "Stairs") "words" 4 P_Steps_words (spTWords K)) (M_Steps_go_out : MDef P w K mg base (clsOf K "Stairs") "go_out" 5 P_Steps_go_out (spGoOut K)) (M_Stairs_push' : ∀ n, MDef P w K mg base (clsOf K "Stairs") "push" (n + 8) P_Stairs_push (spPush K n)) : FnOk P w K mg base CX0 13 f fd P_Stairs_fetch_apart (spApart K) := by
  refine F.ok sc_Stairs_fetch_apart (fun vs H Q E h => ?_) (fun cdv A outer st H vs Q E hr h => ?_)
  · obtain ⟨A, g, S, xs, U, b, rfl, _⟩ := h
    rfl
  obtain ⟨A, g, S, xs, U, b, rfl, R, dj, b0, b1, hU, hl, l1, q⟩ := h
  have nd := sc_Stairs_fetch_apart.nd
  have l4 := R.l4
  have M_Stairs_push := M_Stairs_push' A.as.length
  refine ⟨_, (pss_one (ps_if (pt_cmpR op_eq (pv 1) pe_int (nomark _)) (pss_one (ps_expr (pe_methN M_Steps_use_in hr.m T.cl_Stairs (pv 0) (pc (pv 1) (pc (pv 2) pa_nil))))) (pss_one (ps_if (pt_cmpR op_eq (pv 1) (pe_fldK (K := K) rfl (pv 0) rfl) (nomark _)) (pss_one (ps_expr (pe_methN M_Stairs_push hr.m T.cl_Stairs (pv 0) (pc pe_int (pc (pv 2) (pc (pe_methN M_Steps_words hr.m T.cl_Stairs (pv 0) (pc (pv 1) (pc (pv 2) pa_nil))) (pc pe_bl pa_nil))))))) (pss_cons (ps_asg (pe_methN M_Steps_go_out hr.m T.cl_Stairs (pv 0) (pc (pv 1) (pc (pv 2) pa_nil))) (pg_tupK (K := K) (n := 2) rfl rfl (pgs_cons (pgn 3 nd) (pgs_cons (pgn 4 nd) pgs_nil))))
      (pss_one (ps_expr (pe_methN M_Stairs_push hr.m T.cl_Stairs (pv 0) (pc pe_int (pc (pv 2) (pc (pv 3) (pc (pv 4) pa_nil)))))))))))), ?_⟩
  obtain ⟨dx, h1⟩ := R.ob
  have nle := near_le S b
  have lS := R.lS
  generalize hk : nearF S b = k at *
  have fst : ∀ {S' : List RS}, S'.length = A.as.length → ∀ s, (pushS g.cfs A.as.length S' 0 b)[0]? = some s → b ∈ s.1 := fun {S'} hS s hs => by
    obtain ⟨n, hn⟩ : ∃ n, A.as.length = n + 1 := ⟨A.as.length - 1, by omega⟩
    rw [hn] at hs
    have hc : g.cfs[0]? = some (g.cfs[0]'(by rw [R.lc]; omega)) := List.getElem?_eq_getElem _
    have hs0 : S'[0]? = some (S'[0]'(by omega)) := List.getElem?_eq_getElem _
    obtain ⟨r, q1, q2⟩ := pushS_at (n := n) (b := b) hc hs0
    rw [q1] at hs; cases hs
    exact q2
  refine ⟨_, rfl, rfl, _, rfl, eq_case (fun e => ?_) (fun e => ?_)⟩
  · have e0 : k = 0 := by omega
    subst e0
    obtain ⟨a, c, s, e1, e2, e3, B⟩ := R.at_ (k := 0) (by omega)
    have hb : b ∈ s.1 := by
      obtain ⟨s', q1, q2⟩ := near_lt (S := S) (b := b) (by rw [hk]; omega)
      rw [hk, e3] at q1; cases q1
      exact q2
    have eA : apartS g.cfs S 0 b = S.set 0 (useR c s b) := by
      unfold apartS
      rw [if_neg (by omega), e2, e3]
      dsimp only
      rw [if_pos rfl]
    refine ⟨_, rfl, A.p, dx, _, rfl, h1, tf_no .., _, rfl, _, rfl, A, g, S, xs, U, 0, b, c, s, rfl, R, e2, e3, hb, fun H1 R1 f1 => q H1 [] (Nat.zero_le _) (by rw [eA, List.append_nil]; exact R1) (fun s' hs' => ?_) f1⟩
    rw [eA, List.getElem?_set_self (by omega)] at hs'
    cases hs'
    exact (use_mem hb B.room.nd).mpr hb
  · refine ⟨_, rfl, _, rfl, A.p, _, dx, _, _, rfl, h1, T.cl_Stairs, T.n_Stairs_last, tf_last .., rfl, _, rfl, eq_case (fun e' => ?_) (fun e' => ?_)⟩
    · have ek : k = A.as.length := by omega
      have no : ∀ s, S[k]? = some s → b ∈ s.1 := fun s hs => by have := (List.getElem?_eq_some_iff.mp hs).1; omega
      have nb := near_none (S := S) (b := b) (by omega)
      refine ⟨_, rfl, A.p, dx, _, rfl, h1, tf_no .., _, rfl, _, rfl, A.p, dx, _, rfl, h1, tf_no .., _, rfl, _, rfl, A, g, S, xs, U, k, b, rfl, R, by omega, no, b0, b1, fun lw H1 hlw s1 ew => ?_⟩
      have R1 := R.same s1
      have eA : apartS g.cfs S k b = pushS g.cfs A.as.length S 0 b := by
        unfold apartS
        rw [if_pos (by omega), lS]
      refine ⟨A, g, S, xs, U, 0, b, lw, rfl, R1, by omega, fun j s _ hs => nb s (List.mem_of_getElem? hs), dj, hU, ew, fun z => R.mex lw z hlw, by omega, fun H2 ys hy R2 f2 => q H2 ys (by omega) (by rw [eA]; exact R2) (fun s hs => ?_) ((SF.of s1).trans f2)⟩
      rw [eA] at hs
      exact fst lS s hs
    · have hkl : k < A.as.length := by omega
      obtain ⟨a, c, s, e1, e2, e3, B⟩ := R.at_ hkl
      have hb : b ∈ s.1 := by
        obtain ⟨s', q1, q2⟩ := near_lt (S := S) (b := b) (by rw [hk]; omega)
        rw [hk, e3] at q1; cases q1
        exact q2
      obtain ⟨d1, d2, d3⟩ := apart_out dj R.nds e3 hb
      have eA : apartS g.cfs S k b = pushS g.cfs A.as.length (S.set k (outR s b)) 0 b := by
        unfold apartS
        rw [if_neg (by omega), e2, e3]
        dsimp only
        rw [if_neg (by omega), lS]
      refine ⟨_, rfl, A.p, dx, _, rfl, h1, tf_no .., _, rfl, _, rfl, A, g, S, xs, U, k, b, s, rfl, R, e3, hb, by omega, fun H2 t l v et el nl R2 f2 => ⟨t, _, rfl, SqT.of et, rfl, _, _, rfl, gN ⟨_, _, rfl, gN ⟨rfl, ?_⟩⟩⟩⟩
      try dsimp only
      obtain ⟨dx2, h2⟩ := R2.ob
      refine ⟨_, rfl, A.p, dx2, _, rfl, h2, tf_no .., _, rfl, _, rfl, _, rfl, A, g, _, _, U, 0, b, l, rfl, R2, by omega, fun j r _ hr => d3 r (List.mem_of_getElem? hr), d1, hU, el, nl, by rw [List.length_append]; show xs.length + 1 + 2 * A.as.length ≤ 400; omega, fun H3 ys hy R3 f3 => q H3 ([v] ++ ys) (by rw [List.length_append]; show 1 + ys.length ≤ 30; omega) (by rw [eA, ← List.append_assoc]; exact R3) (fun s' hs' => ?_) (f2.trans f3)⟩
      rw [eA] at hs'
      exact fst (by rw [List.length_set]; exact lS) s' hs'
noncomputable def fetS (g : Pln) (S : List RS) (b : Int) : List RS := if g.kind = "apart" then apartS g.cfs S (nearF S b) b else downAll g.kind g.cfs b (nearF S b) (useAt g.cfs S (nearF S b) b)
def spFetch (K : PySem.W.Frag) : Sp := fun vs H Q _ => ∃ (A : TA) (g : Pln) (S : List RS) (U : List Int) (b : Int), vs = [.ref A.p, .int b] ∧ StairsAt K H A g S [] U ∧ (g.kind = "apart" → Disj S) ∧ 0 ≤ b ∧ b ≤ 1000000 ∧ b ∈ U ∧ 1 ≤ A.as.length ∧
  ∀ H' t ys, H' t = some (.tup [.str "found", .int (nearF S b : Nat)]) → StairsAt K H' A g (fetS g S b) (.ref t :: ys) U → (∀ s, (fetS g S b)[0]? = some s → b ∈ s.1) → SF A H H' → Q .non H'
theorem ok_Stairs_fetch {f : Addr} {fd : FuncData} (F : Fun K "fetch" "Stairs.fetch" s_Stairs_fetch f fd) (T : Txt K mg) (M_Stairs_nearest : MDef P w K mg base (clsOf K "Stairs") "nearest" 3 P_Stairs_nearest (spNearest K)) (M_Steps_tell_found : MDef P w K mg base (clsOf K "Stairs") "tell_found" 1 P_Steps_tell_found (spTell K)) (M_Stairs_fetch_apart : MDef P w K mg base (clsOf K "Stairs") "fetch_apart" 13 P_Stairs_fetch_apart (spApart K)) (M_Stairs_fetch_down : MDef P w K mg base (clsOf K "Stairs") "fetch_down" 7 P_Stairs_fetch_down (spDown K)) : FnOk P w K mg base CX0 14 f fd P_Stairs_fetch (spFetch K) := by
  refine F.ok sc_Stairs_fetch (fun vs H Q E h => ?_) (fun cdv A outer st H vs Q E hr h => ?_)
  · obtain ⟨A, g, S, U, b, rfl, _⟩ := h
    rfl
  obtain ⟨A, g, S, U, b, rfl, R, dj, b0, b1, hU, l1, q⟩ := h
  have nd := sc_Stairs_fetch.nd
  refine ⟨_, (pss_cons (pst 2 nd (pe_methN M_Stairs_nearest hr.m T.cl_Stairs (pv 0) (pc (pv 1) pa_nil)))
      (pss_cons (ps_expr (pe_methN M_Steps_tell_found hr.m T.cl_Stairs (pv 0) (pc (pv 2) pa_nil)))
      (pss_one (ps_if (pt_cmpR op_eq (pe_fldK (K := K) rfl (pv 0) rfl) pe_str (nomark _)) (pss_one (ps_expr (pe_methN M_Stairs_fetch_apart hr.m T.cl_Stairs (pv 0) (pc (pv 2) (pc (pv 1) pa_nil))))) (pss_one (ps_expr (pe_methN M_Stairs_fetch_down hr.m T.cl_Stairs (pv 0) (pc (pv 2) (pc (pv 1) pa_nil))))))))), ?_⟩
  obtain ⟨dx, h1⟩ := R.ob
  refine ⟨_, rfl, A.p, dx, _, rfl, h1, tf_no .., _, rfl, A, g, S, [], U, b, rfl, R, fun H1 s1 => gN ?_⟩
  try dsimp only
  have R1 := R.same s1
  refine ⟨_, rfl, A.p, dx, _, rfl, s1 _ _ h1, tf_no .., _, rfl, A, g, S, [], U, nearF S b, rfl, R1, Nat.zero_le _, fun t H2 ht et R2 f2 => ?_⟩
  obtain ⟨dx2, h2⟩ := R2.ob
  have nt := R2.sfp et (fun _ z => by cases z) (fun _ z => by cases z) (fun _ _ _ z => by cases z)
  refine ⟨_, rfl, A.p, _, dx2, _, _, rfl, h2, T.cl_Stairs, T.n_Stairs_kind, tf_kind .., rfl, _, rfl, ite_dec (fun c => ?_) (fun c => ?_)⟩
  · have c' : g.kind = "apart" := by injection c
    have eF : fetS g S b = apartS g.cfs S (nearF S b) b := by unfold fetS; rw [if_pos c']
    rw [eF] at q
    exact ⟨_, rfl, A.p, dx2, _, rfl, h2, tf_no .., _, rfl, _, rfl, A, g, S, [.ref t], U, b, rfl, R2, dj c', b0, b1, hU, by show 1 ≤ 100; decide, l1, fun H3 ys hy R3 fs f3 => q H3 t ys (f3 _ _ et nt) R3 fs (((SF.of s1).trans f2).trans f3)⟩
  · have c' : ¬ g.kind = "apart" := fun z => c (by rw [z])
    have eF : fetS g S b = downAll g.kind g.cfs b (nearF S b) (useAt g.cfs S (nearF S b) b) := by unfold fetS; rw [if_neg c']
    rw [eF] at q
    exact ⟨_, rfl, A.p, dx2, _, rfl, h2, tf_no .., _, rfl, _, rfl, A, g, S, [.ref t], U, nearF S b, b, rfl, R2, rfl, b0, b1, hU, by show 1 ≤ 100; decide, fun H3 ys hy R3 fs f3 => q H3 t ys (f3 _ _ et nt) R3 fs (((SF.of s1).trans f2).trans f3)⟩
def spRead (K : PySem.W.Frag) : Sp := fun vs H Q _ => ∃ (A : TA) (g : Pln) (S : List RS) (U : List Int) (sp b : Int), vs = [.ref A.p, .int sp] ∧ StairsAt K H A g S [] U ∧ (g.kind = "apart" → Disj S) ∧ sp / g.size = b ∧ 0 ≤ b ∧ b ≤ 1000000 ∧ b ∈ U ∧ 1 ≤ A.as.length ∧
  ∀ H' tp t e' ys, H' tp = some (.tup [.int 0, .ref A.ev]) → H' A.ev = some (.lst (.ref t :: ys)) → H' t = some (.tup [.str "found", .int (nearF S b : Nat)]) → StairsAt K H' { A with ev := e' } g (fetS g S b) [] U → (g.kind = "apart" → Disj (fetS g S b)) → (∀ x, H' x = none → H x = none ∨ Foot A x) → H e' = none ∨ Foot A e' → SF A H H' → Q (.ref tp) H'
theorem ok_Stairs_read {f : Addr} {fd : FuncData} (F : Fun K "read" "Stairs.read" s_Stairs_read f fd) (T : Txt K mg) (D_board_of : Def P w K mg base "board_of" 1 P_board_of spBoard) (M_Stairs_fetch : MDef P w K mg base (clsOf K "Stairs") "fetch" 14 P_Stairs_fetch (spFetch K)) (M_Steps_word_in : MDef P w K mg base (clsOf K "Stairs") "word_in" 4 P_Steps_word_in (spWordIn K)) (M_Steps_happened : MDef P w K mg base (clsOf K "Stairs") "happened" 1 P_Steps_happened (spHappened K)) : FnOk P w K mg base CX0 15 f fd P_Stairs_read (spRead K) := by
  refine F.ok sc_Stairs_read (fun vs H Q E h => ?_) (fun cdv A outer st H vs Q E hr h => ?_)
  · obtain ⟨A, g, S, U, sp, b, rfl, _⟩ := h
    rfl
  obtain ⟨A, g, S, U, sp, b, rfl, R, dj, eb, b0, b1, hU, l1, q⟩ := h
  have nd := sc_Stairs_read.nd
  refine ⟨_, (pss_cons (pst 2 nd (pe_defN D_board_of hr.m rfl (pc (pe_fldK (K := K) rfl (pv 0) rfl) (pc (pv 1) pa_nil))))
      (pss_cons (ps_expr (pe_methN M_Stairs_fetch hr.m T.cl_Stairs (pv 0) (pc (pv 2) pa_nil)))
      (pss_one (ps_ret (pe_tup (pc (pe_methN M_Steps_word_in hr.m T.cl_Stairs (pv 0) (pc pe_int (pc (pv 1) pa_nil))) (pc (pe_methN0 M_Steps_happened hr.m T.cl_Stairs (pv 0)) pa_nil))))))), ?_⟩
  obtain ⟨dx, h1⟩ := R.ob
  have z0 := R.z0
  have z1 := R.z1
  refine ⟨_, rfl, A.p, _, dx, _, _, rfl, h1, T.cl_Stairs, T.n_Stairs_size, tf_size .., _, rfl, g.size, sp, rfl, by omega, by omega, gN ?_⟩
  try dsimp only
  rw [eb]
  refine ⟨_, rfl, A.p, dx, _, rfl, h1, tf_no .., _, rfl, A, g, S, U, b, rfl, R, dj, b0, b1, hU, l1, fun H1 t ys et R1 fs f1 => ?_⟩
  obtain ⟨dx1, h2⟩ := R1.ob
  obtain ⟨a, c, s, e1, e2, e3, B⟩ := R1.at_ (k := 0) (by omega)
  refine ⟨_, rfl, A.p, dx1, _, rfl, h2, tf_no .., _, rfl, A, g, _, _, U, 0, sp, b, s, rfl, R1, e3, fs s e3, eb, fun H2 s2 => ?_⟩
  have R2 := R1.same s2
  refine ⟨_, rfl, A.p, dx1, _, rfl, s2 _ _ h2, tf_no .., A, g, _, _, U, rfl, R2, fun e' H3 he R3 k3 => ⟨(by show 2 ≤ sizeLine; decide), fun tp htp => ?_⟩⟩
  have s4 := same_upd htp (.tup [.int 0, .ref A.ev])
  have nep : A.ev ≠ A.p := fun z => by have q := R2.ev; rw [z, s2 _ _ h2] at q; cases q
  have ntp : t ≠ A.p := fun z => by rw [z, h2] at et; cases et
  refine q _ tp t e' ys upd_same (s4 _ _ (k3 _ _ R2.ev nep)) (s4 _ _ (k3 _ _ (s2 _ _ et) ntp)) (R3.same s4) (fun c' => ?_) (fun x hx => ?_) ?_ fun x o e n => ?_
  · unfold fetS
    rw [if_pos c']
    exact apartS_disj (dj c') R.nds
  · by_cases z : Foot A x
    · exact .inr z
    · refine .inl ?_
      cases e : H x with
      | none => rfl
      | some o => rw [s4 _ _ (k3 _ _ (s2 _ _ (f1 _ _ e z)) (fun y => z (.inl y)))] at hx; cases hx
  · by_cases z : Foot A e'
    · exact .inr z
    · refine .inl ?_
      cases e : H e' with
      | none => rfl
      | some o => rw [s2 _ _ (f1 _ _ e z)] at he; cases he
  · exact s4 _ _ (k3 _ _ (s2 _ _ (f1 _ _ e n)) fun z => n (.inl z))
def spStairs (K : PySem.W.Frag) : Sp := fun vs H Q _ => ∃ (p dx pp tp : Addr) (size : Int) (kind : Str) (ts : List Addr) (cfs : List Cf), vs = [.ref p, .ref pp] ∧ H p = some (.ins (clsOf K "Stairs") dx []) ∧ H pp = some (.tup [.int size, .str kind, .ref tp]) ∧ PlanAt K H tp ts cfs ∧ 1 ≤ size ∧ size ≤ 1000 ∧ cfs.length ≤ 4 ∧ Tb K H ∧
  ∀ (A : TA) (H' : Hp), A.p = p → A.as.length = cfs.length → (∀ U, U.length ≤ 800 → StairsAt K H' A ⟨size, kind, cfs⟩ (List.replicate cfs.length ([], fun _ => 0)) [] U) → (∀ x, Foot A x → x ≠ p → H x = none) → (∀ b o, H b = some o → b ≠ p → H' b = some o) → Q .non H'
theorem ok_Stairs_init {f : Addr} {fd : FuncData} (F : Fun K "__init__" "Stairs.__init__" s_Stairs_init f fd) (T : Txt K mg) (C_Steps_init : CDef P w K mg base "Steps" "__init__" 5 P_Steps_init (spSteps K)) : FnOk P w K mg base CX0 6 f fd P_Stairs_init (spStairs K) := by
  refine F.ok sc_Stairs_init (fun vs H Q E h => ?_) (fun cdv A outer st H vs Q E hr h => ?_)
  · obtain ⟨p, dx, pp, tp, size, kind, ts, cfs, rfl, _⟩ := h
    rfl
  obtain ⟨p, dx, pp, tp, size, kind, ts, cfs, rfl, hp, hpp, pa, z0, z1, l4, tb, q⟩ := h
  have nd := sc_Stairs_init.nd
  refine ⟨_, (pss_cons (ps_asg (pv 1) (pg_tupK (K := K) (n := 3) rfl rfl (pgs_cons (pgn 2 nd) (pgs_cons (pgn 3 nd) (pgs_cons (pgn 4 nd) pgs_nil)))))
      (pss_cons (ps_expr (pe_clsN C_Steps_init hr.m rfl (pc (pv 0) (pc (pv 2) (pc (pv 4) pa_nil)))))
      (pss_one (ps_fld (pv 0) (pv 3) rfl)))), ?_⟩
  refine ⟨_, rfl, pp, _, rfl, SqT.of hpp, rfl, _, _, rfl, gN ⟨_, _, rfl, gN ⟨_, _, rfl, gN ⟨rfl, ?_⟩⟩⟩⟩
  try dsimp only
  refine ⟨_, rfl, _, rfl, _, rfl, p, dx, tp, size, ts, cfs, rfl, hp, pa, z0, z1, l4, tb, fun A H1 ep el h1 RS f1 k1 => ?_⟩
  refine ⟨_, rfl, _, rfl, p, _, dx, _, rfl, h1, T.cl_Stairs, T.n_Stairs_kind, (by show 5 < 1000; decide), ?_⟩
  exact q A _ ep el (fun U hU => RS kind U hU) f1 fun x o e n => by rw [upd_ne n]; exact k1 x o e n
end
def natsV (ns : List Nat) : List V := ns.map fun n : Nat => V.int (n : Int)
theorem natsV_app (ns : List Nat) (n : Nat) : natsV (ns ++ [n]) = natsV ns ++ [V.int (n : Int)] := by unfold natsV; rw [List.map_append]; rfl
theorem natsV_len (ns : List Nat) : (natsV ns).length = ns.length := by unfold natsV; rw [List.length_map]
noncomputable def stF (g : Pln) : List RS → List Int → List RS
  | S, [] => S
  | S, b :: row => stF g (fetS g S b) row
noncomputable def foundsF (g : Pln) : List RS → List Int → List Nat
  | _, [] => []
  | S, b :: row => nearF S b :: foundsF g (fetS g S b) row
theorem stF_app (g : Pln) : ∀ (S : List RS) (row : List Int) (b : Int), stF g S (row ++ [b]) = fetS g (stF g S row) b
  | _, [], _ => rfl
  | S, x :: row, b => stF_app g (fetS g S x) row b
theorem foundsF_app (g : Pln) : ∀ (S : List RS) (row : List Int) (b : Int), foundsF g S (row ++ [b]) = foundsF g S row ++ [nearF (stF g S row) b]
  | _, [], _ => rfl
  | S, x :: row, b => congrArg (nearF S x :: ·) (foundsF_app g (fetS g S x) row b)
theorem foundsF_len (g : Pln) : ∀ (S : List RS) (row : List Int), (foundsF g S row).length = row.length
  | _, [] => rfl
  | S, x :: row => congrArg (· + 1) (foundsF_len g (fetS g S x) row)
def emptyS (g : Pln) : List RS := List.replicate g.cfs.length ([], fun _ => 0)
section
variable {K : PySem.W.Frag} {H : Hp} {A : TA} {g : Pln} {S : List RS} {xs : List V} {U : List Int}
theorem StairsAt.foot (T : StairsAt K H A g S xs U) {x : Addr} (h : Foot A x) : H x ≠ none := fun e => by
  rcases h with rfl | rfl | ⟨a, ha, z⟩
  · obtain ⟨dx, q⟩ := T.ob; rw [q] at e; cases e
  · rw [T.ev] at e; cases e
  · obtain ⟨k, hk⟩ := List.getElem?_of_mem ha
    obtain ⟨a', c, s, h1, h2, h3, R⟩ := T.at_ (List.getElem?_eq_some_iff.mp hk).1
    rw [hk] at h1; cases h1
    rcases z with rfl | rfl | z
    · obtain ⟨kv, q, _⟩ := R.room.dc; rw [q] at e; cases e
    · obtain ⟨kv, q, _⟩ := R.held; rw [q] at e; cases e
    · obtain ⟨ys, q⟩ := R.room.st.one z; rw [q] at e; cases e
structure Since (K : PySem.W.Frag) (H G : Hp) (p : Addr) (g : Pln) (S : List RS) (U : List Int) (r : Addr) : Prop where
  ex : ∃ A : TA, A.p = p ∧ A.as.length = g.cfs.length ∧ StairsAt K G A g S [] U ∧ (∀ x, Foot A x → H x = none) ∧ ¬ Foot A r ∧ r ∈ A.out
  dj : g.kind = "apart" → Disj S
  same : Same H G
end
section
variable {P : Program} {w : World} {K : PySem.W.Frag} {mg : Str → Option Value} {base : Heap}
theorem Since.next {H G G' : Hp} {p : Addr} {g : Pln} {S : List RS} {U : List Int} {r : Addr} {A : TA} {b : Int} {e' : Addr} (s : Same H G) (T : StairsAt K G A g S [] U) (ep : A.p = p) (el : A.as.length = g.cfs.length) (ff : ∀ x, Foot A x → H x = none) (nr : ¬ Foot A r) (hr : ∃ o, G r = some o) (ho : r ∈ A.out) (R' : StairsAt K G' { A with ev := e' } g (fetS g S b) [] U) (d' : g.kind = "apart" → Disj (fetS g S b)) (he : G e' = none ∨ Foot A e') (f : SF A G G') : Since K H G' p g (fetS g S b) U r := by
  have fe : ∀ x, Foot { A with ev := e' } x → x = e' ∨ Foot A x := fun x hx => by
    rcases hx with z | z | z
    · exact .inr (.inl z)
    · exact .inl z
    · exact .inr (.inr (.inr z))
  refine ⟨⟨{ A with ev := e' }, ep, el, R', fun x hx => ?_, fun z => ?_, ho⟩, d', fun x o e => f x o (s x o e) fun z => by rw [ff x z] at e; cases e⟩
  · rcases fe x hx with rfl | z
    · rcases he with he | he
      · exact s.free he
      · exact ff _ he
    · exact ff x z
  · rcases fe r z with rfl | z
    · rcases he with he | he
      · obtain ⟨o, ho⟩ := hr
        rw [he] at ho; cases ho
      · exact nr he
    · exact nr z
def spFoundBy (K : PySem.W.Frag) : Sp := fun vs H Q _ => ∃ (A : TA) (g : Pln) (S : List RS) (U : List Int) (sp b : Int), vs = [.ref A.p, .int sp] ∧ StairsAt K H A g S [] U ∧ (g.kind = "apart" → Disj S) ∧ sp / g.size = b ∧ 0 ≤ b ∧ b ≤ 1000000 ∧ b ∈ U ∧ 1 ≤ A.as.length ∧
  ∀ H' e', StairsAt K H' { A with ev := e' } g (fetS g S b) [] U → (g.kind = "apart" → Disj (fetS g S b)) → H e' = none ∨ Foot A e' → SF A H H' → Q (.int (nearF S b : Nat)) H'
theorem ok_found_by {f : Addr} {fd : FuncData} (F : Fun K "found_by" "found_by" s_found_by f fd) (T : Txt K mg) (M_Stairs_read : MDef P w K mg base (clsOf K "Stairs") "read" 15 P_Stairs_read (spRead K)) : FnOk P w K mg base CX0 16 f fd P_found_by (spFoundBy K) := by
  refine F.ok sc_found_by (fun vs H Q E h => ?_) (fun cdv A outer st H vs Q E hr h => ?_)
  · obtain ⟨A, g, S, U, sp, b, rfl, _⟩ := h
    rfl
  obtain ⟨A, g, S, U, sp, b, rfl, R, dj, eb, b0, b1, hU, l1, q⟩ := h
  have nd := sc_found_by.nd
  refine ⟨_, (pss_cons (ps_asg (pe_methN M_Stairs_read hr.m T.cl_Stairs (pv 0) (pc (pv 1) pa_nil)) (pg_tupK (K := K) (n := 2) rfl rfl (pgs_cons (pgn 2 nd) (pgs_cons (pgn 3 nd) pgs_nil))))
      (pss_cons (ps_asg (pe_ix (ix_listK (K := K) rfl) (pv 3) pe_int (fun _ _ => rfl)) (pg_tupK (K := K) (n := 2) rfl rfl (pgs_cons (pgn 4 nd) (pgs_cons (pgn 5 nd) pgs_nil))))
      (pss_one (ps_ret (pv 5))))), ?_⟩
  obtain ⟨dx, h1⟩ := R.ob
  refine ⟨_, rfl, A.p, dx, _, rfl, h1, tf_no .., _, rfl, A, g, S, U, sp, b, rfl, R, dj, eb, b0, b1, hU, l1, fun H1 tp t e' ys etp eev et R1 d1 _ he f1 => ⟨tp, _, rfl, SqT.of etp, rfl, _, _, rfl, gN ⟨_, _, rfl, gN ⟨rfl, ?_⟩⟩⟩⟩
  try dsimp only
  refine ⟨_, rfl, A.ev, _, _, _, rfl, rfl, SqL.of eev, atI0, t, _, rfl, SqT.of et, rfl, _, _, rfl, gN ⟨_, _, rfl, gN ⟨rfl, ?_⟩⟩⟩
  exact ⟨_, rfl, q H1 e' R1 d1 he f1⟩
def spFounds (K : PySem.W.Frag) : Sp := fun vs H Q _ => ∃ (pp tp l : Addr) (g : Pln) (ts : List Addr) (row : List Int), vs = [.ref pp, .ref l] ∧ H pp = some (.tup [.int g.size, .str g.kind, .ref tp]) ∧ PlanAt K H tp ts g.cfs ∧ 1 ≤ g.size ∧ g.size ≤ 1000 ∧ 1 ≤ g.cfs.length ∧ g.cfs.length ≤ 4 ∧ Tb K H ∧ H l = some (.lst (row.map V.int)) ∧ row.length ≤ 500 ∧ (∀ b ∈ row, 0 ≤ b ∧ b ≤ 1000000) ∧
  ∀ r H', H r = none → Same H H' → H' r = some (.lst (natsV (foundsF g (emptyS g) row))) → Q (.ref r) H'
theorem disj_empty (n : Nat) : Disj (List.replicate n (([], fun _ => 0) : RS)) := fun i j s t _ _ hs _ _ x hx => by
  have e := (List.mem_replicate.mp (List.mem_of_getElem? hs)).2
  rw [e] at hx
  exact absurd hx (by simp)
theorem ok_founds {f : Addr} {fd : FuncData} (F : Fun K "founds" "founds" s_founds f fd) (T : Txt K mg) (K_Stairs : KDef P w K mg base (clsOf K "Stairs") "Stairs" 6 P_Stairs_init (spStairs K)) (D_found_by : Def P w K mg base "found_by" 16 P_found_by (spFoundBy K)) (D_spots_of : Def P w K mg base "spots_of" 1 P_spots_of spSpots) : FnOk P w K mg base CX0 17 f fd P_founds (spFounds K) := by
  refine F.ok sc_founds (fun vs H Q E h => ?_) (fun cdv A outer st H vs Q E hr h => ?_)
  · obtain ⟨pp, tp, l, g, ts, row, rfl, _⟩ := h
    rfl
  obtain ⟨pp, tp, l, g, ts, row, rfl, hpp, pa, z0, z1, l1, l4, tb, hl, hrl, hrb, q⟩ := h
  have nd := sc_founds.nd
  refine ⟨_, (pss_cons (ps_asg (pv 0) (pg_tupK (K := K) (n := 3) rfl rfl (pgs_cons (pgn 2 nd) (pgs_cons (pgn 3 nd) (pgs_cons (pgn 4 nd) pgs_nil)))))
      (pss_cons (pst 5 nd (pe_makeN K_Stairs hr.m rfl (pc (pv 0) pa_nil)))
      (pss_one (ps_ret (pe_comp0 (compOk_of (osc := (defScope s_founds)) (oN := N_founds) (N := ["board", "stairs", "size"]) (own := 1) (js := [5, 2]) (by decide +kernel) rfl rfl) rfl (pi_listK (K := K) rfl (pv 1)) (fun _ _ _ _ _ _ => (pgn 0 (show List.Nodup (["board", "stairs", "size"] : List Str) by decide +kernel))) (fun _ _ _ _ _ _ => (pe_defN D_found_by hr.m rfl (pc (pv 1) (pc (pe_ix (ix_listK (K := K) rfl) (pe_defN D_spots_of hr.m rfl (pc (pv 2) (pc (pv 0) pa_nil))) pe_int (fun _ _ => rfl)) pa_nil))))))))), ?_⟩
  refine ⟨_, rfl, pp, _, rfl, SqT.of hpp, rfl, _, _, rfl, gN ⟨_, _, rfl, gN ⟨_, _, rfl, gN ⟨rfl, ?_⟩⟩⟩⟩
  try dsimp only
  have sb : ∀ {p dx : Addr} {o1 o2 : HO}, H p = none → H dx = none → ∀ {x o}, H x = some o → upd (upd H dx o1) p o2 x = some o := fun {p dx o1 o2} hp hdx {x o} e => by rw [upd_ne (ne_of_none e hp), upd_ne (ne_of_none e hdx)]; exact e
  refine ⟨_, rfl, fun p dx hp hdx npd => ⟨p, dx, pp, tp, g.size, g.kind, ts, g.cfs, rfl, upd_same, sb hp hdx hpp, ⟨sb hp hdx pa.top, pa.len, fun i t c h1 h2 => by obtain ⟨wr, e1, e2⟩ := pa.at_ i t c h1 h2; exact ⟨wr, sb hp hdx e1, e2⟩, pa.cf⟩, z0, z1, l4, sb hp hdx tb, fun A H1 ep el RS f1 k1 => ⟨rfl, gN ?_⟩⟩⟩
  try dsimp only
  have s1 : Same H H1 := fun x o e => k1 x o (sb hp hdx e) (ne_of_none e hp)
  have ff : ∀ x, Foot A x → H x = none := fun x hx => by
    by_cases z : x = p
    · rw [z]; exact hp
    · cases e : H x with
      | none => rfl
      | some o => have q' := f1 x hx z; rw [sb hp hdx e] at q'; cases q'
  have R0 := RS row (by omega)
  refine ⟨_, rfl, l, rfl, ⟨_, SqL.of (s1 _ _ hl)⟩, fun r hr => ?_⟩
  have nr : ¬ Foot A r := fun z => R0.foot z hr
  have s2 := same_upd hr (.lst [])
  refine comp_list (K := K) (a := l) (xs := row.map V.int) (l := r) (fun i ys σ G => ∃ v0 : Option V, σ = [v0, some (.ref p), some (.int g.size)] ∧ ys = natsV (foundsF g (emptyS g) (row.take i)) ∧ G r = some (.lst ys) ∧ Since K H G p g (stF g (emptyS g) (row.take i)) row r)
    ⟨none, rfl, rfl, upd_same, ⟨{ A with out := r :: A.out }, ep, el, R0.alloc [] hr, ff, nr, List.mem_cons_self⟩, fun _ => disj_empty _, s1.trans s2⟩ (fun i ys σ G _ ⟨_, _, _, _, sc⟩ => SqL.of (sc.same _ _ hl)) ?_ ?_
  · rintro i x ys σ G hi hxi hys ⟨v0, rfl, rfl, g1, sc⟩
    obtain ⟨b, eb, rfl⟩ := ints_at hxi
    have mb := List.mem_of_getElem? eb
    obtain ⟨b0, b1⟩ := hrb b mb
    obtain ⟨A', ep', el', R', ff', nr', ho'⟩ := sc.ex
    obtain ⟨m0, m1⟩ := mul_bd b0 b1 (by omega : 0 < g.size) z1
    have at0 : atI (spots g.size b) 0 = some (.int (b * g.size)) := by
      have : (spots g.size b)[0]? = some (.int (b * g.size)) := by
        unfold spots
        rw [List.getElem?_map, List.getElem?_range (by omega)]
        show some (V.int (b * g.size + ((0 : Nat) : Int))) = _
        rw [show b * g.size + ((0 : Nat) : Int) = b * g.size by omega]
      exact atI_nat (j := 0) this
    refine ⟨_, rfl, _, rfl, _, rfl, g.size, b, rfl, by omega, z1, b0, b1, fun rs G1 hrs s3 ers => ⟨rs, _, _, _, rfl, rfl, SqL.of ers, at0, ?_⟩⟩
    have ed : b * g.size / g.size = b := Int.mul_ediv_cancel b (by omega)
    have R1 := R'.same s3
    refine ⟨A', g, _, row, b * g.size, b, by rw [ep']; rfl, R1, sc.dj, ed, b0, b1, mb, by omega, fun G2 e' R2 d2 he f2 => ?_⟩
    have g1' := s3 _ _ g1
    have nx : (Since K H G2 p g (fetS g (stF g (emptyS g) (row.take i)) b) row r) := Since.next (sc.same.trans s3) R1 ep' el' ff' nr' ⟨_, g1'⟩ ho' R2 d2 he f2
    have g2 := f2 _ _ g1' nr'
    have tk : row.take (i + 1) = row.take i ++ [b] := by rw [List.take_succ, eb]; rfl
    refine CNx.of (Nat.le_of_lt (small1000 (by rw [List.length_map]; omega))) hi hys g2 ⟨_, rfl, by rw [tk, foundsF_app, natsV_app], upd_same, ?_⟩
    rw [tk, stF_app]
    obtain ⟨A2, ep2, el2, R3, ff2, nr2, ho2⟩ := nx.ex
    exact ⟨⟨A2, ep2, el2, R3.outp ho2 _, ff2, nr2, ho2⟩, nx.dj, fun x o e => by rw [upd_ne (fun z : x = r => by rw [z, s1.free hr] at e; cases e)]; exact nx.same x o e⟩
  · rintro ys σ G _ ⟨v0, rfl, rfl, g1, sc⟩
    rw [List.length_map, List.take_length] at g1
    exact q r G (s1.free hr) sc.same g1
def missF (n : Nat) (fs : List Nat) : List Nat := (List.range n).map fun k => (fs.filter fun x => decide (k < x)).length
def spMissed (K : PySem.W.Frag) : Sp := fun vs H Q _ => ∃ (pp tp l : Addr) (g : Pln) (ts : List Addr) (row : List Int), vs = [.ref pp, .ref l] ∧ H pp = some (.tup [.int g.size, .str g.kind, .ref tp]) ∧ PlanAt K H tp ts g.cfs ∧ 1 ≤ g.size ∧ g.size ≤ 1000 ∧ 1 ≤ g.cfs.length ∧ g.cfs.length ≤ 4 ∧ Tb K H ∧ H l = some (.lst (row.map V.int)) ∧ row.length ≤ 500 ∧ (∀ b ∈ row, 0 ≤ b ∧ b ≤ 1000000) ∧
  ∀ r H', H r = none → Same H H' → H' r = some (.lst (natsV (missF g.cfs.length (foundsF g (emptyS g) row)))) → Q (.ref r) H'
theorem filt_take {p : Nat → Bool} {fs : List Nat} {i x : Nat} (h : fs[i]? = some x) : (fs.take (i + 1)).filter p = if p x = true then (fs.take i).filter p ++ [x] else (fs.take i).filter p := by
  rw [List.take_succ, h, List.filter_append]
  show _ ++ List.filter p [x] = _
  rw [List.filter_cons, List.filter_nil]
  split <;> simp
theorem ok_missed_by_stair {f : Addr} {fd : FuncData} (F : Fun K "missed_by_stair" "missed_by_stair" s_missed_by_stair f fd) (T : Txt K mg) (D_founds : Def P w K mg base "founds" 17 P_founds (spFounds K)) : FnOk P w K mg base CX0 18 f fd P_missed_by_stair (spMissed K) := by
  refine F.ok sc_missed_by_stair (fun vs H Q E h => ?_) (fun cdv A outer st H vs Q E hr h => ?_)
  · obtain ⟨pp, tp, l, g, ts, row, rfl, _⟩ := h
    rfl
  obtain ⟨pp, tp, l, g, ts, row, rfl, hpp, pa, z0, z1, l1, l4, tb, hl, hrl, hrb, q⟩ := h
  have nd := sc_missed_by_stair.nd
  refine ⟨_, (pss_cons (ps_asg (pv 0) (pg_tupK (K := K) (n := 3) rfl rfl (pgs_cons (pgn 2 nd) (pgs_cons (pgn 3 nd) (pgs_cons (pgn 4 nd) pgs_nil)))))
      (pss_cons (pst 5 nd (pe_defN D_founds hr.m rfl (pc (pv 0) (pc (pv 1) pa_nil))))
      (pss_one (ps_ret (pe_comp0 (compOk_of (osc := (defScope s_missed_by_stair)) (oN := N_missed_by_stair) (N := ["k", "told"]) (own := 1) (js := [5]) (by decide +kernel) rfl rfl) rfl (pi_range1 rfl T.z_range (pc (pe_callBN (call_len_seqK (K := K) rfl) rfl T.z_len PySem.boot_len (pc (pv 4) pa_nil)) pa_nil)) (fun _ _ _ _ _ _ => (pgn 0 (show List.Nodup (["k", "told"] : List Str) by decide +kernel))) (fun _ _ _ _ _ _ => (pe_callBN (call_len_seqK (K := K) rfl) rfl T.z_len PySem.boot_len (pc (pe_comp1 (compOk_in (osc := (defScope s_missed_by_stair)) (oN := ["k", "told"]) (N := ["found", "k"]) (own := 1) (js := [0]) rfl rfl rfl (by decide +kernel)) rfl (pi_listK (K := K) rfl (pv 1)) (fun _ _ _ _ _ _ => (pgn 0 (show List.Nodup (["found", "k"] : List Str) by decide +kernel))) (fun _ _ _ _ _ _ => (pt_cmpR op_gt (pv 0) (pv 1) (nomark _))) (fun _ _ _ _ _ _ => (pv 0))) pa_nil)))))))), ?_⟩
  refine ⟨_, rfl, pp, _, rfl, SqT.of hpp, rfl, _, _, rfl, gN ⟨_, _, rfl, gN ⟨_, _, rfl, gN ⟨rfl, ?_⟩⟩⟩⟩
  try dsimp only
  refine ⟨_, rfl, _, rfl, pp, tp, l, g, ts, row, rfl, hpp, pa, z0, z1, l1, l4, tb, hl, hrl, hrb, fun rf H1 hrf s1 ef => gN ?_⟩
  try dsimp only
  have fl : (foundsF g (emptyS g) row).length = row.length := foundsF_len ..
  generalize foundsF g (emptyS g) row = fs at *
  have lt : (ts.map V.ref).length = g.cfs.length := by rw [List.length_map, pa.len]
  refine ⟨_, rfl, tp, _, rfl, .inr (SqT.of (s1 _ _ pa.top)), _, rfl, by rw [lt]; omega, by rw [lt]; omega, fun r hr => ?_⟩
  rw [lt]
  refine comp_range (lo := 0) (n := (g.cfs.length : Int).toNat) (l := r) (fun i ys σ G => ∃ v0 : Option V, σ = [v0, some (.ref rf)] ∧ ys = natsV ((List.range i).map fun k => (fs.filter fun x => decide (k < x)).length) ∧ G r = some (.lst ys) ∧ Same H1 G) ⟨none, rfl, rfl, upd_same, same_upd hr _⟩ ?_ ?_
  · rintro i ys σ G hi hys ⟨v0, rfl, rfl, g1, s2⟩
    have erf := s2 _ _ ef
    refine ⟨_, rfl, rf, rfl, ⟨_, SqL.of erf⟩, fun r2 hr2 => ?_⟩
    refine comp_list (K := K) (a := rf) (xs := natsV fs) (l := r2) (fun j zs σ' G' => ∃ v1 : Option V, σ' = [v1, some (.int (0 + (i : Int)))] ∧ zs = natsV ((fs.take j).filter fun x => decide (i < x)) ∧ G' = upd G r2 (.lst zs)) ⟨none, rfl, rfl, rfl⟩ (fun j zs σ' G' _ ⟨_, _, _, e⟩ => SqL.of (by rw [e, upd_ne (ne_of_none erf hr2)]; exact erf)) ?_ ?_
    · rintro j x zs σ' G' hj hxj hzs ⟨v1, rfl, rfl, rfl⟩
      obtain ⟨n, en, rfl⟩ : ∃ n, fs[j]? = some n ∧ V.int (n : Int) = x := by
        unfold natsV at hxj
        rw [List.getElem?_map] at hxj
        cases e : fs[j]? with
        | none => rw [e] at hxj; cases hxj
        | some n => rw [e] at hxj; exact ⟨n, rfl, Option.some.inj hxj⟩
      refine ⟨_, rfl, _, rfl, _, _, rfl, rfl, _, rfl, ?_⟩
      by_cases c : i < n
      · refine ifT (decide_eq_true (by omega)) ⟨_, rfl, CNx.of (Nat.le_of_lt (small1000 (by rw [natsV_len]; omega))) hj hzs upd_same ⟨_, rfl, ?_, upd_upd⟩⟩
        rw [filt_take en, if_pos (decide_eq_true c), natsV_app]
      · refine ifF (decide_eq_false (by omega)) (CNo.of hj hzs ⟨_, rfl, ?_, rfl⟩)
        rw [filt_take en, if_neg (by simpa using c)]
    · rintro zs σ' G' _ ⟨v1, rfl, rfl, rfl⟩
      rw [natsV_len, List.take_length]
      refine ⟨r2, _, rfl, .inl (SqL.of upd_same), ?_⟩
      rw [natsV_len]
      refine CNx.of (Nat.le_trans (by omega : (g.cfs.length : Int).toNat ≤ 4) (by decide)) hi hys (by rw [upd_ne (ne_of_none g1 hr2)]; exact g1) ⟨_, rfl, by rw [List.range_succ, List.map_append]; exact (natsV_app _ _).symm, upd_same, fun x o e => ?_⟩
      rw [upd_ne (ne_of_none e hr), upd_ne (ne_of_none (s2 _ _ e) hr2)]
      exact s2 _ _ e
  · rintro ys σ G _ ⟨v0, rfl, rfl, g1, s2⟩
    exact q r G (s1.free hr) (s1.trans s2) g1
end
section
variable {P : Program} {w : World} {K : PySem.W.Frag} {mg : Str → Option Value} {base : Heap}
theorem pick2s (x y : Str) (r : Int) (h0 : 0 ≤ r) (h1 : r < 2) : ∃ z : Str, atI [V.str x, V.str y] r = some (.str z) := by
  have h : r = 0 ∨ r = 1 := by omega
  rcases h with rfl | rfl
  · exact ⟨x, atI0⟩
  · exact ⟨y, atI1⟩
def spPlan : Sp := fun vs H Q _ => ∃ (b : Addr) (a q c : Int), vs = [.ref b] ∧ BoxAt H b a q c ∧ c < 400000000 ∧
  ∀ (p : Addr) (sh pl : Int) (r wr : Str) (a' c' : Int) (H' : Hp), H' p = some (.tup [.int sh, .int pl, .str r, .str wr]) → 1 ≤ sh → sh ≤ 64 → 1 ≤ pl → pl ≤ 16 → Rule r → BoxAt H' b a' q c' → c' ≤ c + 6 → SB b H H' → Q (.ref p) H'
theorem ok_room_plan {f : Addr} {fd : FuncData} (F : Fun K "_law_room_plan" "_law_room_plan" s_room_plan f fd) (T : Txt K mg) (D_take : Def P w K mg base "_law_take" 1 P_take spTake) : FnOk P w K mg base CX0 2 f fd P_room_plan spPlan := by
  refine F.ok sc_room_plan (fun vs H Q E h => ?_) (fun cdv A outer st H vs Q E hr h => ?_)
  · obtain ⟨b, a, q, c, rfl, _⟩ := h
    rfl
  obtain ⟨b, a, q, c, rfl, B, hc, k⟩ := h
  have nd := sc_room_plan.nd
  refine ⟨_, (pss_cons (pst 1 nd (pe_cmpR op_eq (pe_defN D_take hr.m rfl (pc (pv 0) (pc pe_int pa_nil))) pe_int (nomark _)))
      (pss_cons (pst 2 nd (pe_ifExp (pt_val (pv 1)) (pe_op op_add pe_int (pe_defN D_take hr.m rfl (pc (pv 0) (pc pe_int pa_nil)))) (pe_ix (ix_listK (K := K) rfl) (pe_lst (pc pe_int (pc pe_int (pc pe_int (pc pe_int (pc pe_int pa_nil)))))) (pe_defN D_take hr.m rfl (pc (pv 0) (pc pe_int pa_nil))) (fun _ _ => rfl))))
      (pss_cons (pst 3 nd (pe_op op_add pe_int (pe_defN D_take hr.m rfl (pc (pv 0) (pc (pe_ifExp (pt_val (pv 1)) pe_int pe_int) pa_nil)))))
      (pss_cons (pst 4 nd (pe_ix (ix_listK (K := K) rfl) (pe_lst (pc pe_str (pc pe_str (pc pe_str pa_nil)))) (pe_defN D_take hr.m rfl (pc (pv 0) (pc pe_int pa_nil))) (fun _ _ => rfl)))
      (pss_one (ps_ret (pe_tup (pc (pv 2) (pc (pv 3) (pc (pv 4) (pc (pe_ix (ix_listK (K := K) rfl) (pe_lst (pc pe_str (pc pe_str pa_nil))) (pe_defN D_take hr.m rfl (pc (pv 0) (pc pe_int pa_nil))) (fun _ _ => rfl)) pa_nil))))))))))), ?_⟩
  refine ⟨_, rfl, b, a, q, c, 6, rfl, B, by omega, by decide, by decide, fun r1 a1 c1 H1 r10 r11 B1 hc1 s1 => ⟨rfl, ?_⟩⟩
  generalize decide (V.int r1 = V.int 0) = far
  try dsimp only
  refine cpA (fun v G => ∃ z a' c', v = .int z ∧ 1 ≤ z ∧ z ≤ 64 ∧ BoxAt G b a' q c' ∧ c' ≤ c1 + 1 ∧ SB b H G) (fun Q' k' => ?_) ?_
  · refine ⟨_, rfl, _, rfl, ?_⟩
    cases far with
    | true => exact ifT rfl ⟨_, rfl, b, a1, q, c1, 64, rfl, B1, by omega, by decide, by decide, fun r2 a2 c2 H2 r20 r21 B2 hc2 s2 => ⟨_, _, rfl, rfl, k' _ _ ⟨_, a2, c2, rfl, by omega, by omega, B2, by omega, s1.trans s2⟩⟩⟩
    | false =>
      refine ifF rfl ⟨(by show 5 ≤ sizeLine; decide), fun p0 hp0 => ⟨_, rfl, b, a1, q, c1, 5, rfl, B1.same (same_upd hp0 _), by omega, by decide, by decide, fun r2 a2 c2 H2 r20 r21 B2 hc2 s2 => ?_⟩⟩
      have q0 : b ≠ p0 := ne_of_none B1.at' hp0
      obtain ⟨sh, hsh, sh0, sh1⟩ := pick5 r2 r20 r21
      exact ⟨p0, _, _, _, rfl, rfl, SqL.of (s2 _ _ (Ne.symm q0) upd_same), hsh, k' _ _ ⟨_, a2, c2, rfl, sh0, sh1, B2, by omega, s1.trans (((same_upd hp0 _).sb b).trans s2)⟩⟩
  rintro _ H2 ⟨sh, a2, c2, rfl, sh0, sh1, B2, hc2, u2⟩
  refine gN ?_
  try dsimp only
  refine cpA (fun v G => ∃ z a' c', v = .int z ∧ 1 ≤ z ∧ z ≤ 16 ∧ BoxAt G b a' q c' ∧ c' ≤ c2 + 1 ∧ SB b H G) (fun Q' k' => ?_) ?_
  · refine ⟨_, rfl, _, rfl, _, rfl, ?_⟩
    cases far with
    | true => exact ifT rfl ⟨b, a2, q, c2, 16, rfl, B2, by omega, by decide, by decide, fun r3 a3 c3 H3 r30 r31 B3 hc3 s3 => ⟨_, _, rfl, rfl, k' _ _ ⟨_, a3, c3, rfl, by omega, by omega, B3, by omega, u2.trans s3⟩⟩⟩
    | false => exact ifF rfl ⟨b, a2, q, c2, 4, rfl, B2, by omega, by decide, by decide, fun r3 a3 c3 H3 r30 r31 B3 hc3 s3 => ⟨_, _, rfl, rfl, k' _ _ ⟨_, a3, c3, rfl, by omega, by omega, B3, by omega, u2.trans s3⟩⟩⟩
  rintro _ H3 ⟨pl, a3, c3, rfl, pl0, pl1, B3, hc3, u3⟩
  refine gN ?_
  try dsimp only
  refine ⟨(by show 3 ≤ sizeLine; decide), fun p3 hp3 => ⟨_, rfl, b, a3, q, c3, 3, rfl, B3.same (same_upd hp3 _), by omega, by decide, by decide, fun r4 a4 c4 H4 r40 r41 B4 hc4 s4 => ?_⟩⟩
  have q3 : b ≠ p3 := ne_of_none B3.at' hp3
  obtain ⟨ru, hru, iru⟩ := pickR r4 r40 r41
  refine ⟨p3, _, _, _, rfl, rfl, SqL.of (s4 _ _ (Ne.symm q3) upd_same), hru, ?_⟩
  have u4 : SB b H H4 := u3.trans (((same_upd hp3 _).sb b).trans s4)
  refine ⟨_, rfl, _, rfl, _, rfl, (by show 2 ≤ sizeLine; decide), fun p5 hp5 => ⟨_, rfl, b, a4, q, c4, 2, rfl, B4.same (same_upd hp5 _), by omega, by decide, by decide, fun r5 a5 c5 H5 r50 r51 B5 hc5 s5 => ?_⟩⟩
  have q5 : b ≠ p5 := ne_of_none B4.at' hp5
  obtain ⟨wr, hwr⟩ := pick2s "late" "through" r5 r50 r51
  refine ⟨p5, _, _, _, rfl, rfl, SqL.of (s5 _ _ (Ne.symm q5) upd_same), hwr, (by show 4 ≤ sizeLine; decide), fun pp hpp => ?_⟩
  exact k pp sh pl ru wr a5 c5 _ upd_same sh0 sh1 pl0 pl1 iru (B5.same (same_upd hpp _)) (by omega)
    ((u4.trans (((same_upd hp5 _).sb b).trans s5)).trans ((same_upd hpp _).sb b))
end
theorem pick3k (r : Int) (h0 : 0 ≤ r) (h1 : r < 3) : ∃ z : Str, atI [V.str "within", V.str "apart", V.str "free"] r = some (.str z) := by
  have h : r = 0 ∨ r = 1 ∨ r = 2 := by omega
  rcases h with rfl | rfl | rfl
  · exact ⟨_, atI0⟩
  · exact ⟨_, atI1⟩
  · exact ⟨_, atI2⟩
theorem PlanAt.sb {K : PySem.W.Frag} {H H' : Hp} {tp b : Addr} {ts : List Addr} {cfs : List Cf} {a q c : Int} (p : PlanAt K H tp ts cfs) (B : BoxAt H b a q c) (s : SB b H H') : PlanAt K H' tp ts cfs := by
  have ne : ∀ {x xs}, H x = some (.tup xs) → x ≠ b := fun {x xs} e z => by rw [z, B.at'] at e; cases e
  exact ⟨s _ _ (ne p.top) p.top, p.len, fun i t c h1 h2 => by obtain ⟨wr, e1, e2⟩ := p.at_ i t c h1 h2; exact ⟨wr, s _ _ (ne e1) e1, e2⟩, p.cf⟩
section
variable {P : Program} {w : World} {K : PySem.W.Frag} {mg : Str → Option Value} {base : Heap}
def spPlanL (K : PySem.W.Frag) : Sp := fun vs H Q _ => ∃ (b : Addr) (a q c : Int), vs = [.ref b] ∧ BoxAt H b a q c ∧ c < 300000000 ∧
  ∀ (pp tp : Addr) (ts : List Addr) (g : Pln) (a' c' : Int) (H' : Hp), H' pp = some (.tup [.int g.size, .str g.kind, .ref tp]) → PlanAt K H' tp ts g.cfs → 1 ≤ g.size → g.size ≤ 16 → 1 ≤ g.cfs.length → g.cfs.length ≤ 4 → BoxAt H' b a' q c' → c' ≤ c + 40 → SB b H H' → Q (.ref pp) H'
theorem ok_plan {f : Addr} {fd : FuncData} (F : Fun K "_law_plan" "_law_plan" s_plan f fd) (T : Txt K mg) (D_take : Def P w K mg base "_law_take" 1 P_take spTake) (D_room_plan : Def P w K mg base "_law_room_plan" 2 P_room_plan spPlan) : FnOk P w K mg base CX0 3 f fd P_plan (spPlanL K) := by
  refine F.ok sc_plan (fun vs H Q E h => ?_) (fun cdv A outer st H vs Q E hr h => ?_)
  · obtain ⟨b, a, q, c, rfl, _⟩ := h
    rfl
  obtain ⟨b, a, q, c, rfl, B, hc, k⟩ := h
  have nd := sc_plan.nd
  refine ⟨_, (pss_cons (pst 1 nd (pe_ix (ix_listK (K := K) rfl) (pe_lst (pc pe_str (pc pe_str (pc pe_str pa_nil)))) (pe_defN D_take hr.m rfl (pc (pv 0) (pc pe_int pa_nil))) (fun _ _ => rfl)))
      (pss_cons (pst 2 nd (pe_op op_add pe_int (pe_defN D_take hr.m rfl (pc (pv 0) (pc (pe_ix (ix_listK (K := K) rfl) (pe_lst (pc pe_int (pc pe_int pa_nil))) (pe_callTyN call_int1 rfl T.z_int boot_intT (pc (pe_cmpR op_eq (pe_defN D_take hr.m rfl (pc (pv 0) (pc pe_int pa_nil))) pe_int (nomark _)) pa_nil)) (fun _ _ => rfl)) pa_nil)))))
      (pss_one (ps_ret (pe_tup (pc (pv 2) (pc (pv 1) (pc (pe_callTyN (call_tuple_ofK (K := K) rfl) rfl T.z_tuple boot_tupleT (pc (pe_comp0 (compOk_of (osc := (defScope s_plan)) (oN := N_plan) (N := ["_law_k", "_law_box_here"]) (own := 1) (js := [0]) (by decide +kernel) rfl rfl) rfl (pi_range1 rfl T.z_range (pc (pe_op op_add pe_int (pe_defN D_take hr.m rfl (pc (pv 0) (pc pe_int pa_nil)))) pa_nil)) (fun _ _ _ _ _ _ => (pgn 0 (show List.Nodup (["_law_k", "_law_box_here"] : List Str) by decide +kernel))) (fun _ _ _ _ _ _ => (pe_defN D_room_plan hr.m rfl (pc (pv 1) pa_nil)))) pa_nil)) pa_nil)))))))), ?_⟩
  refine ⟨(by show 3 ≤ sizeLine; decide), fun p1 hp1 => ⟨_, rfl, b, a, q, c, 3, rfl, B.same (same_upd hp1 _), by omega, by decide, by decide, fun r1 a1 c1 H1 r10 r11 B1 hc1 s1 => ?_⟩⟩
  have q1 : b ≠ p1 := ne_of_none B.at' hp1
  obtain ⟨kd, hkd⟩ := pick3k r1 r10 r11
  refine ⟨p1, _, _, _, rfl, rfl, SqL.of (s1 _ _ (Ne.symm q1) upd_same), hkd, gN ?_⟩
  try dsimp only
  have u1 : SB b H H1 := ((same_upd hp1 _).sb b).trans s1
  refine ⟨_, rfl, (by show 2 ≤ sizeLine; decide), fun p2 hp2 => ⟨_, rfl, b, a1, q, c1, 8, rfl, B1.same (same_upd hp2 _), by omega, by decide, by decide, fun r2 a2 c2 H2 r20 r21 B2 hc2 s2 => ⟨rfl, .inr ⟨_, rfl, ?_⟩⟩⟩⟩
  have q2 : b ≠ p2 := ne_of_none B1.at' hp2
  obtain ⟨n, hn, hn'⟩ := pick01 4 16 (decide (V.int r2 = V.int 0))
  refine ⟨p2, _, _, _, rfl, rfl, SqL.of (s2 _ _ (Ne.symm q2) upd_same), hn, b, a2, q, c2, n, rfl, B2, by omega, by omega, by omega, fun r3 a3 c3 H3 r30 r31 B3 hc3 s3 => ⟨_, _, rfl, rfl, gN ?_⟩⟩
  try dsimp only
  have u3 : SB b H H3 := (((u1.trans ((same_upd hp2 _).sb b)).trans s2)).trans s3
  refine ⟨_, rfl, _, rfl, _, rfl, b, a3, q, c3, 4, rfl, B3, by omega, by decide, by decide, fun r4 a4 c4 H4 r40 r41 B4 hc4 s4 => ⟨_, _, rfl, rfl, _, rfl, by omega, by omega, fun l hl => ?_⟩⟩
  have nlb : l ≠ b := Ne.symm (ne_of_none B4.at' hl)
  have u4 := u3.trans s4
  refine comp_range (lo := 0) (n := (1 + r4).toNat) (l := l) (fun j ys σ G => ∃ (v0 : Option V) (ts : List Addr) (cfs : List Cf) (a' c' : Int), σ = [v0, some (.ref b)] ∧ ys = ts.map V.ref ∧ ts.length = j ∧ cfs.length = j ∧ (∀ (i : Nat) (t : Addr) (c : Cf), ts[i]? = some t → cfs[i]? = some c → ∃ wr : Str, G t = some (.tup [.int c.sh, .int c.pl, .str c.ru, .str wr]) ∧ c.late = decide (wr = "late")) ∧ (∀ c ∈ cfs, 1 ≤ c.sh ∧ c.sh ≤ 64 ∧ 1 ≤ c.pl ∧ c.pl ≤ 16) ∧ G l = some (.lst ys) ∧ BoxAt G b a' q c' ∧ c' ≤ c4 + 6 * (j : Int) ∧ SB b H G)
    ⟨none, [], [], a4, c4, rfl, rfl, rfl, rfl, (fun i t c h => by simp at h), (fun c h => by simp at h), upd_same, B4.same (same_upd hl _), by omega, u4.trans ((same_upd hl _).sb b)⟩ ?_ ?_
  · rintro j ys σ G hj hys ⟨v0, ts, cfs, a', c', rfl, rfl, hl1, hl2, hat, hcf, g1, B', hc', u'⟩
    refine ⟨_, rfl, b, a', q, c', rfl, B', by omega, fun p sh pl r wr a5 c5 G5 ep sh0 sh1 pl0 pl1 hr B5 hc5 s5 => ?_⟩
    have g5 := s5 _ _ nlb g1
    have npl : p ≠ l := fun z => by rw [z, g5] at ep; cases ep
    refine CNx.of (Nat.le_trans (by omega : (1 + r4).toNat ≤ 4) (by decide)) hj hys g5 ⟨_, ts ++ [p], cfs ++ [⟨sh, pl, r, decide (wr = "late")⟩], a5, c5, rfl, by rw [List.map_append]; rfl, by rw [List.length_append, hl1]; rfl, by rw [List.length_append, hl2]; rfl, fun i t c h1 h2 => ?_, fun c hc => ?_, upd_same, B5.sb (sb_upd l _ _) (Ne.symm nlb), by omega, fun x o nx e => ?_⟩
    · by_cases hi : i < j
      · rw [List.getElem?_append_left (by omega)] at h1 h2
        obtain ⟨wr', e1, e2⟩ := hat i t c h1 h2
        refine ⟨wr', ?_, e2⟩
        have ntb : t ≠ b := fun z => by rw [z, B'.at'] at e1; cases e1
        have e1' := s5 _ _ ntb e1
        rw [upd_ne (fun z => by rw [z, g5] at e1'; cases e1')]
        exact e1'
      · have hi2 : i = j := by have := (List.getElem?_eq_some_iff.mp h1).1; rw [List.length_append, List.length_singleton] at this; omega
        subst hi2
        rw [List.getElem?_append_right (by omega), show i - ts.length = 0 by omega] at h1
        rw [List.getElem?_append_right (by omega), show i - cfs.length = 0 by omega] at h2
        cases h1; cases h2
        exact ⟨wr, by rw [upd_ne npl]; exact ep, rfl⟩
    · rcases List.mem_append.mp hc with hc | hc
      · exact hcf c hc
      · rw [List.mem_singleton.mp hc]; exact ⟨sh0, sh1, pl0, pl1⟩
    · have nx2 : x ≠ l := fun z => by
        rw [z] at e
        have := u4 _ _ nlb e
        rw [this] at hl; cases hl
      rw [upd_ne nx2]
      exact s5 _ _ nx (u' _ _ nx e)
  rintro ys σ G _ ⟨v0, ts, cfs, a', c', rfl, rfl, hl1, hl2, hat, hcf, g1, B', hc', u'⟩
  refine ⟨l, _, rfl, .inl ⟨SqL.of g1, fun tp htp => ⟨(by show 3 ≤ sizeLine; decide), fun pp hpp => ?_⟩⟩⟩
  have s5 := same_upd htp (.tup (ts.map V.ref))
  have s6 := s5.trans (same_upd hpp (.tup [.int (1 + r3), .str kd, .ref tp]))
  refine k pp tp ts ⟨1 + r3, kd, cfs⟩ a' c' _ upd_same ⟨same_upd hpp _ _ _ upd_same, by show ts.length = cfs.length; omega, fun i t c h1 h2 => by obtain ⟨wr, e1, e2⟩ := hat i t c h1 h2; exact ⟨wr, s6 _ _ e1, e2⟩, hcf⟩ (by show 1 ≤ 1 + r3; omega) (by show 1 + r3 ≤ 16; omega) (by show 1 ≤ cfs.length; omega) (by show cfs.length ≤ 4; omega) (B'.same s6) (by omega) (u'.trans (s6.sb b))
def spMany : Sp := fun vs H Q _ => ∃ (b : Addr) (a q c fw mt : Int), vs = [.ref b, .int fw, .int mt] ∧ BoxAt H b a q c ∧ c < 400000000 ∧ 1 ≤ fw ∧ fw ≤ mt ∧ mt ≤ 1000 ∧
  ∀ (r a' c' : Int) (H' : Hp), 1 ≤ r → r ≤ mt → BoxAt H' b a' q c' → c' ≤ c + 2 → SB b H H' → Q (.int r) H'
theorem ok_many {f : Addr} {fd : FuncData} (F : Fun K "_law_many" "_law_many" s_many f fd) (T : Txt K mg) (D_take : Def P w K mg base "_law_take" 1 P_take spTake) : FnOk P w K mg base CX0 2 f fd P_many spMany := by
  refine F.ok sc_many (fun vs H Q E h => ?_) (fun cdv A outer st H vs Q E hr h => ?_)
  · obtain ⟨b, a, q, c, fw, mt, rfl, _⟩ := h
    rfl
  obtain ⟨b, a, q, c, fw, mt, rfl, B, hc, f1, f2, m1, k⟩ := h
  have nd := sc_many.nd
  refine ⟨_, (pss_cons (pst 3 nd (pe_cmpR op_eq (pe_defN D_take hr.m rfl (pc (pv 0) (pc pe_int pa_nil))) pe_int (nomark _)))
      (pss_one (ps_ret (pe_op op_add pe_int (pe_defN D_take hr.m rfl (pc (pv 0) (pc (pe_ifExp (pt_val (pv 3)) (pv 2) (pv 1)) pa_nil))))))), ?_⟩
  refine ⟨_, rfl, b, a, q, c, 8, rfl, B, by omega, by decide, by decide, fun r1 a1 c1 H1 r10 r11 B1 hc1 s1 => ⟨rfl, gN ?_⟩⟩
  generalize decide (V.int r1 = V.int 0) = gr
  try dsimp only
  refine ⟨_, rfl, _, rfl, _, rfl, ?_⟩
  cases gr with
  | true => exact ifT rfl ⟨_, rfl, b, a1, q, c1, mt, rfl, B1, by omega, by omega, by omega, fun r2 a2 c2 H2 r20 r21 B2 hc2 s2 => ⟨_, _, rfl, rfl, k _ a2 c2 H2 (by omega) (by omega) B2 (by omega) (s1.trans s2)⟩⟩
  | false => exact ifF rfl ⟨_, rfl, b, a1, q, c1, fw, rfl, B1, by omega, by omega, by omega, fun r2 a2 c2 H2 r20 r21 B2 hc2 s2 => ⟨_, _, rfl, rfl, k _ a2 c2 H2 (by omega) (by omega) B2 (by omega) (s1.trans s2)⟩⟩
def spRowL : Sp := fun vs H Q _ => ∃ (b : Addr) (a q c s mt : Int), vs = [.ref b, .int s, .int mt] ∧ BoxAt H b a q c ∧ c < 200000000 ∧ 1 ≤ s ∧ s ≤ 16 ∧ 40 ≤ mt ∧ mt ≤ 450 ∧
  ∀ (l : Addr) (ns : List Int) (a' c' : Int) (H' : Hp), H l = none → H' l = some (.lst (ns.map V.int)) → (ns.length : Int) ≤ mt → 1 ≤ ns.length → (∀ x ∈ ns, 0 ≤ x ∧ (x + 1) * s ≤ 10000) → BoxAt H' b a' q c' → c' ≤ c + 1000 → SB b H H' → Q (.ref l) H'
theorem row_at {w n : Int} {k : Nat} {t1 t2 : Int} (hw0 : 0 ≤ w) (hw1 : w < 3) (hn : 1 ≤ n) (h1 : 0 ≤ t1) (h2 : t1 < n) : ∃ z : Int, atI [V.int t1, V.int ((k : Int) % n), V.int (((k : Int) * ((k : Int) + 1) / 2 + t2) % n)] w = some (.int z) ∧ 0 ≤ z ∧ z < n := by
  have h : w = 0 ∨ w = 1 ∨ w = 2 := by omega
  rcases h with rfl | rfl | rfl
  · exact ⟨_, atI0, h1, h2⟩
  · exact ⟨_, atI1, Int.emod_nonneg _ (by omega), Int.emod_lt_of_pos _ (by omega)⟩
  · exact ⟨_, atI2, Int.emod_nonneg _ (by omega), Int.emod_lt_of_pos _ (by omega)⟩
theorem ok_row {f : Addr} {fd : FuncData} (F : Fun K "_law_row" "_law_row" s_row f fd) (T : Txt K mg) (D_take : Def P w K mg base "_law_take" 1 P_take spTake) (D_some_boards : Def P w K mg base "_law_some_boards" 2 P_some_boards spBoards) (D_many : Def P w K mg base "_law_many" 2 P_many spMany) : FnOk P w K mg base CX0 3 f fd P_row spRowL := by
  refine F.ok sc_row (fun vs H Q E h => ?_) (fun cdv A outer st H vs Q E hr h => ?_)
  · obtain ⟨b, a, q, c, s, mt, rfl, _⟩ := h
    rfl
  obtain ⟨b, a, q, c, s, mt, rfl, B, hc, s0, s1, m0, m1, k⟩ := h
  have nd := sc_row.nd
  refine ⟨_, (pss_cons (ps_par (i := 3) (j := 4) rfl nd rfl rfl (by decide) rfl rfl (pc (pe_comp1 (compOk_of (osc := (defScope s_row)) (oN := N_row) (N := ["_law_one", "_law_size"]) (own := 1) (js := [1]) (by decide +kernel) rfl rfl) rfl (pi_listK (K := K) rfl (pe_defN D_some_boards hr.m rfl (pc (pv 0) (pc (pv 1) pa_nil)))) (fun _ _ _ _ _ _ => (pgn 0 (show List.Nodup (["_law_one", "_law_size"] : List Str) by decide +kernel))) (fun _ _ _ _ _ _ => (pt_cmpR op_lt (pe_op op_mul (pe_op op_add (pv 0) pe_int) (pv 1)) pe_int (nomark _))) (fun _ _ _ _ _ _ => (pv 0))) (pc (pe_defN D_take hr.m rfl (pc (pv 0) (pc pe_int pa_nil))) pa_nil)) rfl)
      (pss_cons (pst 5 nd (pe_lst pa_nil))
      (pss_cons (ps_for PassesOwn.never rfl (pi_range1 rfl T.z_range (pc (pe_defN D_many hr.m rfl (pc (pv 0) (pc pe_int (pc (pv 2) pa_nil)))) pa_nil)) (pgn 6 nd) (pss_cons (pst 7 nd (pe_ix (ix_listK (K := K) rfl) (pe_lst (pc (pe_defN D_take hr.m rfl (pc (pv 0) (pc (pe_callBN (call_len_seqK (K := K) rfl) rfl T.z_len PySem.boot_len (pc (pv 3) pa_nil)) pa_nil))) (pc (pe_op op_mod (pv 6) (pe_callBN (call_len_seqK (K := K) rfl) rfl T.z_len PySem.boot_len (pc (pv 3) pa_nil))) (pc (pe_op op_mod (pe_op op_add (pe_op op_fdiv (pe_op op_mul (pv 6) (pe_op op_add (pv 6) pe_int)) pe_int) (pe_defN D_take hr.m rfl (pc (pv 0) (pc pe_int pa_nil)))) (pe_callBN (call_len_seqK (K := K) rfl) rfl T.z_len PySem.boot_len (pc (pv 3) pa_nil))) pa_nil)))) (pv 4) (fun _ _ => rfl)))
      (pss_one (ps_expr (pe_bmC (K := K) rfl (pe_bm PySem.F.plainAttrs_list PySem.F.slot_list_append PySem.F.type_list_append mt_append (pv 5) (pc (pe_ix (ix_listK (K := K) rfl) (pv 3) (pv 7) (fun _ _ => rfl)) pa_nil)))))))
      (pss_one (ps_ret (pv 5)))))), ?_⟩
  refine hide fun u1 e1 => ?_
  refine ⟨_, rfl, _, rfl, b, a, q, c, s, rfl, B, by omega, s0, s1, fun l1 ns1 a1 c1 H1 hl1 el1 n3 n20 bd lo B1 hc1 t1 => ⟨l1, rfl, ⟨_, SqL.of el1⟩, fun l2 hl2 => ?_⟩⟩
  have top : ∀ x, x + 1 ≤ 9999 / s → (x + 1) * s ≤ 9999 := fun x hx => Int.le_trans (Int.mul_le_mul_of_nonneg_right hx (by omega)) (Int.ediv_mul_le 9999 (by omega))
  refine comp_list (K := K) (a := l1) (xs := ns1.map V.int) (l := l2) (fun i ys σ G => ∃ (v0 : Option V) (fs : List Int), σ = [v0, some (.int s)] ∧ ys = fs.map V.int ∧ fs.length ≤ i ∧ (∀ x ∈ fs, 0 ≤ x ∧ (x + 1) * s ≤ 10000) ∧ (∀ x ∈ ns1.take i, (x + 1) * s < 10001 → x ∈ fs) ∧ G = upd H1 l2 (.lst ys)) ⟨none, [], rfl, rfl, Nat.le_refl _, by simp, by simp, rfl⟩ (fun i ys σ G _ ⟨_, _, _, _, _, _, _, e⟩ => SqL.of (by rw [e, upd_ne (ne_of_none el1 hl2)]; exact el1)) ?_ ?_
  · rintro i x ys σ G hi hxi hys ⟨v0, fs, rfl, rfl, hfl, hfb, hfm, rfl⟩
    obtain ⟨z, ez, rfl⟩ := ints_at hxi
    have zb := bd z (List.mem_of_getElem? ez)
    refine ⟨_, rfl, _, _, rfl, rfl, _, rfl, _, _, rfl, rfl, .inr ⟨by omega, by omega⟩, _, _, rfl, rfl, _, rfl, ?_⟩
    by_cases cc : (z + 1) * s < 10001
    · refine ifT (decide_eq_true cc) ⟨_, rfl, CNx.of (Nat.le_of_lt (small1000 (by rw [List.length_map]; omega))) hi hys upd_same ⟨_, fs ++ [z], rfl, by rw [List.map_append]; rfl, by rw [List.length_append]; show fs.length + 1 ≤ i + 1; omega, fun x hx => ?_, fun x hx hc => ?_, upd_upd⟩⟩
      · rcases List.mem_append.mp hx with hx | hx
        · exact hfb x hx
        · rw [List.mem_singleton.mp hx]; exact ⟨zb.1, by omega⟩
      · rw [List.take_succ, ez] at hx
        rcases List.mem_append.mp hx with hx | hx
        · exact List.mem_append_left _ (hfm x hx hc)
        · exact List.mem_append_right _ hx
    · refine ifF (decide_eq_false cc) (CNo.of hi hys ⟨_, fs, rfl, rfl, by omega, hfb, fun x hx hc => ?_, rfl⟩)
      rw [List.take_succ, ez] at hx
      rcases List.mem_append.mp hx with hx | hx
      · exact hfm x hx hc
      · have : x = z := by simpa using hx
        rw [this] at hc; exact absurd hc cc
  rintro ys σ G _ ⟨v0, fs, rfl, rfl, hfl, hfb, hfm, rfl⟩
  rw [List.length_map] at hfl
  rw [List.length_map, List.take_length] at hfm
  have fpos : 1 ≤ fs.length := by
    obtain ⟨x, hx, hx2⟩ := lo
    have := top x hx2
    exact List.length_pos_of_mem (hfm x hx (by omega))
  have n2b : l2 ≠ b := Ne.symm (ne_of_none B1.at' hl2)
  have hl2H : H l2 = none := sb_fresh t1 B1.at' hl2
  have t2 := t1.trans ((same_upd hl2 (.lst (fs.map V.int))).sb b)
  have B2 := B1.same (same_upd hl2 (.lst (fs.map V.int)))
  have el2 : upd H1 l2 (.lst (fs.map V.int)) l2 = some (.lst (fs.map V.int)) := upd_same
  generalize upd H1 l2 (.lst (fs.map V.int)) = H2 at *
  refine ⟨_, rfl, b, a1, q, c1, 3, rfl, B2, by omega, by decide, by decide, fun wy a3 c3 H3 w0 w1 B3 hc3 t3 => ⟨_, _, rfl, ?_⟩⟩
  have el3 := t3 _ _ n2b el2
  subst e1
  try dsimp only
  have u3 := t2.trans t3
  refine ⟨(by show 0 ≤ sizeLine; decide), fun lr hlr => gN ?_⟩
  try dsimp only
  have nrb : lr ≠ b := Ne.symm (ne_of_none B3.at' hlr)
  have nr2 : l2 ≠ lr := ne_of_none el3 hlr
  have hlrH : H lr = none := sb_fresh u3 B3.at' hlr
  refine ⟨_, rfl, _, rfl, b, a3, q, c3, 40, mt, rfl, B3.same (same_upd hlr (.lst [])), by omega, by decide, m0, by omega, fun m a4 c4 H4 mm0 mm1 B4 hc4 t4 => ⟨_, rfl, by omega, by omega, ?_⟩⟩
  have el4 := t4 _ _ n2b (same_upd hlr (.lst []) _ _ el3)
  have elr4 := t4 _ _ nrb (upd_same (H := H3) (a := lr) (o := .lst []))
  have u4 : SB b H H4 := (u3.trans ((same_upd hlr _).sb b)).trans t4
  refine for_range (lo := 0) (n := m.toNat) (fun j σ G => ∃ (v6 v7 : Option V) (ns : List Int) (a' c' : Int), σ = [some (.ref b), some (.int s), some (.int mt), some (.ref l2), some (.int wy), some (.ref lr), v6, v7] ∧ ns.length = j ∧ (∀ x ∈ ns, x ∈ fs) ∧ G l2 = some (.lst (fs.map V.int)) ∧ G lr = some (.lst (ns.map V.int)) ∧ BoxAt G b a' q c' ∧ c' ≤ c4 + 2 * (j : Int) ∧ SB b H G)
    ⟨_, _, [], a4, c4, rfl, rfl, by simp, el4, elr4, B4, by omega, u4⟩ ?_ ?_
  · rintro j σ G hj ⟨v6, v7, ns, a', c', rfl, hnl, hns, e2, er, B', hc', u'⟩
    refine gN ?_
    try dsimp only
    have jm : (j : Int) < 450 := by omega
    refine hide fun u1 e1 => ?_
    refine ⟨_, rfl, _, rfl, l2, _, rfl, .inl (SqL.of e2), b, a', q, c', _, rfl, B', by omega, by rw [List.length_map]; omega, by rw [List.length_map]; omega, fun x1 a5 c5 H5 x10 x11 B5 hc5 t5 => ?_⟩
    rw [List.length_map] at x11
    have e25 := t5 _ _ n2b e2
    refine ⟨_, rfl, _, rfl, l2, _, rfl, .inl (SqL.of e25), _, _, rfl, rfl, by rw [List.length_map]; show (0 : Int) < _; omega, _, rfl, _, rfl, _, _, rfl, rfl, _, _, rfl, rfl, .inl ⟨by omega, by omega⟩, _, _, rfl, rfl, ⟨by decide, by decide⟩, _, rfl, b, a5, q, c5, 2, rfl, B5, by omega, by decide, by decide, fun x2 a6 c6 H6 x20 x21 B6 hc6 t6 => ⟨_, _, rfl, rfl, _, rfl, l2, _, rfl, .inl (SqL.of (t6 _ _ n2b e25)), _, _, rfl, rfl, by rw [List.length_map]; show (0 : Int) < _; omega, (by show 3 ≤ sizeLine; decide), fun l3 hl3 => ?_⟩⟩
    rw [List.length_map]
    obtain ⟨z, hz, z0, z1⟩ := row_at (w := wy) (n := (fs.length : Int)) (k := j) (t2 := x2) w0 w1 (by omega) x10 x11
    have n3b : b ≠ l3 := ne_of_none B6.at' hl3
    have e26 := t6 _ _ n2b e25
    have er6 := t6 _ _ nrb (t5 _ _ nrb er)
    have ej : (0 : Int) + (j : Int) = (j : Int) := by omega
    rw [ej]
    refine ⟨_, rfl, l3, _, _, _, rfl, rfl, SqL.of upd_same, hz, gN ?_⟩
    subst e1
    try dsimp only
    have s7 := same_upd hl3 (.lst [V.int x1, V.int ((j : Int) % (fs.length : Int)), V.int (((j : Int) * ((j : Int) + 1) / 2 + x2) % (fs.length : Int))])
    have e27 := s7 _ _ e26
    have er7 := s7 _ _ er6
    have B7 := B6.same s7
    have u7 : SB b H (upd H6 l3 (.lst [V.int x1, V.int ((j : Int) % (fs.length : Int)), V.int (((j : Int) * ((j : Int) + 1) / 2 + x2) % (fs.length : Int))])) := ((u'.trans t5).trans t6).trans (s7.sb b)
    generalize upd H6 l3 (.lst [V.int x1, V.int ((j : Int) % (fs.length : Int)), V.int (((j : Int) * ((j : Int) + 1) / 2 + x2) % (fs.length : Int))]) = H7 at *
    obtain ⟨y, hy, my⟩ := at_get (ns := fs) z0 z1
    refine ⟨_, rfl, .inl ⟨rfl, _, SqL.of er7⟩, _, rfl, _, rfl, l2, _, _, _, rfl, rfl, SqL.of e27, hy, lr, _, _, rfl, rfl, er7, small1000 (by rw [List.length_map]; omega), ?_⟩
    refine ⟨_, _, ns ++ [y], a6, c6, rfl, by rw [List.length_append, hnl]; rfl, fun x hx => ?_, by rw [upd_ne nr2]; exact e27, by rw [upd_same, List.map_append]; rfl, B7.sb (sb_upd lr _ _) (Ne.symm nrb), by omega, fun x o nx e => ?_⟩
    · rcases List.mem_append.mp hx with hx | hx
      · exact hns x hx
      · rw [List.mem_singleton.mp hx]; exact List.mem_of_getElem? my
    · rw [upd_ne (fun z : x = lr => by rw [z, hlrH] at e; cases e)]
      exact u7 _ _ nx e
  · rintro σ G ⟨v6, v7, ns, a', c', rfl, hnl, hns, e2, er, B', hc', u'⟩
    exact ⟨_, rfl, k lr ns a' c' G hlrH er (by omega) (by omega) (fun x hx => hfb x (hns x hx)) B' (by omega) u'⟩
end
def strip (c : Cf) : Cf := { c with late := false }
theorem strip_at (cfs : List Cf) (k : Nat) : (cfs.map strip)[k]? = (cfs[k]?).map strip := List.getElem?_map ..
theorem pushS_strip (cfs : List Cf) : ∀ (n : Nat) (S : List RS) (k : Nat) (b : Int), pushS (cfs.map strip) n S k b = pushS cfs n S k b
  | 0, _, _, _ => rfl
  | n + 1, S, k, b => by
    unfold pushS
    rw [strip_at]
    cases cfs[k]? with
    | none => rfl
    | some c =>
      cases S[k]? with
      | none => rfl
      | some s =>
        show (match goneF c s b with | none => S.set k (inR s b) | some g => pushS (cfs.map strip) n (S.set k (inR (outR s g) b)) (k + 1) g) = (match goneF c s b with | none => S.set k (inR s b) | some g => pushS cfs n (S.set k (inR (outR s g) b)) (k + 1) g)
        cases goneF c s b with
        | none => rfl
        | some g => exact pushS_strip cfs n _ _ g
theorem downS_strip (kind : Str) (cfs : List Cf) (S : List RS) (k : Nat) (b : Int) : downS kind (cfs.map strip) S k b = downS kind cfs S k b := by
  unfold downS
  rw [strip_at]
  cases cfs[k]? <;> cases S[k]? <;> rfl
theorem downAll_strip (kind : Str) (cfs : List Cf) (b : Int) : ∀ (k : Nat) (S : List RS), downAll kind (cfs.map strip) b k S = downAll kind cfs b k S
  | 0, _ => rfl
  | k + 1, S => by
    unfold downAll
    rw [downS_strip]
    exact downAll_strip kind cfs b k _
theorem useAt_strip (cfs : List Cf) (S : List RS) (k : Nat) (b : Int) : useAt (cfs.map strip) S k b = useAt cfs S k b := by
  unfold useAt
  rw [strip_at]
  cases cfs[k]? <;> cases S[k]? <;> rfl
theorem apartS_strip (cfs : List Cf) (S : List RS) (k : Nat) (b : Int) : apartS (cfs.map strip) S k b = apartS cfs S k b := by
  unfold apartS
  split
  · exact pushS_strip ..
  · rw [strip_at]
    cases cfs[k]? with
    | none => rfl
    | some c =>
      cases S[k]? with
      | none => rfl
      | some s =>
        show (if k = 0 then _ else _) = (if k = 0 then _ else _)
        split
        · rfl
        · exact pushS_strip ..
theorem fetS_strip (g : Pln) (z : Int) (S : List RS) (b : Int) : fetS ⟨z, g.kind, g.cfs.map strip⟩ S b = fetS g S b := by
  unfold fetS
  show (if g.kind = "apart" then apartS (g.cfs.map strip) S _ b else downAll g.kind (g.cfs.map strip) b _ (useAt (g.cfs.map strip) S _ b)) = _
  rw [apartS_strip, useAt_strip, downAll_strip]
theorem foundsF_strip (g : Pln) (z : Int) : ∀ (S : List RS) (row : List Int), foundsF ⟨z, g.kind, g.cfs.map strip⟩ S row = foundsF g S row
  | _, [] => rfl
  | S, b :: row => by
    show nearF S b :: foundsF ⟨z, g.kind, g.cfs.map strip⟩ (fetS ⟨z, g.kind, g.cfs.map strip⟩ S b) row = _
    rw [fetS_strip, foundsF_strip g z]
    rfl
theorem founds_other {g g' : Pln} (hk : g.kind = g'.kind) (hc : g.cfs.map strip = g'.cfs.map strip) (row : List Int) : foundsF g' (emptyS g') row = foundsF g (emptyS g) row := by
  have hl : g.cfs.length = g'.cfs.length := by have := congrArg List.length hc; simpa using this
  rw [← foundsF_strip g 0, ← foundsF_strip g' 0, ← hk, ← hc]
  unfold emptyS
  rw [hl]
def shR (d : Int) (s : RS) : RS := (s.1.map (· + d), fun x => s.2 (x - d))
theorem mem_sh {d b : Int} {l : List Int} : b + d ∈ l.map (· + d) ↔ b ∈ l := by
  rw [List.mem_map]
  constructor
  · rintro ⟨x, hx, e⟩
    have e : x + d = b + d := e
    rw [show b = x by omega]; exact hx
  · exact fun h => ⟨b, h, rfl⟩
theorem erase_sh (d g : Int) : ∀ l : List Int, (l.map (· + d)).erase (g + d) = (l.erase g).map (· + d)
  | [] => rfl
  | x :: l => by
    rw [List.map_cons, List.erase_cons, List.erase_cons]
    by_cases e : x = g
    · rw [if_pos (by simp [e]), if_pos (by simp [e])]
    · rw [if_neg (by simp; omega), if_neg (by simp [e]), List.map_cons, erase_sh d g l]
theorem out_sh (d g : Int) (s : RS) : outR (shR d s) (g + d) = shR d (outR s g) := by
  unfold outR shR
  rw [erase_sh]
theorem in_sh (d b : Int) (s : RS) : inR (shR d s) (b + d) = shR d (inR s b) := by
  unfold inR shR zero
  rw [List.map_append]
  congr 1
  funext x
  show (if x = b + d then 0 else s.2 (x - d)) = (if x - d = b then 0 else s.2 (x - d))
  by_cases e : x = b + d
  · rw [if_pos e, if_pos (by omega)]
  · rw [if_neg e, if_neg (by omega)]
theorem use_sh (c : Cf) (d b : Int) (s : RS) : useR c (shR d s) (b + d) = shR d (useR c s b) := by
  unfold useR shR bump
  have e1 : (if c.ru = "old" then (s.1.map (· + d)).erase (b + d) ++ [b + d] else s.1.map (· + d)) = (if c.ru = "old" then s.1.erase b ++ [b] else s.1).map (· + d) := by
    split
    · rw [erase_sh, List.map_append]; rfl
    · rfl
  show ((if c.ru = "old" then (s.1.map (· + d)).erase (b + d) ++ [b + d] else s.1.map (· + d)), _) = _
  rw [e1]
  congr 1
  funext x
  show (if x = b + d then s.2 (b + d - d) + 1 else s.2 (x - d)) = (if x - d = b then s.2 b + 1 else s.2 (x - d))
  by_cases e : x = b + d
  · rw [if_pos e, if_pos (by omega), show b + d - d = b by omega]
  · rw [if_neg e, if_neg (by omega)]
theorem shelf_sh {sh d : Int} (h : d % sh = 0) (b : Int) (l : List Int) : shelfS sh ((b + d) % sh) (l.map (· + d)) = (shelfS sh (b % sh) l).map (· + d) := by
  have e : ∀ x : Int, (x + d) % sh = x % sh := fun x => by rw [Int.add_emod, h, Int.add_zero, Int.emod_emod]
  unfold shelfS
  rw [List.filter_map]
  congr 1
  refine List.filter_congr fun x _ => ?_
  show decide ((x + d) % sh = (b + d) % sh) = _
  rw [e, e]
theorem idx_sh (d a : Int) : ∀ l : List Int, (l.map (· + d)).idxOf (a + d) = l.idxOf a
  | [] => rfl
  | x :: l => by
    rw [List.map_cons, List.idxOf_cons, List.idxOf_cons, idx_sh d a l]
    by_cases e : x = a
    · rw [show (x + d == a + d) = true by simp [e], show (x == a) = true by simp [e]]
    · rw [show (x + d == a + d) = false by simp; omega, show (x == a) = false by simp [e]]
theorem klt_sh {us : Int → Int} {ms : List Int} {d a b : Int} (h : KLt us ms a b) : KLt (fun x => us (x - d)) (ms.map (· + d)) (a + d) (b + d) := by
  unfold KLt at h ⊢
  rw [idx_sh, idx_sh]
  show us (a + d - d) < us (b + d - d) ∨ (us (a + d - d) = us (b + d - d) ∧ _)
  rw [show a + d - d = a by omega, show b + d - d = b by omega]
  exact h
theorem gone_sh {ru : Str} {us : Int → Int} {pl : Int} {ms : List Int} {g : Option Int} (d : Int) (h : goneP ru us pl ms g) : goneP ru (fun x => us (x - d)) pl (ms.map (· + d)) (g.map (· + d)) := by
  refine ⟨fun l => ?_, fun l => ?_⟩
  · rw [List.length_map] at l
    rw [h.1 l]; rfl
  · rw [List.length_map] at l
    obtain ⟨x, r, e, p, f, n⟩ := h.2 l
    refine ⟨x + d, r.map (· + d), by rw [e]; rfl, p.map (· + d), fun q => ?_, fun q => by rw [← n q]; rfl⟩
    have := f q
    rw [show (x + d) :: r.map (· + d) = (x :: r).map (· + d) from rfl, List.pairwise_map]
    exact this.imp fun h => klt_sh h
theorem map_sh_back (d : Int) (l : List Int) : (l.map (· + d)).map (· + -d) = l := by
  rw [List.map_map]
  conv => rhs; rw [← List.map_id l]
  exact List.map_congr_left fun x _ => by show x + d + -d = x; omega
theorem goneF_sh {c : Cf} {d : Int} (h : d % c.sh = 0) (s : RS) (b : Int) : goneF c (shR d s) (b + d) = (goneF c s b).map (· + d) := by
  by_cases e : ∃ g, goneP c.ru s.2 c.pl (shelfS c.sh (b % c.sh) s.1) g
  · obtain ⟨g, hg⟩ := e
    rw [goneF_eq hg]
    refine goneF_eq ?_
    show goneP c.ru _ c.pl (shelfS c.sh ((b + d) % c.sh) (s.1.map (· + d))) _
    rw [shelf_sh h]
    exact gone_sh d hg
  · have e2 : ¬ ∃ g, goneP c.ru (shR d s).2 c.pl (shelfS c.sh ((b + d) % c.sh) (shR d s).1) g := by
      rintro ⟨g, hg⟩
      refine e ⟨g.map (· + -d), ?_⟩
      have hg : goneP c.ru (fun x => s.2 (x - d)) c.pl (shelfS c.sh ((b + d) % c.sh) (s.1.map (· + d))) g := hg
      rw [shelf_sh h] at hg
      have q := gone_sh (-d) hg
      rw [map_sh_back] at q
      have eu : (fun x => (fun x => s.2 (x - d)) (x - -d)) = s.2 := by funext x; show s.2 (x - -d - d) = s.2 x; rw [show x - -d - d = x by omega]
      rw [eu] at q
      exact q
    unfold goneF
    rw [dif_neg e, dif_neg e2]
    rfl
theorem near_sh (d : Int) (S : List RS) (b : Int) : nearF (S.map (shR d)) (b + d) = nearF S b := by
  unfold nearF
  rw [List.findIdx_map]
  congr 1
  funext s
  show decide (b + d ∈ s.1.map (· + d)) = _
  rw [decide_eq_decide]
  exact mem_sh
theorem dS_sh (d : Int) (S : List RS) (k : Nat) (g : Int) (i : Nat) : dS (S.map (shR d)) k (g + d) i = (dS S k g i).map (shR d) := by
  apply List.ext_getElem?
  intro j
  rw [dS_get, List.getElem?_map, List.getElem?_map, dS_get]
  cases S[j]? with
  | none => rfl
  | some s =>
    show some (if _ then _ else _) = some (shR d (if _ then _ else _))
    split
    · rw [out_sh]
    · rfl
theorem driveS_sh (d : Int) (kind : Str) (S : List RS) (k : Nat) (g : Int) : driveS kind (S.map (shR d)) k (g + d) = (driveS kind S k g).map (shR d) := by
  unfold driveS
  split <;> exact dS_sh ..
section
variable {cfs : List Cf} {d : Int} (hd : ∀ c ∈ cfs, d % c.sh = 0)
include hd
theorem downS_sh (kind : Str) (S : List RS) (k : Nat) (b : Int) : downS kind cfs (S.map (shR d)) k (b + d) = (downS kind cfs S k b).map (shR d) := by
  unfold downS
  rw [List.getElem?_map]
  cases ec : cfs[k]? with
  | none => rfl
  | some c =>
    cases S[k]? with
    | none => rfl
    | some s =>
      show (match goneF c (shR d s) (b + d) with | none => (S.map (shR d)).set k (inR (shR d s) (b + d)) | some g => (driveS kind (S.map (shR d)) k g).set k (inR (outR (shR d s) g) (b + d))) = (match goneF c s b with | none => S.set k (inR s b) | some g => (driveS kind S k g).set k (inR (outR s g) b)).map (shR d)
      rw [goneF_sh (hd c (List.mem_of_getElem? ec))]
      cases goneF c s b with
      | none => show (S.map (shR d)).set k (inR (shR d s) (b + d)) = (S.set k (inR s b)).map (shR d); rw [in_sh, List.map_set]
      | some g =>
        show (driveS kind (S.map (shR d)) k (g + d)).set k (inR (outR (shR d s) (g + d)) (b + d)) = ((driveS kind S k g).set k (inR (outR s g) b)).map (shR d)
        rw [driveS_sh, out_sh, in_sh, List.map_set]
theorem downAll_sh (kind : Str) (b : Int) : ∀ (k : Nat) (S : List RS), downAll kind cfs (b + d) k (S.map (shR d)) = (downAll kind cfs b k S).map (shR d)
  | 0, _ => rfl
  | k + 1, S => by
    unfold downAll
    rw [downS_sh hd]
    exact downAll_sh kind b k _
theorem pushS_sh : ∀ (n : Nat) (S : List RS) (k : Nat) (b : Int), pushS cfs n (S.map (shR d)) k (b + d) = (pushS cfs n S k b).map (shR d)
  | 0, _, _, _ => rfl
  | n + 1, S, k, b => by
    unfold pushS
    rw [List.getElem?_map]
    cases ec : cfs[k]? with
    | none => rfl
    | some c =>
      cases S[k]? with
      | none => rfl
      | some s =>
        show (match goneF c (shR d s) (b + d) with | none => (S.map (shR d)).set k (inR (shR d s) (b + d)) | some g => pushS cfs n ((S.map (shR d)).set k (inR (outR (shR d s) g) (b + d))) (k + 1) g) = (match goneF c s b with | none => S.set k (inR s b) | some g => pushS cfs n (S.set k (inR (outR s g) b)) (k + 1) g).map (shR d)
        rw [goneF_sh (hd c (List.mem_of_getElem? ec))]
        cases goneF c s b with
        | none => show (S.map (shR d)).set k (inR (shR d s) (b + d)) = (S.set k (inR s b)).map (shR d); rw [in_sh, List.map_set]
        | some g =>
          show pushS cfs n ((S.map (shR d)).set k (inR (outR (shR d s) (g + d)) (b + d))) (k + 1) (g + d) = (pushS cfs n (S.set k (inR (outR s g) b)) (k + 1) g).map (shR d)
          rw [out_sh, in_sh, ← List.map_set]
          exact pushS_sh n _ _ g
end
theorem useAt_sh (cfs : List Cf) (d : Int) (S : List RS) (k : Nat) (b : Int) : useAt cfs (S.map (shR d)) k (b + d) = (useAt cfs S k b).map (shR d) := by
  unfold useAt
  rw [List.getElem?_map]
  cases cfs[k]? with
  | none => rfl
  | some c =>
    cases S[k]? with
    | none => rfl
    | some s => show (S.map (shR d)).set k (useR c (shR d s) (b + d)) = (S.set k (useR c s b)).map (shR d); rw [use_sh, List.map_set]
theorem fetS_sh {g : Pln} {d : Int} (hd : ∀ c ∈ g.cfs, d % c.sh = 0) (S : List RS) (b : Int) : fetS g (S.map (shR d)) (b + d) = (fetS g S b).map (shR d) := by
  unfold fetS
  rw [near_sh]
  split
  · unfold apartS
    rw [List.length_map]
    split
    · exact pushS_sh hd ..
    · rw [List.getElem?_map]
      cases g.cfs[nearF S b]? with
      | none => rfl
      | some c =>
        cases S[nearF S b]? with
        | none => rfl
        | some s =>
          show (if nearF S b = 0 then (S.map (shR d)).set 0 (useR c (shR d s) (b + d)) else pushS g.cfs S.length ((S.map (shR d)).set (nearF S b) (outR (shR d s) (b + d))) 0 (b + d)) = (if nearF S b = 0 then S.set 0 (useR c s b) else pushS g.cfs S.length (S.set (nearF S b) (outR s b)) 0 b).map (shR d)
          split
          · rw [use_sh, List.map_set]
          · rw [out_sh, ← List.map_set]
            exact pushS_sh hd ..
  · rw [useAt_sh]
    exact downAll_sh hd ..
theorem founds_sh {g : Pln} {d : Int} (hd : ∀ c ∈ g.cfs, d % c.sh = 0) : ∀ (S : List RS) (row : List Int), foundsF g (S.map (shR d)) (row.map (· + d)) = foundsF g S row
  | _, [] => rfl
  | S, b :: row => by
    show nearF (S.map (shR d)) (b + d) :: foundsF g (fetS g (S.map (shR d)) (b + d)) (row.map (· + d)) = _
    rw [near_sh, fetS_sh hd, founds_sh hd]
    rfl
theorem founds_further {g : Pln} {d : Int} (hd : ∀ c ∈ g.cfs, d % c.sh = 0) (row : List Int) : foundsF g (emptyS g) (row.map (· + d)) = foundsF g (emptyS g) row := by
  have e : (emptyS g).map (shR d) = emptyS g := by
    unfold emptyS
    rw [List.map_replicate]
    rfl
  have := founds_sh hd (emptyS g) row
  rw [e] at this
  exact this
theorem founds_take (g : Pln) : ∀ (S : List RS) (row : List Int) (n : Nat), foundsF g S (row.take n) = (foundsF g S row).take n
  | _, [], n => by rw [List.take_nil]; show [] = List.take n []; rw [List.take_nil]
  | S, b :: row, 0 => rfl
  | S, b :: row, n + 1 => congrArg (nearF S b :: ·) (founds_take g (fetS g S b) row n)
theorem founds_get (g : Pln) : ∀ (S : List RS) (row : List Int) (k : Nat) (b : Int), row[k]? = some b → (foundsF g S row)[k]? = some (nearF (stF g S (row.take k)) b)
  | _, [], _, _, h => by simp at h
  | S, x :: row, 0, b, h => by cases h; rfl
  | S, x :: row, k + 1, b, h => founds_get g (fetS g S x) row k b (by simpa using h)
def InS (S : List RS) (x : Int) : Prop := ∃ s ∈ S, x ∈ s.1
theorem ins_set {S : List RS} {k : Nat} {r : RS} {x : Int} (h : InS (S.set k r) x) : InS S x ∨ x ∈ r.1 := by
  obtain ⟨s, hs, hx⟩ := h
  rcases List.mem_or_eq_of_mem_set hs with hs | rfl
  · exact .inl ⟨s, hs, hx⟩
  · exact .inr hx
theorem ins_at {S : List RS} {k : Nat} {s : RS} {x : Int} (h : S[k]? = some s) (hx : x ∈ s.1) : InS S x := ⟨s, List.mem_of_getElem? h, hx⟩
theorem ins_in {S : List RS} {k : Nat} {s r : RS} {b x : Int} (h : S[k]? = some s) (hr : ∀ y ∈ r.1, y ∈ s.1) (hx : InS (S.set k (inR r b)) x) : InS S x ∨ x = b := by
  rcases ins_set hx with h' | h'
  · exact .inl h'
  · rcases List.mem_append.mp h' with h' | h'
    · exact .inl (ins_at h (hr x h'))
    · exact .inr (List.mem_singleton.mp h')
theorem pushS_in {cfs : List Cf} : ∀ (n : Nat) (S : List RS) (k : Nat) (b x : Int), InS (pushS cfs n S k b) x → InS S x ∨ x = b
  | 0, _, _, _, _, h => .inl h
  | n + 1, S, k, b, x, h => by
    unfold pushS at h
    split at h
    · rename_i c s hc hs
      split at h
      · exact ins_in hs (fun _ m => m) h
      · rename_i g hg
        rcases pushS_in n _ _ _ x h with h | rfl
        · exact ins_in hs (fun _ m => List.mem_of_mem_erase m) h
        · exact .inl (ins_at hs (goneF_mem hg).1)
    · exact .inl h
theorem driveS_in {kind : Str} {S : List RS} {k : Nat} {g x : Int} (h : InS (driveS kind S k g) x) : InS S x := by
  obtain ⟨r, hr, hx⟩ := h
  obtain ⟨j, hj⟩ := List.getElem?_of_mem hr
  obtain ⟨s, h1, h2⟩ := driveS_sub hj
  exact ins_at h1 (h2 x hx)
theorem downS_in {kind : Str} {cfs : List Cf} {S : List RS} {k : Nat} {b x : Int} (h : InS (downS kind cfs S k b) x) : InS S x ∨ x = b := by
  unfold downS at h
  split at h
  · rename_i c s hc hs
    split at h
    · exact ins_in hs (fun _ m => m) h
    · rename_i g hg
      rcases ins_set h with h | h
      · exact .inl (driveS_in h)
      · rcases List.mem_append.mp h with h | h
        · exact .inl (ins_at hs (List.mem_of_mem_erase h))
        · exact .inr (List.mem_singleton.mp h)
  · exact .inl h
theorem downAll_in {kind : Str} {cfs : List Cf} {b x : Int} : ∀ (k : Nat) (S : List RS), InS (downAll kind cfs b k S) x → InS S x ∨ x = b
  | 0, _, h => .inl h
  | k + 1, S, h => by
    rcases downAll_in k _ h with h | h
    · exact downS_in h
    · exact .inr h
theorem use_in {c : Cf} {s : RS} {b x : Int} (h : x ∈ (useR c s b).1) : x ∈ s.1 ∨ x = b := by
  unfold useR at h
  split at h
  · rcases List.mem_append.mp h with h | h
    · exact .inl (List.mem_of_mem_erase h)
    · exact .inr (List.mem_singleton.mp h)
  · exact .inl h
theorem fetS_in {g : Pln} {S : List RS} {b x : Int} (h : InS (fetS g S b) x) : InS S x ∨ x = b := by
  unfold fetS at h
  split at h
  · unfold apartS at h
    split at h
    · exact pushS_in _ _ _ _ _ h
    · split at h
      · rename_i c s hc hs
        split at h
        · rename_i e
          rw [e] at hs
          rcases ins_set h with h | h
          · exact .inl h
          · exact (use_in h).imp_left (ins_at hs)
        · rcases pushS_in _ _ _ _ _ h with h | h
          · rcases ins_set h with h | h
            · exact .inl h
            · exact .inl (ins_at hs (List.mem_of_mem_erase h))
          · exact .inr h
      · exact .inl h
  · rcases downAll_in _ _ h with h | h
    · unfold useAt at h
      split at h
      · rename_i c s hc hs
        rcases ins_set h with h | h
        · exact .inl h
        · exact (use_in h).imp_left (ins_at hs)
      · exact .inl h
    · exact .inr h
theorem stF_in {g : Pln} {x : Int} : ∀ (S : List RS) (row : List Int), InS (stF g S row) x → InS S x ∨ x ∈ row
  | _, [], h => .inl h
  | S, b :: row, h => by
    rcases stF_in (fetS g S b) row h with h | h
    · exact (fetS_in h).imp_right fun e => by rw [e]; exact List.mem_cons_self
    · exact .inr (List.mem_cons_of_mem _ h)
theorem pushS_len {cfs : List Cf} : ∀ (n : Nat) (S : List RS) (k : Nat) (b : Int), (pushS cfs n S k b).length = S.length
  | 0, _, _, _ => rfl
  | n + 1, S, k, b => by
    unfold pushS
    split
    · split
      · exact List.length_set
      · rw [pushS_len n, List.length_set]
    · rfl
theorem downS_len (kind : Str) (cfs : List Cf) (S : List RS) (k : Nat) (b : Int) : (downS kind cfs S k b).length = S.length := by
  unfold downS
  split
  · split
    · exact List.length_set
    · rw [List.length_set, driveS_len]
  · rfl
theorem downAll_len (kind : Str) (cfs : List Cf) (b : Int) : ∀ (k : Nat) (S : List RS), (downAll kind cfs b k S).length = S.length
  | 0, _ => rfl
  | k + 1, S => (downAll_len kind cfs b k _).trans (downS_len ..)
theorem fetS_len (g : Pln) (S : List RS) (b : Int) : (fetS g S b).length = S.length := by
  unfold fetS
  split
  · unfold apartS
    split
    · exact pushS_len ..
    · split
      · split
        · exact List.length_set
        · rw [pushS_len, List.length_set]
      · rfl
  · rw [downAll_len]
    unfold useAt
    split
    · exact List.length_set
    · rfl
theorem stF_len (g : Pln) : ∀ (S : List RS) (row : List Int), (stF g S row).length = S.length
  | _, [] => rfl
  | S, b :: row => (stF_len g (fetS g S b) row).trans (fetS_len ..)
theorem empty_len (g : Pln) : (emptyS g).length = g.cfs.length := by unfold emptyS; rw [List.length_replicate]
theorem empty_in (g : Pln) (x : Int) : ¬ InS (emptyS g) x := by
  rintro ⟨s, hs, hx⟩
  unfold emptyS at hs
  rw [(List.mem_replicate.mp hs).2] at hx
  simp at hx
theorem founds_first {g : Pln} {row : List Int} {k : Nat} {b : Int} (h : row[k]? = some b) (hb : b ∉ row.take k) : (foundsF g (emptyS g) row)[k]? = some g.cfs.length := by
  rw [founds_get g _ row k b h]
  congr 1
  have hl : (stF g (emptyS g) (row.take k)).length = g.cfs.length := by rw [stF_len, empty_len]
  have hle := near_le (stF g (emptyS g) (row.take k)) b
  by_cases c : nearF (stF g (emptyS g) (row.take k)) b < (stF g (emptyS g) (row.take k)).length
  · exfalso
    obtain ⟨s, h1, h2⟩ := near_lt c
    rcases stF_in _ _ (ins_at h1 h2) with z | z
    · exact empty_in g b z
    · exact hb z
  · omega
theorem founds_le {g : Pln} {row : List Int} {k n : Nat} (h : (foundsF g (emptyS g) row)[k]? = some n) : n ≤ g.cfs.length := by
  have hk : k < row.length := by have := (List.getElem?_eq_some_iff.mp h).1; rwa [foundsF_len] at this
  rw [founds_get g _ row k _ (List.getElem?_eq_getElem hk)] at h
  cases h
  have := near_le (stF g (emptyS g) (row.take k)) row[k]
  rwa [stF_len, empty_len] at this
theorem founds_met {g : Pln} (hc : 1 ≤ g.cfs.length) (row : List Int) {ms : List Int} (nd : ms.Nodup) (hm : ∀ x ∈ ms, x ∈ row) : ms.length ≤ ((foundsF g (emptyS g) row).filter fun x => decide (g.cfs.length - 1 < x)).length := by
  have key : ∀ (fs : List Nat) (rw' : List Int), fs.length = rw'.length → ((rw'.zip fs).filter fun p => decide (g.cfs.length - 1 < p.2)).length = (fs.filter fun x => decide (g.cfs.length - 1 < x)).length := by
    intro fs
    induction fs with
    | nil => intro rw' h; cases rw' <;> rfl
    | cons f fs ih =>
      intro rw' h
      cases rw' with
      | nil => simp at h
      | cons b rw' =>
        rw [List.zip_cons_cons, List.filter_cons, List.filter_cons]
        have := ih rw' (by simpa using h)
        by_cases c : g.cfs.length - 1 < f
        · rw [if_pos (decide_eq_true c), if_pos (decide_eq_true c), List.length_cons, List.length_cons, this]
        · rw [if_neg (by simpa using c), if_neg (by simpa using c), this]
  rw [← key _ row (foundsF_len ..)]
  have q := nd_len (b := ((row.zip (foundsF g (emptyS g) row)).filter fun p => decide (g.cfs.length - 1 < p.2)).map Prod.fst) nd fun x hx => ?_
  · rw [List.length_map] at q; exact q
  · have hr := hm x hx
    have hi : row.idxOf x < row.length := List.idxOf_lt_length_of_mem hr
    have e1 : row[row.idxOf x]? = some x := by rw [List.getElem?_eq_getElem hi, List.getElem_idxOf]
    have e2 : x ∉ row.take (row.idxOf x) := fun m => by
      obtain ⟨j, hj⟩ := List.getElem?_of_mem m
      have hjl := (List.getElem?_eq_some_iff.mp hj).1
      rw [List.length_take] at hjl
      rw [List.getElem?_take_of_lt (by omega)] at hj
      have : row.idxOf x ≤ j := by
        obtain ⟨hl, he⟩ := List.getElem?_eq_some_iff.mp hj
        refine Nat.le_of_not_lt fun c => ?_
        have := List.not_of_lt_findIdx (p := (· == x)) (xs := row) (i := j) c
        rw [he] at this
        simp at this
      omega
    have e3 := founds_first (g := g) e1 e2
    refine List.mem_map.mpr ⟨(x, g.cfs.length), List.mem_filter.mpr ⟨?_, decide_eq_true (by show g.cfs.length - 1 < g.cfs.length; omega)⟩, rfl⟩
    refine List.mem_of_getElem? (i := row.idxOf x) ?_
    rw [List.getElem?_zip_eq_some]
    exact ⟨e1, e3⟩
theorem miss_desc {n : Nat} {fs : List Nat} {i a b : Nat} (h1 : (missF n fs)[i]? = some a) (h2 : (missF n fs)[i + 1]? = some b) : b ≤ a := by
  unfold missF at h1 h2
  rw [List.getElem?_map] at h1 h2
  have q2 : i + 1 < n := by
    cases e : (List.range n)[i + 1]? with
    | none => rw [e] at h2; cases h2
    | some k => have := (List.getElem?_eq_some_iff.mp e).1; rwa [List.length_range] at this
  rw [List.getElem?_range q2] at h2
  rw [List.getElem?_range (by omega)] at h1
  cases h1; cases h2
  clear q2
  induction fs with
  | nil => exact Nat.le_refl _
  | cons x r ih =>
    show ((x :: r).filter fun x => decide (i + 1 < x)).length ≤ ((x :: r).filter fun x => decide (i < x)).length
    rw [List.filter_cons, List.filter_cons]
    by_cases c : i + 1 < x
    · rw [if_pos (decide_eq_true c), if_pos (decide_eq_true (by omega)), List.length_cons, List.length_cons]
      exact Nat.succ_le_succ ih
    · rw [if_neg (by simpa using c)]
      split
      · exact Nat.le_succ_of_le ih
      · exact ih
theorem natsI (fs : List Nat) : natsV fs = (fs.map Int.ofNat).map V.int := by unfold natsV; rw [List.map_map]; rfl
theorem cut_head (ns : List Int) (k : Nat) : cutV (ns.map V.int) none (some (k : Int)) = (ns.take k).map V.int := by
  rw [cut_map, HT.sIx_none, HT.sIx_nat, List.drop_zero, Nat.sub_zero]
  congr 1
  by_cases c : k ≤ ns.length
  · rw [Nat.min_eq_left c]
  · rw [List.take_of_length_le (by omega), List.take_of_length_le (by omega)]
theorem cut_tail (ns : List Int) : cutV (ns.map V.int) (some 1) none = (ns.drop 1).map V.int := by
  rw [cut_map, HT.sIx_none]
  have e : HT.sIx ns.length 0 (some 1) = min 1 ns.length := HT.sIx_nat (n := ns.length) (d := 0) 1
  rw [e]
  congr 1
  by_cases c : 1 ≤ ns.length
  · rw [Nat.min_eq_left c, List.take_of_length_le (by rw [List.length_drop]; omega)]
  · have : ns = [] := List.length_eq_zero_iff.mp (by omega)
    rw [this]; rfl
theorem refs_at {ts : List Addr} {i : Nat} {x : V} (h : (ts.map V.ref)[i]? = some x) : ∃ t, x = V.ref t ∧ ts[i]? = some t := by
  rw [List.getElem?_map] at h
  cases e : ts[i]? with
  | none => rw [e] at h; cases h
  | some b => rw [e] at h; exact ⟨b, (Option.some.inj h).symm, rfl⟩
section
variable {P : Program} {w : World} {K : PySem.W.Frag} {mg : Str → Option Value} {base : Heap}
def spOther (K : PySem.W.Frag) : Sp := fun vs H Q _ => ∃ (b pp tp : Addr) (ts : List Addr) (g : Pln) (a q c : Int), vs = [.ref b, .ref pp] ∧ BoxAt H b a q c ∧ c < 200000000 ∧ H pp = some (.tup [.int g.size, .str g.kind, .ref tp]) ∧ PlanAt K H tp ts g.cfs ∧ 1 ≤ g.size ∧ g.size ≤ 16 ∧ g.cfs.length ≤ 4 ∧
  ∀ (p2 tp2 : Addr) (ts2 : List Addr) (g2 : Pln) (a' c' : Int) (H' : Hp), H' p2 = some (.tup [.int g2.size, .str g2.kind, .ref tp2]) → PlanAt K H' tp2 ts2 g2.cfs → 1 ≤ g2.size → g2.size ≤ 16 → g.kind = g2.kind → g.cfs.map strip = g2.cfs.map strip → BoxAt H' b a' q c' → c' ≤ c + 10 → SB b H H' → Q (.ref p2) H'
theorem ok_otherwise {f : Addr} {fd : FuncData} (F : Fun K "_law_otherwise" "_law_otherwise" s_otherwise f fd) (T : Txt K mg) (D_take : Def P w K mg base "_law_take" 1 P_take spTake) : FnOk P w K mg base CX0 2 f fd P_otherwise (spOther K) := by
  refine F.ok sc_otherwise (fun vs H Q E h => ?_) (fun cdv A outer st H vs Q E hr h => ?_)
  · obtain ⟨b, pp, tp, ts, g, a, q, c, rfl, _⟩ := h
    rfl
  obtain ⟨b, pp, tp, ts, g, a, q, c, rfl, B, hc, hpp, pa, z0, z1, l4, k⟩ := h
  have nd := sc_otherwise.nd
  refine ⟨_, (pss_cons (ps_asg (pv 1) (pg_tupK (K := K) (n := 3) rfl rfl (pgs_cons (pgn 2 nd) (pgs_cons (pgn 3 nd) (pgs_cons (pgn 4 nd) pgs_nil)))))
      (pss_cons (ps_comp0 5 (compOk_of (osc := (defScope s_otherwise)) (oN := N_otherwise) (N := ["_law_one", "_law_box_here"]) (own := 1) (js := [0]) (by decide +kernel) rfl rfl) rfl nd rfl rfl (pi_tupK (K := K) rfl (pv 4)) (fun _ _ _ _ _ _ => (pgn 0 (show List.Nodup (["_law_one", "_law_box_here"] : List Str) by decide +kernel))) (fun _ _ _ _ _ _ => (pe_tup (pc (pe_ix (ix_tupK (K := K) rfl) (pv 0) pe_int (fun _ _ => rfl)) (pc (pe_ix (ix_tupK (K := K) rfl) (pv 0) pe_int (fun _ _ => rfl)) (pc (pe_ix (ix_tupK (K := K) rfl) (pv 0) pe_int (fun _ _ => rfl)) (pc (pe_ix (ix_listK (K := K) rfl) (pe_lst (pc pe_str (pc pe_str pa_nil))) (pe_defN D_take hr.m rfl (pc (pv 1) (pc pe_int pa_nil))) (fun _ _ => rfl)) pa_nil)))))))
      (pss_one (ps_ret (pe_tup (pc (pe_op op_add pe_int (pe_defN D_take hr.m rfl (pc (pv 0) (pc (pv 2) pa_nil)))) (pc (pv 3) (pc (pe_callTyN (call_tuple_ofK (K := K) rfl) rfl T.z_tuple boot_tupleT (pc (pv 5) pa_nil)) pa_nil)))))))), ?_⟩
  refine ⟨_, rfl, pp, _, rfl, SqT.of hpp, rfl, _, _, rfl, gN ⟨_, _, rfl, gN ⟨_, _, rfl, gN ⟨rfl, ?_⟩⟩⟩⟩
  try dsimp only
  refine ⟨_, rfl, tp, rfl, ⟨_, SqT.of pa.top⟩, fun l hl => ?_⟩
  have nlb : l ≠ b := Ne.symm (ne_of_none B.at' hl)
  have ntb : tp ≠ b := fun z => by have := pa.top; rw [z, B.at'] at this; cases this
  refine comp_tup (K := K) (a := tp) (xs := ts.map V.ref) (l := l) (fun i ys σ G => ∃ (v0 : Option V) (us : List Addr) (ds : List Cf) (a' c' : Int), σ = [v0, some (.ref b)] ∧ ys = us.map V.ref ∧ us.length = i ∧ (g.cfs.take i).map strip = ds.map strip ∧ (∀ (j : Nat) (t : Addr) (d : Cf), us[j]? = some t → ds[j]? = some d → ∃ wr : Str, G t = some (.tup [.int d.sh, .int d.pl, .str d.ru, .str wr]) ∧ d.late = decide (wr = "late")) ∧ G l = some (.lst ys) ∧ BoxAt G b a' q c' ∧ c' ≤ c + (i : Int) ∧ SB b H G)
    ⟨none, [], [], a, c, rfl, rfl, rfl, rfl, (fun j t d h => by simp at h), upd_same, B.same (same_upd hl _), by simp, (same_upd hl _).sb b⟩ (fun i ys σ G _ ⟨_, _, _, _, _, _, _, _, _, _, _, _, _, u⟩ => SqT.of (u _ _ ntb pa.top)) ?_ ?_
  · rintro i x ys σ G hi hxi hys ⟨v0, us, ds, a', c', rfl, rfl, hus, hds, hat, g1, B', hc', u'⟩
    obtain ⟨t, rfl, et⟩ := refs_at hxi
    have hi2 : i < g.cfs.length := by rw [List.length_map, pa.len] at hi; exact hi
    have ec : g.cfs[i]? = some g.cfs[i] := List.getElem?_eq_getElem hi2
    generalize g.cfs[i] = cf at ec
    obtain ⟨wr0, e1, _⟩ := pa.at_ i t cf et ec
    have ntb2 : t ≠ b := fun z => by rw [z, B.at'] at e1; cases e1
    have e1' := SqT.of (K := K) (u' _ _ ntb2 e1)
    have hdl : ds.length = i := by have := congrArg List.length hds; rw [List.length_map, List.length_map, List.length_take] at this; omega
    refine ⟨_, rfl, t, _, _, _, rfl, rfl, e1', atI0, _, rfl, t, _, _, _, rfl, rfl, e1', atI1, _, rfl, t, _, _, _, rfl, rfl, e1', atI2, (by show 2 ≤ sizeLine; decide), fun p5 hp5 => ⟨_, rfl, b, a', q, c', 2, rfl, B'.same (same_upd hp5 _), by omega, by decide, by decide, fun r5 a5 c5 G5 r50 r51 B5 hc5 s5 => ?_⟩⟩
    have q5 : b ≠ p5 := ne_of_none B'.at' hp5
    obtain ⟨wr, hwr⟩ := pick2s "late" "through" r5 r50 r51
    refine ⟨p5, _, _, _, rfl, rfl, SqL.of (s5 _ _ (Ne.symm q5) upd_same), hwr, (by show 4 ≤ sizeLine; decide), fun pt hpt => ?_⟩
    have u5 : SB b G G5 := ((same_upd hp5 _).sb b).trans s5
    have g5 := u5 _ _ nlb g1
    have npl : pt ≠ l := Ne.symm (ne_of_none g5 hpt)
    have s6 := same_upd hpt (.tup [.int cf.sh, .int cf.pl, .str cf.ru, .str wr])
    refine CNx.of (Nat.le_trans (by rw [List.length_map, pa.len]; exact l4 : _ ≤ 4) (by decide)) hi hys (s6 _ _ g5) ⟨_, us ++ [pt], ds ++ [⟨cf.sh, cf.pl, cf.ru, decide (wr = "late")⟩], a5, c5, rfl, by rw [List.map_append]; rfl, by rw [List.length_append, hus]; rfl, ?_, fun j t' d h1 h2 => ?_, upd_same, (B5.same s6).sb (sb_upd l _ _) (Ne.symm nlb), by omega, fun x o nx e => ?_⟩
    · rw [List.take_succ, ec, List.map_append, hds, List.map_append]
      rfl
    · by_cases hj : j < i
      · rw [List.getElem?_append_left (by omega)] at h1 h2
        obtain ⟨wr', e1, e2⟩ := hat j t' d h1 h2
        refine ⟨wr', ?_, e2⟩
        have nt : t' ≠ b := fun z => by rw [z, B'.at'] at e1; cases e1
        have e1' := s6 _ _ (u5 _ _ nt e1)
        have g6 := s6 _ _ g5
        rw [upd_ne (fun z => by rw [z, g6] at e1'; cases e1')]
        exact e1'
      · have hj2 : j = i := by have := (List.getElem?_eq_some_iff.mp h1).1; rw [List.length_append, List.length_singleton] at this; omega
        subst hj2
        rw [List.getElem?_append_right (by omega), show j - us.length = 0 by omega] at h1
        rw [List.getElem?_append_right (by omega), show j - ds.length = 0 by omega] at h2
        cases h1; cases h2
        exact ⟨wr, by rw [upd_ne npl]; exact upd_same, rfl⟩
    · rw [upd_ne (ne_of_none e hl)]
      exact s6 _ _ (u5 _ _ nx (u' _ _ nx e))
  rintro ys σ G _ ⟨v0, us, ds, a', c', rfl, rfl, hus, hds, hat, g1, B', hc', u'⟩
  rw [List.length_map, pa.len] at hus hds hc'
  rw [List.take_length] at hds
  have hdl : ds.length = g.cfs.length := by have := congrArg List.length hds; rw [List.length_map, List.length_map] at this; omega
  refine gN ?_
  try dsimp only
  refine ⟨_, rfl, _, rfl, b, a', q, c', g.size, rfl, B', by omega, by omega, by omega, fun r2 a2 c2 G2 r20 r21 B2 hc2 s2 => ⟨_, _, rfl, rfl, _, rfl, _, rfl, l, _, rfl, .inl ⟨SqL.of (s2 _ _ nlb g1), fun tp2 htp2 => ⟨(by show 3 ≤ sizeLine; decide), fun p2 hp2 => ?_⟩⟩⟩⟩
  have s5 := same_upd htp2 (.tup (us.map V.ref))
  have s6 := s5.trans (same_upd hp2 (.tup [.int (1 + r2), .str g.kind, .ref tp2]))
  refine k p2 tp2 us ⟨1 + r2, g.kind, ds⟩ a2 c2 _ upd_same ⟨same_upd hp2 _ _ _ upd_same, by show us.length = ds.length; omega, fun j t d h1 h2 => ?_, fun d hd => ?_⟩ (by show 1 ≤ 1 + r2; omega) (by show 1 + r2 ≤ 16; omega) rfl hds (B2.same s6) (by omega) ((u'.trans s2).trans (s6.sb b))
  · obtain ⟨wr, e1, e2⟩ := hat j t d h1 h2
    have nt : t ≠ b := fun z => by rw [z, B'.at'] at e1; cases e1
    exact ⟨wr, s6 _ _ (s2 _ _ nt e1), e2⟩
  · have m : strip d ∈ g.cfs.map strip := by rw [hds]; exact List.mem_map.mpr ⟨d, hd, rfl⟩
    obtain ⟨c0, hc0, e0⟩ := List.mem_map.mp m
    have q1 : c0.sh = d.sh := (congrArg Cf.sh e0 : (strip c0).sh = (strip d).sh)
    have q2 : c0.pl = d.pl := (congrArg Cf.pl e0 : (strip c0).pl = (strip d).pl)
    rw [← q1, ← q2]
    exact pa.cf c0 hc0
def spProd (K : PySem.W.Frag) : Sp := fun vs H Q _ => ∃ (pp tp : Addr) (ts : List Addr) (g : Pln), vs = [.ref pp] ∧ H pp = some (.tup [.int g.size, .str g.kind, .ref tp]) ∧ PlanAt K H tp ts g.cfs ∧ ∀ z : Int, 0 ≤ z → (∀ c ∈ g.cfs, z % c.sh = 0) → Q (.int z) H
theorem ok_product {f : Addr} {fd : FuncData} (F : Fun K "_law_product" "_law_product" s_product f fd) (T : Txt K mg) : FnOk P w K mg base CX0 1 f fd P_product (spProd K) := by
  refine F.ok sc_product (fun vs H Q E h => ?_) (fun cdv A outer st H vs Q E hr h => ?_)
  · obtain ⟨pp, tp, ts, g, rfl, _⟩ := h
    rfl
  obtain ⟨pp, tp, ts, g, rfl, hpp, pa, k⟩ := h
  have nd := sc_product.nd
  refine ⟨_, (pss_cons (pst 1 nd pe_int)
      (pss_cons (ps_for PassesOwn.never rfl (pi_tupK (K := K) rfl (pe_ix (ix_tupK (K := K) rfl) (pv 0) pe_int (fun _ _ => rfl))) (pgn 2 nd) (pss_one (pst 1 nd (pe_op op_mul (pv 1) (pe_ix (ix_tupK (K := K) rfl) (pv 2) pe_int (fun _ _ => rfl))))))
      (pss_one (ps_ret (pv 1))))), ?_⟩
  refine gN ?_
  try dsimp only
  refine ⟨_, rfl, pp, _, _, _, rfl, rfl, SqT.of hpp, atI2, tp, rfl, ⟨_, SqT.of pa.top⟩, for_tup (K := K) (a := tp) (xs := ts.map V.ref) (fun i σ G => ∃ (z : Int) (v2 : Option V), σ = [some (.ref pp), some (.int z), v2] ∧ G = H ∧ 0 ≤ z ∧ ∀ c ∈ g.cfs.take i, z % c.sh = 0)
    ⟨1, _, rfl, rfl, by decide, by simp⟩ (fun i σ G _ ⟨_, _, _, e, _⟩ => by rw [e]; exact SqT.of pa.top) ?_ ?_⟩
  · rintro i x σ G hx ⟨z, v2, rfl, rfl, z0, hz⟩
    obtain ⟨t, rfl, et⟩ := refs_at hx
    have hi2 : i < g.cfs.length := by have := (List.getElem?_eq_some_iff.mp et).1; rw [pa.len] at this; exact this
    have ec : g.cfs[i]? = some g.cfs[i] := List.getElem?_eq_getElem hi2
    generalize g.cfs[i] = cf at ec
    obtain ⟨wr0, e1, _⟩ := pa.at_ i t cf et ec
    have hcf := pa.cf cf (List.mem_of_getElem? ec)
    refine gN ?_
    try dsimp only
    refine ⟨_, rfl, _, rfl, t, _, _, _, rfl, rfl, SqT.of e1, atI0, _, _, rfl, rfl, .inr ⟨by omega, by omega⟩, gN ?_⟩
    try dsimp only
    refine ⟨_, _, rfl, rfl, Int.mul_nonneg z0 (by omega), fun c hc => ?_⟩
    rw [List.take_succ, ec] at hc
    rcases List.mem_append.mp hc with hc | hc
    · exact Int.emod_eq_zero_of_dvd (Int.dvd_trans (Int.dvd_of_emod_eq_zero (hz c hc)) (Int.dvd_mul_right z cf.sh))
    · rw [show c = cf by simpa using hc]
      exact Int.emod_eq_zero_of_dvd (Int.dvd_mul_left z cf.sh)
  · rintro σ G ⟨z, v2, rfl, rfl, z0, hz⟩
    rw [List.length_map, pa.len, List.take_length] at hz
    exact ⟨_, rfl, k z z0 hz⟩
end
structure Bs (K : PySem.W.Frag) (G : Hp) (pp tp : Addr) (ts : List Addr) (g : Pln) (lr : Addr) (ns : List Int) (ld : Addr) (fs : List Nat) : Prop where
  epp : G pp = some (.tup [.int g.size, .str g.kind, .ref tp])
  pa : PlanAt K G tp ts g.cfs
  tb : Tb K G
  elr : G lr = some (.lst (ns.map V.int))
  eld : G ld = some (.lst ((fs.map Int.ofNat).map V.int))
section
variable {K : PySem.W.Frag} {G G' : Hp} {pp tp : Addr} {ts : List Addr} {g : Pln} {lr : Addr} {ns : List Int} {ld : Addr} {fs : List Nat}
theorem Bs.same (h : Bs K G pp tp ts g lr ns ld fs) (s : Same G G') : Bs K G' pp tp ts g lr ns ld fs := ⟨s _ _ h.epp, h.pa.same s, h.tb.same s, s _ _ h.elr, s _ _ h.eld⟩
theorem Bs.sb (h : Bs K G pp tp ts g lr ns ld fs) {b : Addr} {a q c : Int} (B : BoxAt G b a q c) (s : SB b G G') (n1 : lr ≠ b) (n2 : ld ≠ b) : Bs K G' pp tp ts g lr ns ld fs :=
  ⟨s _ _ (fun z => by have := h.epp; rw [z, B.at'] at this; cases this) h.epp, h.pa.sb B s, s _ _ (fun z => by have t := h.tb; unfold Tb at t; rw [z, B.at'] at t; cases t) h.tb, s _ _ n1 h.elr, s _ _ n2 h.eld⟩
end
theorem miss_last {n : Nat} (h : 1 ≤ n) (fs : List Nat) : atI (((missF n fs).map Int.ofNat).map V.int) (-1) = some (.int (((fs.filter fun x => decide (n - 1 < x)).length : Nat) : Int)) := by
  obtain ⟨m, rfl⟩ : ∃ m, n = m + 1 := ⟨n - 1, by omega⟩
  unfold missF
  rw [List.range_succ, List.map_append, List.map_append, List.map_append]
  exact atI_last _ _
theorem ofs_at {ms : List Nat} {i : Nat} {z : Int} (h : (ms.map Int.ofNat)[i]? = some z) : ∃ n : Nat, ms[i]? = some n ∧ z = (n : Int) := by
  rw [List.getElem?_map] at h
  cases e : ms[i]? with
  | none => rw [e] at h; cases h
  | some n => rw [e] at h; exact ⟨n, rfl, (Option.some.inj h).symm⟩
theorem all_rep (n : Nat) : (List.replicate n true).all id = true := by
  rw [List.all_eq_true]
  intro z hz
  exact (List.mem_replicate.mp hz).2
section
variable {P : Program} {w : World} {K : PySem.W.Frag} {mg : Str → Option Value} {base : Heap}
def spLaw (K : PySem.W.Frag) : Sp := fun vs H Q _ => ∃ (a : Addr) (ns : List Int), vs = [.ref a] ∧ SqL K H a (ns.map V.int) ∧ ns.length ≤ 63 ∧ Tb K H ∧ ∀ H', Q (.bl true) H'
theorem ok_law {f : Addr} {fd : FuncData} (F : Fun K "law" "law" s_law f fd) (T : Txt K mg) (D_boxes : Def P w K mg base "_law_boxes" 2 P_boxes (spBoxes K)) (D_plan : Def P w K mg base "_law_plan" 3 P_plan (spPlanL K)) (D_row : Def P w K mg base "_law_row" 3 P_row spRowL) (D_founds : Def P w K mg base "founds" 17 P_founds (spFounds K)) (D_otherwise : Def P w K mg base "_law_otherwise" 2 P_otherwise (spOther K)) (D_product : Def P w K mg base "_law_product" 1 P_product (spProd K)) (D_take : Def P w K mg base "_law_take" 1 P_take spTake) (D_missed_by_stair : Def P w K mg base "missed_by_stair" 18 P_missed_by_stair (spMissed K)) :
    FnOk P w K mg base CX0 20 f fd P_law (spLaw K) := by
  refine F.ok sc_law (fun vs H Q E h => ?_) (fun cdv A outer st H vs Q E hr h => ?_)
  · obtain ⟨a, ns, rfl, _⟩ := h
    rfl
  obtain ⟨a, ns, rfl, hS, h63, tb, k⟩ := h
  have nd := sc_law.nd
  have hu := hu_of hr
  refine ⟨_, (pss_cons (ps_for PassesOwn.never rfl (pi_listK (K := K) rfl (pe_defN D_boxes hr.m rfl (pc (pv 0) (pc pe_int pa_nil)))) (pgn 1 nd) (pss_cons (pst 2 nd (pe_defN D_plan hr.m rfl (pc (pv 1) pa_nil)))
      (pss_cons (pst 3 nd (pe_defN D_row hr.m rfl (pc (pv 1) (pc (pe_ix (ix_tupK (K := K) rfl) (pv 2) pe_int (fun _ _ => rfl)) (pc pe_int pa_nil)))))
      (pss_cons (pst 4 nd (pe_callTyN (call_list_ofK (K := K) rfl) rfl T.z_list boot_listT (pc (pv 3) pa_nil)))
      (pss_cons (pst 5 nd (pe_defN D_founds hr.m rfl (pc (pv 2) (pc (pv 4) pa_nil))))
      (pss_cons (ps_if (pt_cmpR (op_neL (K := K) (Nat.lt_of_succ_lt hu) rfl) (pv 4) (pv 3) (nomark _)) (pss_one (ps_ret pe_bl)) pss_nil)
      (pss_cons (ps_if (pt_cmpR (op_neL (K := K) (Nat.lt_of_succ_lt hu) rfl) (pe_defN D_founds hr.m rfl (pc (pe_defN D_otherwise hr.m rfl (pc (pv 1) (pc (pv 2) pa_nil))) (pc (pe_callTyN (call_list_ofK (K := K) rfl) rfl T.z_list boot_listT (pc (pv 3) pa_nil)) pa_nil))) (pv 5) (nomark _)) (pss_one (ps_ret pe_bl)) pss_nil)
      (pss_cons (pst 6 nd (pe_defN D_product hr.m rfl (pc (pv 2) pa_nil)))
      (pss_cons (ps_if (PW.pt (pw_and (pt_cmpR op_lt (pe_op op_mul (pe_op op_add (pe_op op_add (pe_callBN (call_maxL rfl rfl) rfl T.z_max boot_max (pc (pv 3) pa_nil)) (pv 6)) pe_int) (pe_ix (ix_tupK (K := K) rfl) (pv 2) pe_int (fun _ _ => rfl))) pe_int (nomark _)) (pw_and1 (pt_cmpR (op_neL (K := K) (Nat.lt_of_succ_lt hu) rfl) (pe_defN D_founds hr.m rfl (pc (pv 2) (pc (pe_comp0 (compOk_of (osc := (defScope s_law)) (oN := N_law) (N := ["_law_board", "_law_off"]) (own := 1) (js := [6]) (by decide +kernel) rfl rfl) rfl (pi_listK (K := K) rfl (pv 3)) (fun _ _ _ _ _ _ => (pgn 0 (show List.Nodup (["_law_board", "_law_off"] : List Str) by decide +kernel))) (fun _ _ _ _ _ _ => (pe_op op_add (pv 0) (pv 1)))) pa_nil))) (pv 5) (nomark _))))) (pss_one (ps_ret pe_bl)) pss_nil)
      (pss_cons (pst 7 nd (pe_defN D_take hr.m rfl (pc (pv 1) (pc (pe_op op_add (pe_callBN (call_len_seqK (K := K) rfl) rfl T.z_len PySem.boot_len (pc (pv 3) pa_nil)) pe_int) pa_nil))))
      (pss_cons (ps_if (PW.pt (pw_or (pt_cmpR (op_neL (K := K) (Nat.lt_of_succ_lt hu) rfl) (pe_defN D_founds hr.m rfl (pc (pv 2) (pc (pe_slice (sl_listK (K := K) rfl) (pv 3) po_none (po_some (pv 7))) pa_nil))) (pe_slice (sl_listK (K := K) rfl) (pv 5) po_none (po_some (pv 7))) (nomark _)) (pw_or1 (pt_not (pt_val (pe_callBN (call_allL rfl) rfl T.z_all boot_all (pc (pe_comp0 (compOk_of (osc := (defScope s_law)) (oN := N_law) (N := ["_law_one", "_law_plan_here"]) (own := 1) (js := [2]) (by decide +kernel) rfl rfl) rfl (pi_listK (K := K) rfl (pv 5)) (fun _ _ _ _ _ _ => (pgn 0 (show List.Nodup (["_law_one", "_law_plan_here"] : List Str) by decide +kernel))) (fun _ _ _ _ _ _ => (pe_chain op_le op_le pe_int (pv 0) (pe_callBN (call_len_seqK (K := K) rfl) rfl T.z_len PySem.boot_len (pc (pe_ix (ix_tupK (K := K) rfl) (pv 1) pe_int (fun _ _ => rfl)) pa_nil))))) pa_nil))))))) (pss_one (ps_ret pe_bl)) pss_nil)
      (pss_cons (ps_for PassesOwn.never rfl (pi_enum rfl T.z_enumerate (pc (pv 3) pa_nil)) (pg_tupK (K := K) (n := 2) rfl rfl (pgs_cons (pgn 8 nd) (pgs_cons (pgn 9 nd) pgs_nil))) (pss_one (ps_if (PW.pt (pw_and (pt_cmpR (op_notIn_seqK (K := K) rfl) (pv 9) (pe_slice (sl_listK (K := K) rfl) (pv 3) po_none (po_some (pv 8))) rfl) (pw_and1 (pt_cmpR op_ne (pe_ix (ix_listK (K := K) rfl) (pv 5) (pv 8) (fun _ _ => rfl)) (pe_callBN (call_len_seqK (K := K) rfl) rfl T.z_len PySem.boot_len (pc (pe_ix (ix_tupK (K := K) rfl) (pv 2) pe_int (fun _ _ => rfl)) pa_nil)) (nomark _))))) (pss_one (ps_ret pe_bl)) pss_nil)))
      (pss_cons (ps_if (pt_cmpR (op_neL (K := K) (Nat.lt_of_succ_lt hu) rfl) (pe_slice (sl_listK (K := K) rfl) (pe_defN D_founds hr.m rfl (pc (pv 2) (pc (pe_slice (sl_listK (K := K) rfl) (pe_op op_cat (pv 3) (pv 3)) po_none (po_some pe_int)) pa_nil))) po_none (po_some (pe_callBN (call_len_seqK (K := K) rfl) rfl T.z_len PySem.boot_len (pc (pv 3) pa_nil)))) (pv 5) (nomark _)) (pss_one (ps_ret pe_bl)) pss_nil)
      (pss_cons (pst 10 nd (pe_defN D_missed_by_stair hr.m rfl (pc (pv 2) (pc (pe_callTyN (call_list_ofK (K := K) rfl) rfl T.z_list boot_listT (pc (pv 3) pa_nil)) pa_nil))))
      (pss_cons (ps_if (pt_not (pt_val (pe_callBN (call_allL rfl) rfl T.z_all boot_all (pc (pe_comp0 (compOk_of (osc := (defScope s_law)) (oN := N_law) (N := ["_law_one", "_law_other"]) (own := 2) (js := []) (by decide +kernel) rfl rfl) rfl (pi_zip rfl T.z_zip (pc (pv 10) (pc (pe_slice (sl_listK (K := K) rfl) (pv 10) (po_some pe_int) po_none) pa_nil))) (fun _ _ _ _ _ _ => (pg_tupK (K := K) (n := 2) rfl rfl (pgs_cons (pgn 0 (show List.Nodup (["_law_one", "_law_other"] : List Str) by decide +kernel)) (pgs_cons (pgn 1 (show List.Nodup (["_law_one", "_law_other"] : List Str) by decide +kernel)) pgs_nil)))) (fun _ _ _ _ _ _ => (pe_cmpR op_ge (pv 0) (pv 1) (nomark _)))) pa_nil)))) (pss_one (ps_ret pe_bl)) pss_nil)
      (pss_one (ps_if (pt_cmpR op_lt (pe_ix (ix_listK (K := K) rfl) (pv 10) (pe_un un_neg pe_int) (fun _ _ => rfl)) (pe_callBN call_lenS rfl T.z_len PySem.boot_len (pc (pe_callTyN (call_setL rfl) rfl T.z_set boot_setT (pc (pv 3) pa_nil)) pa_nil)) (nomark _)) (pss_one (ps_ret pe_bl)) pss_nil)))))))))))))))))
      (pss_one (ps_ret pe_bl))), ?_⟩
  refine ⟨_, rfl, a, ns, 3, rfl, hS, h63, by decide, by decide, fun r bs H1 hr1 e1 B hlen => ?_⟩
  refine ⟨r, rfl, ⟨_, SqL.of B.at'⟩, for_list (K := K) (a := r) (xs := bs.map V.ref) (fun i σ H' => ∃ v1 v2 v3 v4 v5 v6 v7 v8 v9 v10 : Option V, σ = [some (.ref a), v1, v2, v3, v4, v5, v6, v7, v8, v9, v10] ∧ H' r = some (.lst (bs.map V.ref)) ∧ Tb K H' ∧ ∀ j b, i ≤ j → bs[j]? = some b → ∃ a q, BoxAt H' b a q 0)
    ⟨_, _, _, _, _, _, _, _, _, _, rfl, B.at', tb.same e1, fun j b _ hj => (B.new b (List.mem_of_getElem? hj)).2⟩ (fun i σ H' _ ⟨_, _, _, _, _, _, _, _, _, _, _, q, _⟩ => SqL.of q) ?_ ?_⟩
  · rintro i x σ H' hi ⟨v1, v2, v3, v4, v5, v6, v7, v8, v9, v10, rfl, hr', tb', hbx⟩
    obtain ⟨b, rfl, hbi⟩ := refs_at hi
    obtain ⟨ba, bq, Bb⟩ := hbx i b (Nat.le_refl _) hbi
    have nrb : r ≠ b := fun e => by subst e; exact B.off (List.mem_of_getElem? hbi)
    refine gN ?_
    try dsimp only
    refine hide fun u1 e1 => ?_
    refine ⟨_, rfl, b, ba, bq, 0, rfl, Bb, by decide, fun pp tp ts g a1 c1 G1 epp pa z0 z1 l1 l4 B1 hc1 t1 => gN ?_⟩
    subst e1
    try dsimp only
    refine hide fun u1 e1 => ?_
    refine ⟨_, rfl, _, rfl, pp, _, _, _, rfl, rfl, SqT.of epp, atI0, b, a1, bq, c1, g.size, 300, rfl, B1, by omega, z0, z1, by decide, by decide, fun lr ns a2 c2 G2 hlr elr ln3 ln1 nsb B2 hc2 t2 => gN ?_⟩
    subst e1
    try dsimp only
    have ln : ns.length ≤ 300 := by omega
    have nlrb : lr ≠ b := Ne.symm (ne_of_none B1.at' hlr)
    have npb : pp ≠ b := fun z => by rw [z, B1.at'] at epp; cases epp
    have epp2 := t2 _ _ npb epp
    have pa2 := pa.sb B1 t2
    have ntb : tabOf K "Room" "going" ≠ b := fun z => by have t := tb'; unfold Tb at t; rw [z, Bb.at'] at t; cases t
    have u2 := t1.trans t2
    have tb2 : Tb K G2 := u2 _ _ ntb tb'
    have nsb' : ∀ x ∈ ns, 0 ≤ x ∧ x ≤ 1000000 := fun x hx => by
      obtain ⟨x0, x1⟩ := nsb x hx
      refine ⟨x0, ?_⟩
      have : (x + 1) * 1 ≤ (x + 1) * g.size := Int.mul_le_mul_of_nonneg_left z0 (by omega)
      omega
    have hc2' : c2 ≤ 1040 := by omega
    clear epp pa Bb B1 hc1 t1 hc2 t2 hlr
    refine hide fun u1 e1 => ?_
    refine ⟨_, rfl, lr, _, rfl, .inl (SqL.of elr), fun lh hlh => gN ?_⟩
    subst e1
    try dsimp only
    have s3 := same_upd hlh (.lst (ns.map V.int))
    have elh : upd G2 lh (.lst (ns.map V.int)) lh = some (.lst (ns.map V.int)) := upd_same
    generalize upd G2 lh (.lst (ns.map V.int)) = G3 at *
    have B3 := B2.same s3
    refine hide fun u1 e1 => ?_
    refine ⟨_, rfl, _, rfl, pp, tp, lh, g, ts, ns, rfl, s3 _ _ epp2, pa2.same s3, z0, by omega, l1, l4, tb2.same s3, elh, by omega, nsb', fun ld G4 hld s4 eld => gN ?_⟩
    subst e1
    try dsimp only
    have s24 := s3.trans s4
    have nldb : ld ≠ b := Ne.symm (ne_of_none B3.at' hld)
    rw [natsI] at eld
    have fle : ∀ (k n : Nat), (foundsF g (emptyS g) ns)[k]? = some n → n ≤ g.cfs.length := fun k n h => founds_le h
    have ffst : ∀ (k : Nat) (z : Int), ns[k]? = some z → z ∉ ns.take k → (foundsF g (emptyS g) ns)[k]? = some g.cfs.length := fun k z h h' => founds_first h h'
    have fmet : (met ns).length ≤ ((foundsF g (emptyS g) ns).filter fun x => decide (g.cfs.length - 1 < x)).length := founds_met l1 ns (nd_met ns) fun x hx => (mem_met ns x).mp hx
    have fln : (foundsF g (emptyS g) ns).length = ns.length := foundsF_len ..
    generalize hfs : foundsF g (emptyS g) ns = fs at *
    have b4 : Bs K G4 pp tp ts g lr ns ld fs := ⟨s24 _ _ epp2, pa2.same s24, tb2.same s24, s24 _ _ elr, eld⟩
    have B4 := B2.same s24
    have elh4 := s4 _ _ elh
    have u4 := u2.trans (s24.sb b)
    clear epp2 pa2 tb2 elr eld elh B2 B3 s3 s4 s24 u2 hld hlh
    refine hide fun u1 e1 => ?_
    refine ⟨_, rfl, _, rfl, lh, lr, ns, ns, rfl, rfl, SqL.of elh4, SqL.of b4.elr, _, rfl, ifF (by simp) ?_⟩
    subst e1
    dsimp only [tNext]
    refine hide fun u1 e1 => ?_
    refine ⟨_, rfl, _, rfl, b, pp, tp, ts, g, a2, bq, c2, rfl, B4, by omega, b4.epp, b4.pa, z0, z1, l4, fun p2 tp2 ts2 g2 a5 c5 G5 ep2 pa2 y0 y1 ek es B5 hc5 t5 => ⟨_, rfl, lr, _, rfl, .inl (SqL.of (b4.sb B4 t5 nlrb nldb).elr), fun l6 hl6 => ?_⟩⟩
    have b5 := b4.sb B4 t5 nlrb nldb
    have s6 := same_upd hl6 (.lst (ns.map V.int))
    have b6 := b5.same s6
    have el2 : g.cfs.length = g2.cfs.length := by have := congrArg List.length es; rwa [List.length_map, List.length_map] at this
    refine ⟨p2, tp2, l6, g2, ts2, ns, rfl, s6 _ _ ep2, pa2.same s6, y0, by omega, by omega, by omega, b6.tb, upd_same, by omega, nsb', fun lf G7 hlf s7 elf => ?_⟩
    rw [founds_other ek es, hfs, natsI] at elf
    have b7 := b6.same s7
    refine ⟨_, rfl, lf, ld, _, _, rfl, rfl, SqL.of elf, SqL.of b7.eld, _, rfl, ifF (by simp) ?_⟩
    subst e1
    dsimp only [tNext]
    have B7 := (B5.same s6).same s7
    have u7 := (u4.trans t5).trans ((s6.trans s7).sb b)
    have hc7 : c5 ≤ 1050 := by omega
    clear b4 B4 u4 b5 B5 hc5 t5 s6 s7 b6 elf hlf hl6 ep2 pa2 y0 y1 ek es el2 elh4
    refine hide fun u1 e1 => ?_
    refine ⟨_, rfl, pp, tp, ts, g, rfl, b7.epp, b7.pa, fun off o0 om => gN ?_⟩
    subst e1
    try dsimp only
    refine hide fun u1 e1 => ?_
    refine cpIfS (fun c G => c = false ∧ Same G7 G) (fun Q' k' => ?_) ?_
    · refine ⟨_, rfl, lr, ns, rfl, SqL.of b7.elr, fun z => by rw [z] at ln1; simp at ln1, fun m hm hmx => ⟨_, rfl, _, _, rfl, rfl, _, _, rfl, rfl, _, rfl, pp, _, _, _, rfl, rfl, SqT.of b7.epp, atI0, _, _, rfl, rfl, .inr ⟨by omega, by omega⟩, _, _, rfl, rfl, _, rfl, ite_dec (fun cc => ?_) (fun _ => k' _ _ ⟨rfl, Same.refl _⟩)⟩⟩
      refine ⟨_, rfl, _, rfl, lr, rfl, ⟨_, SqL.of b7.elr⟩, fun lc hlc => ?_⟩
      refine comp_list (K := K) (a := lr) (xs := ns.map V.int) (l := lc) (fun i ys σ G => ∃ v0 : Option V, σ = [v0, some (.int off)] ∧ ys = ((ns.take i).map (· + off)).map V.int ∧ G = upd G7 lc (.lst ys)) ⟨none, rfl, rfl, rfl⟩ (fun i ys σ G _ ⟨_, _, _, e⟩ => by rw [e]; exact SqL.of (same_upd hlc _ _ _ b7.elr)) ?_ ?_
      · rintro i x ys σ G hi hxi hys ⟨v0, rfl, rfl, rfl⟩
        obtain ⟨z, ez, rfl⟩ := ints_at hxi
        exact ⟨_, rfl, _, rfl, _, _, rfl, rfl, CNx.of (Nat.le_of_lt (small1000 (by rw [List.length_map]; omega))) hi hys upd_same ⟨_, rfl, by rw [List.take_succ, ez, List.map_append, List.map_append]; rfl, upd_upd⟩⟩
      · rintro ys σ G _ ⟨v0, rfl, rfl, rfl⟩
        rw [List.length_map, List.take_length]
        have b8 := b7.same (same_upd hlc (.lst ((ns.map (· + off)).map V.int)))
        refine ⟨pp, tp, lc, g, ts, ns.map (· + off), rfl, b8.epp, b8.pa, z0, by omega, l1, l4, b8.tb, upd_same, by rw [List.length_map]; omega, fun y hy => ?_, fun lf G9 hlf s9 elf => ?_⟩
        · obtain ⟨x, hx, rfl⟩ := List.mem_map.mp hy
          have h1 := nsb' x hx
          have h2 := hmx x hx
          have h3 := nsb' m hm
          have : (m + off + 1) * 1 ≤ (m + off + 1) * g.size := Int.mul_le_mul_of_nonneg_left z0 (by omega)
          refine ⟨?_, ?_⟩
          · show 0 ≤ x + off; omega
          · show x + off ≤ 1000000; omega
        · rw [founds_further om, hfs, natsI] at elf
          exact ⟨_, rfl, lf, ld, _, _, rfl, rfl, SqL.of elf, SqL.of (b8.same s9).eld, _, rfl, k' _ _ ⟨by simp, (same_upd hlc _).trans s9⟩⟩
    rintro _ G8 ⟨rfl, s8⟩
    refine ifF rfl ?_
    subst e1
    dsimp only [tNext]
    have b8 := b7.same s8
    have B8 := B7.same s8
    have u8 := u7.trans (s8.sb b)
    clear b7 B7 u7 s8 om
    refine hide fun u1 e1 => ?_
    refine ⟨_, rfl, _, rfl, lr, _, rfl, .inl (SqL.of b8.elr), _, _, rfl, rfl, b, a5, bq, c5, _, rfl, B8, by omega, by omega, by rw [List.length_map]; omega, fun cut a9 c9 G9 cut0 cut1 B9 hc9 t9 => gN ?_⟩
    subst e1
    try dsimp only
    obtain ⟨cn, rfl⟩ := Int.eq_ofNat_of_zero_le cut0
    have b9 := b8.sb B8 t9 nlrb nldb
    have u9 := u8.trans t9
    clear b8 B8 u8 t9
    refine hide fun u1 e1 => ?_
    refine cpIfS (fun c G => c = false ∧ Same G9 G) (fun Q' k' => ?_) ?_
    · refine ⟨_, rfl, _, rfl, _, rfl, _, rfl, lr, _, rfl, SqL.of b9.elr, fun lx hlx => ?_⟩
      rw [cut_head]
      have s10 := same_upd hlx (.lst ((ns.take cn).map V.int))
      have b10 := b9.same s10
      refine ⟨pp, tp, lx, g, ts, ns.take cn, rfl, b10.epp, b10.pa, z0, by omega, l1, l4, b10.tb, upd_same, by rw [List.length_take]; omega, fun y hy => nsb' y (List.mem_of_mem_take hy), fun lf G11 hlf s11 elf => ?_⟩
      rw [founds_take, hfs, natsI] at elf
      have b11 := b10.same s11
      refine ⟨_, rfl, _, rfl, _, rfl, ld, _, rfl, SqL.of b11.eld, fun ly hly => ?_⟩
      rw [cut_head]
      have s12 := same_upd hly (.lst (((fs.map Int.ofNat).take cn).map V.int))
      have b12 := b11.same s12
      have s912 := (s10.trans s11).trans s12
      refine ⟨lf, ly, _, _, rfl, rfl, SqL.of (s12 _ _ elf), SqL.of upd_same, _, rfl, ifF (by rw [List.map_take]; simp) ?_⟩
      generalize upd G11 ly (.lst (((fs.map Int.ofNat).take cn).map V.int)) = G12 at *
      refine ⟨_, rfl, ld, rfl, ⟨_, SqL.of b12.eld⟩, fun la hla => ?_⟩
      refine comp_list (K := K) (a := ld) (xs := (fs.map Int.ofNat).map V.int) (l := la) (fun i ys σ G => ∃ v0 : Option V, σ = [v0, some (.ref pp)] ∧ ys = (List.replicate i true).map V.bl ∧ G = upd G12 la (.lst ys)) ⟨none, rfl, rfl, rfl⟩ (fun i ys σ G _ ⟨_, _, _, e⟩ => by rw [e]; exact SqL.of (same_upd hla _ _ _ b12.eld)) ?_ ?_
      · rintro i x ys σ G hi hxi hys ⟨v0, rfl, rfl, rfl⟩
        obtain ⟨z, ez, rfl⟩ := ints_at hxi
        obtain ⟨n, en, rfl⟩ := ofs_at ez
        have nle := fle i n en
        have b13 := b12.same (same_upd hla (.lst ((List.replicate i true).map V.bl)))
        have tl : ((ts.map V.ref).length : Int) = (g.cfs.length : Int) := by rw [List.length_map, b13.pa.len]
        refine ⟨_, rfl, _, _, rfl, rfl, _, rfl, ifT (decide_eq_true (by omega)) ⟨_, rfl, pp, _, _, _, rfl, rfl, SqT.of b13.epp, atI2, tp, _, rfl, .inr (SqT.of b13.pa.top), _, _, rfl, rfl, ?_⟩⟩
        rw [tl]
        try dsimp only
        rw [show decide ((n : Int) ≤ (g.cfs.length : Int)) = true from decide_eq_true (by omega)]
        exact CNx.of (Nat.le_of_lt (small1000 (by rw [List.length_map, List.length_map]; omega))) hi hys upd_same ⟨_, rfl, by rw [List.replicate_succ', List.map_append]; rfl, upd_upd⟩
      · rintro ys σ G _ ⟨v0, rfl, rfl, rfl⟩
        refine ⟨la, _, rfl, SqL.of upd_same, _, rfl, k' _ _ ⟨by rw [all_rep]; rfl, s912.trans (same_upd hla _)⟩⟩
    rintro _ G13 ⟨rfl, s13⟩
    refine ifF rfl ?_
    subst e1
    dsimp only [tNext]
    have b13 := b9.same s13
    have u13 := u9.trans (s13.sb b)
    clear b9 u9 s13 B9
    refine hide fun u1 e1 => ?_
    refine ⟨_, rfl, lr, rfl, ⟨_, SqL.of b13.elr⟩, for_enum (K := K) (a := lr) (xs := ns.map V.int) (fun i σ G => ∃ v8 v9 v10 : Option V, σ = [some (.ref a), some (.ref b), some (.ref pp), some (.ref lr), some (.ref lh), some (.ref ld), some (.int off), some (.int (cn : Int)), v8, v9, v10] ∧ Same G13 G)
      ⟨_, _, _, rfl, Same.refl _⟩ (fun i σ G _ ⟨_, _, _, _, s⟩ => SqL.of (s _ _ b13.elr)) ?_ ?_⟩
    · rintro j x t σ G hx ⟨v8', v9', v10', rfl, s14⟩ ht
      obtain ⟨z, ez, rfl⟩ := ints_at hx
      have s15 := s14.trans (same_upd ht (.tup [.int (j : Int), .int z]))
      have b15 := b13.same s15
      refine ⟨t, _, rfl, SqT.of upd_same, rfl, _, _, rfl, gN ⟨_, _, rfl, gN ⟨rfl, ?_⟩⟩⟩
      generalize upd G t (.tup [.int (j : Int), .int z]) = G15 at *
      try dsimp only
      refine cpIfS (fun c G => c = false ∧ Same G13 G) (fun Q' k' => ?_) ?_
      · refine ⟨_, rfl, _, rfl, _, rfl, _, rfl, lr, _, rfl, SqL.of b15.elr, fun lx hlx => ?_⟩
        rw [cut_head]
        have s16 := same_upd hlx (.lst ((ns.take j).map V.int))
        have b16 := b15.same s16
        refine ⟨lx, _, rfl, .inl (SqL.of upd_same), rfl, ints_flat _, _, rfl, ?_⟩
        rw [inV_int, if_pos rfl]
        generalize upd G15 lx (.lst ((ns.take j).map V.int)) = G16 at *
        by_cases hm : z ∈ ns.take j
        · exact ifF (by rw [decide_eq_true hm]; rfl) (k' _ _ ⟨rfl, s15.trans s16⟩)
        · refine ifT (by rw [decide_eq_false hm]; rfl) ?_
          have ef := ffst j z ez hm
          have eat : atI ((fs.map Int.ofNat).map V.int) (j : Int) = some (.int (g.cfs.length : Int)) := atI_nat (by rw [List.getElem?_map, List.getElem?_map, ef]; rfl)
          have tl : ((ts.map V.ref).length : Int) = (g.cfs.length : Int) := by rw [List.length_map, b16.pa.len]
          refine ⟨_, rfl, _, rfl, ld, _, _, _, rfl, rfl, SqL.of b16.eld, eat, _, rfl, pp, _, _, _, rfl, rfl, SqT.of b16.epp, atI2, tp, _, rfl, .inr (SqT.of b16.pa.top), rfl, _, rfl, k' _ _ ⟨?_, s15.trans s16⟩⟩
          rw [tl]
          simp
      rintro _ G17 ⟨rfl, s17⟩
      exact ifF rfl ⟨_, _, _, rfl, s17⟩
    subst e1
    rintro σ G14 ⟨v8', v9', v10', rfl, s14⟩
    try dsimp only
    have b14 := b13.same s14
    have u14 := u13.trans (s14.sb b)
    clear b13 u13 s14 ffst fle
    refine hide fun u1 e1 => ?_
    refine ⟨_, rfl, _, rfl, _, rfl, lr, lr, _, _, rfl, rfl, b14.elr, b14.elr, (by rw [List.length_map]; exact Nat.le_of_lt (small1000 (by omega))), fun lc hlc => ?_⟩
    have s15 := same_upd hlc (.lst (ns.map V.int ++ ns.map V.int))
    have b15 := b14.same s15
    have elc : upd G14 lc (.lst (ns.map V.int ++ ns.map V.int)) lc = some (.lst (ns.map V.int ++ ns.map V.int)) := upd_same
    generalize upd G14 lc (.lst (ns.map V.int ++ ns.map V.int)) = G15 at *
    have ec : cutV (ns.map V.int ++ ns.map V.int) none (some 400) = ((ns ++ ns).take 400).map V.int := by rw [← List.map_append]; exact cut_head (ns ++ ns) 400
    refine ⟨_, rfl, lc, _, rfl, SqL.of elc, fun lx hlx => ?_⟩
    rw [ec]
    have s16 := s15.trans (same_upd hlx (.lst (((ns ++ ns).take 400).map V.int)))
    have b16 := b14.same s16
    refine ⟨pp, tp, lx, g, ts, (ns ++ ns).take 400, rfl, b16.epp, b16.pa, z0, by omega, l1, l4, b16.tb, upd_same, by rw [List.length_take]; omega, fun y hy => nsb' y ?_, fun lf G17 hlf s17 elf => ?_⟩
    · rcases List.mem_append.mp (List.mem_of_mem_take hy) with h | h <;> exact h
    rw [natsI] at elf
    have b17 := b16.same s17
    refine ⟨_, rfl, lr, _, rfl, .inl (SqL.of b17.elr), _, rfl, lf, _, rfl, SqL.of elf, fun ly hly => ?_⟩
    rw [show ((ns.map V.int).length : Int) = ((ns.length : Nat) : Int) by rw [List.length_map], cut_head]
    have ef : ((foundsF g (emptyS g) ((ns ++ ns).take 400)).map Int.ofNat).take ns.length = fs.map Int.ofNat := by
      rw [← List.map_take, ← founds_take, List.take_take, Nat.min_eq_left (by omega), List.take_left', hfs]
      rfl
    rw [ef]
    have s18 := same_upd hly (.lst ((fs.map Int.ofNat).map V.int))
    have b18 := b17.same s18
    refine ⟨_, rfl, ly, ld, _, _, rfl, rfl, SqL.of upd_same, SqL.of b18.eld, _, rfl, ifF (by simp) ?_⟩
    subst e1
    dsimp only [tNext]
    have u18 := u14.trans (((s16.trans s17).trans s18).sb b)
    generalize upd G17 ly (.lst ((fs.map Int.ofNat).map V.int)) = G18 at *
    clear b14 u14 s15 b15 elc ec s16 b16 s17 elf b17 ef s18 hlf hlx hlc hly
    refine hide fun u1 e1 => ?_
    refine ⟨_, rfl, _, rfl, lr, _, rfl, .inl (SqL.of b18.elr), fun l9 hl9 => ?_⟩
    have s19 := same_upd hl9 (.lst (ns.map V.int))
    have b19 := b18.same s19
    refine ⟨pp, tp, l9, g, ts, ns, rfl, b19.epp, b19.pa, z0, by omega, l1, l4, b19.tb, upd_same, by omega, nsb', fun lm G20 hlm s20 elm => gN ?_⟩
    subst e1
    try dsimp only
    rw [hfs, natsI] at elm
    have b20 := b19.same s20
    have u20 := u18.trans ((s19.trans s20).sb b)
    clear b18 u18 s19 b19 s20 hlm hl9
    have ml : ((missF g.cfs.length fs).map Int.ofNat).length = g.cfs.length := by rw [List.length_map]; unfold missF; rw [List.length_map, List.length_range]
    refine hide fun u1 e1 => ?_
    refine ⟨_, rfl, _, rfl, _, rfl, lm, _, rfl, SqL.of elm, fun lx hlx => ?_⟩
    rw [cut_tail]
    have s21 := same_upd hlx (.lst ((((missF g.cfs.length fs).map Int.ofNat).drop 1).map V.int))
    have b21 := b20.same s21
    have elm21 := s21 _ _ elm
    have elx : upd G20 lx (.lst ((((missF g.cfs.length fs).map Int.ofNat).drop 1).map V.int)) lx = some (.lst ((((missF g.cfs.length fs).map Int.ofNat).drop 1).map V.int)) := upd_same
    generalize upd G20 lx (.lst ((((missF g.cfs.length fs).map Int.ofNat).drop 1).map V.int)) = G21 at *
    refine ⟨lm, lx, rfl, ⟨_, SqL.of elm21⟩, ⟨_, SqL.of elx⟩, fun lz hlz => ?_⟩
    refine comp_zipN (K := K) (a := lm) (b := lx) (xs := ((missF g.cfs.length fs).map Int.ofNat).map V.int) (zs := (((missF g.cfs.length fs).map Int.ofNat).drop 1).map V.int) (l := lz) (g.cfs.length - 1) (by simp only [List.length_map, List.length_drop, missF, List.length_range]; omega) (fun j ys σ' G' => ∃ v0 v1 : Option V, σ' = [v0, v1] ∧ ys = (List.replicate j true).map V.bl ∧ G' lz = some (.lst ys) ∧ Same G21 G')
      ⟨none, none, rfl, rfl, upd_same, same_upd hlz _⟩ (fun j ys σ' G' _ ⟨_, _, _, _, _, q⟩ => ⟨SqL.of (q _ _ elm21), SqL.of (q _ _ elx)⟩) ?_ ?_
    · rintro j x z t ys σ' G' hj hx hz hys ⟨v0, v1, rfl, rfl, q1, q2⟩ ht
      obtain ⟨x, ex, rfl⟩ := ints_at hx
      obtain ⟨z, ez, rfl⟩ := ints_at hz
      rw [List.getElem?_drop, Nat.add_comm] at ez
      obtain ⟨xn, exn, rfl⟩ := ofs_at ex
      obtain ⟨zn, ezn, rfl⟩ := ofs_at ez
      have dz := miss_desc exn ezn
      refine ⟨t, _, rfl, SqT.of upd_same, rfl, _, _, rfl, _, _, rfl, rfl, ?_⟩
      refine ⟨_, rfl, _, rfl, _, _, rfl, rfl, ?_⟩
      dsimp only
      rw [show decide ((xn : Int) ≥ (zn : Int)) = true from decide_eq_true (by omega)]
      refine CNx.of (Nat.le_trans (by omega : g.cfs.length - 1 ≤ 16) (by decide)) hj hys (by rw [upd_ne (ne_of_none q1 ht)]; exact q1) ⟨_, _, rfl, by rw [List.replicate_succ', List.map_append]; rfl, upd_same, fun e o y => ?_⟩
      rw [upd_ne (ne_of_none y hlz)]
      exact same_upd ht _ _ _ (q2 _ _ y)
    rintro ys σ' G22 _ ⟨v0, v1, rfl, rfl, q22, s22⟩
    refine ⟨lz, _, rfl, SqL.of q22, _, rfl, ifF (by rw [all_rep]; rfl) ?_⟩
    subst e1
    dsimp only [tNext]
    have b22 := b21.same s22
    have elm22 := s22 _ _ elm21
    have u22 := u20.trans ((s21.trans s22).sb b)
    clear b20 b21 elm elm21 elx u20 s21 s22 q22
    refine ⟨_, rfl, _, rfl, lm, _, _, _, rfl, rfl, SqL.of elm22, miss_last l1 fs, _, rfl, lr, ns, rfl, SqL.of b22.elr, by omega, fun qq hqq => ⟨qq, _, _, rfl, upd_same, _, _, rfl, rfl, _, rfl, ifF (decide_eq_false (by omega)) ?_⟩⟩
    have s23 := same_upd hqq (.set (fun k => (met ns).any (· == k)) (met ns).length)
    have u23 := u22.trans (s23.sb b)
    refine ⟨_, _, _, _, _, _, _, _, _, _, rfl, u23 _ _ nrb hr', (b22.same s23).tb, fun j' b' hj' hb' => ?_⟩
    obtain ⟨a1, q1, B1⟩ := hbx j' b' (by omega) hb'
    refine ⟨a1, q1, B1.sb u23 fun z => ?_⟩
    subst z
    have := (List.getElem?_inj (List.getElem?_eq_some_iff.mp hb').1 B.nd).mp (hb'.trans hbi.symm)
    omega
  · rintro σ H' ⟨v1, v2, v3, v4, v5, v6, v7, v8, v9, v10, rfl, hr', tb', hbx⟩
    exact k H'
end
theorem all_mk {l : PySem.W.OpenLaw} {w : World} {K : PySem.W.Frag} {h : Heap} {mg : Str → Option Value} {fa : Addr} {tp cg : Addr} (X : K.In h) (G : h.Ns mainGlobals mg) (hfa : mg "law" = some (.ref fa))
    {CaRoom : Addr} (aCRoom : PySem.W.nsIn K mainGlobals "Room" = some (some (.ref CaRoom)))
    {CaStore : Addr} (aCStore : PySem.W.nsIn K mainGlobals "Store" = some (some (.ref CaStore)))
    {CaMemory : Addr} (aCMemory : PySem.W.nsIn K mainGlobals "Memory" = some (some (.ref CaMemory)))
    {CaStairs : Addr} (aCStairs : PySem.W.nsIn K mainGlobals "Stairs" = some (some (.ref CaStairs)))
    {CaSteps : Addr} (aCSteps : PySem.W.nsIn K mainGlobals "Steps" = some (some (.ref CaSteps)))
    {f0 : Addr} {od0 an0 : Option Addr} {sl0 : Array (Option Value)} {oc0 kV0 dc0 pm0 cd0 ct0 : Value}
    (a0 : PySem.W.nsIn K mainGlobals "_law_take" = some (some (.ref f0))) (l0 : K.lookup f0 = some ⟨oc0, od0, .func (PySem.W.fnOf "_law_take" "_law_take" (defArgs s_take) (defBody s_take) (defScope s_take) .none kV0 dc0 pm0 an0 cd0 ct0), sl0⟩) (c0 : PySem.W.codeIn K cd0 "_law_take" = true) (k0 : PySem.W.keepIn K (.ref f0) = true)
    {f1 : Addr} {od1 an1 : Option Addr} {sl1 : Array (Option Value)} {oc1 kV1 dc1 pm1 cd1 ct1 : Value}
    (a1 : PySem.W.nsIn K mainGlobals "_law_box" = some (some (.ref f1))) (l1 : K.lookup f1 = some ⟨oc1, od1, .func (PySem.W.fnOf "_law_box" "_law_box" (defArgs s_box) (defBody s_box) (defScope s_box) .none kV1 dc1 pm1 an1 cd1 ct1), sl1⟩) (c1 : PySem.W.codeIn K cd1 "_law_box" = true) (k1 : PySem.W.keepIn K (.ref f1) = true)
    {f2 : Addr} {od2 an2 : Option Addr} {sl2 : Array (Option Value)} {oc2 kV2 dc2 pm2 cd2 ct2 : Value}
    (a2 : PySem.W.nsIn K mainGlobals "_law_folded" = some (some (.ref f2))) (l2 : K.lookup f2 = some ⟨oc2, od2, .func (PySem.W.fnOf "_law_folded" "_law_folded" (defArgs s_folded) (defBody s_folded) (defScope s_folded) .none kV2 dc2 pm2 an2 cd2 ct2), sl2⟩) (c2 : PySem.W.codeIn K cd2 "_law_folded" = true) (k2 : PySem.W.keepIn K (.ref f2) = true)
    {f3 : Addr} {od3 an3 : Option Addr} {sl3 : Array (Option Value)} {oc3 kV3 dc3 pm3 cd3 ct3 : Value}
    (a3 : PySem.W.nsIn K mainGlobals "_law_boxes" = some (some (.ref f3))) (l3 : K.lookup f3 = some ⟨oc3, od3, .func (PySem.W.fnOf "_law_boxes" "_law_boxes" (defArgs s_boxes) (defBody s_boxes) (defScope s_boxes) .none kV3 dc3 pm3 an3 cd3 ct3), sl3⟩) (c3 : PySem.W.codeIn K cd3 "_law_boxes" = true) (k3 : PySem.W.keepIn K (.ref f3) = true)
    {f4 : Addr} {od4 an4 : Option Addr} {sl4 : Array (Option Value)} {oc4 kV4 dc4 pm4 cd4 ct4 : Value}
    (a4 : PySem.W.nsIn K mainGlobals "_law_some_boards" = some (some (.ref f4))) (l4 : K.lookup f4 = some ⟨oc4, od4, .func (PySem.W.fnOf "_law_some_boards" "_law_some_boards" (defArgs s_some_boards) (defBody s_some_boards) (defScope s_some_boards) .none kV4 dc4 pm4 an4 cd4 ct4), sl4⟩) (c4 : PySem.W.codeIn K cd4 "_law_some_boards" = true) (k4 : PySem.W.keepIn K (.ref f4) = true)
    {f5 : Addr} {od5 an5 : Option Addr} {sl5 : Array (Option Value)} {oc5 kV5 dc5 pm5 cd5 ct5 : Value}
    (a5 : PySem.W.nsIn K mainGlobals "shelf_of" = some (some (.ref f5))) (l5 : K.lookup f5 = some ⟨oc5, od5, .func (PySem.W.fnOf "shelf_of" "shelf_of" (defArgs s_shelf_of) (defBody s_shelf_of) (defScope s_shelf_of) .none kV5 dc5 pm5 an5 cd5 ct5), sl5⟩) (c5 : PySem.W.codeIn K cd5 "shelf_of" = true) (k5 : PySem.W.keepIn K (.ref f5) = true)
    {f6 : Addr} {od6 an6 : Option Addr} {sl6 : Array (Option Value)} {oc6 kV6 dc6 pm6 cd6 ct6 : Value}
    (a6 : PySem.W.findIn K (.ref CaRoom) "has" = some (some (.ref f6))) (i6 : PySem.W.isFn K (.ref f6) = true) (l6 : K.lookup f6 = some ⟨oc6, od6, .func (PySem.W.fnOf "has" "Room.has" (defArgs s_Room_has) (defBody s_Room_has) (defScope s_Room_has) .none kV6 dc6 pm6 an6 cd6 ct6), sl6⟩) (c6 : PySem.W.codeIn K cd6 "Room.has" = true) (k6 : PySem.W.keepIn K (.ref f6) = true)
    {f7 : Addr} {od7 an7 : Option Addr} {sl7 : Array (Option Value)} {oc7 kV7 dc7 pm7 cd7 ct7 : Value}
    (a7 : PySem.W.findIn K (.ref CaRoom) "mates" = some (some (.ref f7))) (i7 : PySem.W.isFn K (.ref f7) = true) (l7 : K.lookup f7 = some ⟨oc7, od7, .func (PySem.W.fnOf "mates" "Room.mates" (defArgs s_Room_mates) (defBody s_Room_mates) (defScope s_Room_mates) .none kV7 dc7 pm7 an7 cd7 ct7), sl7⟩) (c7 : PySem.W.codeIn K cd7 "Room.mates" = true) (k7 : PySem.W.keepIn K (.ref f7) = true)
    {f8 : Addr} {od8 an8 : Option Addr} {sl8 : Array (Option Value)} {oc8 kV8 dc8 pm8 cd8 ct8 : Value}
    (a8 : PySem.W.findIn K (.ref CaRoom) "need" = some (some (.ref f8))) (i8 : PySem.W.isFn K (.ref f8) = true) (l8 : K.lookup f8 = some ⟨oc8, od8, .func (PySem.W.fnOf "need" "Room.need" (defArgs s_Room_need) (defBody s_Room_need) (defScope s_Room_need) .none kV8 dc8 pm8 an8 cd8 ct8), sl8⟩) (c8 : PySem.W.codeIn K cd8 "Room.need" = true) (k8 : PySem.W.keepIn K (.ref f8) = true)
    {f9 : Addr} {od9 an9 : Option Addr} {sl9 : Array (Option Value)} {oc9 kV9 dc9 pm9 ct9 : Value}
    (a9 : PySem.W.findIn K (.ref CaRoom) "going" = some (some (.ref f9))) (i9 : PySem.W.isFn K (.ref f9) = true) (l9 : K.lookup f9 = some ⟨oc9, od9, .func (PySem.W.fnOf "going" "Room.going" (defArgs s_Room_going) (defBody s_Room_going) (defScope s_Room_going) .none kV9 dc9 pm9 an9 (.ref cg) ct9), sl9⟩) (c9 : PySem.W.codeIn K (.ref cg) "Room.going" = true) (k9 : PySem.W.keepIn K (.ref f9) = true)
    {f10 : Addr} {od10 an10 : Option Addr} {sl10 : Array (Option Value)} {oc10 kV10 dc10 pm10 cd10 ct10 : Value}
    (a10 : PySem.W.findIn K (.ref CaRoom) "drop" = some (some (.ref f10))) (i10 : PySem.W.isFn K (.ref f10) = true) (l10 : K.lookup f10 = some ⟨oc10, od10, .func (PySem.W.fnOf "drop" "Room.drop" (defArgs s_Room_drop) (defBody s_Room_drop) (defScope s_Room_drop) .none kV10 dc10 pm10 an10 cd10 ct10), sl10⟩) (c10 : PySem.W.codeIn K cd10 "Room.drop" = true) (k10 : PySem.W.keepIn K (.ref f10) = true)
    {f11 : Addr} {od11 an11 : Option Addr} {sl11 : Array (Option Value)} {oc11 kV11 dc11 pm11 cd11 ct11 : Value}
    (a11 : PySem.W.findIn K (.ref CaRoom) "use" = some (some (.ref f11))) (i11 : PySem.W.isFn K (.ref f11) = true) (l11 : K.lookup f11 = some ⟨oc11, od11, .func (PySem.W.fnOf "use" "Room.use" (defArgs s_Room_use) (defBody s_Room_use) (defScope s_Room_use) .none kV11 dc11 pm11 an11 cd11 ct11), sl11⟩) (c11 : PySem.W.codeIn K cd11 "Room.use" = true) (k11 : PySem.W.keepIn K (.ref f11) = true)
    {f12 : Addr} {od12 an12 : Option Addr} {sl12 : Array (Option Value)} {oc12 kV12 dc12 pm12 cd12 ct12 : Value}
    (a12 : PySem.W.findIn K (.ref CaRoom) "__init__" = some (some (.ref f12))) (i12 : PySem.W.isFn K (.ref f12) = true) (l12 : K.lookup f12 = some ⟨oc12, od12, .func (PySem.W.fnOf "__init__" "Room.__init__" (defArgs s_Room_init) (defBody s_Room_init) (defScope s_Room_init) .none kV12 dc12 pm12 an12 cd12 ct12), sl12⟩) (c12 : PySem.W.codeIn K cd12 "Room.__init__" = true) (k12 : PySem.W.keepIn K (.ref f12) = true)
    {f13 : Addr} {od13 an13 : Option Addr} {sl13 : Array (Option Value)} {oc13 kV13 dc13 pm13 cd13 ct13 : Value}
    (a13 : PySem.W.findIn K (.ref CaRoom) "leaver_for" = some (some (.ref f13))) (i13 : PySem.W.isFn K (.ref f13) = true) (l13 : K.lookup f13 = some ⟨oc13, od13, .func (PySem.W.fnOf "leaver_for" "Room.leaver_for" (defArgs s_Room_leaver_for) (defBody s_Room_leaver_for) (defScope s_Room_leaver_for) .none kV13 dc13 pm13 an13 cd13 ct13), sl13⟩) (c13 : PySem.W.codeIn K cd13 "Room.leaver_for" = true) (k13 : PySem.W.keepIn K (.ref f13) = true)
    {f14 : Addr} {od14 an14 : Option Addr} {sl14 : Array (Option Value)} {oc14 kV14 dc14 pm14 cd14 ct14 : Value}
    (a14 : PySem.W.findIn K (.ref CaRoom) "bring" = some (some (.ref f14))) (i14 : PySem.W.isFn K (.ref f14) = true) (l14 : K.lookup f14 = some ⟨oc14, od14, .func (PySem.W.fnOf "bring" "Room.bring" (defArgs s_Room_bring) (defBody s_Room_bring) (defScope s_Room_bring) .none kV14 dc14 pm14 an14 cd14 ct14), sl14⟩) (c14 : PySem.W.codeIn K cd14 "Room.bring" = true) (k14 : PySem.W.keepIn K (.ref f14) = true)
    {f15 : Addr} {od15 an15 : Option Addr} {sl15 : Array (Option Value)} {oc15 kV15 dc15 pm15 cd15 ct15 : Value}
    (a15 : PySem.W.findIn K (.ref CaStore) "__init__" = some (some (.ref f15))) (i15 : PySem.W.isFn K (.ref f15) = true) (l15 : K.lookup f15 = some ⟨oc15, od15, .func (PySem.W.fnOf "__init__" "Store.__init__" (defArgs s_Store_init) (defBody s_Store_init) (defScope s_Store_init) .none kV15 dc15 pm15 an15 cd15 ct15), sl15⟩) (c15 : PySem.W.codeIn K cd15 "Store.__init__" = true) (k15 : PySem.W.keepIn K (.ref f15) = true)
    {f16 : Addr} {od16 an16 : Option Addr} {sl16 : Array (Option Value)} {oc16 kV16 dc16 pm16 cd16 ct16 : Value}
    (a16 : PySem.W.findIn K (.ref CaStore) "has" = some (some (.ref f16))) (i16 : PySem.W.isFn K (.ref f16) = true) (l16 : K.lookup f16 = some ⟨oc16, od16, .func (PySem.W.fnOf "has" "Store.has" (defArgs s_Store_has) (defBody s_Store_has) (defScope s_Store_has) .none kV16 dc16 pm16 an16 cd16 ct16), sl16⟩) (c16 : PySem.W.codeIn K cd16 "Store.has" = true) (k16 : PySem.W.keepIn K (.ref f16) = true)
    {f17 : Addr} {od17 an17 : Option Addr} {sl17 : Array (Option Value)} {oc17 kV17 dc17 pm17 cd17 ct17 : Value}
    (a17 : PySem.W.findIn K (.ref CaStore) "lay" = some (some (.ref f17))) (i17 : PySem.W.isFn K (.ref f17) = true) (l17 : K.lookup f17 = some ⟨oc17, od17, .func (PySem.W.fnOf "lay" "Store.lay" (defArgs s_Store_lay) (defBody s_Store_lay) (defScope s_Store_lay) .none kV17 dc17 pm17 an17 cd17 ct17), sl17⟩) (c17 : PySem.W.codeIn K cd17 "Store.lay" = true) (k17 : PySem.W.keepIn K (.ref f17) = true)
    {f18 : Addr} {od18 an18 : Option Addr} {sl18 : Array (Option Value)} {oc18 kV18 dc18 pm18 cd18 ct18 : Value}
    (a18 : PySem.W.findIn K (.ref CaStore) "take_in" = some (some (.ref f18))) (i18 : PySem.W.isFn K (.ref f18) = true) (l18 : K.lookup f18 = some ⟨oc18, od18, .func (PySem.W.fnOf "take_in" "Store.take_in" (defArgs s_Store_take_in) (defBody s_Store_take_in) (defScope s_Store_take_in) .none kV18 dc18 pm18 an18 cd18 ct18), sl18⟩) (c18 : PySem.W.codeIn K cd18 "Store.take_in" = true) (k18 : PySem.W.keepIn K (.ref f18) = true)
    {f19 : Addr} {od19 an19 : Option Addr} {sl19 : Array (Option Value)} {oc19 kV19 dc19 pm19 cd19 ct19 : Value}
    (a19 : PySem.W.findIn K (.ref CaStore) "give_out" = some (some (.ref f19))) (i19 : PySem.W.isFn K (.ref f19) = true) (l19 : K.lookup f19 = some ⟨oc19, od19, .func (PySem.W.fnOf "give_out" "Store.give_out" (defArgs s_Store_give_out) (defBody s_Store_give_out) (defScope s_Store_give_out) .none kV19 dc19 pm19 an19 cd19 ct19), sl19⟩) (c19 : PySem.W.codeIn K cd19 "Store.give_out" = true) (k19 : PySem.W.keepIn K (.ref f19) = true)
    {f20 : Addr} {od20 an20 : Option Addr} {sl20 : Array (Option Value)} {oc20 kV20 dc20 pm20 cd20 ct20 : Value}
    (a20 : PySem.W.findIn K (.ref CaStore) "words_of" = some (some (.ref f20))) (i20 : PySem.W.isFn K (.ref f20) = true) (l20 : K.lookup f20 = some ⟨oc20, od20, .func (PySem.W.fnOf "words_of" "Store.words_of" (defArgs s_Store_words_of) (defBody s_Store_words_of) (defScope s_Store_words_of) .none kV20 dc20 pm20 an20 cd20 ct20), sl20⟩) (c20 : PySem.W.codeIn K cd20 "Store.words_of" = true) (k20 : PySem.W.keepIn K (.ref f20) = true)
    {f21 : Addr} {od21 an21 : Option Addr} {sl21 : Array (Option Value)} {oc21 kV21 dc21 pm21 cd21 ct21 : Value}
    (a21 : PySem.W.nsIn K mainGlobals "board_of" = some (some (.ref f21))) (l21 : K.lookup f21 = some ⟨oc21, od21, .func (PySem.W.fnOf "board_of" "board_of" (defArgs s_board_of) (defBody s_board_of) (defScope s_board_of) .none kV21 dc21 pm21 an21 cd21 ct21), sl21⟩) (c21 : PySem.W.codeIn K cd21 "board_of" = true) (k21 : PySem.W.keepIn K (.ref f21) = true)
    {f22 : Addr} {od22 an22 : Option Addr} {sl22 : Array (Option Value)} {oc22 kV22 dc22 pm22 cd22 ct22 : Value}
    (a22 : PySem.W.nsIn K mainGlobals "spots_of" = some (some (.ref f22))) (l22 : K.lookup f22 = some ⟨oc22, od22, .func (PySem.W.fnOf "spots_of" "spots_of" (defArgs s_spots_of) (defBody s_spots_of) (defScope s_spots_of) .none kV22 dc22 pm22 an22 cd22 ct22), sl22⟩) (c22 : PySem.W.codeIn K cd22 "spots_of" = true) (k22 : PySem.W.keepIn K (.ref f22) = true)
    {f23 : Addr} {od23 an23 : Option Addr} {sl23 : Array (Option Value)} {oc23 kV23 dc23 pm23 cd23 ct23 : Value}
    (a23 : PySem.W.findIn K (.ref CaMemory) "__init__" = some (some (.ref f23))) (i23 : PySem.W.isFn K (.ref f23) = true) (l23 : K.lookup f23 = some ⟨oc23, od23, .func (PySem.W.fnOf "__init__" "Memory.__init__" (defArgs s_Memory_init) (defBody s_Memory_init) (defScope s_Memory_init) .none kV23 dc23 pm23 an23 cd23 ct23), sl23⟩) (c23 : PySem.W.codeIn K cd23 "Memory.__init__" = true) (k23 : PySem.W.keepIn K (.ref f23) = true)
    {f24 : Addr} {od24 an24 : Option Addr} {sl24 : Array (Option Value)} {oc24 kV24 dc24 pm24 cd24 ct24 : Value}
    (a24 : PySem.W.findIn K (.ref CaMemory) "words_of" = some (some (.ref f24))) (i24 : PySem.W.isFn K (.ref f24) = true) (l24 : K.lookup f24 = some ⟨oc24, od24, .func (PySem.W.fnOf "words_of" "Memory.words_of" (defArgs s_Memory_words_of) (defBody s_Memory_words_of) (defScope s_Memory_words_of) .none kV24 dc24 pm24 an24 cd24 ct24), sl24⟩) (c24 : PySem.W.codeIn K cd24 "Memory.words_of" = true) (k24 : PySem.W.keepIn K (.ref f24) = true)
    {f25 : Addr} {od25 an25 : Option Addr} {sl25 : Array (Option Value)} {oc25 kV25 dc25 pm25 cd25 ct25 : Value}
    (a25 : PySem.W.findIn K (.ref CaStairs) "store" = some (some (.ref f25))) (i25 : PySem.W.isFn K (.ref f25) = true) (l25 : K.lookup f25 = some ⟨oc25, od25, .func (PySem.W.fnOf "store" "Steps.store" (defArgs s_Steps_store) (defBody s_Steps_store) (defScope s_Steps_store) .none kV25 dc25 pm25 an25 cd25 ct25), sl25⟩) (c25 : PySem.W.codeIn K cd25 "Steps.store" = true) (k25 : PySem.W.keepIn K (.ref f25) = true)
    {f26 : Addr} {od26 an26 : Option Addr} {sl26 : Array (Option Value)} {oc26 kV26 dc26 pm26 cd26 ct26 : Value}
    (a26 : PySem.W.findIn K (.ref CaStairs) "words" = some (some (.ref f26))) (i26 : PySem.W.isFn K (.ref f26) = true) (l26 : K.lookup f26 = some ⟨oc26, od26, .func (PySem.W.fnOf "words" "Steps.words" (defArgs s_Steps_words) (defBody s_Steps_words) (defScope s_Steps_words) .none kV26 dc26 pm26 an26 cd26 ct26), sl26⟩) (c26 : PySem.W.codeIn K cd26 "Steps.words" = true) (k26 : PySem.W.keepIn K (.ref f26) = true)
    {f27 : Addr} {od27 an27 : Option Addr} {sl27 : Array (Option Value)} {oc27 kV27 dc27 pm27 cd27 ct27 : Value}
    (a27 : PySem.W.findIn K (.ref CaStairs) "happened" = some (some (.ref f27))) (i27 : PySem.W.isFn K (.ref f27) = true) (l27 : K.lookup f27 = some ⟨oc27, od27, .func (PySem.W.fnOf "happened" "Steps.happened" (defArgs s_Steps_happened) (defBody s_Steps_happened) (defScope s_Steps_happened) .none kV27 dc27 pm27 an27 cd27 ct27), sl27⟩) (c27 : PySem.W.codeIn K cd27 "Steps.happened" = true) (k27 : PySem.W.keepIn K (.ref f27) = true)
    {f28 : Addr} {od28 an28 : Option Addr} {sl28 : Array (Option Value)} {oc28 kV28 dc28 pm28 cd28 ct28 : Value}
    (a28 : PySem.W.findIn K (.ref CaStairs) "leaver" = some (some (.ref f28))) (i28 : PySem.W.isFn K (.ref f28) = true) (l28 : K.lookup f28 = some ⟨oc28, od28, .func (PySem.W.fnOf "leaver" "Steps.leaver" (defArgs s_Steps_leaver) (defBody s_Steps_leaver) (defScope s_Steps_leaver) .none kV28 dc28 pm28 an28 cd28 ct28), sl28⟩) (c28 : PySem.W.codeIn K cd28 "Steps.leaver" = true) (k28 : PySem.W.keepIn K (.ref f28) = true)
    {f29 : Addr} {od29 an29 : Option Addr} {sl29 : Array (Option Value)} {oc29 kV29 dc29 pm29 cd29 ct29 : Value}
    (a29 : PySem.W.findIn K (.ref CaStairs) "tell_found" = some (some (.ref f29))) (i29 : PySem.W.isFn K (.ref f29) = true) (l29 : K.lookup f29 = some ⟨oc29, od29, .func (PySem.W.fnOf "tell_found" "Steps.tell_found" (defArgs s_Steps_tell_found) (defBody s_Steps_tell_found) (defScope s_Steps_tell_found) .none kV29 dc29 pm29 an29 cd29 ct29), sl29⟩) (c29 : PySem.W.codeIn K cd29 "Steps.tell_found" = true) (k29 : PySem.W.keepIn K (.ref f29) = true)
    {f30 : Addr} {od30 an30 : Option Addr} {sl30 : Array (Option Value)} {oc30 kV30 dc30 pm30 cd30 ct30 : Value}
    (a30 : PySem.W.findIn K (.ref CaStairs) "use_in" = some (some (.ref f30))) (i30 : PySem.W.isFn K (.ref f30) = true) (l30 : K.lookup f30 = some ⟨oc30, od30, .func (PySem.W.fnOf "use_in" "Steps.use_in" (defArgs s_Steps_use_in) (defBody s_Steps_use_in) (defScope s_Steps_use_in) .none kV30 dc30 pm30 an30 cd30 ct30), sl30⟩) (c30 : PySem.W.codeIn K cd30 "Steps.use_in" = true) (k30 : PySem.W.keepIn K (.ref f30) = true)
    {f31 : Addr} {od31 an31 : Option Addr} {sl31 : Array (Option Value)} {oc31 kV31 dc31 pm31 cd31 ct31 : Value}
    (a31 : PySem.W.findIn K (.ref CaStairs) "come_in" = some (some (.ref f31))) (i31 : PySem.W.isFn K (.ref f31) = true) (l31 : K.lookup f31 = some ⟨oc31, od31, .func (PySem.W.fnOf "come_in" "Steps.come_in" (defArgs s_Steps_come_in) (defBody s_Steps_come_in) (defScope s_Steps_come_in) .none kV31 dc31 pm31 an31 cd31 ct31), sl31⟩) (c31 : PySem.W.codeIn K cd31 "Steps.come_in" = true) (k31 : PySem.W.keepIn K (.ref f31) = true)
    {f32 : Addr} {od32 an32 : Option Addr} {sl32 : Array (Option Value)} {oc32 kV32 dc32 pm32 cd32 ct32 : Value}
    (a32 : PySem.W.findIn K (.ref CaStairs) "go_out" = some (some (.ref f32))) (i32 : PySem.W.isFn K (.ref f32) = true) (l32 : K.lookup f32 = some ⟨oc32, od32, .func (PySem.W.fnOf "go_out" "Steps.go_out" (defArgs s_Steps_go_out) (defBody s_Steps_go_out) (defScope s_Steps_go_out) .none kV32 dc32 pm32 an32 cd32 ct32), sl32⟩) (c32 : PySem.W.codeIn K cd32 "Steps.go_out" = true) (k32 : PySem.W.keepIn K (.ref f32) = true)
    {f33 : Addr} {od33 an33 : Option Addr} {sl33 : Array (Option Value)} {oc33 kV33 dc33 pm33 cd33 ct33 : Value}
    (a33 : PySem.W.findIn K (.ref CaStairs) "word_in" = some (some (.ref f33))) (i33 : PySem.W.isFn K (.ref f33) = true) (l33 : K.lookup f33 = some ⟨oc33, od33, .func (PySem.W.fnOf "word_in" "Steps.word_in" (defArgs s_Steps_word_in) (defBody s_Steps_word_in) (defScope s_Steps_word_in) .none kV33 dc33 pm33 an33 cd33 ct33), sl33⟩) (c33 : PySem.W.codeIn K cd33 "Steps.word_in" = true) (k33 : PySem.W.keepIn K (.ref f33) = true)
    {f34 : Addr} {od34 an34 : Option Addr} {sl34 : Array (Option Value)} {oc34 kV34 dc34 pm34 cd34 ct34 : Value}
    (g34 : PySem.W.specialIn K (.ref CaSteps) "__getattribute__" = some (some (.builtin "type.__getattribute__"))) (r34 : PySem.W.readsIn K CaSteps (.type "type") = true) (a34 : PySem.W.findCls K (.ref CaSteps) (.type "type") "__init__" = some (.val (.ref f34))) (l34 : K.lookup f34 = some ⟨oc34, od34, .func (PySem.W.fnOf "__init__" "Steps.__init__" (defArgs s_Steps_init) (defBody s_Steps_init) (defScope s_Steps_init) .none kV34 dc34 pm34 an34 cd34 ct34), sl34⟩) (c34 : PySem.W.codeIn K cd34 "Steps.__init__" = true) (k34 : PySem.W.keepIn K (.ref f34) = true)
    {f35 : Addr} {od35 an35 : Option Addr} {sl35 : Array (Option Value)} {oc35 kV35 dc35 pm35 cd35 ct35 : Value}
    (a35 : PySem.W.findIn K (.ref CaStairs) "put" = some (some (.ref f35))) (i35 : PySem.W.isFn K (.ref f35) = true) (l35 : K.lookup f35 = some ⟨oc35, od35, .func (PySem.W.fnOf "put" "Steps.put" (defArgs s_Steps_put) (defBody s_Steps_put) (defScope s_Steps_put) .none kV35 dc35 pm35 an35 cd35 ct35), sl35⟩) (c35 : PySem.W.codeIn K cd35 "Steps.put" = true) (k35 : PySem.W.keepIn K (.ref f35) = true)
    {f36 : Addr} {od36 an36 : Option Addr} {sl36 : Array (Option Value)} {oc36 kV36 dc36 pm36 cd36 ct36 : Value}
    (a36 : PySem.W.findIn K (.ref CaStairs) "go_on" = some (some (.ref f36))) (i36 : PySem.W.isFn K (.ref f36) = true) (l36 : K.lookup f36 = some ⟨oc36, od36, .func (PySem.W.fnOf "go_on" "Stairs.go_on" (defArgs s_Stairs_go_on) (defBody s_Stairs_go_on) (defScope s_Stairs_go_on) .none kV36 dc36 pm36 an36 cd36 ct36), sl36⟩) (c36 : PySem.W.codeIn K cd36 "Stairs.go_on" = true) (k36 : PySem.W.keepIn K (.ref f36) = true)
    {f37 : Addr} {od37 an37 : Option Addr} {sl37 : Array (Option Value)} {oc37 kV37 dc37 pm37 cd37 ct37 : Value}
    (a37 : PySem.W.findIn K (.ref CaStairs) "change" = some (some (.ref f37))) (i37 : PySem.W.isFn K (.ref f37) = true) (l37 : K.lookup f37 = some ⟨oc37, od37, .func (PySem.W.fnOf "change" "Stairs.change" (defArgs s_Stairs_change) (defBody s_Stairs_change) (defScope s_Stairs_change) .none kV37 dc37 pm37 an37 cd37 ct37), sl37⟩) (c37 : PySem.W.codeIn K cd37 "Stairs.change" = true) (k37 : PySem.W.keepIn K (.ref f37) = true)
    {f38 : Addr} {od38 an38 : Option Addr} {sl38 : Array (Option Value)} {oc38 kV38 dc38 pm38 cd38 ct38 : Value}
    (a38 : PySem.W.findIn K (.ref CaStairs) "nearest" = some (some (.ref f38))) (i38 : PySem.W.isFn K (.ref f38) = true) (l38 : K.lookup f38 = some ⟨oc38, od38, .func (PySem.W.fnOf "nearest" "Stairs.nearest" (defArgs s_Stairs_nearest) (defBody s_Stairs_nearest) (defScope s_Stairs_nearest) .none kV38 dc38 pm38 an38 cd38 ct38), sl38⟩) (c38 : PySem.W.codeIn K cd38 "Stairs.nearest" = true) (k38 : PySem.W.keepIn K (.ref f38) = true)
    {f39 : Addr} {od39 an39 : Option Addr} {sl39 : Array (Option Value)} {oc39 kV39 dc39 pm39 cd39 ct39 : Value}
    (a39 : PySem.W.findIn K (.ref CaStairs) "drive_out" = some (some (.ref f39))) (i39 : PySem.W.isFn K (.ref f39) = true) (l39 : K.lookup f39 = some ⟨oc39, od39, .func (PySem.W.fnOf "drive_out" "Stairs.drive_out" (defArgs s_Stairs_drive_out) (defBody s_Stairs_drive_out) (defScope s_Stairs_drive_out) .none kV39 dc39 pm39 an39 cd39 ct39), sl39⟩) (c39 : PySem.W.codeIn K cd39 "Stairs.drive_out" = true) (k39 : PySem.W.keepIn K (.ref f39) = true)
    {f40 : Addr} {od40 an40 : Option Addr} {sl40 : Array (Option Value)} {oc40 kV40 dc40 pm40 cd40 ct40 : Value}
    (a40 : PySem.W.findIn K (.ref CaStairs) "fetch_down" = some (some (.ref f40))) (i40 : PySem.W.isFn K (.ref f40) = true) (l40 : K.lookup f40 = some ⟨oc40, od40, .func (PySem.W.fnOf "fetch_down" "Stairs.fetch_down" (defArgs s_Stairs_fetch_down) (defBody s_Stairs_fetch_down) (defScope s_Stairs_fetch_down) .none kV40 dc40 pm40 an40 cd40 ct40), sl40⟩) (c40 : PySem.W.codeIn K cd40 "Stairs.fetch_down" = true) (k40 : PySem.W.keepIn K (.ref f40) = true)
    {f41 : Addr} {od41 an41 : Option Addr} {sl41 : Array (Option Value)} {oc41 kV41 dc41 pm41 cd41 ct41 : Value}
    (a41 : PySem.W.findIn K (.ref CaStairs) "come_apart" = some (some (.ref f41))) (i41 : PySem.W.isFn K (.ref f41) = true) (l41 : K.lookup f41 = some ⟨oc41, od41, .func (PySem.W.fnOf "come_apart" "Stairs.come_apart" (defArgs s_Stairs_come_apart) (defBody s_Stairs_come_apart) (defScope s_Stairs_come_apart) .none kV41 dc41 pm41 an41 cd41 ct41), sl41⟩) (c41 : PySem.W.codeIn K cd41 "Stairs.come_apart" = true) (k41 : PySem.W.keepIn K (.ref f41) = true)
    {f42 : Addr} {od42 an42 : Option Addr} {sl42 : Array (Option Value)} {oc42 kV42 dc42 pm42 cd42 ct42 : Value}
    (a42 : PySem.W.findIn K (.ref CaStairs) "push" = some (some (.ref f42))) (i42 : PySem.W.isFn K (.ref f42) = true) (l42 : K.lookup f42 = some ⟨oc42, od42, .func (PySem.W.fnOf "push" "Stairs.push" (defArgs s_Stairs_push) (defBody s_Stairs_push) (defScope s_Stairs_push) .none kV42 dc42 pm42 an42 cd42 ct42), sl42⟩) (c42 : PySem.W.codeIn K cd42 "Stairs.push" = true) (k42 : PySem.W.keepIn K (.ref f42) = true)
    {f43 : Addr} {od43 an43 : Option Addr} {sl43 : Array (Option Value)} {oc43 kV43 dc43 pm43 cd43 ct43 : Value}
    (a43 : PySem.W.findIn K (.ref CaStairs) "fetch_apart" = some (some (.ref f43))) (i43 : PySem.W.isFn K (.ref f43) = true) (l43 : K.lookup f43 = some ⟨oc43, od43, .func (PySem.W.fnOf "fetch_apart" "Stairs.fetch_apart" (defArgs s_Stairs_fetch_apart) (defBody s_Stairs_fetch_apart) (defScope s_Stairs_fetch_apart) .none kV43 dc43 pm43 an43 cd43 ct43), sl43⟩) (c43 : PySem.W.codeIn K cd43 "Stairs.fetch_apart" = true) (k43 : PySem.W.keepIn K (.ref f43) = true)
    {f44 : Addr} {od44 an44 : Option Addr} {sl44 : Array (Option Value)} {oc44 kV44 dc44 pm44 cd44 ct44 : Value}
    (a44 : PySem.W.findIn K (.ref CaStairs) "fetch" = some (some (.ref f44))) (i44 : PySem.W.isFn K (.ref f44) = true) (l44 : K.lookup f44 = some ⟨oc44, od44, .func (PySem.W.fnOf "fetch" "Stairs.fetch" (defArgs s_Stairs_fetch) (defBody s_Stairs_fetch) (defScope s_Stairs_fetch) .none kV44 dc44 pm44 an44 cd44 ct44), sl44⟩) (c44 : PySem.W.codeIn K cd44 "Stairs.fetch" = true) (k44 : PySem.W.keepIn K (.ref f44) = true)
    {f45 : Addr} {od45 an45 : Option Addr} {sl45 : Array (Option Value)} {oc45 kV45 dc45 pm45 cd45 ct45 : Value}
    (a45 : PySem.W.findIn K (.ref CaStairs) "read" = some (some (.ref f45))) (i45 : PySem.W.isFn K (.ref f45) = true) (l45 : K.lookup f45 = some ⟨oc45, od45, .func (PySem.W.fnOf "read" "Stairs.read" (defArgs s_Stairs_read) (defBody s_Stairs_read) (defScope s_Stairs_read) .none kV45 dc45 pm45 an45 cd45 ct45), sl45⟩) (c45 : PySem.W.codeIn K cd45 "Stairs.read" = true) (k45 : PySem.W.keepIn K (.ref f45) = true)
    {f46 : Addr} {od46 an46 : Option Addr} {sl46 : Array (Option Value)} {oc46 kV46 dc46 pm46 cd46 ct46 : Value}
    (a46 : PySem.W.findIn K (.ref CaStairs) "__init__" = some (some (.ref f46))) (i46 : PySem.W.isFn K (.ref f46) = true) (l46 : K.lookup f46 = some ⟨oc46, od46, .func (PySem.W.fnOf "__init__" "Stairs.__init__" (defArgs s_Stairs_init) (defBody s_Stairs_init) (defScope s_Stairs_init) .none kV46 dc46 pm46 an46 cd46 ct46), sl46⟩) (c46 : PySem.W.codeIn K cd46 "Stairs.__init__" = true) (k46 : PySem.W.keepIn K (.ref f46) = true)
    {f47 : Addr} {od47 an47 : Option Addr} {sl47 : Array (Option Value)} {oc47 kV47 dc47 pm47 cd47 ct47 : Value}
    (a47 : PySem.W.nsIn K mainGlobals "found_by" = some (some (.ref f47))) (l47 : K.lookup f47 = some ⟨oc47, od47, .func (PySem.W.fnOf "found_by" "found_by" (defArgs s_found_by) (defBody s_found_by) (defScope s_found_by) .none kV47 dc47 pm47 an47 cd47 ct47), sl47⟩) (c47 : PySem.W.codeIn K cd47 "found_by" = true) (k47 : PySem.W.keepIn K (.ref f47) = true)
    {f48 : Addr} {od48 an48 : Option Addr} {sl48 : Array (Option Value)} {oc48 kV48 dc48 pm48 cd48 ct48 : Value}
    (a48 : PySem.W.nsIn K mainGlobals "founds" = some (some (.ref f48))) (l48 : K.lookup f48 = some ⟨oc48, od48, .func (PySem.W.fnOf "founds" "founds" (defArgs s_founds) (defBody s_founds) (defScope s_founds) .none kV48 dc48 pm48 an48 cd48 ct48), sl48⟩) (c48 : PySem.W.codeIn K cd48 "founds" = true) (k48 : PySem.W.keepIn K (.ref f48) = true)
    {f49 : Addr} {od49 an49 : Option Addr} {sl49 : Array (Option Value)} {oc49 kV49 dc49 pm49 cd49 ct49 : Value}
    (a49 : PySem.W.nsIn K mainGlobals "missed_by_stair" = some (some (.ref f49))) (l49 : K.lookup f49 = some ⟨oc49, od49, .func (PySem.W.fnOf "missed_by_stair" "missed_by_stair" (defArgs s_missed_by_stair) (defBody s_missed_by_stair) (defScope s_missed_by_stair) .none kV49 dc49 pm49 an49 cd49 ct49), sl49⟩) (c49 : PySem.W.codeIn K cd49 "missed_by_stair" = true) (k49 : PySem.W.keepIn K (.ref f49) = true)
    {f50 : Addr} {od50 an50 : Option Addr} {sl50 : Array (Option Value)} {oc50 kV50 dc50 pm50 cd50 ct50 : Value}
    (a50 : PySem.W.nsIn K mainGlobals "_law_room_plan" = some (some (.ref f50))) (l50 : K.lookup f50 = some ⟨oc50, od50, .func (PySem.W.fnOf "_law_room_plan" "_law_room_plan" (defArgs s_room_plan) (defBody s_room_plan) (defScope s_room_plan) .none kV50 dc50 pm50 an50 cd50 ct50), sl50⟩) (c50 : PySem.W.codeIn K cd50 "_law_room_plan" = true) (k50 : PySem.W.keepIn K (.ref f50) = true)
    {f51 : Addr} {od51 an51 : Option Addr} {sl51 : Array (Option Value)} {oc51 kV51 dc51 pm51 cd51 ct51 : Value}
    (a51 : PySem.W.nsIn K mainGlobals "_law_plan" = some (some (.ref f51))) (l51 : K.lookup f51 = some ⟨oc51, od51, .func (PySem.W.fnOf "_law_plan" "_law_plan" (defArgs s_plan) (defBody s_plan) (defScope s_plan) .none kV51 dc51 pm51 an51 cd51 ct51), sl51⟩) (c51 : PySem.W.codeIn K cd51 "_law_plan" = true) (k51 : PySem.W.keepIn K (.ref f51) = true)
    {f52 : Addr} {od52 an52 : Option Addr} {sl52 : Array (Option Value)} {oc52 kV52 dc52 pm52 cd52 ct52 : Value}
    (a52 : PySem.W.nsIn K mainGlobals "_law_many" = some (some (.ref f52))) (l52 : K.lookup f52 = some ⟨oc52, od52, .func (PySem.W.fnOf "_law_many" "_law_many" (defArgs s_many) (defBody s_many) (defScope s_many) .none kV52 dc52 pm52 an52 cd52 ct52), sl52⟩) (c52 : PySem.W.codeIn K cd52 "_law_many" = true) (k52 : PySem.W.keepIn K (.ref f52) = true)
    {f53 : Addr} {od53 an53 : Option Addr} {sl53 : Array (Option Value)} {oc53 kV53 dc53 pm53 cd53 ct53 : Value}
    (a53 : PySem.W.nsIn K mainGlobals "_law_row" = some (some (.ref f53))) (l53 : K.lookup f53 = some ⟨oc53, od53, .func (PySem.W.fnOf "_law_row" "_law_row" (defArgs s_row) (defBody s_row) (defScope s_row) .none kV53 dc53 pm53 an53 cd53 ct53), sl53⟩) (c53 : PySem.W.codeIn K cd53 "_law_row" = true) (k53 : PySem.W.keepIn K (.ref f53) = true)
    {f54 : Addr} {od54 an54 : Option Addr} {sl54 : Array (Option Value)} {oc54 kV54 dc54 pm54 cd54 ct54 : Value}
    (a54 : PySem.W.nsIn K mainGlobals "_law_otherwise" = some (some (.ref f54))) (l54 : K.lookup f54 = some ⟨oc54, od54, .func (PySem.W.fnOf "_law_otherwise" "_law_otherwise" (defArgs s_otherwise) (defBody s_otherwise) (defScope s_otherwise) .none kV54 dc54 pm54 an54 cd54 ct54), sl54⟩) (c54 : PySem.W.codeIn K cd54 "_law_otherwise" = true) (k54 : PySem.W.keepIn K (.ref f54) = true)
    {f55 : Addr} {od55 an55 : Option Addr} {sl55 : Array (Option Value)} {oc55 kV55 dc55 pm55 cd55 ct55 : Value}
    (a55 : PySem.W.nsIn K mainGlobals "_law_product" = some (some (.ref f55))) (l55 : K.lookup f55 = some ⟨oc55, od55, .func (PySem.W.fnOf "_law_product" "_law_product" (defArgs s_product) (defBody s_product) (defScope s_product) .none kV55 dc55 pm55 an55 cd55 ct55), sl55⟩) (c55 : PySem.W.codeIn K cd55 "_law_product" = true) (k55 : PySem.W.keepIn K (.ref f55) = true)
    {f56 : Addr} {od56 an56 : Option Addr} {sl56 : Array (Option Value)} {oc56 kV56 dc56 pm56 cd56 ct56 : Value}
    (a56 : PySem.W.nsIn K mainGlobals "law" = some (some (.ref f56))) (l56 : K.lookup f56 = some ⟨oc56, od56, .func (PySem.W.fnOf "law" "law" (defArgs s_law) (defBody s_law) (defScope s_law) .none kV56 dc56 pm56 an56 cd56 ct56), sl56⟩) (c56 : PySem.W.codeIn K cd56 "law" = true) (k56 : PySem.W.keepIn K (.ref f56) = true)
    (z_abs : PySem.W.nsIn K mainGlobals "abs" = some none)
    (z_all : PySem.W.nsIn K mainGlobals "all" = some none)
    (z_divmod : PySem.W.nsIn K mainGlobals "divmod" = some none)
    (z_enumerate : PySem.W.nsIn K mainGlobals "enumerate" = some none)
    (z_int : PySem.W.nsIn K mainGlobals "int" = some none)
    (z_len : PySem.W.nsIn K mainGlobals "len" = some none)
    (z_list : PySem.W.nsIn K mainGlobals "list" = some none)
    (z_max : PySem.W.nsIn K mainGlobals "max" = some none)
    (z_range : PySem.W.nsIn K mainGlobals "range" = some none)
    (z_set : PySem.W.nsIn K mainGlobals "set" = some none)
    (z_sorted : PySem.W.nsIn K mainGlobals "sorted" = some none)
    (z_tuple : PySem.W.nsIn K mainGlobals "tuple" = some none)
    (z_zip : PySem.W.nsIn K mainGlobals "zip" = some none)
    (pgRoom : PySem.W.plainGet K CaRoom Str.empty = true) (hdRoom : PySem.W.hasDictIn K CaRoom = true) (poRoom : PySem.W.plainOver K CaRoom = true) (saRoom : PySem.W.findIn K (.ref CaRoom) "__setattr__" = some (some (.builtin "object.__setattr__"))) (mkRoom : PySem.W.makesIn K CaRoom = true) (kcRoom : PySem.W.keepIn K (.ref CaRoom) = true)
    (nRoom_places : PySem.W.findIn K (.ref CaRoom) "places" = some none)
    (nRoom_rule : PySem.W.findIn K (.ref CaRoom) "rule" = some none)
    (nRoom_shelves : PySem.W.findIn K (.ref CaRoom) "shelves" = some none)
    (nRoom_standing : PySem.W.findIn K (.ref CaRoom) "standing" = some none)
    (nRoom_uses : PySem.W.findIn K (.ref CaRoom) "uses" = some none)
    (pgStore : PySem.W.plainGet K CaStore Str.empty = true) (hdStore : PySem.W.hasDictIn K CaStore = true) (poStore : PySem.W.plainOver K CaStore = true) (saStore : PySem.W.findIn K (.ref CaStore) "__setattr__" = some (some (.builtin "object.__setattr__"))) (mkStore : PySem.W.makesIn K CaStore = true) (kcStore : PySem.W.keepIn K (.ref CaStore) = true)
    (nStore_fresh : PySem.W.findIn K (.ref CaStore) "fresh" = some none)
    (nStore_held : PySem.W.findIn K (.ref CaStore) "held" = some none)
    (nStore_late : PySem.W.findIn K (.ref CaStore) "late" = some none)
    (nStore_room : PySem.W.findIn K (.ref CaStore) "room" = some none)
    (pgMemory : PySem.W.plainGet K CaMemory Str.empty = true) (hdMemory : PySem.W.hasDictIn K CaMemory = true) (poMemory : PySem.W.plainOver K CaMemory = true) (saMemory : PySem.W.findIn K (.ref CaMemory) "__setattr__" = some (some (.builtin "object.__setattr__"))) (mkMemory : PySem.W.makesIn K CaMemory = true) (kcMemory : PySem.W.keepIn K (.ref CaMemory) = true)
    (nMemory_kept : PySem.W.findIn K (.ref CaMemory) "kept" = some none)
    (nMemory_size : PySem.W.findIn K (.ref CaMemory) "size" = some none)
    (pgStairs : PySem.W.plainGet K CaStairs Str.empty = true) (hdStairs : PySem.W.hasDictIn K CaStairs = true) (poStairs : PySem.W.plainOver K CaStairs = true) (saStairs : PySem.W.findIn K (.ref CaStairs) "__setattr__" = some (some (.builtin "object.__setattr__"))) (mkStairs : PySem.W.makesIn K CaStairs = true) (kcStairs : PySem.W.keepIn K (.ref CaStairs) = true)
    (nStairs_bottom : PySem.W.findIn K (.ref CaStairs) "bottom" = some none)
    (nStairs_events : PySem.W.findIn K (.ref CaStairs) "events" = some none)
    (nStairs_kind : PySem.W.findIn K (.ref CaStairs) "kind" = some none)
    (nStairs_last : PySem.W.findIn K (.ref CaStairs) "last" = some none)
    (nStairs_size : PySem.W.findIn K (.ref CaStairs) "size" = some none)
    (nStairs_stores : PySem.W.findIn K (.ref CaStairs) "stores" = some none)
    (ch : PySem.W.codeHdIn K cg tp = true) (kt : K.lookup tp = none)
    : tabOf K "Room" "going" = tp ∧ (∃ c0, PySem.W.codeHdIn K c0 tp = true) ∧ K.lookup tp = none ∧ ∃ fd : FuncData, (∀ (s : Shared) (v : Value), BindsTo s fd ⟨[v], []⟩ [("_law_script", v)]) ∧ ∀ base : Heap, K.In base → base.Ns mainGlobals mg → BMod base mg → FnOk l.prog w K mg base CX0 20 fa fd P_law (spLaw K) := by
  have e := hfa.symm.trans (PySem.W.mg_of X G a56)
  cases e
  have hCRoom := clsOf_eq aCRoom
  subst hCRoom
  have hCStore := clsOf_eq aCStore
  subst hCStore
  have hCMemory := clsOf_eq aCMemory
  subst hCMemory
  have hCStairs := clsOf_eq aCStairs
  subst hCStairs
  have hCSteps := clsOf_eq aCSteps
  subst hCSteps
  have T : Txt K mg := ⟨PySem.W.mg_none_of X G z_abs, PySem.W.mg_none_of X G z_all, PySem.W.mg_none_of X G z_divmod, PySem.W.mg_none_of X G z_enumerate, PySem.W.mg_none_of X G z_int, PySem.W.mg_none_of X G z_len, PySem.W.mg_none_of X G z_list, PySem.W.mg_none_of X G z_max, PySem.W.mg_none_of X G z_range, PySem.W.mg_none_of X G z_set, PySem.W.mg_none_of X G z_sorted, PySem.W.mg_none_of X G z_tuple, PySem.W.mg_none_of X G z_zip, ⟨pgRoom, hdRoom, poRoom, saRoom⟩, nRoom_places, nRoom_rule, nRoom_shelves, nRoom_standing, nRoom_uses, ⟨pgStore, hdStore, poStore, saStore⟩, nStore_fresh, nStore_held, nStore_late, nStore_room, ⟨pgMemory, hdMemory, poMemory, saMemory⟩, nMemory_kept, nMemory_size, ⟨pgStairs, hdStairs, poStairs, saStairs⟩, nStairs_bottom, nStairs_events, nStairs_kind, nStairs_last, nStairs_size, nStairs_stores⟩
  have F0 := fun_mk (st := s_take) l0 c0 k0
  have b1000 := F0.binds (ps := P_take) fun _ _ _ _ _ _ us hl => match us, hl with | [_, _], _ => rfl
  have F1 := fun_mk (st := s_box) l1 c1 k1
  have b1001 := F1.binds (ps := P_box) fun _ _ _ _ _ _ us hl => match us, hl with | [_, _], _ => rfl
  have F2 := fun_mk (st := s_folded) l2 c2 k2
  have b1002 := F2.binds (ps := P_folded) fun _ _ _ _ _ _ us hl => match us, hl with | [_, _], _ => rfl
  have F3 := fun_mk (st := s_boxes) l3 c3 k3
  have b1003 := F3.binds (ps := P_boxes) fun _ _ _ _ _ _ us hl => match us, hl with | [_, _], _ => rfl
  have F4 := fun_mk (st := s_some_boards) l4 c4 k4
  have b1004 := F4.binds (ps := P_some_boards) fun _ _ _ _ _ _ us hl => match us, hl with | [_, _], _ => rfl
  have F5 := fun_mk (st := s_shelf_of) l5 c5 k5
  have b1005 := F5.binds (ps := P_shelf_of) fun _ _ _ _ _ _ us hl => match us, hl with | [_, _], _ => rfl
  have F6 := fun_mk (st := s_Room_has) l6 c6 k6
  have b1006 := F6.binds (ps := P_Room_has) fun _ _ _ _ _ _ us hl => match us, hl with | [_, _], _ => rfl
  have F7 := fun_mk (st := s_Room_mates) l7 c7 k7
  have b1007 := F7.binds (ps := P_Room_mates) fun _ _ _ _ _ _ us hl => match us, hl with | [_, _], _ => rfl
  have F8 := fun_mk (st := s_Room_need) l8 c8 k8
  have b1008 := F8.binds (ps := P_Room_need) fun _ _ _ _ _ _ us hl => match us, hl with | [_, _], _ => rfl
  have F9 := fun_mk (st := s_Room_going) l9 c9 k9
  have b1009 := F9.binds (ps := P_Room_going) fun _ _ _ _ _ _ us hl => match us, hl with | [_, _], _ => rfl
  have F10 := fun_mk (st := s_Room_drop) l10 c10 k10
  have b1010 := F10.binds (ps := P_Room_drop) fun _ _ _ _ _ _ us hl => match us, hl with | [_, _], _ => rfl
  have F11 := fun_mk (st := s_Room_use) l11 c11 k11
  have b1011 := F11.binds (ps := P_Room_use) fun _ _ _ _ _ _ us hl => match us, hl with | [_, _], _ => rfl
  have F12 := fun_mk (st := s_Room_init) l12 c12 k12
  have b1012 := F12.binds (ps := P_Room_init) fun _ _ _ _ _ _ us hl => match us, hl with | [_, _, _, _], _ => rfl
  have F13 := fun_mk (st := s_Room_leaver_for) l13 c13 k13
  have b1013 := F13.binds (ps := P_Room_leaver_for) fun _ _ _ _ _ _ us hl => match us, hl with | [_, _], _ => rfl
  have F14 := fun_mk (st := s_Room_bring) l14 c14 k14
  have b1014 := F14.binds (ps := P_Room_bring) fun _ _ _ _ _ _ us hl => match us, hl with | [_, _], _ => rfl
  have F15 := fun_mk (st := s_Store_init) l15 c15 k15
  have b1015 := F15.binds (ps := P_Store_init) fun _ _ _ _ _ _ us hl => match us, hl with | [_, _], _ => rfl
  have F16 := fun_mk (st := s_Store_has) l16 c16 k16
  have b1016 := F16.binds (ps := P_Store_has) fun _ _ _ _ _ _ us hl => match us, hl with | [_, _], _ => rfl
  have F17 := fun_mk (st := s_Store_lay) l17 c17 k17
  have b1017 := F17.binds (ps := P_Store_lay) fun _ _ _ _ _ _ us hl => match us, hl with | [_, _, _], _ => rfl
  have F18 := fun_mk (st := s_Store_take_in) l18 c18 k18
  have b1018 := F18.binds (ps := P_Store_take_in) fun _ _ _ _ _ _ us hl => match us, hl with | [_, _, _], _ => rfl
  have F19 := fun_mk (st := s_Store_give_out) l19 c19 k19
  have b1019 := F19.binds (ps := P_Store_give_out) fun _ _ _ _ _ _ us hl => match us, hl with | [_, _], _ => rfl
  have F20 := fun_mk (st := s_Store_words_of) l20 c20 k20
  have b1020 := F20.binds (ps := P_Store_words_of) fun _ _ _ _ _ _ us hl => match us, hl with | [_, _], _ => rfl
  have F21 := fun_mk (st := s_board_of) l21 c21 k21
  have b1021 := F21.binds (ps := P_board_of) fun _ _ _ _ _ _ us hl => match us, hl with | [_, _], _ => rfl
  have F22 := fun_mk (st := s_spots_of) l22 c22 k22
  have b1022 := F22.binds (ps := P_spots_of) fun _ _ _ _ _ _ us hl => match us, hl with | [_, _], _ => rfl
  have F23 := fun_mk (st := s_Memory_init) l23 c23 k23
  have b1023 := F23.binds (ps := P_Memory_init) fun _ _ _ _ _ _ us hl => match us, hl with | [_, _], _ => rfl
  have F24 := fun_mk (st := s_Memory_words_of) l24 c24 k24
  have b1024 := F24.binds (ps := P_Memory_words_of) fun _ _ _ _ _ _ us hl => match us, hl with | [_, _], _ => rfl
  have F25 := fun_mk (st := s_Steps_store) l25 c25 k25
  have b1025 := F25.binds (ps := P_Steps_store) fun _ _ _ _ _ _ us hl => match us, hl with | [_, _], _ => rfl
  have F26 := fun_mk (st := s_Steps_words) l26 c26 k26
  have b1026 := F26.binds (ps := P_Steps_words) fun _ _ _ _ _ _ us hl => match us, hl with | [_, _, _], _ => rfl
  have F27 := fun_mk (st := s_Steps_happened) l27 c27 k27
  have b1027 := F27.binds (ps := P_Steps_happened) fun _ _ _ _ _ _ us hl => match us, hl with | [_], _ => rfl
  have F28 := fun_mk (st := s_Steps_leaver) l28 c28 k28
  have b1028 := F28.binds (ps := P_Steps_leaver) fun _ _ _ _ _ _ us hl => match us, hl with | [_, _, _], _ => rfl
  have F29 := fun_mk (st := s_Steps_tell_found) l29 c29 k29
  have b1029 := F29.binds (ps := P_Steps_tell_found) fun _ _ _ _ _ _ us hl => match us, hl with | [_, _], _ => rfl
  have F30 := fun_mk (st := s_Steps_use_in) l30 c30 k30
  have b1030 := F30.binds (ps := P_Steps_use_in) fun _ _ _ _ _ _ us hl => match us, hl with | [_, _, _], _ => rfl
  have F31 := fun_mk (st := s_Steps_come_in) l31 c31 k31
  have b1031 := F31.binds (ps := P_Steps_come_in) fun _ _ _ _ _ _ us hl => match us, hl with | [_, _, _, _], _ => rfl
  have F32 := fun_mk (st := s_Steps_go_out) l32 c32 k32
  have b1032 := F32.binds (ps := P_Steps_go_out) fun _ _ _ _ _ _ us hl => match us, hl with | [_, _, _], _ => rfl
  have F33 := fun_mk (st := s_Steps_word_in) l33 c33 k33
  have b1033 := F33.binds (ps := P_Steps_word_in) fun _ _ _ _ _ _ us hl => match us, hl with | [_, _, _], _ => rfl
  have F34 := fun_mk (st := s_Steps_init) l34 c34 k34
  have b1034 := F34.binds (ps := P_Steps_init) fun _ _ _ _ _ _ us hl => match us, hl with | [_, _, _], _ => rfl
  have F35 := fun_mk (st := s_Steps_put) l35 c35 k35
  have b1035 := F35.binds (ps := P_Steps_put) fun _ _ _ _ _ _ us hl => match us, hl with | [_, _, _, _], _ => rfl
  have F36 := fun_mk (st := s_Stairs_go_on) l36 c36 k36
  have b1036 := F36.binds (ps := P_Stairs_go_on) fun _ _ _ _ _ _ us hl => match us, hl with | [_, _, _, _], _ => rfl
  have F37 := fun_mk (st := s_Stairs_change) l37 c37 k37
  have b1037 := F37.binds (ps := P_Stairs_change) fun _ _ _ _ _ _ us hl => match us, hl with | [_, _, _], _ => rfl
  have F38 := fun_mk (st := s_Stairs_nearest) l38 c38 k38
  have b1038 := F38.binds (ps := P_Stairs_nearest) fun _ _ _ _ _ _ us hl => match us, hl with | [_, _], _ => rfl
  have F39 := fun_mk (st := s_Stairs_drive_out) l39 c39 k39
  have b1039 := F39.binds (ps := P_Stairs_drive_out) fun _ _ _ _ _ _ us hl => match us, hl with | [_, _, _], _ => rfl
  have F40 := fun_mk (st := s_Stairs_fetch_down) l40 c40 k40
  have b1040 := F40.binds (ps := P_Stairs_fetch_down) fun _ _ _ _ _ _ us hl => match us, hl with | [_, _, _], _ => rfl
  have F41 := fun_mk (st := s_Stairs_come_apart) l41 c41 k41
  have b1041 := F41.binds (ps := P_Stairs_come_apart) fun _ _ _ _ _ _ us hl => match us, hl with | [_, _, _, _, _], _ => rfl
  have F42 := fun_mk (st := s_Stairs_push) l42 c42 k42
  have b1042 := F42.binds (ps := P_Stairs_push) fun _ _ _ _ _ _ us hl => match us, hl with | [_, _, _, _, _], _ => rfl
  have F43 := fun_mk (st := s_Stairs_fetch_apart) l43 c43 k43
  have b1043 := F43.binds (ps := P_Stairs_fetch_apart) fun _ _ _ _ _ _ us hl => match us, hl with | [_, _, _], _ => rfl
  have F44 := fun_mk (st := s_Stairs_fetch) l44 c44 k44
  have b1044 := F44.binds (ps := P_Stairs_fetch) fun _ _ _ _ _ _ us hl => match us, hl with | [_, _], _ => rfl
  have F45 := fun_mk (st := s_Stairs_read) l45 c45 k45
  have b1045 := F45.binds (ps := P_Stairs_read) fun _ _ _ _ _ _ us hl => match us, hl with | [_, _], _ => rfl
  have F46 := fun_mk (st := s_Stairs_init) l46 c46 k46
  have b1046 := F46.binds (ps := P_Stairs_init) fun _ _ _ _ _ _ us hl => match us, hl with | [_, _], _ => rfl
  have F47 := fun_mk (st := s_found_by) l47 c47 k47
  have b1047 := F47.binds (ps := P_found_by) fun _ _ _ _ _ _ us hl => match us, hl with | [_, _], _ => rfl
  have F48 := fun_mk (st := s_founds) l48 c48 k48
  have b1048 := F48.binds (ps := P_founds) fun _ _ _ _ _ _ us hl => match us, hl with | [_, _], _ => rfl
  have F49 := fun_mk (st := s_missed_by_stair) l49 c49 k49
  have b1049 := F49.binds (ps := P_missed_by_stair) fun _ _ _ _ _ _ us hl => match us, hl with | [_, _], _ => rfl
  have F50 := fun_mk (st := s_room_plan) l50 c50 k50
  have b1050 := F50.binds (ps := P_room_plan) fun _ _ _ _ _ _ us hl => match us, hl with | [_], _ => rfl
  have F51 := fun_mk (st := s_plan) l51 c51 k51
  have b1051 := F51.binds (ps := P_plan) fun _ _ _ _ _ _ us hl => match us, hl with | [_], _ => rfl
  have F52 := fun_mk (st := s_many) l52 c52 k52
  have b1052 := F52.binds (ps := P_many) fun _ _ _ _ _ _ us hl => match us, hl with | [_, _, _], _ => rfl
  have F53 := fun_mk (st := s_row) l53 c53 k53
  have b1053 := F53.binds (ps := P_row) fun _ _ _ _ _ _ us hl => match us, hl with | [_, _, _], _ => rfl
  have F54 := fun_mk (st := s_otherwise) l54 c54 k54
  have b1054 := F54.binds (ps := P_otherwise) fun _ _ _ _ _ _ us hl => match us, hl with | [_, _], _ => rfl
  have F55 := fun_mk (st := s_product) l55 c55 k55
  have b1055 := F55.binds (ps := P_product) fun _ _ _ _ _ _ us hl => match us, hl with | [_], _ => rfl
  have F56 := fun_mk (st := s_law) l56 c56 k56
  have b1056 := F56.binds (ps := P_law) fun _ _ _ _ _ _ us hl => match us, hl with | [_], _ => rfl
  have tq := tabOf_eq a9 l9 rfl ch
  refine ⟨tq, ⟨_, ch⟩, kt, ?_⟩
  refine ⟨PySem.W.fnOf "law" "law" (defArgs s_law) (defBody s_law) (defScope s_law) .none kV56 dc56 pm56 an56 cd56 ct56, fun s v => .of_eq rfl, fun base _ _ bm => ?_⟩
  have D_take : Def l.prog w K mg base "_law_take" 1 P_take spTake := ⟨_, _, ok_take F0 T , PySem.W.mg_of X G a0, F0.kp, b1000⟩
  have D_box : Def l.prog w K mg base "_law_box" 1 P_box (spBox K) := ⟨_, _, ok_box F1 T , PySem.W.mg_of X G a1, F1.kp, b1001⟩
  have D_folded : Def l.prog w K mg base "_law_folded" 1 P_folded (spFolded K) := ⟨_, _, ok_folded F2 T , PySem.W.mg_of X G a2, F2.kp, b1002⟩
  have D_boxes : Def l.prog w K mg base "_law_boxes" 2 P_boxes (spBoxes K) := ⟨_, _, ok_boxes F3 T D_folded D_box, PySem.W.mg_of X G a3, F3.kp, b1003⟩
  have D_some_boards : Def l.prog w K mg base "_law_some_boards" 2 P_some_boards spBoards := ⟨_, _, ok_some_boards F4 T D_take, PySem.W.mg_of X G a4, F4.kp, b1004⟩
  have D_shelf_of : Def l.prog w K mg base "shelf_of" 1 P_shelf_of spShelf := ⟨_, _, ok_shelf_of F5 T , PySem.W.mg_of X G a5, F5.kp, b1005⟩
  have M_Room_has : MDef l.prog w K mg base (clsOf K "Room") "has" 1 P_Room_has (spHas K) := ⟨_, _, ok_Room_has F6 T , ⟨a6, i6, k6⟩, b1006⟩
  have M_Room_mates : MDef l.prog w K mg base (clsOf K "Room") "mates" 2 P_Room_mates (spMates K) := ⟨_, _, ok_Room_mates F7 T D_shelf_of, ⟨a7, i7, k7⟩, b1007⟩
  have M_Room_need : MDef l.prog w K mg base (clsOf K "Room") "need" 2 P_Room_need (spNeed K) := ⟨_, _, ok_Room_need F8 T M_Room_has, ⟨a8, i8, k8⟩, b1008⟩
  have M_Room_going : MDef l.prog w K mg base (clsOf K "Room") "going" 2 P_Room_going (spGoing K) := ⟨_, _, ok_Room_going F9 rfl tq ch bm T , ⟨a9, i9, k9⟩, b1009⟩
  have M_Room_drop : MDef l.prog w K mg base (clsOf K "Room") "drop" 3 P_Room_drop (spDrop K) := ⟨_, _, ok_Room_drop F10 T M_Room_need M_Room_mates, ⟨a10, i10, k10⟩, b1010⟩
  have M_Room_use : MDef l.prog w K mg base (clsOf K "Room") "use" 3 P_Room_use (spUse K) := ⟨_, _, ok_Room_use F11 T M_Room_need M_Room_mates, ⟨a11, i11, k11⟩, b1011⟩
  have K_Room : KDef l.prog w K mg base (clsOf K "Room") "Room" 1 P_Room_init (spRoom K) := ⟨_, _, ok_Room_init F12 T , ⟨mkRoom, a12, i12, kcRoom⟩, PySem.W.mg_of X G aCRoom, b1012⟩
  have M_Room_leaver_for : MDef l.prog w K mg base (clsOf K "Room") "leaver_for" 3 P_Room_leaver_for (spLeaver K) := ⟨_, _, ok_Room_leaver_for F13 T M_Room_mates M_Room_going, ⟨a13, i13, k13⟩, b1013⟩
  have M_Room_bring : MDef l.prog w K mg base (clsOf K "Room") "bring" 4 P_Room_bring (spBring K) := ⟨_, _, ok_Room_bring F14 T M_Room_has M_Room_leaver_for M_Room_mates M_Room_drop, ⟨a14, i14, k14⟩, b1014⟩
  have K_Store : KDef l.prog w K mg base (clsOf K "Store") "Store" 3 P_Store_init (spStore K) := ⟨_, _, ok_Store_init F15 T K_Room, ⟨mkStore, a15, i15, kcStore⟩, PySem.W.mg_of X G aCStore, b1015⟩
  have M_Store_has : MDef l.prog w K mg base (clsOf K "Store") "has" 2 P_Store_has (spSHas K) := ⟨_, _, ok_Store_has F16 T M_Room_has, ⟨a16, i16, k16⟩, b1016⟩
  have M_Store_lay : MDef l.prog w K mg base (clsOf K "Store") "lay" 1 P_Store_lay (spLay K) := ⟨_, _, ok_Store_lay F17 T , ⟨a17, i17, k17⟩, b1017⟩
  have M_Store_take_in : MDef l.prog w K mg base (clsOf K "Store") "take_in" 5 P_Store_take_in (spTakeIn K) := ⟨_, _, ok_Store_take_in F18 T M_Room_bring M_Store_lay, ⟨a18, i18, k18⟩, b1018⟩
  have M_Store_give_out : MDef l.prog w K mg base (clsOf K "Store") "give_out" 4 P_Store_give_out (spGiveOut K) := ⟨_, _, ok_Store_give_out F19 T M_Room_drop, ⟨a19, i19, k19⟩, b1019⟩
  have M_Store_words_of : MDef l.prog w K mg base (clsOf K "Store") "words_of" 3 P_Store_words_of (spWordsOf K) := ⟨_, _, ok_Store_words_of F20 T M_Room_need, ⟨a20, i20, k20⟩, b1020⟩
  have D_board_of : Def l.prog w K mg base "board_of" 1 P_board_of spBoard := ⟨_, _, ok_board_of F21 T , PySem.W.mg_of X G a21, F21.kp, b1021⟩
  have D_spots_of : Def l.prog w K mg base "spots_of" 1 P_spots_of spSpots := ⟨_, _, ok_spots_of F22 T , PySem.W.mg_of X G a22, F22.kp, b1022⟩
  have K_Memory : KDef l.prog w K mg base (clsOf K "Memory") "Memory" 1 P_Memory_init (spMem K) := ⟨_, _, ok_Memory_init F23 T , ⟨mkMemory, a23, i23, kcMemory⟩, PySem.W.mg_of X G aCMemory, b1023⟩
  have M_Memory_words_of : MDef l.prog w K mg base (clsOf K "Memory") "words_of" 2 P_Memory_words_of (spMWords K) := ⟨_, _, ok_Memory_words_of F24 T D_spots_of, ⟨a24, i24, k24⟩, b1024⟩
  have M_Steps_store : MDef l.prog w K mg base (clsOf K "Stairs") "store" 1 P_Steps_store (spTStore K) := ⟨_, _, ok_Steps_store F25 T , ⟨a25, i25, k25⟩, b1025⟩
  have M_Steps_words : MDef l.prog w K mg base (clsOf K "Stairs") "words" 4 P_Steps_words (spTWords K) := ⟨_, _, ok_Steps_words F26 T M_Memory_words_of M_Steps_store M_Store_words_of, ⟨a26, i26, k26⟩, b1026⟩
  have M_Steps_happened : MDef l.prog w K mg base (clsOf K "Stairs") "happened" 1 P_Steps_happened (spHappened K) := ⟨_, _, ok_Steps_happened F27 T , ⟨a27, i27, k27⟩, b1027⟩
  have M_Steps_leaver : MDef l.prog w K mg base (clsOf K "Stairs") "leaver" 4 P_Steps_leaver (spLeav K) := ⟨_, _, ok_Steps_leaver F28 T M_Room_leaver_for, ⟨a28, i28, k28⟩, b1028⟩
  have M_Steps_tell_found : MDef l.prog w K mg base (clsOf K "Stairs") "tell_found" 1 P_Steps_tell_found (spTell K) := ⟨_, _, ok_Steps_tell_found F29 T , ⟨a29, i29, k29⟩, b1029⟩
  have M_Steps_use_in : MDef l.prog w K mg base (clsOf K "Stairs") "use_in" 4 P_Steps_use_in (spUseIn K) := ⟨_, _, ok_Steps_use_in F30 T M_Room_use, ⟨a30, i30, k30⟩, b1030⟩
  have M_Steps_come_in : MDef l.prog w K mg base (clsOf K "Stairs") "come_in" 6 P_Steps_come_in (spComeIn K) := ⟨_, _, ok_Steps_come_in F31 T M_Store_take_in, ⟨a31, i31, k31⟩, b1031⟩
  have M_Steps_go_out : MDef l.prog w K mg base (clsOf K "Stairs") "go_out" 5 P_Steps_go_out (spGoOut K) := ⟨_, _, ok_Steps_go_out F32 T M_Store_give_out, ⟨a32, i32, k32⟩, b1032⟩
  have M_Steps_word_in : MDef l.prog w K mg base (clsOf K "Stairs") "word_in" 4 P_Steps_word_in (spWordIn K) := ⟨_, _, ok_Steps_word_in F33 T M_Store_words_of D_board_of, ⟨a33, i33, k33⟩, b1033⟩
  have C_Steps_init : CDef l.prog w K mg base "Steps" "__init__" 5 P_Steps_init (spSteps K) := ⟨_, _, _, ok_Steps_init F34 T K_Store K_Memory, ⟨g34, ⟨_, r34, a34⟩, k34⟩, PySem.W.mg_of X G aCSteps, b1034⟩
  have M_Steps_put : MDef l.prog w K mg base (clsOf K "Stairs") "put" 1 P_Steps_put spNever := ⟨_, _, ok_Steps_put F35 T , ⟨a35, i35, k35⟩, b1035⟩
  have M_Stairs_go_on : MDef l.prog w K mg base (clsOf K "Stairs") "go_on" 1 P_Stairs_go_on spNever := ⟨_, _, ok_Stairs_go_on F36 T , ⟨a36, i36, k36⟩, b1036⟩
  have M_Stairs_change : MDef l.prog w K mg base (clsOf K "Stairs") "change" 1 P_Stairs_change spNever := ⟨_, _, ok_Stairs_change F37 T , ⟨a37, i37, k37⟩, b1037⟩
  have M_Stairs_nearest : MDef l.prog w K mg base (clsOf K "Stairs") "nearest" 3 P_Stairs_nearest (spNearest K) := ⟨_, _, ok_Stairs_nearest F38 T M_Store_has, ⟨a38, i38, k38⟩, b1038⟩
  have M_Stairs_drive_out : MDef l.prog w K mg base (clsOf K "Stairs") "drive_out" 6 P_Stairs_drive_out (spDrive K) := ⟨_, _, ok_Stairs_drive_out F39 T M_Steps_go_out M_Store_has M_Stairs_go_on, ⟨a39, i39, k39⟩, b1039⟩
  have M_Stairs_fetch_down : MDef l.prog w K mg base (clsOf K "Stairs") "fetch_down" 7 P_Stairs_fetch_down (spDown K) := ⟨_, _, ok_Stairs_fetch_down F40 T M_Steps_use_in M_Steps_words M_Steps_leaver M_Stairs_drive_out M_Steps_come_in, ⟨a40, i40, k40⟩, b1040⟩
  have M_Stairs_come_apart : MDef l.prog w K mg base (clsOf K "Stairs") "come_apart" 7 P_Stairs_come_apart (spComeA K) := ⟨_, _, ok_Stairs_come_apart F41 T M_Steps_come_in M_Stairs_change, ⟨a41, i41, k41⟩, b1041⟩
  have M_Stairs_push := own_Stairs_push (P := l.prog) (w := w) (base := base) F42 b1042 ⟨a42, i42, k42⟩ T M_Steps_put M_Steps_leaver M_Stairs_come_apart M_Steps_go_out
  have M_Stairs_fetch_apart : MDef l.prog w K mg base (clsOf K "Stairs") "fetch_apart" 13 P_Stairs_fetch_apart (spApart K) := ⟨_, _, ok_Stairs_fetch_apart F43 T M_Steps_use_in M_Steps_words M_Steps_go_out M_Stairs_push, ⟨a43, i43, k43⟩, b1043⟩
  have M_Stairs_fetch : MDef l.prog w K mg base (clsOf K "Stairs") "fetch" 14 P_Stairs_fetch (spFetch K) := ⟨_, _, ok_Stairs_fetch F44 T M_Stairs_nearest M_Steps_tell_found M_Stairs_fetch_apart M_Stairs_fetch_down, ⟨a44, i44, k44⟩, b1044⟩
  have M_Stairs_read : MDef l.prog w K mg base (clsOf K "Stairs") "read" 15 P_Stairs_read (spRead K) := ⟨_, _, ok_Stairs_read F45 T D_board_of M_Stairs_fetch M_Steps_word_in M_Steps_happened, ⟨a45, i45, k45⟩, b1045⟩
  have K_Stairs : KDef l.prog w K mg base (clsOf K "Stairs") "Stairs" 6 P_Stairs_init (spStairs K) := ⟨_, _, ok_Stairs_init F46 T C_Steps_init, ⟨mkStairs, a46, i46, kcStairs⟩, PySem.W.mg_of X G aCStairs, b1046⟩
  have D_found_by : Def l.prog w K mg base "found_by" 16 P_found_by (spFoundBy K) := ⟨_, _, ok_found_by F47 T M_Stairs_read, PySem.W.mg_of X G a47, F47.kp, b1047⟩
  have D_founds : Def l.prog w K mg base "founds" 17 P_founds (spFounds K) := ⟨_, _, ok_founds F48 T K_Stairs D_found_by D_spots_of, PySem.W.mg_of X G a48, F48.kp, b1048⟩
  have D_missed_by_stair : Def l.prog w K mg base "missed_by_stair" 18 P_missed_by_stair (spMissed K) := ⟨_, _, ok_missed_by_stair F49 T D_founds, PySem.W.mg_of X G a49, F49.kp, b1049⟩
  have D_room_plan : Def l.prog w K mg base "_law_room_plan" 2 P_room_plan spPlan := ⟨_, _, ok_room_plan F50 T D_take, PySem.W.mg_of X G a50, F50.kp, b1050⟩
  have D_plan : Def l.prog w K mg base "_law_plan" 3 P_plan (spPlanL K) := ⟨_, _, ok_plan F51 T D_take D_room_plan, PySem.W.mg_of X G a51, F51.kp, b1051⟩
  have D_many : Def l.prog w K mg base "_law_many" 2 P_many spMany := ⟨_, _, ok_many F52 T D_take, PySem.W.mg_of X G a52, F52.kp, b1052⟩
  have D_row : Def l.prog w K mg base "_law_row" 3 P_row spRowL := ⟨_, _, ok_row F53 T D_take D_some_boards D_many, PySem.W.mg_of X G a53, F53.kp, b1053⟩
  have D_otherwise : Def l.prog w K mg base "_law_otherwise" 2 P_otherwise (spOther K) := ⟨_, _, ok_otherwise F54 T D_take, PySem.W.mg_of X G a54, F54.kp, b1054⟩
  have D_product : Def l.prog w K mg base "_law_product" 1 P_product (spProd K) := ⟨_, _, ok_product F55 T , PySem.W.mg_of X G a55, F55.kp, b1055⟩
  exact ok_law F56 T D_boxes D_plan D_row D_founds D_otherwise D_product D_take D_missed_by_stair
theorem walk {l : PySem.W.OpenLaw} {q : Program} {loose : List Str} {XP : (Str → Option Value) → Heap → Prop} {YP : World → Heap → Prop} {d : DefRec} {K : Params → PySem.W.Frag} {tp : Addr} (hn : l.most = some 63) (hdf : d.params.defaults = [])
    (hY : ∀ (w : World) (h : Heap), YP w h → (K w.params).In h ∧ h.get? tp = some { cls := .none, data := .fields #[] })
    (F : ∀ (w : World) (mg : Str → Option Value) (fa : Addr) (h : Heap), (K w.params).In h → h.Ns mainGlobals mg → mg d.name = some (.ref fa) →
      tabOf (K w.params) "Room" "going" = tp ∧ (∃ c0, PySem.W.codeHdIn (K w.params) c0 tp = true) ∧ (K w.params).lookup tp = none ∧ ∃ fd : FuncData, (∀ (s : Shared) (u : Value), BindsTo s fd ⟨[u], []⟩ [("_law_script", u)]) ∧ ∀ base : Heap, (K w.params).In base → base.Ns mainGlobals mg → BMod base mg → FnOk l.prog w (K w.params) mg base CX0 20 fa fd P_law (spLaw (K w.params))) :
    PySem.W.WalkO q loose XP YP l.row.toRowW d [] (fun f vs => PySem.call f vs) :=
  L2.walk_ofT (tp := tp) (pos := tpos) (qual := tqual) (G := fun w => tabOf (K w.params) "Room" "going" = tp) (n := 63) (k := 20) (x := "_law_script") (CX := fun _ => CX0) (sp := fun w => spLaw (K w.params)) hn (by decide) hdf ⟨rfl, by decide, by decide⟩ hY F (fun _ _ a ns g hl hT hS => ⟨a, ns, rfl, hS, hl, (by unfold Tb; rw [g]; exact hT), fun _ => rfl⟩) fun _ _ _ _ _ z => z
end Mine
namespace PySem.W.Fast
def tw10008533188763822024:=0
def tw1001872639737907513:=0
def tw10043450085010468254:=0
def tw10055061746069553350:=0
def tw10075929487622613183:=0
def tw10097279957337504678:=0
def tw10111299164564200498:=0
def tw10246412695357382000:=0
def tw10258281725353557123:=0
def tw1030362135307495630:=0
def tw103044364540283277:=0
def tw10361492862130259938:=0
def tw10380465601694960972:=0
def tw10401468499453603810:=0
def tw10409091687834450955:=0
def tw10430645256590484059:=0
def tw10435505682347594334:=0
def tw10435516967974601075:=0
def tw10439865695629079459:=0
def tw10461532458954719532:=0
def tw10463187739406957426:=0
def tw10469094456906093570:=0
def tw10471428101515786427:=0
def tw10472735491757198170:=0
def tw10490815521001246383:=0
def tw10550930980155896118:=0
def tw10559290816597026752:=0
def tw10613511070707489447:=0
def tw10615257535168071741:=0
def tw10640001911808630887:=0
def tw10641518681720349297:=0
def tw10649883750063439501:=0
def tw10659626129161098642:=0
def tw10691454545323717456:=0
def tw10730219516744993279:=0
def tw10747295076090467294:=0
def tw10772039530525232470:=0
def tw10782546565329702707:=0
def tw10787522177581660808:=0
def tw10817723127698130735:=0
def tw10818056055859687238:=0
def tw10834571589283991756:=0
def tw10863502599441775813:=0
def tw10875680796515904912:=0
def tw10887472152735578027:=0
def tw10900957091835219793:=0
def tw10928677279848648809:=0
def tw10953147019852312988:=0
def tw11061435581176221240:=0
def tw11069337199085618188:=0
def tw11070598448348091215:=0
def tw11076936578190889772:=0
def tw11139102590397624136:=0
def tw11159849817823521286:=0
def tw11162367023928373963:=0
def tw11162922882061866101:=0
def tw11187497554860956116:=0
def tw11192610375115255698:=0
def tw11193900211926000452:=0
def tw11194063606845601705:=0
def tw11268753733576818790:=0
def tw11278439075024378663:=0
def tw11279539531327382445:=0
def tw11285477443059044979:=0
def tw11286622462775363069:=0
def tw11295759194645971021:=0
def tw11315091867126393862:=0
def tw11320250576007317620:=0
def tw11324782771321103050:=0
def tw11326773360833064861:=0
def tw11350030101538617876:=0
def tw11370578582812741244:=0
def tw11387953019577602508:=0
def tw11459441180981504954:=0
def tw11460136954032389887:=0
def tw11468541982532986139:=0
def tw11507054199466035158:=0
def tw11526279528351651620:=0
def tw11526695809477209866:=0
def tw11554341492546076054:=0
def tw11558035126505449826:=0
def tw11572111672427776575:=0
def tw11573370411341576597:=0
def tw11580877905305055608:=0
def tw11599802845338356019:=0
def tw11623470410445315192:=0
def tw11639795122596101739:=0
def tw11644136815559624133:=0
def tw11647403428804076278:=0
def tw11654986460049404129:=0
def tw11733325624004231805:=0
def tw11751279818900656767:=0
def tw1175221076048526159:=0
def tw11755042351630985885:=0
def tw11797331018813765509:=0
def tw11801133686960658713:=0
def tw11856587794696721819:=0
def tw11874920143177289839:=0
def tw11883814153408897724:=0
def tw11887482577081304854:=0
def tw11889126620709229072:=0
def tw11909792323440299332:=0
def tw1191162589839733583:=0
def tw11932006972913972563:=0
def tw11943258580644009054:=0
def tw11956450942017602936:=0
def tw11975850864975198860:=0
def tw12059660911460757494:=0
def tw12071039395804674271:=0
def tw12086645961840404781:=0
def tw12153631301030442781:=0
def tw12165043437895737228:=0
def tw12167735367379181379:=0
def tw12192062904877301355:=0
def tw12235854900127705688:=0
def tw12253623885277354627:=0
def tw12270633224275603184:=0
def tw12310475023946671325:=0
def tw12315101759843007164:=0
def tw12334367592102937580:=0
def tw12335663186184002348:=0
def tw1233609865046993328:=0
def tw1234011134217198192:=0
def tw12371054219277341047:=0
def tw12372024761579929606:=0
def tw12374113563106001640:=0
def tw12400919232557874984:=0
def tw12440219950677806715:=0
def tw12444208639562567737:=0
def tw12450528608863241906:=0
def tw1245420255638632612:=0
def tw12461763553177818011:=0
def tw12463914089443176980:=0
def tw12476382760078457758:=0
def tw124994430845522180:=0
def tw1252232472576386839:=0
def tw12525335260246593357:=0
def tw12598522576500600765:=0
def tw1261645008543472298:=0
def tw12632255747820445442:=0
def tw12671621141407142475:=0
def tw12677878826253994342:=0
def tw12689692447395041531:=0
def tw12698676521778591625:=0
def tw12699525150178785039:=0
def tw12749169456792942971:=0
def tw12758665555418426379:=0
def tw12766114727159475262:=0
def tw1277436380285589171:=0
def tw12782136083429427334:=0
def tw12844757321472598782:=0
def tw12852956759144896394:=0
def tw12858762486037867953:=0
def tw12864961542648937570:=0
def tw12958485048499110127:=0
def tw129642269765616273:=0
def tw1302807074972370507:=0
def tw13039446440486780312:=0
def tw13055598036213516394:=0
def tw1306086055865051355:=0
def tw13083803080004126561:=0
def tw13161448642014293312:=0
def tw13191921160425525613:=0
def tw13281354190575110831:=0
def tw13283708765169998712:=0
def tw13288801716094315003:=0
def tw13298549004997938534:=0
def tw13299219389707291353:=0
def tw13305076607040074789:=0
def tw13309597750275511284:=0
def tw13316891931306952602:=0
def tw13335267793057543317:=0
def tw13341810963294593431:=0
def tw13408576949279462820:=0
def tw13426708896583039581:=0
def tw13433595497212496180:=0
def tw1343431901808014877:=0
def tw13479424545017464897:=0
def tw13498175128788018697:=0
def tw13505281773093189297:=0
def tw1351938439701192165:=0
def tw13546444839792061770:=0
def tw13552058089312281247:=0
def tw1356494465461789870:=0
def tw13575376177001363103:=0
def tw1358065235610698532:=0
def tw13594218885210917963:=0
def tw13597762531766854543:=0
def tw13611851151458013432:=0
def tw13647046962722957364:=0
def tw13657829730931557657:=0
def tw13662235613919129732:=0
def tw13668352062919176088:=0
def tw13678777463253232602:=0
def tw13683676984192609384:=0
def tw13697805650150100275:=0
def tw13732213467535665859:=0
def tw13792058065097718708:=0
def tw13803998051946283739:=0
def tw13821699298395262808:=0
def tw13823829843694592533:=0
def tw13840452213910302141:=0
def tw13891784492420269139:=0
def tw1390631649924253423:=0
def tw13951850279387709467:=0
def tw14029598375777168113:=0
def tw14038173341935751757:=0
def tw14067159010362599955:=0
def tw14067861049792776038:=0
def tw14088093197286234165:=0
def tw1422622531116692732:=0
def tw14294123591943631933:=0
def tw14324234187874068340:=0
def tw1436505253070623769:=0
def tw14365830224414757600:=0
def tw14369760199185517043:=0
def tw14370045375206788221:=0
def tw1439667443832836304:=0
def tw14408984589332756930:=0
def tw14412729842613750469:=0
def tw14511202053913880312:=0
def tw145898723159136933:=0
def tw14611903254048299940:=0
def tw14647872936243411563:=0
def tw14650090028500075681:=0
def tw14668283172971953766:=0
def tw14727361181049063711:=0
def tw1475164293282457450:=0
def tw14755299527298259482:=0
def tw14812438970884951681:=0
def tw14852560672930759118:=0
def tw14857418481710220177:=0
def tw14875252852616550156:=0
def tw14876344316333675224:=0
def tw14891472696086680567:=0
def tw14900945140241257043:=0
def tw14926161545419887321:=0
def tw14968911978328622316:=0
def tw14992243610465276882:=0
def tw15030056582273194070:=0
def tw15044976459577437790:=0
def tw15085668844210516896:=0
def tw15108166395059946768:=0
def tw15136871839831701169:=0
def tw15142671667956445938:=0
def tw15171744132840449661:=0
def tw15200374515710039515:=0
def tw15233644658831197371:=0
def tw15237566708441803636:=0
def tw15240267864279339259:=0
def tw1525682690331625224:=0
def tw15257982901081778323:=0
def tw15259683328754211583:=0
def tw15262441024980204709:=0
def tw15262511777127108947:=0
def tw15288609162064714939:=0
def tw152891639449466859:=0
def tw15304290204093246243:=0
def tw15341153825431881822:=0
def tw15348848287419330036:=0
def tw15370183060473742885:=0
def tw15398048825241909030:=0
def tw15487770934262835009:=0
def tw15517799657475969702:=0
def tw15530478994410299753:=0
def tw15531753422780818951:=0
def tw15549914852423820700:=0
def tw15584506299001720044:=0
def tw15590218032450920130:=0
def tw15623768776053263423:=0
def tw15626590444921502971:=0
def tw15633854962549857004:=0
def tw15637482848674575489:=0
def tw15673883872757264038:=0
def tw15675649205170502569:=0
def tw15688307402269392552:=0
def tw15689917451313902316:=0
def tw15696189072934233945:=0
def tw15720604489084045842:=0
def tw15727547860765950186:=0
def tw15729779715658691963:=0
def tw15730847821600098134:=0
def tw15738361057370007672:=0
def tw15763170963374302466:=0
def tw15768825227601345899:=0
def tw15813704501964715062:=0
def tw15819824677142202136:=0
def tw15851727569177401979:=0
def tw15853059221579329527:=0
def tw15891131333428781273:=0
def tw15909744307256711866:=0
def tw1592238790946073017:=0
def tw15993903123847392789:=0
def tw16043751871199826029:=0
def tw16044773317219172137:=0
def tw1607564899455183875:=0
def tw16095737012884747161:=0
def tw16110306074594561764:=0
def tw16121054258428154781:=0
def tw16137693598440004284:=0
def tw16141711634587489122:=0
def tw16145250674082480265:=0
def tw16157468888540505026:=0
def tw16175444736941099558:=0
def tw16194342213113972186:=0
def tw16208114483063609190:=0
def tw16211688434141598385:=0
def tw16215447386073156102:=0
def tw16226201387094759073:=0
def tw16245705430300833622:=0
def tw16269746788289961343:=0
def tw1627593518881674973:=0
def tw16277334935434858898:=0
def tw16280971637105793147:=0
def tw16289224314718575702:=0
def tw16344561584747095822:=0
def tw1639960512514111659:=0
def tw16425986007874831578:=0
def tw16434613018671686910:=0
def tw16449690967341608466:=0
def tw16453275609966585267:=0
def tw1647068997105721339:=0
def tw16490257772376116377:=0
def tw16494640264472133014:=0
def tw16523905843709155379:=0
def tw16533122896395535062:=0
def tw16581316072649792350:=0
def tw16630799894295476314:=0
def tw16700358981799468358:=0
def tw16710720997278474068:=0
def tw16799695204067521130:=0
def tw16827650055396729642:=0
def tw16847154743564760768:=0
def tw16866692680757859269:=0
def tw16880984043563487397:=0
def tw16881759920731089091:=0
def tw16890656441131876217:=0
def tw16907274694059177454:=0
def tw16933548287890554994:=0
def tw16933793785787882372:=0
def tw16989488935762760948:=0
def tw17001578258389039568:=0
def tw17028239882367131918:=0
def tw17028921055367716391:=0
def tw17048061020927730160:=0
def tw17048743284393325858:=0
def tw17052787516556086643:=0
def tw17061330029278428871:=0
def tw17066003097495232849:=0
def tw17084553759388088729:=0
def tw1713072892812850392:=0
def tw1718433664802839369:=0
def tw17191201527266314044:=0
def tw17203518400687090546:=0
def tw17277817761012828427:=0
def tw17292783355694938630:=0
def tw17295204392576524814:=0
def tw17299817767158298485:=0
def tw17301010062056098000:=0
def tw17324262863898179165:=0
def tw1732733753983624971:=0
def tw17360447482895297539:=0
def tw17383658227865514639:=0
def tw17390260814804628434:=0
def tw17401950684798866751:=0
def tw17408818078622553059:=0
def tw17423859230555275433:=0
def tw17424979724195736433:=0
def tw17455596677498654134:=0
def tw17464253483272091518:=0
def tw17475107150586009202:=0
def tw17484916982897381031:=0
def tw17497297131773142506:=0
def tw17506489127839156285:=0
def tw17516337979895654261:=0
def tw17531969839534959628:=0
def tw17582125749094748897:=0
def tw17582648679784518100:=0
def tw17627395118899318287:=0
def tw17629213539133402897:=0
def tw17646649960210135792:=0
def tw17660743759656162920:=0
def tw17690031278231871762:=0
def tw17698705912183464436:=0
def tw17700467965994557328:=0
def tw17721757675881445787:=0
def tw17772890503761305222:=0
def tw17837757509606008305:=0
def tw17849295272932649530:=0
def tw17857443360160410939:=0
def tw17896782177092415717:=0
def tw17925644474712974444:=0
def tw17926094895497243190:=0
def tw17943220610921052138:=0
def tw1797225459828170160:=0
def tw17984774658612405354:=0
def tw17988196467889952156:=0
def tw18019181265425697066:=0
def tw18042889392956383251:=0
def tw18076203927938012131:=0
def tw18082450599594766116:=0
def tw18118550360988743888:=0
def tw18132418293430443000:=0
def tw18164488036768209010:=0
def tw18173551211270946516:=0
def tw18187153895420788053:=0
def tw18225580195428059832:=0
def tw18226752280947115012:=0
def tw18261653511406051437:=0
def tw18267853530000402292:=0
def tw1827934695754169789:=0
def tw18316861598203790715:=0
def tw18322372604458082936:=0
def tw18351066659048958393:=0
def tw18365486794541232936:=0
def tw18396023555405143886:=0
def tw18446558154656333425:=0
def tw1855265164305032378:=0
def tw1865583891035900002:=0
def tw1896227352302203741:=0
def tw1913283874032980971:=0
def tw1951071717284715099:=0
def tw1953544552320507111:=0
def tw1960900743518915574:=0
def tw197952096015992513:=0
def tw1986178569939746530:=0
def tw1991827029406365821:=0
def tw1992628068363484126:=0
def tw1992792901556332743:=0
def tw2006474414459636455:=0
def tw2011457573863175123:=0
def tw2018801919530142344:=0
def tw2031628094696543963:=0
def tw2049048093390062798:=0
def tw2129971957375940590:=0
def tw2158604989591895783:=0
def tw2174429718014004192:=0
def tw2180026556963465932:=0
def tw2214859538403616204:=0
def tw2215646047461580962:=0
def tw2235854673749309918:=0
def tw2236833039982437151:=0
def tw2243696689581296717:=0
def tw2253586368069047415:=0
def tw2294011908725689548:=0
def tw2326347582655931312:=0
def tw2351778215614302288:=0
def tw2361249423710310906:=0
def tw2377017118055301798:=0
def tw2423843794798244789:=0
def tw2423993490396768705:=0
def tw2426603755764034092:=0
def tw2438929625103299619:=0
def tw2439257583648804057:=0
def tw2451252220174999166:=0
def tw2491638232813116030:=0
def tw2508638475091255762:=0
def tw2524898672908178878:=0
def tw254546043764577787:=0
def tw2549561335948655512:=0
def tw2553589595005754518:=0
def tw2595355971093067165:=0
def tw2599354943180289530:=0
def tw2613119908637679141:=0
def tw2613880376430407209:=0
def tw2633850491509148998:=0
def tw2638498655419762693:=0
def tw2723653692885848032:=0
def tw2736376153269182761:=0
def tw2741207855791914788:=0
def tw2749666484408583673:=0
def tw2752623603224611641:=0
def tw2760564329902646169:=0
def tw2791590270587743666:=0
def tw2827709204989548491:=0
def tw2853682764068941837:=0
def tw2872326962264364005:=0
def tw294412154857608859:=0
def tw2971230307297408778:=0
def tw30049769462052520:=0
def tw3016625022737656755:=0
def tw302539978928884974:=0
def tw3078540212022102539:=0
def tw3080475849238265735:=0
def tw3121970169893023452:=0
def tw3131149343967143874:=0
def tw3133796580995255545:=0
def tw3160865281186347280:=0
def tw3170900330340426123:=0
def tw3187564352591117893:=0
def tw3195107543767464273:=0
def tw3196932658930947660:=0
def tw3213023685630031330:=0
def tw3227773372906454276:=0
def tw324243145244634575:=0
def tw3247986203257863774:=0
def tw3265358452386387664:=0
def tw328166766551288950:=0
def tw32939154687879189:=0
def tw3295031556751149804:=0
def tw3303524733888376539:=0
def tw3353213202099686486:=0
def tw3370875542975482041:=0
def tw3388447124167901197:=0
def tw3391471356233659111:=0
def tw3412568061495159946:=0
def tw3459970119898418279:=0
def tw346269268467867533:=0
def tw3469453083835656861:=0
def tw3489628214346692595:=0
def tw3495290610076835633:=0
def tw3498348066141834136:=0
def tw3507711616168573734:=0
def tw3536673341924913197:=0
def tw3561278245928322093:=0
def tw3572510535943149170:=0
def tw3581283291150755367:=0
def tw3621130329062713472:=0
def tw3625160600992283840:=0
def tw3659352296706361054:=0
def tw3660175512486637809:=0
def tw3676571572405835517:=0
def tw3733642075583492712:=0
def tw3741483935909657883:=0
def tw3743161510567894141:=0
def tw3780651461516820859:=0
def tw3819535662044979932:=0
def tw3826161899810052195:=0
def tw3840292100201188366:=0
def tw3844550389112427793:=0
def tw3849965559241052969:=0
def tw3860423166229012950:=0
def tw389580418467362838:=0
def tw389907316038845715:=0
def tw3902321034887346864:=0
def tw3942789870190331107:=0
def tw394849297218762981:=0
def tw3950085936623357924:=0
def tw3962064797695366745:=0
def tw3972599885269023986:=0
def tw4013729557458822212:=0
def tw4019079492505383012:=0
def tw4024256321095649627:=0
def tw4037448431696898917:=0
def tw4051347893032788780:=0
def tw4052015458858010038:=0
def tw4087218966537350467:=0
def tw4099717547906161164:=0
def tw4108488393056977608:=0
def tw4128347007837758500:=0
def tw4153310799519042823:=0
def tw418452330911945606:=0
def tw4219362117631352099:=0
def tw4233893085587762313:=0
def tw4257117639754508586:=0
def tw4290068118224088876:=0
def tw4323211882503882106:=0
def tw4331535066564214532:=0
def tw4378901021023722904:=0
def tw4395805889423017594:=0
def tw4400393470325547080:=0
def tw4420805669816953317:=0
def tw4420952016803568065:=0
def tw44272302142782786:=0
def tw4430990588530230190:=0
def tw4456797503985145156:=0
def tw447629501995076404:=0
def tw4495727594707249610:=0
def tw4544849559339148601:=0
def tw4547104102408625403:=0
def tw457916850223163263:=0
def tw4607965336704058822:=0
def tw4622482767947371135:=0
def tw4629680980983170679:=0
def tw4649267430235891886:=0
def tw4655155205766375:=0
def tw4655732363138471783:=0
def tw4656473005428893393:=0
def tw4669242365644112680:=0
def tw4674679834754190708:=0
def tw4696625843636495828:=0
def tw4703379865132581581:=0
def tw4717205607369380423:=0
def tw4721794231732888154:=0
def tw4751080703574132571:=0
def tw4759520027508321432:=0
def tw4782745651095520820:=0
def tw4852532937949797552:=0
def tw4857659328121080551:=0
def tw4867302964317994458:=0
def tw4894203688991064880:=0
def tw4901710352626632825:=0
def tw4928567038659741855:=0
def tw493079940035059249:=0
def tw4938944994819143865:=0
def tw4958463196443018592:=0
def tw4978341536612279584:=0
def tw4992543678778751476:=0
def tw508384963283393119:=0
def tw5089053278505838028:=0
def tw5112733730805353504:=0
def tw5118230371973871095:=0
def tw5126602649170585952:=0
def tw5154197882435860245:=0
def tw5175499236973238817:=0
def tw5205687046706439402:=0
def tw5223073851961984079:=0
def tw5249464240681745919:=0
def tw5260260507337457871:=0
def tw5263445178656471189:=0
def tw533804726795822950:=0
def tw5345465669021450381:=0
def tw534910895891351909:=0
def tw5352202670748740310:=0
def tw5367643444480813658:=0
def tw5373589611117788146:=0
def tw537676910228288637:=0
def tw5377718019582437444:=0
def tw5390105382681820517:=0
def tw5397754477887938357:=0
def tw5399775340764293779:=0
def tw5414925294312214199:=0
def tw5447827565651995112:=0
def tw5485524595475987085:=0
def tw5500146146147792346:=0
def tw5534959569731049588:=0
def tw5542555205754222567:=0
def tw5545268578230910141:=0
def tw5547810826361936403:=0
def tw556831976640060706:=0
def tw5576861065207614031:=0
def tw5579121224358814008:=0
def tw558117244843577738:=0
def tw5613247872383179113:=0
def tw5618544919011294549:=0
def tw5655994637097757357:=0
def tw5657019820923058505:=0
def tw5668596693389945874:=0
def tw5669473258435881980:=0
def tw5691236442734577162:=0
def tw5708308260289729284:=0
def tw5731032692720613847:=0
def tw5761774488697940416:=0
def tw5777781798532832102:=0
def tw5790852755372655890:=0
def tw5792251903000879709:=0
def tw580423275182343300:=0
def tw5806462049328056427:=0
def tw5812433720045598322:=0
def tw5814935933530912087:=0
def tw5818979451672388544:=0
def tw5820154191773616805:=0
def tw5844009379693700725:=0
def tw5847594004963329918:=0
def tw5857814169517611982:=0
def tw5879831421586243719:=0
def tw5908181790678088452:=0
def tw5920303214681224719:=0
def tw5933236313375300095:=0
def tw5987998211976308904:=0
def tw6025878864612238459:=0
def tw6030385702585823749:=0
def tw6046646811700582327:=0
def tw6051227210592222916:=0
def tw6140219568016606421:=0
def tw6165609647724585252:=0
def tw6171712455331493283:=0
def tw6200860789611073280:=0
def tw6212793138902652670:=0
def tw6229053452852040324:=0
def tw6264052473571965824:=0
def tw6270660209664474018:=0
def tw6300316034963927933:=0
def tw6300364704369196195:=0
def tw6329863500000873344:=0
def tw6331790525977077077:=0
def tw6351038229959455574:=0
def tw6364477039411272497:=0
def tw6365216367552468008:=0
def tw6368131832461561778:=0
def tw6416154098651904713:=0
def tw6442164617111031201:=0
def tw6461223481543842457:=0
def tw6463734754581416136:=0
def tw6464064374290041182:=0
def tw6478123212982052405:=0
def tw6485618215542244783:=0
def tw6492166508358301512:=0
def tw6508325462242867830:=0
def tw6511053332637062440:=0
def tw6515129111829773239:=0
def tw6527612240615936547:=0
def tw6534980865533761243:=0
def tw6569070618948565846:=0
def tw6575849804628284621:=0
def tw6589156311142574302:=0
def tw6634216737393269174:=0
def tw6650689991564313294:=0
def tw6652928754876562940:=0
def tw6652960913259305789:=0
def tw6704763919227990819:=0
def tw6714668144888404731:=0
def tw675625494843476865:=0
def tw6765551912359687371:=0
def tw6789271780204117161:=0
def tw6791691515315910051:=0
def tw6792503194200862872:=0
def tw6829059059733807829:=0
def tw684697531345428507:=0
def tw687044131377893244:=0
def tw689485811197279581:=0
def tw6898168834205353698:=0
def tw6955297290829471247:=0
def tw6977728136009983993:=0
def tw7026720313580276826:=0
def tw7134792276248277837:=0
def tw727495332713882253:=0
def tw7283578998165479597:=0
def tw7284947675835812435:=0
def tw7317473007130359299:=0
def tw7329496184570793741:=0
def tw7340009338035380396:=0
def tw7351685653066205830:=0
def tw73603950517933586:=0
def tw7382150746270841318:=0
def tw743102802560502648:=0
def tw7434108425243037706:=0
def tw743665680612357287:=0
def tw7443478822128901223:=0
def tw7464184255889486402:=0
def tw7465548366388012556:=0
def tw7482549647396287090:=0
def tw7515992118120267215:=0
def tw75608799577797233:=0
def tw7603384540393181905:=0
def tw7604923957752155437:=0
def tw7621115497284084296:=0
def tw7631817095869767110:=0
def tw7635771713336055782:=0
def tw7641982472658014169:=0
def tw7666354458227999090:=0
def tw7671591266748296281:=0
def tw7676292663633448090:=0
def tw7686488894019115494:=0
def tw7701188627190249739:=0
def tw7703505331812556801:=0
def tw7733717761811480880:=0
def tw7746533076489966186:=0
def tw77514561345434580:=0
def tw7810022866455649031:=0
def tw7826766245952507266:=0
def tw7863837170335281710:=0
def tw793475499796835302:=0
def tw7946187182324192650:=0
def tw7976165383966483911:=0
def tw7999312959948657846:=0
def tw7999484835481059048:=0
def tw8030582576867895927:=0
def tw8046338171288259548:=0
def tw8057404391155638977:=0
def tw8074850360308825980:=0
def tw8107313136520545252:=0
def tw8149655118528216641:=0
def tw8185691763359219080:=0
def tw8198958793636190686:=0
def tw8205928226529865035:=0
def tw8212550065568009332:=0
def tw824622268072588783:=0
def tw8253903999060576655:=0
def tw827390563124804557:=0
def tw8299932431436411757:=0
def tw8334931570184726966:=0
def tw8381000957345382330:=0
def tw8419051036912815022:=0
def tw8421708978604466723:=0
def tw8435379412512899591:=0
def tw8453149388968751815:=0
def tw8467176558133821496:=0
def tw8487311736703359163:=0
def tw8503639842477994877:=0
def tw851869779414850898:=0
def tw8533715498746959374:=0
def tw8539276839981311494:=0
def tw8543396358312463529:=0
def tw8556593925613510335:=0
def tw8556856833231741474:=0
def tw8570304188628711479:=0
def tw8590766229401083103:=0
def tw8606002341854421651:=0
def tw8638740838243239559:=0
def tw8647222141299481363:=0
def tw870503445949660323:=0
def tw8717305534985872198:=0
def tw8720904075495592457:=0
def tw8723894548781996377:=0
def tw8735808707062518319:=0
def tw8762098807159023675:=0
def tw8771025736866973705:=0
def tw8771294092887568913:=0
def tw8771854081845068450:=0
def tw8774736568510721251:=0
def tw8791140312363999274:=0
def tw8820247839864627937:=0
def tw8826646515684399530:=0
def tw8887516569653972548:=0
def tw8922593902202990998:=0
def tw8943107477876440849:=0
def tw8957204904981701133:=0
def tw8973672400912663983:=0
def tw8999885012693559951:=0
def tw9007087996212865161:=0
def tw9034175573626328618:=0
def tw9042742517163483788:=0
def tw9064494932243618939:=0
def tw9097693095106232840:=0
def tw910164978439581035:=0
def tw9121815800742492380:=0
def tw913543207456668500:=0
def tw9139199547763142626:=0
def tw9165723378082409077:=0
def tw9168123691932475121:=0
def tw9177789068808254680:=0
def tw9224460142130097804:=0
def tw9263816265691810490:=0
def tw927750295742428824:=0
def tw9296638537373471188:=0
def tw9300551492574427128:=0
def tw9314683157419020378:=0
def tw9326958904278990677:=0
def tw9331826254216756343:=0
def tw9341104587312776212:=0
def tw9343151723213359248:=0
def tw9349929824873727942:=0
def tw9352900274187077713:=0
def tw9368116782159404251:=0
def tw9376854595260811907:=0
def tw9410882499216633812:=0
def tw9424505994228926000:=0
def tw9427850918459043102:=0
def tw9439255725217188441:=0
def tw9474438133707899330:=0
def tw9494606282346291371:=0
def tw9509193760976612097:=0
def tw9526066719491148311:=0
def tw9565729645435337765:=0
def tw9589488546438556660:=0
def tw9595395501747651587:=0
def tw9634272860765438319:=0
def tw9703065973645621489:=0
def tw9721539951725079755:=0
def tw9748632889045232466:=0
def tw976262129625503923:=0
def tw9800416443450886107:=0
def tw9853139404842514392:=0
def tw9891301502761080806:=0
def tw9895238003347760893:=0
def tw9912936347476612100:=0
def tw995096124647773794:=0
def tw9961032066936586773:=0
def tw9979146655939521044:=0
def tw9991922338819483493:=0
end PySem.W.Fast
open PySem PySem.W PyProof.Rows
set_option maxRecDepth 100000 in
set_option maxHeartbeats 0 in
theorem PySem.Challenge.cw_nearstairs_k36_founds_by_boards_alone_holds : PySem.Challenge.rw_nearstairs_k36_founds_by_boards_alone.Holds := by
  w_on; o_law; k_head; (case hw => w_witness2)
  k_fill
  refine Mine.walk (l := PySem.Challenge.rw_nearstairs_k36_founds_by_boards_alone) rfl rfl (fun w h Y => ⟨PySem.W.km_in_of Y, PySem.W.km_tabs_of Y _ List.mem_cons_self⟩) ?F
  case F =>
    intro w mg fa h KX G hmg
    refine' Mine.all_mk KX G hmg ?_ ?_ ?_ ?_ ?_ ?_ ?_ ?_ ?_ ?_ ?_ ?_ ?_ ?_ ?_ ?_ ?_ ?_ ?_ ?_ ?_ ?_ ?_ ?_ ?_ ?_ ?_ ?_ ?_ ?_ ?_ ?_ ?_ ?_ ?_ ?_ ?_ ?_ ?_ ?_ ?_ ?_ ?_ ?_ ?_ ?_ ?_ ?_ ?_ ?_ ?_ ?_ ?_ ?_ ?_ ?_ ?_ ?_ ?_ ?_ ?_ ?_ ?_ ?_ ?_ ?_ ?_ ?_ ?_ ?_ ?_ ?_ ?_ ?_ ?_ ?_ ?_ ?_ ?_ ?_ ?_ ?_ ?_ ?_ ?_ ?_ ?_ ?_ ?_ ?_ ?_ ?_ ?_ ?_ ?_ ?_ ?_ ?_ ?_ ?_ ?_ ?_ ?_ ?_ ?_ ?_ ?_ ?_ ?_ ?_ ?_ ?_ ?_ ?_ ?_ ?_ ?_ ?_ ?_ ?_ ?_ ?_ ?_ ?_ ?_ ?_ ?_ ?_ ?_ ?_ ?_ ?_ ?_ ?_ ?_ ?_ ?_ ?_ ?_ ?_ ?_ ?_ ?_ ?_ ?_ ?_ ?_ ?_ ?_ ?_ ?_ ?_ ?_ ?_ ?_ ?_ ?_ ?_ ?_ ?_ ?_ ?_ ?_ ?_ ?_ ?_ ?_ ?_ ?_ ?_ ?_ ?_ ?_ ?_ ?_ ?_ ?_ ?_ ?_ ?_ ?_ ?_ ?_ ?_ ?_ ?_ ?_ ?_ ?_ ?_ ?_ ?_ ?_ ?_ ?_ ?_ ?_ ?_ ?_ ?_ ?_ ?_ ?_ ?_ ?_ ?_ ?_ ?_ ?_ ?_ ?_ ?_ ?_ ?_ ?_ ?_ ?_ ?_ ?_ ?_ ?_ ?_ ?_ ?_ ?_ ?_ ?_ ?_ ?_ ?_ ?_ ?_ ?_ ?_ ?_ ?_ ?_ ?_ ?_ ?_ ?_ ?_ ?_ ?_ ?_ ?_ ?_ ?_ ?_ ?_ ?_ ?_ ?_ ?_ ?_ ?_ ?_ ?_ ?_ ?_ ?_ ?_ ?_ ?_ ?_ ?_ ?_ ?_ ?_ ?_ ?_ ?_ ?_ ?_ ?_ ?_ ?_ ?_ ?_ ?_ ?_ ?_ ?_ ?_ ?_ ?_ ?_ ?_ ?_ ?_ ?_ ?_ ?_ ?_ ?_ ?_ ?_ ?_ ?_ ?_ ?_ ?_ ?_ ?_ ?_ ?_ ?_ ?_ ?_ ?_ ?_ ?_ ?_ ?_ ?_ ?_ ?_ ?_ ?_ ?_ ?_ ?_ ?_ ?_ ?_ ?_ ?_ ?_ ?_
    all_goals try k_is
    all_goals kernel_rfl
