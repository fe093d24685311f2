import PyProof.Rows.All
import Wide.All
import OpenK.AllK
import Wide.FinOn
import Lean
import PyProof.EqAt
import PyProof.EqKinds
import PyProof.TupleCall
import PyProof.StrLawsIn
import KE.KTryMore
import PyProof.ListRange
import PyProof.RulesTry
import KE.KTryOn
import PyProof.StrOps
import PyProof.StrBlock2
import PyProof.StrCalls
import PyProof.StrCalls6
import PyProof.PureStr
import PyProof.Rows.StrRules
import PyProof.StrLawsTight
import PyProof.StrLawsReplace
import PyProof.Rows.StrItems
import PyProof.Rows.StrWeight2
import PyProof.Rows.StrLawsPart
import PyProof.Rows.StrFirst
import PyProof.RulesTry
import PyProof.StrCalls6
import PyProof.PureStr
import PyProof.StrBlock2
import PyProof.Rows.StrRules
import KE.KDictOf
import PyProof.Draws
import PyProof.EnumMake
import PyProof.Rows.EnumRows
import PySem.Challenge.RW_shrinkhouse_k36_no_things_texts
set_option autoImplicit false
set_option Elab.async false
set_option linter.all false
set_option maxRecDepth 100000
set_option maxHeartbeats 4000000
namespace L2
open PySem PySem.Spec PyProof.Rows
abbrev Key := Sum Int Str
def keyIs : Key → Value → Bool
  | .inl k, v => Value.isInt k v
  | .inr x, v => Value.isStrOf x v
def keyH (w : World) : Key → Int
  | .inl k => hashInt k
  | .inr x => hashStr w x
theorem keyIs_shape : ∀ {k : Key} {v : Value}, keyIs k v = true → (∃ i t, k = Sum.inl i ∧ v = Value.int i t) ∨ (∃ x t, k = Sum.inr x ∧ v = Value.str x t)
  | .inl i, v, h => by
    obtain ⟨t, e⟩ := Value.isInt_shape (k := i) (v := v) h
    exact .inl ⟨i, t, rfl, e⟩
  | .inr x, v, h => by
    obtain ⟨t, e⟩ := Value.isStrOf_shape (x := x) (v := v) h
    exact .inr ⟨x, t, rfl, e⟩
theorem key_ll (a b : Int) : decide ((Sum.inl a : Key) = Sum.inl b) = (a == b) := by
  by_cases e : a = b
  · subst e; simp
  · have h : ¬ (Sum.inl a : Key) = Sum.inl b := fun q => e (Sum.inl.inj q)
    rw [decide_eq_false h]
    exact (beq_eq_false_iff_ne.mpr e).symm
theorem key_rr (a b : Str) : decide ((Sum.inr a : Key) = Sum.inr b) = decide (a = b) := by
  by_cases e : a = b
  · subst e; simp
  · have h : ¬ (Sum.inr a : Key) = Sum.inr b := fun q => e (Sum.inr.inj q)
    rw [decide_eq_false h, decide_eq_false e]
theorem key_lr (a : Int) (b : Str) : decide ((Sum.inl a : Key) = Sum.inr b) = false := decide_eq_false (fun q => nomatch q)
theorem key_rl (a : Str) (b : Int) : decide ((Sum.inr a : Key) = Sum.inl b) = false := decide_eq_false (fun q => nomatch q)
def mixKind (prog : Program) (w : World) : PySem.KeyKind prog w Key where
  is := keyIs
  hash := keyH w
  inj := fun v a b ha hb => by
    rcases keyIs_shape ha with ⟨i, t, rfl, rfl⟩ | ⟨x, t, rfl, rfl⟩
    · rcases keyIs_shape hb with ⟨j, u, rfl, e⟩ | ⟨y, u, rfl, e⟩
      · injection e with e1 _; rw [e1]
      · exact nomatch e
    · rcases keyIs_shape hb with ⟨j, u, rfl, e⟩ | ⟨y, u, rfl, e⟩
      · exact nomatch e
      · injection e with e1 _; rw [e1]
  byValue := fun k v h => by
    rcases keyIs_shape h with ⟨i, t, rfl, rfl⟩ | ⟨x, t, rfl, rfl⟩ <;> rfl
  pyHash := fun hv h => by
    rcases keyIs_shape hv with ⟨i, t, rfl, rfl⟩ | ⟨x, t, rfl, rfl⟩
    · exact wpAny_pyHash_int h
    · exact wpAny_pyHash_str h
  eqBool := fun hu hv h => by
    rcases keyIs_shape hu with ⟨i, t, rfl, rfl⟩ | ⟨x, t, rfl, rfl⟩
    · rcases keyIs_shape hv with ⟨j, u, rfl, rfl⟩ | ⟨y, u, rfl, rfl⟩
      · rw [key_ll] at h; exact wpAny_eqBool_int h
      · rw [key_lr] at h; exact SeqAt.EqAt.int_str i t y u _ _ _ _ h
    · rcases keyIs_shape hv with ⟨j, u, rfl, rfl⟩ | ⟨y, u, rfl, rfl⟩
      · rw [key_rl] at h; exact SeqAt.EqAt.str_int x t j u _ _ _ _ h
      · rw [key_rr] at h; exact wpAny_eqBool_str h
  «strs» := fun k x t v h => by
    rcases keyIs_shape h with ⟨i, u, rfl, e⟩ | ⟨y, u, rfl, e⟩
    · exact nomatch e
    · injection e with e1 _
      subst e1
      cases v <;> rfl
end L2
namespace L2
open PySem PySem.Spec PyProof.Rows
inductive V where
  | non | bl (b : Bool) | int (i : Int) | str (x : Str) | byt (b : Array UInt8) | flt (b : UInt64) | ref (a : Addr) | ty (n : String)
  deriving DecidableEq
def RelV : V → Value → Prop
  | .non, u => u = Value.none
  | .bl b, u => u = Value.bool b
  | .int i, u => ∃ t, u = Value.int i t
  | .str x, u => ∃ t, u = Value.str x t
  | .byt b, u => ∃ t, u = Value.bytes b t
  | .flt b, u => ∃ t, u = Value.float b t
  | .ref a, u => u = Value.ref a
  | .ty n, u => u = Value.type n
abbrev Vals : List V → List Value → Prop := Paired RelV
theorem Vals.length {xs : List V} {us : List Value} (r : Vals xs us) : xs.length = us.length := Paired.length r
theorem Vals.get : ∀ {xs : List V} {us : List Value} {i : Nat} {x : V}, Vals xs us → xs[i]? = some x → ∃ u, us[i]? = some u ∧ RelV x u
  | _, _, _, _, .nil, e => by simp at e
  | _, _, 0, _, .cons r _, e => by simp at e; subst e; exact ⟨_, rfl, r⟩
  | _, _, i + 1, x, .cons _ t, e => by
    obtain ⟨u, h1, h2⟩ := Vals.get (i := i) (x := x) t (by simpa using e)
    exact ⟨u, by simpa using h1, h2⟩
theorem Vals.set {x : V} {u : Value} (r : RelV x u) : ∀ {xs : List V} {us : List Value} (i : Nat), Vals xs us → Vals (xs.set i x) (us.set i u)
  | _, _, _, .nil => .nil
  | _, _, 0, .cons _ t => .cons r t
  | _, _, i + 1, .cons q t => .cons q (Vals.set r i t)
theorem Vals.append : ∀ {xs ys : List V} {us ws : List Value}, Vals xs us → Vals ys ws → Vals (xs ++ ys) (us ++ ws)
  | _, _, _, _, .nil, s => s
  | _, _, _, _, .cons r t, s => .cons r (Vals.append t s)
theorem Vals.take : ∀ {xs : List V} {us : List Value} (n : Nat), Vals xs us → Vals (xs.take n) (us.take n)
  | _, _, 0, _ => .nil
  | _, _, _ + 1, .nil => .nil
  | _, _, n + 1, .cons r t => .cons r (Vals.take n t)
theorem Vals.drop : ∀ {xs : List V} {us : List Value} (n : Nat), Vals xs us → Vals (xs.drop n) (us.drop n)
  | _, _, 0, r => r
  | _, _, _ + 1, .nil => .nil
  | _, _, n + 1, .cons _ t => Vals.drop n t
theorem Vals.none_of : ∀ {xs : List V} {us : List Value} {i : Nat}, Vals xs us → xs[i]? = none → us[i]? = none := fun {xs us i} r e => by
  have h1 := r.length
  have h2 : xs.length ≤ i := List.getElem?_eq_none_iff.mp e
  exact List.getElem?_eq_none_iff.mpr (by omega)
def RelO : Option V → Option Value → Prop
  | some v, some u => RelV v u
  | none, none => True
  | _, _ => False
def KV {κ : Type} : List (κ × V) → List (κ × Value) → Prop := Paired fun (p : κ × V) (q : κ × Value) => p.1 = q.1 ∧ RelV p.2 q.2
def kV : Key → V
  | .inl i => .int i
  | .inr x => .str x
inductive HO where
  
  | lst (xs : List V)
  
  | tup (xs : List V)
  
  | dK (kvs : List (Key × V)) | dT (kvs : List (List Key × V))
  
  | set (S : Int → Bool) (n : Nat)
  
  | ins (C dx : Addr) (fs : List (Str × V))
  
  | own (x : Addr)
  
  | xd (fs : List (Str × V))
  
  | met (f x : Addr)
  
  | rng (lo hi : Int)
  
  | frz (o : Obj) (u : HO)
  
  | tbl (ps : Array Value)
  
  | ext (φ : Heap → Prop)
abbrev Hp := Addr → Option HO
def upd (H : Hp) (a : Addr) (o : HO) : Hp := fun b => if b = a then some o else H b
theorem upd_same {H : Hp} {a : Addr} {o : HO} : upd H a o a = some o := by unfold upd; rw [if_pos rfl]
theorem upd_ne {H : Hp} {a b : Addr} {o : HO} (h : b ≠ a) : upd H a o b = H b := by unfold upd; rw [if_neg h]
theorem upd_upd {H : Hp} {a : Addr} {o u : HO} : upd (upd H a o) a u = upd H a u := by
  funext b; unfold upd; split <;> rfl
theorem ne_of {H : Hp} {a b : Addr} {o u : HO} (h : H a = some o) (h' : H b = some u) (d : o ≠ u) : a ≠ b := by
  intro e; subst e; rw [h] at h'; exact d (Option.some.inj h')
theorem ne_of_none {H : Hp} {a b : Addr} {o : HO} (h : H a = some o) (h' : H b = none) : a ≠ b := by
  intro e; subst e; rw [h] at h'; cases h'
section
variable (P : Program) (w : World)
def ObjOk (H : Hp) (h : Heap) (a : Addr) : HO → Prop
  | .lst xs => xs.length ≤ sizeLine ∧ ∃ (its : List Value) (n : Nat), Vals xs its ∧ h.get? a = some { cls := .type "list", data := .seq its.toArray n }
  | .tup xs => xs.length ≤ sizeLine ∧ ∃ its : List Value, Vals xs its ∧ IsTup h a its.toArray
  | .dK kvs => kvs.length ≤ sizeLine ∧ (a == sysModules) = false ∧ ∃ vs, KV kvs vs ∧ h.DictOf (mixKind P w) a vs
  | .dT kvs => kvs.length ≤ sizeLine ∧ (a == sysModules) = false ∧ ∃ xs : List (List Key × Addr × Value),
      Paired (fun (p : List Key × V) (q : List Key × Addr × Value) => p.1 = q.1 ∧ H q.2.1 = some (.tup (p.1.map kV)) ∧ RelV p.2 q.2.2) kvs xs ∧
      ∃ o es ep, h.get? a = some o ∧ o.ExactDict ∧ o.data = .dict es ep ∧ es.toList = xs.map (entryOfKey (tupleKind (mixKind P w))) ∧ (xs.map (·.1)).Nodup
  | .set S n => h.SetOf (intKind P w) a S n
  | .ins C dx fs => H dx = some (.own a) ∧ fs.length ≤ 1000 ∧ dx ≠ a ∧ h.get? a = some (PySem.W.instObj C dx) ∧
      ∃ mA, h.Ns1 dx mA ∧ (∀ f, RelO (fs.lookup f) (mA f)) ∧ PySem.Within mA (fs.map (·.1))
  | .own _ => ∃ o, h.get? a = some o
  | .xd fs => ∃ mA, h.Ns1 a mA ∧ ∀ f, RelO (fs.lookup f) (mA f)
  | .rng lo hi => ∃ t u v, h.get? a = some { cls := .type "range", data := .fields #[.int lo t, .int hi u, .int 1 v] }
  | .frz o u => h.get? a = some o ∧ ObjOk H h a u
  | .tbl ps => h.get? a = some { cls := .none, data := .fields ps }
  | .met f x => h.get? a = some (PySem.W.methodObj (.ref f) (.ref x))
  | .ext φ => φ h ∧ (∃ o, h.get? a = some o) ∧ ∀ h1 h2 : Heap, φ h1 → (∀ o, h1.get? a = some o → h2.get? a = some o) → φ h2
def HOk (H : Hp) (h : Heap) : Prop := ∀ a o, H a = some o → ObjOk P w H h a o
end
section
variable {P : Program} {w : World} {H H' : Hp} {h h' : Heap} {a : Addr} {o : HO}
theorem ObjOk.lt (x : ObjOk P w H h a o) : a < h.objs.size := by
  cases o with
  | lst xs => obtain ⟨_, _, _, _, e⟩ := x; exact Heap.lt_size e
  | tup xs => obtain ⟨_, _, _, p⟩ := x; exact p.lt
  | dK kvs => obtain ⟨_, _, _, _, o, _, _, e, _⟩ := x; exact Heap.lt_size e
  | dT kvs => obtain ⟨_, _, _, _, o, _, _, e, _⟩ := x; exact Heap.lt_size e
  | set S n => obtain ⟨o, _, _, _, e, _⟩ := x; exact Heap.lt_size e
  | ins C dx fs => obtain ⟨_, _, _, e, _⟩ := x; exact Heap.lt_size e
  | own y => obtain ⟨_, e⟩ := x; exact Heap.lt_size e
  | xd fs => obtain ⟨_, ⟨_, _, _, e, _⟩, _⟩ := x; exact Heap.lt_size e
  | rng lo hi => obtain ⟨_, _, _, e⟩ := x; exact Heap.lt_size e
  | frz ob u => obtain ⟨e, _⟩ := x; exact Heap.lt_size e
  | tbl ps => exact Heap.lt_size (show h.get? a = some _ from x)
  | met f y => exact Heap.lt_size (show h.get? a = some _ from x)
  | ext φ => obtain ⟨_, ⟨_, e⟩, _⟩ := x; exact Heap.lt_size e
theorem Paired.mapP {α β : Type} {F G : α → β → Prop} : ∀ {l₁ : List α} {l₂ : List β}, Paired F l₁ l₂ → (∀ a b, F a b → G a b) → Paired G l₁ l₂
  | _, _, .nil, _ => .nil
  | _, _, .cons r t, f => .cons (f _ _ r) (Paired.mapP t f)
theorem ObjOk.stay (x : ObjOk P w H h a o) (k : ∀ b u, (b = a ∨ H b = some (.own a)) → h.get? b = some u → h'.get? b = some u)
    (ho : ∀ b, H b = some (.own a) → H' b = some (.own a)) (ht : ∀ b xs, H b = some (.tup xs) → H' b = some (.tup xs)) : ObjOk P w H' h' a o := by
  induction o with
  | lst xs => obtain ⟨z, its, n, r, e⟩ := x; exact ⟨z, its, n, r, k _ _ (.inl rfl) e⟩
  | tup xs => obtain ⟨z, its, r, ob, e, c⟩ := x; exact ⟨z, its, r, ob, k _ _ (.inl rfl) e, c⟩
  | dK kvs => obtain ⟨z, y, vs, r, ob, es, ep, e, c⟩ := x; exact ⟨z, y, vs, r, ob, es, ep, k _ _ (.inl rfl) e, c⟩
  | dT kvs =>
    obtain ⟨z, y, xs, r, ob, es, ep, e, c⟩ := x
    exact ⟨z, y, xs, Paired.mapP r fun p q z => ⟨z.1, ht _ _ z.2.1, z.2.2⟩, ob, es, ep, k _ _ (.inl rfl) e, c⟩
  | set S n => obtain ⟨ob, es, ep, t, e, c⟩ := x; exact ⟨ob, es, ep, t, k _ _ (.inl rfl) e, c⟩
  | ins C dx fs =>
    obtain ⟨d, z, ne, e, mA, ⟨od, es, ep, e2, c⟩, r⟩ := x
    exact ⟨ho _ d, z, ne, k _ _ (.inl rfl) e, mA, ⟨od, es, ep, k _ _ (.inr d) e2, c⟩, r⟩
  | own y => obtain ⟨ob, e⟩ := x; exact ⟨ob, k _ _ (.inl rfl) e⟩
  | xd fs => obtain ⟨mA, ⟨od, es, ep, e, c⟩, r⟩ := x; exact ⟨mA, ⟨od, es, ep, k _ _ (.inl rfl) e, c⟩, r⟩
  | rng lo hi => obtain ⟨t, u, v, e⟩ := x; exact ⟨t, u, v, k _ _ (.inl rfl) e⟩
  | frz ob u ih => obtain ⟨e, q⟩ := x; exact ⟨k _ _ (.inl rfl) e, ih q⟩
  | tbl ps =>
    have e : h.get? a = some { cls := .none, data := .fields ps } := x
    show h'.get? a = some { cls := .none, data := .fields ps }
    exact k a _ (.inl rfl) e
  | met f y =>
    have e : h.get? a = some (PySem.W.methodObj (.ref f) (.ref y)) := x
    show h'.get? a = some (PySem.W.methodObj (.ref f) (.ref y))
    exact k a _ (.inl rfl) e
  | ext φ => obtain ⟨p, ⟨o, e⟩, st⟩ := x; exact ⟨st _ _ p fun o q => k _ _ (.inl rfl) q, ⟨o, k _ _ (.inl rfl) e⟩, st⟩
theorem HOk.lt (x : HOk P w H h) (e : H a = some o) : a < h.objs.size := (x a o e).lt
theorem HOk.fresh (x : HOk P w H h) (e : h.objs.size ≤ a) : H a = none := by
  cases q : H a with
  | none => rfl
  | some u => exact absurd (Nat.lt_of_lt_of_le (x.lt q) e) (Nat.lt_irrefl _)
theorem HOk.kept (x : HOk P w H h) (k : ∀ b u, h.get? b = some u → h'.get? b = some u) : HOk P w H h' := fun a o e =>
  (x a o e).stay (fun b u _ q => k b u q) (fun _ q => q) fun _ _ q => q
theorem HOk.laid (x : HOk P w H h) (k : ∀ b u, h.get? b = some u → h'.get? b = some u) (hp : h.objs.size ≤ a) (new : ObjOk P w (upd H a o) h' a o) : HOk P w (upd H a o) h' := fun b u e => by
  have hn := x.fresh hp
  by_cases hb : b = a
  · subst hb; rw [upd_same] at e; cases e; exact new
  · rw [upd_ne hb] at e
    exact (x b u e).stay (fun c v _ q => k c v q) (fun c q => by rw [upd_ne (ne_of_none q hn)]; exact q) fun c xs q => by rw [upd_ne (ne_of_none q hn)]; exact q
end
def Rd (H : Hp) (a : Addr) (u : HO) : Prop := H a = some u ∨ ∃ o, H a = some (.frz o u)
theorem Rd.of {H : Hp} {a : Addr} {u : HO} (h : H a = some u) : Rd H a u := .inl h
theorem Rd.ok {P : Program} {w : World} {H : Hp} {h : Heap} {a : Addr} {u : HO} (r : Rd H a u) (x : HOk P w H h) : ObjOk P w H h a u := by
  rcases r with r | ⟨o, r⟩
  · exact x a u r
  · obtain ⟨_, q⟩ := x a _ r
    exact q
def Mut : Option HO → Prop
  | some (.lst _) => True
  | some (.dK _) => True
  | some (.dT _) => True
  | some (.set _ _) => True
  | some (.ins _ _ _) => True
  | some (.ext _) => True
  | _ => False
section
variable {P : Program} {w : World} {H : Hp} {h h' : Heap} {x e : Addr} {o' : HO}
theorem HOk.write (ok : HOk P w H h) (mu : Mut (H x)) (he : e = x ∨ H e = some (.own x)) (k : ∀ b u, b ≠ e → h.get? b = some u → h'.get? b = some u) (heo : ∃ u, h'.get? e = some u)
    (new : ObjOk P w (upd H x o') h' x o') : HOk P w (upd H x o') h' := fun b u q => by
  have nown : ∀ c y, H c = some (.own y) → c ≠ x := fun c y r z => by subst z; rw [r] at mu; exact mu
  have ntup : ∀ c xs, H c = some (.tup xs) → c ≠ x := fun c xs r z => by subst z; rw [r] at mu; exact mu
  by_cases hb : b = x
  · subst hb; rw [upd_same] at q; cases q; exact new
  · rw [upd_ne hb] at q
    by_cases hbe : b = e
    · have q' : H b = some (.own x) := by
        rcases he with z | z
        · exact absurd (hbe.trans z) hb
        · rw [hbe]; exact z
      rw [q] at q'; cases q'
      obtain ⟨v, hv⟩ := heo
      exact ⟨v, by rw [hbe]; exact hv⟩
    · refine (ok b u q).stay (fun c v hc r => k c v ?_ r) (fun c r => by rw [upd_ne (nown c b r)]; exact r) fun c xs r => by rw [upd_ne (ntup c xs r)]; exact r
      rcases hc with rfl | hc
      · exact hbe
      · rintro rfl
        rcases he with z | z
        · exact nown c b hc z
        · rw [hc] at z; cases z; exact hb rfl
end
structure Un (fs ex : List Addr) (H H' : Hp) (h h' : Heap) : Prop where
  keep : ∀ b o, h.get? b = some o → H b = none → b ∉ fs → b ∉ ex → h'.get? b = some o
  slot : ∀ b o, h.get? b = some o → H b = none → b ∈ fs → b ∉ ex → ∃ sl, h'.get? b = some { o with slots := sl }
  free : ∀ b o, h.get? b = some o → H b = none → b ∉ ex → H' b = none
  there : ∀ b o, h.get? b = some o → b ∉ ex → ∃ o', h'.get? b = some o'
  tups : ∀ b xs, H b = some (.tup xs) → H' b = some (.tup xs)
  frzs : ∀ b o u, H b = some (.frz o u) → H' b = some (.frz o u)
  tbls : ∀ b ps, H b = some (.tbl ps) → ∃ more, H' b = some (.tbl (ps ++ more))
section
variable {fs fs' ex ex' : List Addr} {H H1 H2 : Hp} {h h1 h2 h' : Heap} {a x e : Addr} {o : HO}
theorem Un.any (u : Un fs ex H H1 h h1) {b : Addr} {ob : Obj} (q : h.get? b = some ob) (n : H b = none) (hx : b ∉ ex) : ∃ sl, h1.get? b = some { ob with slots := sl } := by
  by_cases hb : b ∈ fs
  · exact u.slot b ob q n hb hx
  · exact ⟨ob.slots, u.keep b ob q n hb hx⟩
theorem Un.trans (a : Un fs ex H H1 h h1) (b : Un fs ex H1 H2 h1 h2) : Un fs ex H H2 h h2 where
  keep := fun c ob q n hc hx => b.keep c ob (a.keep c ob q n hc hx) (a.free c ob q n hx) hc hx
  slot := fun c ob q n hc hx => by
    obtain ⟨sl, e1⟩ := a.slot c ob q n hc hx
    obtain ⟨sl', e2⟩ := b.slot c _ e1 (a.free c ob q n hx) hc hx
    exact ⟨sl', e2⟩
  free := fun c ob q n hx => by
    obtain ⟨o', e1⟩ := a.there c ob q hx
    exact b.free c o' e1 (a.free c ob q n hx) hx
  there := fun c ob q hx => by
    obtain ⟨o', e1⟩ := a.there c ob q hx
    exact b.there c o' e1 hx
  tups := fun c xs q => b.tups c xs (a.tups c xs q)
  frzs := fun c ob xs q => b.frzs c ob xs (a.frzs c ob xs q)
  tbls := fun c ps q => by
    obtain ⟨m1, e1⟩ := a.tbls c ps q
    obtain ⟨m2, e2⟩ := b.tbls c _ e1
    exact ⟨m1 ++ m2, by rw [e2, Array.append_assoc]⟩
theorem Un.kept (k : ∀ b u, h.get? b = some u → h'.get? b = some u) : Un fs ex H H h h' :=
  ⟨fun b ob q _ _ _ => k b ob q, fun b ob q _ _ _ => ⟨ob.slots, k b ob q⟩, fun _ _ _ n _ => n, fun b ob q _ => ⟨ob, k b ob q⟩, fun _ _ q => q, fun _ _ _ q => q, fun _ ps q => ⟨#[], by rw [q]; simp⟩⟩
theorem Un.refl : Un fs ex H H h h := Un.kept fun _ _ q => q
theorem Un.laid (k : ∀ b u, h.get? b = some u → h'.get? b = some u) (hp : h.objs.size ≤ a) (hn : H a = none) : Un fs ex H (upd H a o) h h' where
  keep := fun b u q _ _ _ => k b u q
  slot := fun b u q _ _ _ => ⟨u.slots, k b u q⟩
  free := fun b u q n _ => by rw [upd_ne (Nat.ne_of_lt (Nat.lt_of_lt_of_le (Heap.lt_size q) hp))]; exact n
  there := fun b u q _ => ⟨u, k b u q⟩
  tups := fun b xs q => by rw [upd_ne (ne_of_none q hn)]; exact q
  frzs := fun b u xs q => by rw [upd_ne (ne_of_none q hn)]; exact q
  tbls := fun b ps q => ⟨#[], by rw [upd_ne (ne_of_none q hn), q]; simp⟩
theorem Un.write (mu : Mut (H x)) (he : e = x ∨ H e = some (.own x)) (k : ∀ b u, b ≠ e → h.get? b = some u → h'.get? b = some u) (heo : ∃ u, h'.get? e = some u) : Un fs ex H (upd H x o) h h' := by
  have hx : ∀ b, H b = none → b ≠ x := fun b n z => by subst z; rw [n] at mu; exact mu
  have hb : ∀ b, H b = none → b ≠ e := fun b n z => by
    subst z
    rcases he with r | r
    · exact hx b n r
    · rw [n] at r; cases r
  have hm : ∀ b u, H b = some u → ¬ Mut (some u) → b ≠ x := fun b u q nm z => by subst z; rw [q] at mu; exact nm mu
  refine ⟨fun b u q n _ _ => k b u (hb b n) q, fun b u q n _ _ => ⟨u.slots, k b u (hb b n) q⟩, fun b u q n _ => by rw [upd_ne (hx b n)]; exact n, fun b u q _ => ?_,
    fun b xs q => by rw [upd_ne (hm b _ q fun z => z)]; exact q, fun b u xs q => by rw [upd_ne (hm b _ q fun z => z)]; exact q, fun b ps q => ⟨#[], by rw [upd_ne (hm b _ q fun z => z), q]; simp⟩⟩
  by_cases hbe : b = e
  · subst hbe; exact heo
  · exact ⟨u, k b u hbe q⟩
theorem Un.mono (u : Un fs ex H H1 h h1) (hs : ∀ b ∈ fs, b ∈ fs') (hx : ∀ b ∈ ex, b ∈ ex') : Un fs' ex' H H1 h h1 :=
  ⟨fun b ob q n hb he => u.keep b ob q n (fun z => hb (hs b z)) fun z => he (hx b z), fun _ _ q n _ he => u.any q n fun z => he (hx _ z), fun b ob q n he => u.free b ob q n fun z => he (hx b z), fun b ob q he => u.there b ob q fun z => he (hx b z), u.tups, u.frzs, u.tbls⟩
end
def trk (h : Heap) (H : Hp) : List Addr := (List.range h.objs.size).filter fun a => (H a).isSome
def hidT (h : Heap) (H : Hp) : Heap := PySem.W.hideAll h (trk h H)
theorem hidT_size (h : Heap) (H : Hp) : (hidT h H).objs.size = h.objs.size := PySem.W.hideAll_size _ _
theorem hidT_get {h : Heap} {H : Hp} {b : Addr} {o : Obj} (e : h.get? b = some o) (n : H b = none) : (hidT h H).get? b = some o :=
  PySem.W.hideAll_get _ e fun hm => by
    have q : (H b).isSome = true := (List.mem_filter.mp hm).2
    rw [n] at q; simp at q
theorem of_hidT {h : Heap} {H : Hp} {b : Addr} {o : Obj} (e : (hidT h H).get? b = some o) : h.get? b = some o ∧ H b = none := by
  have e' : h.get? b = some o := PySem.W.of_hideAll (trk h H) e
  refine ⟨e', ?_⟩
  cases q : H b with
  | none => rfl
  | some x =>
    have hm : b ∈ trk h H := List.mem_filter.mpr ⟨List.mem_range.mpr (Heap.lt_size e'), by simp [q]⟩
    have z : (hidT h H).get? b = none := PySem.W.hideAll_none (trk h H) hm
    rw [z] at e; cases e
def allNews (g h : Heap) (L : Addr) : List (Addr × Obj) := (List.range h.objs.size).filterMap fun a => if a = L ∨ (g.get? a).isSome = true then none else (h.get? a).map fun o => (a, o)
def rest (g h : Heap) (L d : Addr) : List (Addr × Obj) := (allNews g h L).filter fun p => decide (p.1 ≠ d)
end L2
namespace L2
open PySem PySem.Spec PyProof.Rows
structure Mod (K : PySem.W.Frag) (mg : Str → Option Value) (base : Heap) : Prop where
  kin : K.In base
  glob : base.Ns mainGlobals mg
  blt : ∃ mb, base.Ns builtinsNs mb ∧ ∀ x : Str, x ≠ "__name__" → mb x = bootBuiltins x
  nolimit : base.NoLimit
structure Cx where
  prog : Program
  w : World
  K : PySem.W.Frag
  mg : Str → Option Value
  base : Heap
  A : Around
  N : List Str
  s₀ : Shared
  H₀ : Hp
  env : Env
  outer : List Env
  stack : List Env
  ex : List Addr
  fn : Str → Bool
  calm : Bool
  pn : List (Addr × Obj)
  xe : Value → Shared → Prop
def frs (l : List Env) : List Addr := l.filterMap (·.frame)
abbrev Cx.fs (X : Cx) : List Addr := frs X.outer
def Vis (sc : Scope) (x : Str) : Prop := sc.names.lookup x = some .local ∨ sc.names.lookup x = some .cell ∨ sc.names.lookup x = some .free
def Loc (sc : Scope) (x : Str) : Prop := sc.names.lookup x = some .local ∨ sc.names.lookup x = some .cell
def Look (env : Env) (h : Heap) (m : Str → Option Value) (x : Str) (u : Value) : Prop :=
  (env.kindOf x = some .local ∧ m x = some u) ∨ ((env.kindOf x = some .cell ∨ env.kindOf x = some .free) ∧ ∃ c, env.cells.lookup x = some c ∧ h.IsCell c (some u))
structure Cx.Ok (X : Cx) : Prop where
  mod : Mod X.K X.mg X.base
  kind : X.env.scope.kind = .function
  glob : X.env.globals = mainGlobals
  blt : X.env.builtins = builtinsNs
  above : X.s₀.heap.objs.size ≤ X.env.locals
  inj : ∀ x y c, X.env.cells.lookup x = some c → X.env.cells.lookup y = some c → x = y
  has : ∀ x, (X.env.kindOf x = some .cell ∨ X.env.kindOf x = some .free) → ∃ c, X.env.cells.lookup x = some c
  cab : ∀ x c, X.fn x = true → X.env.cells.lookup x = some c → X.s₀.heap.objs.size ≤ c
  hd : X.calm = true → X.A.handled = none
  frames : X.A.frames = some X.stack
  stk : X.stack = X.outer ∨ (X.stack = X.env :: X.outer ∧ X.env.frame = some X.env.locals)
  exf : ∀ b ∈ X.ex, b ≠ X.env.locals ∧ ∀ x c, X.env.cells.lookup x = some c → c ≠ b
  bs : ∀ b o, X.base.get? b = some o → X.s₀.heap.get? b = some o ∧ X.H₀ b = none
  bsz : X.base.objs.size ≤ X.s₀.heap.objs.size
  noex : ∀ b o, X.base.get? b = some o → b ∉ X.ex
  exfs : ∀ b ∈ X.ex, b ∉ X.fs
  funs : X.s₀.heap.FunFrames X.base X.outer
  frf : ∀ b ∈ X.fs, X.H₀ b = none
structure Inv (X : Cx) (pins : List (Addr × Obj)) (σ : List (Option V)) (H : Hp) (s : Shared) : Prop where
  ok : X.Ok
  os : s.os = X.s₀.os
  bare : AllBare s.gens
  base : Un X.fs X.ex X.H₀ H X.s₀.heap s.heap
  loc : ∃ m, s.heap.Ns X.env.locals m ∧ ∀ (i : Nat) (x : Str) (v : V), X.N[i]? = some x → σ[i]? = some (some v) → Vis X.env.scope x → ∃ u, RelV v u ∧ Look X.env s.heap m x u
  cell : ∀ x c, X.env.cells.lookup x = some c → ∃ v, s.heap.IsCell c v
  free : H X.env.locals = none
  freeC : ∀ x c, X.env.cells.lookup x = some c → H c = none
  pin : ∀ p ∈ X.pn ++ pins, s.heap.get? p.1 = some p.2 ∧ H p.1 = none ∧ p.1 ≠ X.env.locals ∧ p.1 ∉ X.fs ∧ ∀ v, p.2.data ≠ .cell v
  hok : HOk X.prog X.w H s.heap
  len : σ.length = X.N.length
section
variable {X : Cx} {pins : List (Addr × Obj)} {σ : List (Option V)} {H H' : Hp} {s : Shared} {h' : Heap}
theorem Cx.Ok.nofr (ok : X.Ok) {b : Addr} {o : Obj} (e : X.base.get? b = some o) : b ∉ X.fs := fun hb => by
  have := (ok.funs.mem hb).1
  rw [e] at this; cases this
theorem Inv.bs (I : Inv X pins σ H s) : ∀ b o, X.base.get? b = some o → s.heap.get? b = some o ∧ H b = none := fun b o e =>
  ⟨I.base.keep b o (I.ok.bs b o e).1 (I.ok.bs b o e).2 (I.ok.nofr e) (I.ok.noex b o e), I.base.free b o (I.ok.bs b o e).1 (I.ok.bs b o e).2 (I.ok.noex b o e)⟩
theorem Inv.bk (I : Inv X pins σ H s) : ∀ b o, X.base.get? b = some o → s.heap.get? b = some o := fun b o e => (I.bs b o e).1
theorem Inv.mod (I : Inv X pins σ H s) : Mod X.K X.mg X.base := I.ok.mod
theorem Inv.kIn (I : Inv X pins σ H s) : X.K.In s.heap := I.ok.mod.kin.keeps I.bk
theorem Inv.nolimit (I : Inv X pins σ H s) : s.heap.NoLimit := I.ok.mod.nolimit.keeps I.bk
theorem Inv.fr (I : Inv X pins σ H s) : ∃ m, Fr X.base X.env.locals s.heap m :=
  let ⟨m, hn, _⟩ := I.loc
  ⟨m, hn, I.bk, Nat.le_trans I.ok.bsz I.ok.above⟩
theorem Inv.lt (I : Inv X pins σ H s) : X.env.locals < s.heap.objs.size := let ⟨_, hn, _⟩ := I.loc; hn.lt
theorem Inv.sz (I : Inv X pins σ H s) : X.s₀.heap.objs.size ≤ s.heap.objs.size := Nat.le_trans I.ok.above (Nat.le_of_lt I.lt)
theorem Inv.nofs (I : Inv X pins σ H s) {a : Addr} (h : s.heap.objs.size ≤ a) : a ∉ X.fs := fun hb => by
  obtain ⟨_, o, ho, _⟩ := I.ok.funs.mem hb
  exact absurd (Nat.lt_of_lt_of_le (Heap.lt_size ho) (Nat.le_trans I.sz h)) (Nat.lt_irrefl _)
theorem Inv.cne (I : Inv X pins σ H s) : ∀ x c, X.env.cells.lookup x = some c → c ≠ X.env.locals := fun x c e z => by
  obtain ⟨v, o, ho, hd⟩ := I.cell x c e
  obtain ⟨m, ⟨o', es, ep, ho', hd', _⟩, _⟩ := I.loc
  rw [z, ho'] at ho; cases ho; rw [hd'] at hd; cases hd
theorem Inv.funs (I : Inv X pins σ H s) : s.heap.FunFrames X.base X.outer := by
  have all : ∀ (l : List Env), (∀ b ∈ frs l, b ∈ X.fs) → X.s₀.heap.FunFrames X.base l → s.heap.FunFrames X.base l := by
    intro l
    induction l with
    | nil => intro _ _; trivial
    | cons env r ih =>
      intro hs hl
      obtain ⟨hk, ⟨L, o, hf, hn, ho, hd⟩, hr⟩ := hl
      have hL : L ∈ X.fs := hs L (by unfold frs; rw [List.filterMap_cons, hf]; exact List.mem_cons_self)
      obtain ⟨sl, e⟩ := I.base.slot L o ho (I.ok.frf L hL) hL fun z => I.ok.exfs L z hL
      exact ⟨hk, ⟨L, _, hf, hn, e, hd⟩, ih (fun b hb => hs b (by unfold frs; rw [List.filterMap_cons, hf]; exact List.mem_cons_of_mem _ hb)) hr⟩
  exact all X.outer (fun _ hb => hb) I.ok.funs
theorem Inv.stack (I : Inv X pins σ H s) : s.heap.FunFrames X.base X.stack := by
  rcases I.ok.stk with e | ⟨e, hf⟩
  · rw [e]; exact I.funs
  · rw [e]
    obtain ⟨m, hn, _⟩ := I.loc
    refine .cons (by rw [I.ok.kind]; decide) hf hn ?_ I.funs
    exact Heap.get?_none_of_le (Nat.le_trans I.ok.bsz I.ok.above)
theorem Inv.stkSub (I : Inv X pins σ H s) : ∀ b ∈ frs X.stack, b ∈ X.env.locals :: X.fs := fun b hb => by
  rcases I.ok.stk with e | ⟨e, hf⟩
  · rw [e] at hb; exact List.mem_cons_of_mem _ hb
  · rw [e] at hb
    unfold frs at hb
    rw [List.filterMap_cons, hf] at hb
    exact hb
theorem Inv.stkFree (I : Inv X pins σ H s) : ∀ b ∈ frs X.stack, H b = none := fun b hb => by
  rcases List.mem_cons.mp (I.stkSub b hb) with e | hb
  · rw [e]; exact I.free
  · obtain ⟨_, o, ho, _⟩ := I.ok.funs.mem hb
    exact I.base.free b o ho (I.ok.frf b hb) fun z => I.ok.exfs b z hb
theorem Inv.step {g' : Array GenState} {t' : Nat} {d' : Drawn} {ch : List Addr} (I : Inv X pins σ H s)
    (hch : ∀ b ∈ ch, (b ∈ X.ex ∨ X.s₀.heap.objs.size ≤ b) ∧ b ≠ X.env.locals ∧ (∀ x c, X.env.cells.lookup x = some c → c ≠ b) ∧ ∀ p ∈ X.pn ++ pins, p.1 ≠ b)
    (keep : ∀ b o, b ≠ X.env.locals → b ∉ X.fs → b ∉ ch → s.heap.get? b = some o → H b = none → h'.get? b = some o)
    (slot : ∀ b o, b ≠ X.env.locals → b ∈ X.fs → b ∉ ch → s.heap.get? b = some o → H b = none → ∃ sl, h'.get? b = some { o with slots := sl }) (free : ∀ b o, b ∉ ch → s.heap.get? b = some o → H b = none → H' b = none)
    (there : ∀ b o, b ∉ ch → s.heap.get? b = some o → ∃ o', h'.get? b = some o')
    (tups : ∀ b xs, H b = some (.tup xs) → H' b = some (.tup xs)) (frzs : ∀ b o u, H b = some (.frz o u) → H' b = some (.frz o u)) (tbls : ∀ b ps, H b = some (.tbl ps) → ∃ more, H' b = some (.tbl (ps ++ more)))
    (ns : ∀ m, s.heap.Ns X.env.locals m → h'.Ns X.env.locals m) (hok : HOk X.prog X.w H' h') (hg : AllBare g') :
    Inv X pins σ H' { s with heap := h', gens := g', drawn := d', toks := t' } := by
  have neL : ∀ b o, X.s₀.heap.get? b = some o → b ≠ X.env.locals := fun b o e => Nat.ne_of_lt (Nat.lt_of_lt_of_le (Heap.lt_size e) I.ok.above)
  have neC : ∀ b o, X.s₀.heap.get? b = some o → b ∉ X.ex → b ∉ ch := fun b o e hx hb => by
    rcases (hch b hb).1 with z | z
    · exact hx z
    · exact absurd (Nat.lt_of_lt_of_le (Heap.lt_size e) z) (Nat.lt_irrefl _)
  have cellK : ∀ x c, X.env.cells.lookup x = some c → ∀ v, s.heap.IsCell c v → h'.IsCell c v := fun x c e v ⟨o, ho, hd⟩ => by
    have nch : c ∉ ch := fun z => (hch c z).2.2.1 x c e rfl
    by_cases hc : c ∈ X.fs
    · obtain ⟨sl, q⟩ := slot c o (I.cne x c e) hc nch ho (I.freeC x c e)
      exact ⟨_, q, hd⟩
    · exact ⟨o, keep c o (I.cne x c e) hc nch ho (I.freeC x c e), hd⟩
  refine ⟨I.ok, I.os, hg, ⟨fun b o e n hb hx => ?_, fun b o e n hb hx => ?_, fun b o e n hx => ?_, fun b o e hx => ?_, fun b xs e => tups b xs (I.base.tups b xs e), fun b o xs e => frzs b o xs (I.base.frzs b o xs e), fun b ps e => ?_⟩, ?_, fun x c e => ?_, ?_, fun x c e => ?_, fun p hp => ?_, hok, I.len⟩
  · exact keep b o (neL b o e) hb (neC b o e hx) (I.base.keep b o e n hb hx) (I.base.free b o e n hx)
  · obtain ⟨sl, e1⟩ := I.base.slot b o e n hb hx
    obtain ⟨sl', e2⟩ := slot b _ (neL b o e) hb (neC b o e hx) e1 (I.base.free b o e n hx)
    exact ⟨sl', e2⟩
  · obtain ⟨o', e1⟩ := I.base.there b o e hx
    exact free b o' (neC b o e hx) e1 (I.base.free b o e n hx)
  · obtain ⟨o', e1⟩ := I.base.there b o e hx
    exact there b o' (neC b o e hx) e1
  · obtain ⟨m1, e1⟩ := I.base.tbls b ps e
    obtain ⟨m2, e2⟩ := tbls b _ e1
    exact ⟨m1 ++ m2, by rw [e2, Array.append_assoc]⟩
  · obtain ⟨m, hn, hl⟩ := I.loc
    refine ⟨m, ns m hn, fun i x v e1 e2 e3 => ?_⟩
    obtain ⟨u, r, l⟩ := hl i x v e1 e2 e3
    refine ⟨u, r, ?_⟩
    rcases l with l | ⟨k, c, e, z⟩
    · exact .inl l
    · exact .inr ⟨k, c, e, cellK x c e _ z⟩
  · obtain ⟨v, z⟩ := I.cell x c e
    exact ⟨v, cellK x c e v z⟩
  · obtain ⟨m, ⟨o, _, _, ho, _⟩, _⟩ := I.loc
    exact free _ o (fun z => (hch _ z).2.1 rfl) ho I.free
  · obtain ⟨v, o, ho, hd⟩ := I.cell x c e
    exact free c o (fun z => (hch c z).2.2.1 x c e rfl) ho (I.freeC x c e)
  · obtain ⟨e, n, ne, nf, d⟩ := I.pin p hp
    have nch : p.1 ∉ ch := fun z => (hch p.1 z).2.2.2 p hp rfl
    exact ⟨keep p.1 p.2 ne nf nch e n, free p.1 p.2 nch e n, ne, nf, d⟩
theorem Inv.un {t' : Nat} (I : Inv X pins σ H s) (u : Un X.fs [] H H' s.heap h') (hok : HOk X.prog X.w H' h') : Inv X pins σ H' { s with heap := h', toks := t' } := by
  obtain ⟨m, ⟨o, es, ep, ho, r⟩, _⟩ := id I.loc
  obtain ⟨sl, hL⟩ := u.any ho I.free (by simp)
  exact I.step (g' := s.gens) (d' := s.drawn) (ch := []) (fun _ z => nomatch z) (fun b o _ hb _ e n => u.keep b o e n hb (by simp)) (fun b o _ hb _ e n => u.slot b o e n hb (by simp)) (fun b o _ e n => u.free b o e n (by simp)) (fun b o _ e => u.there b o e (by simp)) u.tups u.frzs u.tbls (fun m' hm => by
    obtain ⟨o', es', ep', ho', r'⟩ := hm
    rw [ho] at ho'; cases ho'
    exact ⟨_, es', ep', hL, r'⟩) hok I.bare
theorem Inv.call {g' : Array GenState} {t' : Nat} {d' : Drawn} {ch : List Addr} (I : Inv X pins σ H s) (u : Un (frs X.stack) ch H H' s.heap h') (hok : HOk X.prog X.w H' h') (hg : AllBare g')
    (hch : ∀ b ∈ ch, (b ∈ X.ex ∨ X.s₀.heap.objs.size ≤ b) ∧ b ≠ X.env.locals ∧ (∀ x c, X.env.cells.lookup x = some c → c ≠ b) ∧ ∀ p ∈ X.pn ++ pins, p.1 ≠ b) :
    Inv X pins σ H' { s with heap := h', gens := g', drawn := d', toks := t' } := by
  obtain ⟨m, ⟨o, es, ep, ho, r⟩, _⟩ := id I.loc
  obtain ⟨sl, hL⟩ := u.any ho I.free fun z => (hch _ z).2.1 rfl
  exact I.step (ch := ch) hch (fun b o hL hb hc e n => u.keep b o e n (fun z => (List.mem_cons.mp (I.stkSub b z)).elim hL hb) hc) (fun b o _ _ hc e n => u.any e n hc) (fun b o hc e n => u.free b o e n hc) (fun b o hc e => u.there b o e hc) u.tups u.frzs u.tbls (fun m' hm => by
    obtain ⟨o', es', ep', ho', r'⟩ := hm
    rw [ho] at ho'; cases ho'
    exact ⟨_, es', ep', hL, r'⟩) hok hg
theorem Inv.turned {t' : Nat} {it : Addr} (I : Inv X pins σ H s) (k : ∀ b o, b ≠ it → s.heap.get? b = some o → h'.get? b = some o) (hn : H it = none) (hL : it ≠ X.env.locals)
    (h1 : it ∈ X.ex ∨ X.s₀.heap.objs.size ≤ it) (h2 : ∀ x c, X.env.cells.lookup x = some c → c ≠ it) (h3 : ∀ p ∈ X.pn ++ pins, p.1 ≠ it) : Inv X pins σ H { s with heap := h', toks := t' } := by
  have nit : ∀ b u, H b = some u → b ≠ it := fun b u e z => by rw [z, hn] at e; cases e
  refine I.step (g' := s.gens) (d' := s.drawn) (ch := [it]) (fun b hb => ?_) (fun b o _ _ hc e _ => k b o (fun z => hc (by simp [z])) e) (fun b o _ _ hc e _ => ⟨o.slots, k b o (fun z => hc (by simp [z])) e⟩) (fun _ _ _ _ n => n)
    (fun b o hc e => ⟨o, k b o (fun z => hc (by simp [z])) e⟩) (fun _ _ e => e) (fun _ _ _ e => e) (fun b ps e => ⟨#[], by rw [e]; simp⟩) (fun m hm => ?_) (fun b u e => ?_) I.bare
  · have e : b = it := by simpa using hb
    subst e
    exact ⟨h1, hL, h2, h3⟩
  · obtain ⟨o, es, ep, ho, r⟩ := hm
    exact ⟨o, es, ep, k _ o (Ne.symm hL) ho, r⟩
  · refine (I.hok b u e).stay (fun c v hc q => k c v ?_ q) (fun _ q => q) fun _ _ q => q
    rcases hc with z | z
    · rw [z]; exact nit b u e
    · exact nit c _ z
theorem Inv.tok (I : Inv X pins σ H s) (t : Nat) : Inv X pins σ H { s with toks := t } := I.un (h' := s.heap) (t' := t) Un.refl I.hok
theorem Inv.kept {t' : Nat} (I : Inv X pins σ H s) (k : ∀ b u, s.heap.get? b = some u → h'.get? b = some u) : Inv X pins σ H { s with heap := h', toks := t' } := I.un (Un.kept k) (I.hok.kept k)
theorem Inv.laid {a : Addr} {o : HO} {t' : Nat} (I : Inv X pins σ H s) (k : ∀ b u, s.heap.get? b = some u → h'.get? b = some u) (hp : s.heap.objs.size ≤ a) (new : ObjOk X.prog X.w (upd H a o) h' a o) :
    Inv X pins σ (upd H a o) { s with heap := h', toks := t' } := I.un (Un.laid k hp (I.hok.fresh hp)) (I.hok.laid k hp new)
theorem Inv.write {x e : Addr} {o : HO} {t' : Nat} (I : Inv X pins σ H s) (mu : Mut (H x)) (he : e = x ∨ H e = some (.own x)) (k : ∀ b u, b ≠ e → s.heap.get? b = some u → h'.get? b = some u) (heo : ∃ u, h'.get? e = some u)
    (new : ObjOk X.prog X.w (upd H x o) h' x o) : Inv X pins σ (upd H x o) { s with heap := h', toks := t' } := I.un (Un.write mu he k heo) (I.hok.write mu he k heo new)
theorem Inv.weak {σ' : List (Option V)} (I : Inv X pins σ H s) (hl : σ'.length = σ.length) (w : ∀ (i : Nat) v, σ'[i]? = some (some v) → σ[i]? = some (some v)) : Inv X pins σ' H s :=
  ⟨I.ok, I.os, I.bare, I.base, let ⟨m, hn, hl'⟩ := I.loc; ⟨m, hn, fun i x v e1 e2 e3 => hl' i x v e1 (w i v e2) e3⟩, I.cell, I.free, I.freeC, I.pin, I.hok, hl.trans I.len⟩
theorem Inv.pins_of {pins' : List (Addr × Obj)} (I : Inv X pins σ H s) (h : ∀ p ∈ pins', s.heap.get? p.1 = some p.2 ∧ H p.1 = none ∧ p.1 ≠ X.env.locals ∧ p.1 ∉ X.fs ∧ ∀ v, p.2.data ≠ .cell v) : Inv X pins' σ H s :=
  ⟨I.ok, I.os, I.bare, I.base, I.loc, I.cell, I.free, I.freeC, fun p hp => (List.mem_append.mp hp).elim (fun z => I.pin p (List.mem_append_left _ z)) (h p), I.hok, I.len⟩
theorem nodup_ix {N : List Str} (hN : N.Nodup) {i j : Nat} {x : Str} (a : N[i]? = some x) (b : N[j]? = some x) : i = j := by
  obtain ⟨h1, e1⟩ := List.getElem?_eq_some_iff.mp a
  obtain ⟨h2, e2⟩ := List.getElem?_eq_some_iff.mp b
  exact (List.getElem_inj hN).mp (e1.trans e2.symm)
theorem store_ok2 {M : Model} {A : Around} {E : Value → Shared → Prop} {i : Nat} {x : Str} {v : V} {u : Value} {Q : Unit → Shared → Prop} (I : Inv X pins σ H s) (hN : X.N.Nodup) (hi : X.N[i]? = some x) (hx : Loc X.env.scope x) (r : RelV v u)
    (h : ∀ s', Inv X pins (σ.set i (some v)) H s' → (∃ a, Heap.SameBut a s.heap s'.heap ∧ (a = X.env.locals ∨ X.env.cells.lookup x = some a)) → Q () s') (hf : X.fn x = true ∨ X.env.scope.names.lookup x = some .local := by first | exact .inl rfl | exact .inr rfl | assumption) : wpAny M A (storeName X.env x u) Q E s := by
  obtain ⟨m, hn, hl⟩ := id I.loc
  have hcls : (X.env.scope.kind == .class || (X.env.scope.kind == .module && X.env.locals != X.env.globals)) = false := by rw [I.ok.kind]; rfl
  have hiσ : i < σ.length := by rw [I.len]; exact (List.getElem?_eq_some_iff.mp hi).1
  have cne := I.cne
  have tracked : ∀ {a : Addr} {h' : Heap}, (∃ o, s.heap.get? a = some o ∧ H a = none) → Heap.SameBut a s.heap h' → HOk X.prog X.w H h' := fun {a h'} ha hs b ob e => by
    obtain ⟨_, _, hfree⟩ := ha
    refine (I.hok b ob e).stay (fun c w' hc q => (hs.2 c ?_).trans q) (fun _ q => q) fun _ _ q => q
    rintro rfl
    rcases hc with rfl | hc
    · rw [hfree] at e; cases e
    · rw [hfree] at hc; cases hc
  rcases hx with hk | hk
  · refine wpAny_storeName_local hk hn (fun h' hn' hs => ?_) hcls
    obtain ⟨oL, _, _, hoL, _⟩ := id hn
    refine h _ ⟨I.ok, I.os, I.bare, ⟨fun b o e n hb hx => ?_, fun b o e n hb hx => ?_, I.base.free, fun b o e hx => ?_, I.base.tups, I.base.frzs, I.base.tbls⟩, ⟨_, hn', fun j y v' e1 e2 e3 => ?_⟩, fun y c e => ?_, I.free, I.freeC, fun p hp => ?_, tracked ⟨oL, hoL, I.free⟩ hs, by simpa using I.len⟩ ⟨_, hs, .inl rfl⟩
    · exact (hs.2 b (Nat.ne_of_lt (Nat.lt_of_lt_of_le (Heap.lt_size e) I.ok.above))).trans (I.base.keep b o e n hb hx)
    · obtain ⟨sl, e1⟩ := I.base.slot b o e n hb hx
      exact ⟨sl, (hs.2 b (Nat.ne_of_lt (Nat.lt_of_lt_of_le (Heap.lt_size e) I.ok.above))).trans e1⟩
    · obtain ⟨o', e1⟩ := I.base.there b o e hx
      exact ⟨o', (hs.2 b (Nat.ne_of_lt (Nat.lt_of_lt_of_le (Heap.lt_size e) I.ok.above))).trans e1⟩
    · by_cases hj : j = i
      · subst hj
        rw [hi] at e1; cases e1
        rw [List.getElem?_set_self hiσ] at e2
        cases e2
        exact ⟨u, r, .inl ⟨hk, by simp⟩⟩
      · rw [List.getElem?_set_ne (Ne.symm hj)] at e2
        obtain ⟨u', r', q⟩ := hl j y v' e1 e2 e3
        refine ⟨u', r', ?_⟩
        rcases q with ⟨k, e⟩ | ⟨k, c, e, z⟩
        · refine .inl ⟨k, ?_⟩
          have : y ≠ x := fun e => hj (nodup_ix hN e1 (e ▸ hi))
          simp [this, e]
        · exact .inr ⟨k, c, e, z.sameBut hs (cne y c e)⟩
    · obtain ⟨w', z⟩ := I.cell y c e
      exact ⟨w', z.sameBut hs (cne y c e)⟩
    · obtain ⟨e, n, ne, nf, d⟩ := I.pin p hp
      exact ⟨(hs.2 p.1 ne).trans e, n, ne, nf, d⟩
  · have hfn : X.fn x = true := by
      rcases hf with z | z
      · exact z
      · rw [z] at hk; cases hk
    obtain ⟨c, hc⟩ := I.ok.has x (.inl hk)
    obtain ⟨w', z⟩ := I.cell x c hc
    refine wpAny_storeName_cell I.ok.kind hk hc z (fun h' hc' hs => ?_)
    obtain ⟨oc, hoc, hocd⟩ := id z
    refine h { s with heap := h' } ⟨I.ok, I.os, I.bare, ⟨fun b o e n hb hx => ?_, fun b o e n hb hx => ?_, I.base.free, fun b o e hx => ?_, I.base.tups, I.base.frzs, I.base.tbls⟩, ⟨m, hn.sameBut hs (Ne.symm (cne x c hc)), fun j y v' e1 e2 e3 => ?_⟩, fun y c' e => ?_, I.free, I.freeC, fun p hp => ?_, tracked ⟨oc, hoc, I.freeC x c hc⟩ hs, by simpa using I.len⟩ ⟨c, hs, .inr hc⟩
    · exact (hs.2 b (Nat.ne_of_lt (Nat.lt_of_lt_of_le (Heap.lt_size e) (I.ok.cab x c hfn hc)))).trans (I.base.keep b o e n hb hx)
    · obtain ⟨sl, e1⟩ := I.base.slot b o e n hb hx
      exact ⟨sl, (hs.2 b (Nat.ne_of_lt (Nat.lt_of_lt_of_le (Heap.lt_size e) (I.ok.cab x c hfn hc)))).trans e1⟩
    · obtain ⟨o', e1⟩ := I.base.there b o e hx
      exact ⟨o', (hs.2 b (Nat.ne_of_lt (Nat.lt_of_lt_of_le (Heap.lt_size e) (I.ok.cab x c hfn hc)))).trans e1⟩
    · by_cases hj : j = i
      · subst hj
        rw [hi] at e1; cases e1
        rw [List.getElem?_set_self hiσ] at e2
        cases e2
        exact ⟨u, r, .inr ⟨.inl hk, c, hc, hc'⟩⟩
      · rw [List.getElem?_set_ne (Ne.symm hj)] at e2
        obtain ⟨u', r', q⟩ := hl j y v' e1 e2 e3
        refine ⟨u', r', ?_⟩
        rcases q with q | ⟨k, c', e, z'⟩
        · exact .inl q
        · refine .inr ⟨k, c', e, z'.sameBut hs ?_⟩
          rintro rfl
          exact hj (nodup_ix hN e1 (I.ok.inj _ _ _ e hc ▸ hi))
    · by_cases hcc : c' = c
      · subst hcc; exact ⟨_, hc'⟩
      · obtain ⟨w2, z2⟩ := I.cell y c' e
        exact ⟨w2, z2.sameBut hs hcc⟩
    · obtain ⟨e, n, ne, nf, d⟩ := I.pin p hp
      refine ⟨(hs.2 p.1 ?_).trans e, n, ne, nf, d⟩
      intro q
      rw [q, hoc] at e
      have q' : oc = p.2 := Option.some.inj e
      exact d w' (by rw [← q']; exact hocd)
theorem store_ok {M : Model} {A : Around} {E : Value → Shared → Prop} {i : Nat} {x : Str} {v : V} {u : Value} {Q : Unit → Shared → Prop} (I : Inv X pins σ H s) (hN : X.N.Nodup) (hi : X.N[i]? = some x) (hx : Loc X.env.scope x) (r : RelV v u)
    (h : ∀ s', Inv X pins (σ.set i (some v)) H s' → Q () s') (hf : X.fn x = true ∨ X.env.scope.names.lookup x = some .local := by first | exact .inl rfl | exact .inr rfl | assumption) : wpAny M A (storeName X.env x u) Q E s :=
  store_ok2 I hN hi hx r (fun s' I' _ => h s' I') hf
theorem Inv.call' {s' : Shared} {ch : List Addr} (I : Inv X pins σ H s) (ho : s'.os = s.os) (u : Un (frs X.stack) ch H H' s.heap s'.heap) (hok : HOk X.prog X.w H' s'.heap) (hg : AllBare s'.gens)
    (hch : ∀ b ∈ ch, (b ∈ X.ex ∨ X.s₀.heap.objs.size ≤ b) ∧ b ≠ X.env.locals ∧ (∀ x c, X.env.cells.lookup x = some c → c ≠ b) ∧ ∀ p ∈ X.pn ++ pins, p.1 ≠ b) : Inv X pins σ H' s' := by
  obtain ⟨h', g', d', t', o'⟩ := s'
  have e : o' = s.os := ho
  subst e
  exact I.call (g' := g') (t' := t') (d' := d') u hok hg hch
end
abbrev XK := Value → Option Addr → Hp → Prop
abbrev St := List (Option V)
abbrev VK := V → Hp → Prop
abbrev TE := St → Hp → VK → Prop
abbrev TT := St → Hp → (Bool → Hp → Prop) → Prop
abbrev TA := St → Hp → (List V → Hp → Prop) → Prop
structure Ends where
  nx : St → Hp → Prop
  rt : VK
  bk : St → Hp → Prop := fun _ _ => False
  ct : St → Hp → Prop := fun _ _ => False
abbrev TS := Ends → St → Hp → Prop
def EP (X : Cx) (pins : List (Addr × Obj)) (σ : St) (Q : VK) (u : Value) (s' : Shared) : Prop := ∃ v H', Inv X pins σ H' s' ∧ RelV v u ∧ Q v H'
def TP (X : Cx) (pins : List (Addr × Obj)) (σ : St) (Q : Bool → Hp → Prop) (b : Bool) (s' : Shared) : Prop := ∃ H', Inv X pins σ H' s' ∧ Q b H'
def AP (X : Cx) (pins : List (Addr × Obj)) (σ : St) (Q : List V → Hp → Prop) (us : List Value) (s' : Shared) : Prop := ∃ vs H', Inv X pins σ H' s' ∧ Vals vs us ∧ Q vs H'
def SP (X : Cx) (pins : List (Addr × Obj)) (D : Ends) (f : Flow) (s' : Shared) : Prop :=
  match f with
  | .next => ∃ σ' H', Inv X pins σ' H' s' ∧ D.nx σ' H'
  | .brk => ∃ σ' H', Inv X pins σ' H' s' ∧ D.bk σ' H'
  | .cont => ∃ σ' H', Inv X pins σ' H' s' ∧ D.ct σ' H'
  | .ret u => ∃ v σ' H', Inv X pins σ' H' s' ∧ RelV v u ∧ D.rt v H'
def PE (X : Cx) (e : Expr) (t : TE) : Prop :=
  ∀ (pins : List (Addr × Obj)) (s : Shared) (σ : St) (H : Hp) (Q : VK), Inv X pins σ H s → t σ H Q → wpAny (model X.prog X.w) X.A (eval e X.env) (EP X pins σ Q) X.xe s
def PT (X : Cx) (e : Expr) (t : TT) : Prop :=
  ∀ (pins : List (Addr × Obj)) (s : Shared) (σ : St) (H : Hp) (Q : Bool → Hp → Prop), Inv X pins σ H s → t σ H Q → wpAny (model X.prog X.w) X.A (isTrue e X.env (eval e X.env)) (TP X pins σ Q) X.xe s
def PW (X : Cx) (e : Expr) (t : TT) : Prop :=
  ∀ (whole : Sem Value) (pins : List (Addr × Obj)) (s : Shared) (σ : St) (H : Hp) (Q : Bool → Hp → Prop), Inv X pins σ H s → t σ H Q → wpAny (model X.prog X.w) X.A (isTrue e X.env whole) (TP X pins σ Q) X.xe s
theorem PW.pt {X : Cx} {e : Expr} {t : TT} (h : PW X e t) : PT X e t := h _
def PA (X : Cx) (es : List Expr) (t : TA) : Prop :=
  ∀ (pos : Pos) (pins : List (Addr × Obj)) (s : Shared) (σ : St) (H : Hp) (Q : List V → Hp → Prop), Inv X pins σ H s → t σ H Q → wpAny (model X.prog X.w) X.A (spliced (backTo pos (starEach es X.env))) (AP X pins σ Q) X.xe s
def PS (X : Cx) (st : Stmt) (t : TS) : Prop :=
  ∀ (pins : List (Addr × Obj)) (s : Shared) (σ : St) (H : Hp) (D : Ends), Inv X pins σ H s → t D σ H → wpAny (model X.prog X.w) X.A (exec st X.env) (SP X pins D) X.xe s
def PSs (X : Cx) (st : List Stmt) (t : TS) : Prop :=
  ∀ (pins : List (Addr × Obj)) (s : Shared) (σ : St) (H : Hp) (D : Ends), Inv X pins σ H s → t D σ H → wpAny (model X.prog X.w) X.A (execs st X.env) (SP X pins D) X.xe s
theorem thn {α : Type} {t : Sem α} {Q Q' : α → Shared → Prop} {M : Model} {A : Around} {E : Value → Shared → Prop} {s : Shared} (h : wpAny M A t Q E s) (hQ : ∀ a s, Q a s → Q' a s) : wpAny M A t Q' E s := wpAny_mono h hQ fun _ _ x => x
end L2
namespace L2
open PySem PySem.Spec PyProof.Rows
section
variable {X : Cx}
def tVar (i : Nat) : TE := fun σ H Q => ∃ v, σ[i]? = some (some v) ∧ Q v H
def tC (v : V) : TE := fun _ H Q => Q v H
theorem pe_var {i : Nat} {x : Str} {pos : Pos} (hN : X.N[i]? = some x) (hv : Vis X.env.scope x) (hd : (x == ("__debug__" : Str)) = false := by decide) (hcd : (x == ("__classdict__" : Str)) = false := by decide) : PE X (.Name x pos) (tVar i) := by
  intro pins s σ H Q I h
  obtain ⟨v, e, h⟩ := h
  obtain ⟨m, hn, hl⟩ := I.loc
  obtain ⟨u, r, l⟩ := hl i x v hN e hv
  have fin : EP X pins σ Q u s := ⟨v, H, I, r, h⟩
  rcases l with ⟨hk, hm⟩ | ⟨hk, c, hc, hcell⟩
  · exact wpAny_Name (wpAny_loadName_local I.ok.kind hk hn hm fin) hd
  · rcases hk with hk | hk
    · exact wpAny_Name (wpAny_loadName_cell I.ok.kind hk hc hcell fin) hd
    · exact wpAny_Name (wpAny_loadName_free I.ok.kind hk hc hcell fin hcd) hd
theorem pe_int {i j pos} : PE X (.Constant (.int i) j pos) (tC (.int i)) := fun _ _ _ H _ I h => wpAny_Constant_int ⟨.int i, H, I.tok _, ⟨_, rfl⟩, h⟩
theorem pe_bl {b j pos} : PE X (.Constant (.bool b) j pos) (tC (.bl b)) := fun _ _ _ H _ I h => Constant_bool ⟨.bl b, H, I, rfl, h⟩
theorem pe_non {j pos} : PE X (.Constant .none j pos) (tC .non) := fun _ _ _ H _ I h => Constant_none ⟨.non, H, I, rfl, h⟩
theorem pe_str {x j pos} : PE X (.Constant (.str x) j pos) (tC (.str x)) := fun _ _ _ H _ I h => Calls.Constant_str ⟨.str x, H, I.tok _, ⟨_, rfl⟩, h⟩
def Gl (X : Cx) (x : Str) : Prop := X.env.kindOf x = some .globalImplicit
theorem ld_glob {E : Value → Shared → Prop} {pins : List (Addr × Obj)} {s : Shared} {σ : St} {H : Hp} {x : Str} {u : Value} {pos : Pos} {Q : Value → Shared → Prop} (I : Inv X pins σ H s) (hg : Gl X x) (hm : X.mg x = some u) (h : Q u s)
    (hd : (x == ("__debug__" : Str)) = false := by decide) : wpAny (model X.prog X.w) X.A (eval (.Name x pos) X.env) Q E s :=
  Calls.Name_function_global I.ok.kind hg (Calls.loadGlobal_global (by rw [I.ok.glob]; exact I.mod.glob.keeps I.bk) hm h) hd
theorem ld_blt {E : Value → Shared → Prop} {pins : List (Addr × Obj)} {s : Shared} {σ : St} {H : Hp} {x : Str} {u : Value} {pos : Pos} {Q : Value → Shared → Prop} (I : Inv X pins σ H s) (hg : Gl X x) (hm : X.mg x = none) (hv : bootBuiltins x = some u) (h : Q u s)
    (hn : x ≠ "__name__" := by decide) (hd : (x == ("__debug__" : Str)) = false := by decide) : wpAny (model X.prog X.w) X.A (eval (.Name x pos) X.env) Q E s := by
  obtain ⟨mb, h1, h2⟩ := I.mod.blt
  exact Calls.Name_function_global I.ok.kind hg (Calls.loadGlobal_builtin (by rw [I.ok.glob]; exact I.mod.glob.keeps I.bk) hm (by rw [I.ok.blt]; exact h1.keeps I.bk) ((h2 x hn).trans hv) h) hd
theorem pe_glob {x : Str} {v : V} {u : Value} {pos : Pos} (hg : Gl X x) (hm : X.mg x = some u) (r : RelV v u) (hd : (x == ("__debug__" : Str)) = false := by decide) : PE X (.Name x pos) (tC v) :=
  fun _ _ _ H _ I h => ld_glob I hg hm ⟨v, H, I, r, h⟩ hd
theorem pe_bltn {x : Str} {v : V} {u : Value} {pos : Pos} (hg : Gl X x) (hm : X.mg x = none) (hv : bootBuiltins x = some u) (r : RelV v u) (hn : x ≠ "__name__" := by decide) (hd : (x == ("__debug__" : Str)) = false := by decide) : PE X (.Name x pos) (tC v) :=
  fun _ _ _ H _ I h => ld_blt I hg hm hv ⟨v, H, I, r, h⟩ hn hd
def t2I (ta tb : TE) (k : Int → Int → Hp → Prop) : St → Hp → Prop := fun σ H => ta σ H fun x H1 => tb σ H1 fun y H2 => ∃ i j, x = .int i ∧ y = .int j ∧ k i j H2
variable {a b : Expr} {ta tb : TE} {pos : Pos}
def tCmp (p : Int → Int → Bool) (ta tb : TE) : TE := fun σ H Q => t2I ta tb (fun i j H2 => Q (.bl (p i j)) H2) σ H
abbrev tLt : TE → TE → TE := tCmp fun i j => decide (i < j)
abbrev tLe : TE → TE → TE := tCmp fun i j => decide (i ≤ j)
abbrev tGt : TE → TE → TE := tCmp fun i j => decide (j < i)
abbrev tGe : TE → TE → TE := tCmp fun i j => decide (j ≤ i)
abbrev tEqI : TE → TE → TE := tCmp fun i j => decide (i = j)
abbrev tNeI : TE → TE → TE := tCmp fun i j => !decide (i = j)
def tB (t : TE) : TT := fun σ H Q => t σ H fun x H1 => ∃ c, x = .bl c ∧ Q c H1
theorem pt_val {e : Expr} {t : TE} (h : PE X e t) (he : ∀ whole, isTrue e X.env whole = (do let v ← whole; standAt e.pos; holding [v] (truthy v)) := by intro _; rfl) : PT X e (tB t) := by
  intro pins s σ H Q I hw
  refine isTrue_plain (thn (h pins s σ H _ I hw) fun v s1 ⟨x, H1, I1, r1, q1⟩ => ?_) (he _)
  obtain ⟨d, rfl, q⟩ := q1
  cases r1
  exact wpAny_truthy_bool ⟨H1, I1, q⟩
variable {tA tB' : TT} {rest : List Expr}
def tAnd (t u : TT) : TT := fun σ H Q => t σ H fun c H1 => if c = true then u σ H1 Q else Q false H1
def tOr (t u : TT) : TT := fun σ H Q => t σ H fun c H1 => if c = true then Q true H1 else u σ H1 Q
def tNot (t : TT) : TT := fun σ H Q => t σ H fun c H1 => Q (!c) H1
theorem pw_and1 (ha : PT X a tA) : PW X (.BoolOp .And [a] pos) tA := by
  intro wh pins s σ H Q I h
  refine isTrue_and (thn (ha pins s σ H Q I h) fun c s1 e => ?_)
  cases c with
  | true => exact isTrue_and_nil e
  | false => exact e
theorem pw_or1 (ha : PT X a tA) : PW X (.BoolOp .Or [a] pos) tA := by
  intro wh pins s σ H Q I h
  refine isTrue_or (thn (ha pins s σ H Q I h) fun c s1 e => ?_)
  cases c with
  | false => exact isTrue_or_nil e
  | true => exact e
theorem pw_and (ha : PT X a tA) (hb : PW X (.BoolOp .And (b :: rest) pos) tB') : PW X (.BoolOp .And (a :: b :: rest) pos) (tAnd tA tB') := by
  intro wh pins s σ H Q I h
  refine isTrue_and (thn (ha pins s σ H _ I h) fun c s1 ⟨H1, I1, q1⟩ => ?_)
  cases c with
  | true => exact hb wh pins s1 σ H1 Q I1 q1
  | false => exact ⟨H1, I1, q1⟩
theorem pw_or (ha : PT X a tA) (hb : PW X (.BoolOp .Or (b :: rest) pos) tB') : PW X (.BoolOp .Or (a :: b :: rest) pos) (tOr tA tB') := by
  intro wh pins s σ H Q I h
  refine isTrue_or (thn (ha pins s σ H _ I h) fun c s1 ⟨H1, I1, q1⟩ => ?_)
  cases c with
  | true => exact ⟨H1, I1, q1⟩
  | false => exact hb wh pins s1 σ H1 Q I1 q1
theorem pt_not (ha : PT X a tA) : PT X (.UnaryOp .Not a pos) (tNot tA) := by
  intro pins s σ H Q I h
  exact isTrue_not (ha pins s σ H (fun c H1 => Q (!c) H1) I h)
def tAndV (ta tb : TE) : TE := fun σ H Q => ta σ H fun x H1 => ∃ c, x = .bl c ∧ if c = true then tb σ H1 Q else Q (.bl false) H1
def tOrV (ta tb : TE) : TE := fun σ H Q => ta σ H fun x H1 => ∃ c, x = .bl c ∧ if c = true then Q (.bl true) H1 else tb σ H1 Q
def tNotV (ta : TE) : TE := fun σ H Q => ta σ H fun x H1 => ∃ c, x = .bl c ∧ Q (.bl (!c)) H1
theorem pe_one {op} {t : TE} (h : PE X a t) : PE X (.BoolOp op [a] pos) t := fun pins s σ H Q I hw => BoolOp_one (h pins s σ H Q I hw)
theorem pe_and (ha : PE X a ta) (hb : PE X (.BoolOp .And (b :: rest) pos) tb) : PE X (.BoolOp .And (a :: b :: rest) pos) (tAndV ta tb) := by
  intro pins s σ H Q I h
  refine BoolOp_and (thn (ha pins s σ H _ I h) fun v s1 ⟨x, H1, I1, r1, q1⟩ => ?_)
  obtain ⟨c, rfl, q1⟩ := q1
  cases r1
  refine wpAny_truthy_bool ?_
  cases c with
  | true => exact hb pins s1 σ H1 Q I1 q1
  | false => exact ⟨.bl false, H1, I1, rfl, q1⟩
theorem pe_not (ha : PE X a ta) : PE X (.UnaryOp .Not a pos) (tNotV ta) := by
  intro pins s σ H Q I h
  refine UnaryOp_ (thn (ha pins s σ H _ I h) fun v s1 ⟨x, H1, I1, r1, q1⟩ => ?_)
  obtain ⟨c, rfl, q1⟩ := q1
  cases r1
  exact not_of (wpAny_truthy_bool ⟨.bl (!c), H1, I1, rfl, q1⟩)
def tIf (t : TT) (ta tb : TE) : TE := fun σ H Q => t σ H fun c H1 => if c = true then ta σ H1 Q else tb σ H1 Q
theorem pe_ifExp {c : Expr} (hc : PT X c tA) (ha : PE X a ta) (hb : PE X b tb) : PE X (.IfExp c a b pos) (tIf tA ta tb) := by
  intro pins s σ H Q I h
  refine wpAny_IfExp (thn (hc pins s σ H _ I h) fun d s1 ⟨H1, I1, q1⟩ => ?_)
  cases d with
  | true => exact ha pins s1 σ H1 Q I1 q1
  | false => exact hb pins s1 σ H1 Q I1 q1
end
end L2
namespace L2
open PySem PySem.Spec PyProof.Rows
def SqL (K : PySem.W.Frag) (H : Hp) (a : Addr) (xs : List V) : Prop :=
  Rd H a (.lst xs) ∨
    ∃ (o : Obj) (its : Array Value) (n : Nat), K.lookup a = some o ∧ o.cls = .type "list" ∧ o.dict = none ∧ o.data = .seq its n ∧ its.size ≤ sizeLine ∧ Vals xs its.toList
def SqT (K : PySem.W.Frag) (H : Hp) (a : Addr) (xs : List V) : Prop :=
  Rd H a (.tup xs) ∨
    ∃ (o : Obj) (its : Array Value) (n : Nat), K.lookup a = some o ∧ o.cls = .type "tuple" ∧ o.data = .seq its n ∧ its.size ≤ sizeLine ∧ Vals xs its.toList
def absV : Value → Option V
  | .none => some .non
  | .bool b => some (.bl b)
  | .int i _ => some (.int i)
  | .str x _ => some (.str x)
  | .bytes b _ => some (.byt b)
  | .float b _ => some (.flt b)
  | .ref a => some (.ref a)
  | .type n => some (.ty n)
  | _ => none
theorem RelV.abs {x : V} {u : Value} (r : RelV x u) : absV u = some x := by
  cases x with
  | non => cases r; rfl
  | bl _ => cases r; rfl
  | int _ => obtain ⟨t, rfl⟩ := r; rfl
  | str _ => obtain ⟨t, rfl⟩ := r; rfl
  | byt _ => obtain ⟨t, rfl⟩ := r; rfl
  | flt _ => obtain ⟨t, rfl⟩ := r; rfl
  | ref _ => cases r; rfl
  | ty _ => cases r; rfl
theorem RelV.inj {x y : V} {u : Value} (r : RelV x u) (q : RelV y u) : x = y := Option.some.inj (r.abs.symm.trans q.abs)
theorem Vals.inj : ∀ {xs ys : List V} {us : List Value}, Vals xs us → Vals ys us → xs = ys
  | _, _, _, .nil, .nil => rfl
  | _, _, _, .cons r t, .cons r' t' => by rw [r.inj r', Vals.inj t t']
section
variable {X : Cx} {pins : List (Addr × Obj)} {σ : St} {H : Hp} {s : Shared} {a : Addr} {xs ys : List V}
theorem SqL.of {K : PySem.W.Frag} (h : H a = some (.lst xs)) : SqL K H a xs := .inl (.inl h)
theorem SqT.of {K : PySem.W.Frag} (h : H a = some (.tup xs)) : SqT K H a xs := .inl (.inl h)
theorem Inv.list (I : Inv X pins σ H s) (h : SqL X.K H a xs) : ∃ its : List Value, Vals xs its ∧ PlainL s.heap a its.toArray ∧ xs.length ≤ sizeLine := by
  rcases h with h | ⟨o, its, n, hk, hc, hd, hs, hz, r⟩
  · obtain ⟨z, its, n, r, e⟩ := h.ok I.hok
    exact ⟨its, r, ⟨_, n, e, rfl, rfl, rfl⟩, z⟩
  · refine ⟨its.toList, r, ⟨o, n, I.kIn a o hk, hc, hd, by simpa using hs⟩, ?_⟩
    have e := r.length
    simp only [Array.length_toList] at e
    omega
theorem Inv.tuple (I : Inv X pins σ H s) (h : SqT X.K H a xs) : ∃ its : List Value, Vals xs its ∧ IsTup s.heap a its.toArray ∧ xs.length ≤ sizeLine := by
  rcases h with h | ⟨o, its, n, hk, hc, hs, hz, r⟩
  · obtain ⟨z, its, r, p⟩ := h.ok I.hok
    exact ⟨its, r, p, z⟩
  · refine ⟨its.toList, r, ⟨o, I.kIn a o hk, hc, n, by simpa using hs⟩, ?_⟩
    have e := r.length
    simp only [Array.length_toList] at e
    omega
theorem Inv.list_inj (I : Inv X pins σ H s) (h : SqL X.K H a xs) (h' : SqL X.K H a ys) : xs = ys := by
  obtain ⟨its, r, ⟨o, n, e, _, _, d⟩, _⟩ := I.list h
  obtain ⟨its', r', ⟨o', n', e', _, _, d'⟩, _⟩ := I.list h'
  rw [e] at e'; cases e'
  rw [d] at d'
  injection d' with d1 _
  have : its = its' := by simpa using congrArg Array.toList d1
  subst this
  exact r.inj r'
theorem Inv.tuple_inj (I : Inv X pins σ H s) (h : SqT X.K H a xs) (h' : SqT X.K H a ys) : xs = ys := by
  obtain ⟨its, r, ⟨o, e, _, n, d⟩, _⟩ := I.tuple h
  obtain ⟨its', r', ⟨o', e', _, n', d'⟩, _⟩ := I.tuple h'
  rw [e] at e'; cases e'
  rw [d] at d'
  injection d' with d1 _
  have : its = its' := by simpa using congrArg Array.toList d1
  subst this
  exact r.inj r'
end
abbrev Cx.wish (X : Cx) (E : Value → Shared → Prop) : Cx := { X with xe := E }
abbrev Cx.nox (X : Cx) : Cx := X.wish fun _ _ => False
theorem Cx.Ok.wish {X : Cx} (ok : X.Ok) (E : Value → Shared → Prop) : (X.wish E).Ok :=
  ⟨ok.mod, ok.kind, ok.glob, ok.blt, ok.above, ok.inj, ok.has, ok.cab, ok.hd, ok.frames, ok.stk, ok.exf, ok.bs, ok.bsz, ok.noex, ok.exfs, ok.funs, ok.frf⟩
theorem Cx.Ok.unwish {X : Cx} {E : Value → Shared → Prop} (ok : (X.wish E).Ok) : X.Ok :=
  ⟨ok.mod, ok.kind, ok.glob, ok.blt, ok.above, ok.inj, ok.has, ok.cab, ok.hd, ok.frames, ok.stk, ok.exf, ok.bs, ok.bsz, ok.noex, ok.exfs, ok.funs, ok.frf⟩
section
variable {X : Cx} {pins : List (Addr × Obj)} {σ : St} {H : Hp} {s : Shared} {E : Value → Shared → Prop}
theorem Inv.wish (I : Inv X pins σ H s) (E : Value → Shared → Prop) : Inv (X.wish E) pins σ H s := ⟨I.ok.wish E, I.os, I.bare, I.base, I.loc, I.cell, I.free, I.freeC, I.pin, I.hok, I.len⟩
theorem Inv.unwish (I : Inv (X.wish E) pins σ H s) : Inv X pins σ H s := ⟨I.ok.unwish, I.os, I.bare, I.base, I.loc, I.cell, I.free, I.freeC, I.pin, I.hok, I.len⟩
theorem SP.unwish {D : Ends} {f : Flow} {s' : Shared} (h : SP (X.wish E) pins D f s') : SP X pins D f s' := by
  cases f with
  | next => obtain ⟨σ', H', I, q⟩ := h; exact ⟨σ', H', I.unwish, q⟩
  | brk => obtain ⟨σ', H', I, q⟩ := h; exact ⟨σ', H', I.unwish, q⟩
  | cont => obtain ⟨σ', H', I, q⟩ := h; exact ⟨σ', H', I.unwish, q⟩
  | ret u => obtain ⟨v, σ', H', I, r, q⟩ := h; exact ⟨v, σ', H', I.unwish, r, q⟩
theorem PE.nox {e : Expr} {t : TE} (h : PE X.nox e t) : PE X e t := fun pins s σ H Q I hw =>
  wpAny_mono (h pins s σ H Q (I.wish _) hw) (fun _ _ ⟨v, H', I', r, q⟩ => ⟨v, H', I'.unwish, r, q⟩) fun _ _ z => False.elim z
theorem PT.nox {e : Expr} {t : TT} (h : PT X.nox e t) : PT X e t := fun pins s σ H Q I hw =>
  wpAny_mono (h pins s σ H Q (I.wish _) hw) (fun _ _ ⟨H', I', q⟩ => ⟨H', I'.unwish, q⟩) fun _ _ z => False.elim z
theorem PSs.nox {st : List Stmt} {t : TS} (h : PSs X.nox st t) : PSs X st t := fun pins s σ H D I hw =>
  wpAny_mono (h pins s σ H D (I.wish _) hw) (fun _ _ q => q.unwish) fun _ _ z => False.elim z
end
section
variable {X : Cx} {st : Stmt} {rest : List Stmt} {t u : TS} {e : Expr} {te : TE} {pos : Pos}
def tNext : TS := fun D σ H => D.nx σ H
def tSeq (t u : TS) : TS := fun D σ H => t { D with nx := u D } σ H
theorem pss_nil : PSs X [] tNext := fun _ _ σ H _ I h => wpAny_execs_nil ⟨σ, H, I, h⟩
theorem pss_cons (h1 : PS X st t) (h2 : PSs X rest u) : PSs X (st :: rest) (tSeq t u) := by
  intro pins s σ H D I h
  refine wpAny_execs_cons (thn (h1 pins s σ H { D with nx := u D } I h) fun f s1 q => ?_)
  cases f with
  | next =>
    obtain ⟨σ', H', I', q⟩ := q
    exact h2 pins s1 σ' H' D I' q
  | ret v => exact q
  | brk => exact q
  | cont => exact q
theorem pss_one (h1 : PS X st t) : PSs X [st] t := by
  intro pins s σ H D I h
  refine wpAny_execs_cons (thn (h1 pins s σ H D I h) fun f s1 q => ?_)
  cases f with
  | next => exact wpAny_execs_nil q
  | ret v => exact q
  | brk => exact q
  | cont => exact q
theorem Inv.quiet {pins : List (Addr × Obj)} {σ : St} {H : Hp} {s : Shared} (I : Inv X pins σ H s) : interactive X.env = false := by simp [interactive, I.ok.kind]
def tDrop (te : TE) : TS := fun D σ H => te σ H fun _ H1 => D.nx σ H1
theorem ps_expr (he : PE X e te) (hs : swapsWith e none pos.line X.env = pure false := by rfl) : PS X (.Expr e pos) (tDrop te) := by
  intro pins s σ H D I h
  exact wpAny_Expr_any (thn (he pins s σ H _ I h) fun v s1 ⟨x, H1, I1, r1, q1⟩ => ⟨σ, H1, I1, q1⟩) I.quiet hs
def tRet (te : TE) : TS := fun D σ H => te σ H D.rt
theorem ps_ret (he : PE X e te) : PS X (.Return (some e) pos) (tRet te) := by
  intro pins s σ H D I h
  exact wpAny_Return_some (thn (he pins s σ H _ I h) fun v s1 ⟨x, H1, I1, r1, q1⟩ => ⟨x, σ, H1, I1, r1, q1⟩)
def tRetN : TS := fun D _ H => D.rt .non H
def tIfS (c : TT) (t u : TS) : TS := fun D σ H => c σ H fun b H1 => if b = true then t D σ H1 else u D σ H1
theorem ps_if {c : Expr} {a b : List Stmt} {tc : TT} (hc : PT X c tc) (ha : PSs X a t) (hb : PSs X b u) : PS X (.If c a b pos) (tIfS tc t u) := by
  intro pins s σ H D I h
  refine wpAny_If (thn (hc pins s σ H _ I h) fun d s1 ⟨H1, I1, q1⟩ => ?_)
  cases d with
  | true => exact ha pins s1 σ H1 D I1 q1
  | false => exact hb pins s1 σ H1 D I1 q1
def tNever : TS := fun _ _ _ => False
end
abbrev TG := V → St → Hp → (St → Hp → Prop) → Prop
abbrev TGs := List V → St → Hp → (St → Hp → Prop) → Prop
def PG (X : Cx) (target : Expr) (t : TG) : Prop :=
  ∀ (pins : List (Addr × Obj)) (s : Shared) (σ : St) (H : Hp) (v : V) (u : Value) (Q : St → Hp → Prop), Inv X pins σ H s → RelV v u → t v σ H Q →
    wpAny (model X.prog X.w) X.A (assign target X.env u) (fun _ s' => ∃ σ' H', Inv X pins σ' H' s' ∧ Q σ' H') X.xe s
def PGs (X : Cx) (ts : List Expr) (t : TGs) : Prop :=
  ∀ (pins : List (Addr × Obj)) (s : Shared) (σ : St) (H : Hp) (vs : List V) (us : List Value) (Q : St → Hp → Prop), Inv X pins σ H s → Vals vs us → t vs σ H Q →
    wpAny (model X.prog X.w) X.A (assignInOrder ((assignEach ts X.env).map (·.2)) us) (fun _ s' => ∃ σ' H', Inv X pins σ' H' s' ∧ Q σ' H') X.xe s
abbrev TSet := V → V → V → Hp → (Hp → Prop) → Prop
abbrev TIp := V → V → Hp → VK → Prop
def PIp (X : Cx) (op : Operator) (t : TIp) : Prop :=
  ∀ (pins : List (Addr × Obj)) (s : Shared) (σ : St) (H : Hp) (x y : V) (v u : Value) (Q : VK), Inv X pins σ H s → RelV x v → RelV y u → t x y H Q →
    wpAny (model X.prog X.w) X.A (inplaceOp op v u) (EP X pins σ Q) X.xe s
section
variable {X : Cx} {pos : Pos}
def gName (i : Nat) : TG := fun v σ H Q => Q (σ.set i (some v)) H
theorem pg_name {i : Nat} {x : Str} (hN : X.N.Nodup) (hi : X.N[i]? = some x) (hx : Loc X.env.scope x) (hf : X.fn x = true ∨ X.env.scope.names.lookup x = some .local := by first | exact .inl rfl | exact .inr rfl | assumption) : PG X (.Name x pos) (gName i) := by
  intro pins s σ H v u Q I r h
  exact wpAny_assign_Name (store_ok I hN hi hx r (fun s' I' => ⟨_, H, I', h⟩) hf)
def gNil : TGs := fun vs σ H Q => vs = [] ∧ Q σ H
def gCons (t : TG) (u : TGs) : TGs := fun vs σ H Q => ∃ v r, vs = v :: r ∧ t v σ H fun σ' H' => u r σ' H' Q
theorem pgs_nil : PGs X [] gNil := by
  intro pins s σ H vs us Q I r h
  obtain ⟨e, h⟩ := h
  subst e
  cases r
  exact assignInOrder_nil ⟨σ, H, I, h⟩
theorem pgs_cons {e : Expr} {es : List Expr} {t : TG} {u : TGs} (h1 : PG X e t) (h2 : PGs X es u)
    (hs : (assignEach (e :: es) X.env).map (·.2) = assign e X.env :: (assignEach es X.env).map (·.2) := by rfl) : PGs X (e :: es) (gCons t u) := by
  intro pins s σ H vs us Q I r h
  obtain ⟨v, vr, e1, h⟩ := h
  subst e1
  cases r with
  | cons r rr =>
    rw [hs]
    refine assignInOrder_cons (thn (h1 pins s σ H _ _ _ I r h) fun _ s1 ⟨σ1, H1, I1, q1⟩ => ?_)
    exact h2 pins s1 σ1 H1 _ _ Q I1 rr q1
def gTup (K : PySem.W.Frag) (n : Nat) (t : TGs) : TG := fun v σ H Q => ∃ a xs, v = .ref a ∧ SqT K H a xs ∧ xs.length = n ∧ t xs σ H Q
theorem pg_tup {es : List Expr} {k : Nat} {t : TGs} {n : Nat} (hc : X.calm = true) (h : PGs X es t)
    (hn : (assignEach es X.env).length = n := by rfl) (hst : (assignEach es X.env).findIdx? (·.1) = none := by rfl) : PG X (.Tuple es k pos) (gTup X.K n t) := by
  intro pins s σ H v u Q I r hw
  obtain ⟨a, xs, e1, hq, hl, hw⟩ := hw
  subst e1
  cases r
  obtain ⟨its, rv, ht, hz⟩ := I.tuple hq
  refine assign_Tuple_tuple (I.ok.hd hc) ht (by simp [hn, ← hl, rv.length]) hst fun h' hx => ?_
  have I1 : Inv X pins σ H { s with heap := h' } := I.kept (t' := s.toks) fun b o e => hx b o (Nat.ne_of_lt (Heap.lt_size e)) e
  exact h pins _ σ H xs _ Q I1 (by simpa using rv) hw
def gSub (to ti : TE) (t : TSet) : TG := fun v σ H Q => to σ H fun o H1 => ti σ H1 fun i H2 => t o i v H2 fun H3 => Q σ H3
def tAsg (te : TE) (g : TG) : TS := fun D σ H => te σ H fun x H1 => g x σ H1 D.nx
theorem ps_set {i : Nat} {x : Str} {e : Expr} {te : TE} {pos' : Pos} (hN : X.N.Nodup) (hi : X.N[i]? = some x) (hx : Loc X.env.scope x) (he : PE X e te) (hs : swapsWith e (some (.Name x pos')) pos.line X.env = pure false := by rfl) (hf : X.fn x = true ∨ X.env.scope.names.lookup x = some .local := by first | exact .inl rfl | exact .inr rfl | assumption) :
    PS X (.Assign [.Name x pos'] e pos) (tAsg te (gName i)) := by
  intro pins s σ H D I h
  refine wpAny_Assign_Name (thn (he pins s σ H _ I h) fun v s1 ⟨y, H1, I1, r1, q1⟩ => ?_) hs
  exact store_ok I1 hN hi hx r1 (fun s2 I2 => ⟨_, H1, I2, q1⟩) hf
def tAug (i : Nat) (te : TE) (ti : TIp) : TS := fun D σ H => ∃ x, σ[i]? = some (some x) ∧ te σ H fun y H1 => ti x y H1 fun z H2 => D.nx (σ.set i (some z)) H2
theorem ps_aug {i : Nat} {x : Str} {e : Expr} {te : TE} {op : Operator} {ti : TIp} {pos' : Pos} (hN : X.N.Nodup) (hi : X.N[i]? = some x) (hx : Loc X.env.scope x) (he : PE X e te) (ho : PIp X op ti) (hf : X.fn x = true ∨ X.env.scope.names.lookup x = some .local := by first | exact .inl rfl | exact .inr rfl | assumption) :
    PS X (.AugAssign (.Name x pos') op e pos) (tAug i te ti) := by
  intro pins s σ H D I h
  obtain ⟨v, e1, h⟩ := h
  obtain ⟨m, hn, hl⟩ := I.loc
  have vis : Vis X.env.scope x := by rcases hx with k | k; exact .inl k; exact .inr (.inl k)
  obtain ⟨u, r, l⟩ := hl i x v hi e1 vis
  refine wpAny_AugAssign_Name ?_
  have go : wpAny (model X.prog X.w) X.A (eval e X.env) (fun w s₂ => wpAny (model X.prog X.w) X.A (inplaceOp op u w) (fun r s₃ => wpAny (model X.prog X.w) X.A (storeName X.env x r) (fun _ => SP X pins D .next) X.xe s₃) X.xe s₂) X.xe s := by
    refine thn (he pins s σ H _ I h) fun w s1 ⟨y, H1, I1, r1, q1⟩ => ?_
    refine thn (ho pins s1 σ H1 v y u w _ I1 r r1 q1) fun z s2 ⟨zv, H2, I2, r2, q2⟩ => ?_
    exact store_ok I2 hN hi hx r2 (fun s3 I3 => ⟨_, H2, I3, q2⟩) hf
  rcases l with ⟨hk, hm⟩ | ⟨hk, c, hc, hcell⟩
  · exact wpAny_loadName_local I.ok.kind hk hn hm go
  · rcases hk with hk | hk
    · exact wpAny_loadName_cell I.ok.kind hk hc hcell go
    · rcases hx with k | k
      · have : X.env.scope.names.lookup x = some .free := hk
        rw [k] at this; cases this
      · have : X.env.scope.names.lookup x = some .free := hk
        rw [k] at this; cases this
def ipI (f : Int → Int → Int) : TIp := fun x y H Q => ∃ i j, x = .int i ∧ y = .int j ∧ Q (.int (f i j)) H
theorem ip_add : PIp X .Add (ipI fun i j => i + j) := by
  intro pins s σ H x y v u Q I r1 r2 h
  obtain ⟨i, j, e1, e2, q⟩ := h
  subst e1; subst e2
  obtain ⟨t, rfl⟩ := r1
  obtain ⟨t', rfl⟩ := r2
  exact iadd_int ⟨.int _, H, I.tok _, ⟨_, rfl⟩, q⟩
theorem ip_sub : PIp X .Sub (ipI fun i j => i - j) := by
  intro pins s σ H x y v u Q I r1 r2 h
  obtain ⟨i, j, e1, e2, q⟩ := h
  subst e1; subst e2
  obtain ⟨t, rfl⟩ := r1
  obtain ⟨t', rfl⟩ := r2
  exact isub_int ⟨.int _, H, I.tok _, ⟨_, rfl⟩, q⟩
end
section
variable {X : Cx} {pos : Pos}
end
structure It where
  go : Nat → Hp → Prop
  yld : Nat → Hp → V → Hp → Prop
  stop : Nat → Hp → Prop
def FpOk (X : Cx) (pins : List (Addr × Obj)) (H : Hp) (b : Addr) : Prop :=
  H b = none ∧ b ≠ X.env.locals ∧ b ∉ X.fs ∧ (b ∈ X.ex ∨ X.s₀.heap.objs.size ≤ b) ∧ (∀ x c, X.env.cells.lookup x = some c → c ≠ b) ∧ ∀ p ∈ X.pn ++ pins, p.1 ≠ b
theorem Inv.fpOk {X : Cx} {pins : List (Addr × Obj)} {σ : St} {H H' : Hp} {s : Shared} {b : Addr} (I : Inv X pins σ H s) (hb : s.heap.objs.size ≤ b) (hn : H' b = none) : FpOk X pins H' b := by
  refine ⟨hn, Nat.ne_of_gt (Nat.lt_of_lt_of_le I.lt hb), I.nofs hb, .inr (Nat.le_trans I.sz hb), fun x c e z => ?_, fun p hp z => ?_⟩
  · obtain ⟨v, q⟩ := I.cell x c e
    exact absurd (Nat.lt_of_lt_of_le q.lt (by rw [z]; exact hb)) (Nat.lt_irrefl _)
  · exact absurd (Nat.lt_of_lt_of_le (Heap.lt_size (I.pin p hp).1) (by rw [z]; exact hb)) (Nat.lt_irrefl _)
structure Turn (P : Program) (w : World) (K : PySem.W.Frag) (tg : Expr) (J : It) (fp : List Addr) (it : Addr) (tn : Nat → Heap → Prop) : Prop where
  mem : it ∈ fp
  obj : ∀ i h, tn i h → ∀ b ∈ fp, ∃ o, h.get? b = some o ∧ ∀ v, o.data ≠ .cell v
  keep : ∀ i h h', tn i h → (∀ b ∈ fp, ∀ o, h.get? b = some o → h'.get? b = some o) → tn i h'
  item : ∀ (X : Cx), X.prog = P → X.w = w → X.K = K → X.calm = true → ∀ (i : Nat) (pins : List (Addr × Obj)) (s : Shared) (σ : St) (H : Hp) (E : Value → Shared → Prop), Inv X pins σ H s → (∀ b ∈ fp, FpOk X pins H b) → tn i s.heap → J.go i H →
    wpAny (model P w) X.A (pyNext (.ref it)) (fun r s1 => ∃ u, r = some u ∧
      wpAny (model P w) X.A (letOwnedTupleGo tg (.ref it) u) (fun _ s2 => ∃ x H', Inv X pins σ H' s2 ∧ RelV x u ∧ J.yld i H x H' ∧ tn (i + 1) s2.heap ∧ ∀ b ∈ fp, H' b = none) E s1) E s
  done : ∀ (X : Cx), X.prog = P → X.w = w → X.K = K → X.calm = true → ∀ (i : Nat) (pins : List (Addr × Obj)) (s : Shared) (σ : St) (H : Hp) (E : Value → Shared → Prop), Inv X pins σ H s → (∀ b ∈ fp, FpOk X pins H b) → tn i s.heap → J.stop i H →
    wpAny (model P w) X.A (pyNext (.ref it)) (fun r s1 => r = none ∧ Inv X pins σ H s1) E s
  self : ∀ (A : Around) (i : Nat) (s : Shared) (Q : Value → Shared → Prop) (E : Value → Shared → Prop), tn i s.heap → Q (.ref it) s → wpAny (model P w) A (pyIter (.ref it)) Q E s
abbrev TI := St → Hp → (It → Hp → Prop) → Prop
def PIE (X : Cx) (pins : List (Addr × Obj)) (σ : St) (tg : Expr) (R : It → Hp → Prop) (itv : Value) (s2 : Shared) : Prop :=
  ∃ (it : Addr) (fp : List Addr) (tn : Nat → Heap → Prop) (J : It) (H' : Hp), itv = .ref it ∧ Inv X pins σ H' s2 ∧ Turn X.prog X.w X.K tg J fp it tn ∧ tn 0 s2.heap ∧ (∀ b ∈ fp, FpOk X pins H' b) ∧ R J H'
def PI (X : Cx) (tg iter : Expr) (wi : TI) : Prop :=
  ∀ (pins : List (Addr × Obj)) (s : Shared) (σ : St) (H : Hp) (R : It → Hp → Prop), Inv X pins σ H s → wi σ H R →
    wpAny (model X.prog X.w) X.A (eval iter X.env) (fun v s1 => wpAny (model X.prog X.w) X.A (pyIter v) (PIE X pins σ tg R) X.xe s1) X.xe s
theorem go_of {M : Model} {A : Around} {E : Value → Shared → Prop} {s : Shared} {tg : Expr} {it : Addr} {u : Value} {o : Obj} {n : String} {vs : Array Value} {Q : Unit → Shared → Prop} (ho : s.heap.get? it = some o) (hc : o.cls = .type n) (hd : o.data = .fields vs)
    (hn : ["enumerate", "zip", "dict_itemiterator", "dict_reverseitemiterator", "odict_iterator", "itertools.zip_longest", "itertools.pairwise"].contains n = false) (hQ : Q () s) : wpAny M A (letOwnedTupleGo tg (.ref it) u) Q E s := by
  unfold letOwnedTupleGo
  cases tg <;> first
    | exact wpAny_pure hQ
    | (cases u <;> first
        | exact wpAny_pure hQ
        | (refine wpAny_bind (wpAny_load ho ?_)
           rw [hc, hd]
           show wpAny M A (if (["enumerate", "zip", "dict_itemiterator", "dict_reverseitemiterator", "odict_iterator", "itertools.zip_longest", "itertools.pairwise"].contains n && vs[0]? == some (rawInt _)) = true then _ else _) Q E s
           rw [if_neg (by intro h; rw [hn, Bool.false_and] at h; cases h)]
           exact wpAny_pure hQ))
def Itl (K : PySem.W.Frag) (a : Addr) : It :=
  ⟨fun i H => ∃ xs x, SqL K H a xs ∧ xs[i]? = some x, fun i H x H' => H' = H ∧ ∀ xs, SqL K H a xs → xs[i]? = some x, fun i H => ∃ xs, SqL K H a xs ∧ xs.length ≤ i⟩
def Itt (K : PySem.W.Frag) (a : Addr) : It :=
  ⟨fun i H => ∃ xs x, SqT K H a xs ∧ xs[i]? = some x, fun i H x H' => H' = H ∧ ∀ xs, SqT K H a xs → xs[i]? = some x, fun i H => ∃ xs, SqT K H a xs ∧ xs.length ≤ i⟩
def Itr (lo : Int) (n : Nat) : It := ⟨fun i _ => i < n, fun i H x H' => H' = H ∧ x = .int (lo + i), fun i _ => n ≤ i⟩
theorem turn_list {P : Program} {w : World} {K : PySem.W.Frag} {tg : Expr} (a it : Addr) : Turn P w K tg (Itl K a) [it] it (fun i h => h.IsListIter it a i) where
  mem := by simp
  obj := fun i h st b hb => by
    have e : b = it := by simpa using hb
    subst e
    obtain ⟨o, e, c, d⟩ := st
    exact ⟨o, e, fun v z => by rw [d] at z; cases z⟩
  keep := fun i h h' st k => st.at fun o e => k it (by simp) o e
  item := by
    intro X hP hw hK hc i pins s σ H E I hf st hg
    subst hP hw hK
    obtain ⟨xs, x, hq, hx⟩ := hg
    obtain ⟨its, rv, p, hz⟩ := I.list hq
    obtain ⟨u, hu, ru⟩ := rv.get hx
    obtain ⟨f0, f1, f2, f3, f4, f5⟩ := hf it (by simp)
    refine wpAny_pyNext_list_item st p.isList (x := u) (by simpa using hu) fun h' st' sb => ?_
    have I1 : Inv X pins σ H { s with heap := h' } := I.turned (t' := s.toks) (fun b o hb e => (sb.2 b hb).trans e) f0 f1 f3 f4 f5
    obtain ⟨o, e, c, d⟩ := id st'
    exact ⟨u, rfl, go_of (s := { s with heap := h' }) e c d (by decide) ⟨x, H, I1, ru, ⟨rfl, fun ys hy => by rw [I.list_inj hy hq]; exact hx⟩, st', fun b hb => (hf b hb).1⟩⟩
  done := by
    intro X hP hw hK hc i pins s σ H E I hf st hg
    subst hP hw hK
    obtain ⟨xs, hq, hx⟩ := hg
    obtain ⟨its, rv, p, hz⟩ := I.list hq
    obtain ⟨f0, f1, f2, f3, f4, f5⟩ := hf it (by simp)
    have hl := rv.length
    exact wpAny_pyNext_list_end (I.ok.hd hc) st p.isList (by simp; omega) fun h' eb => ⟨rfl, I.turned (t' := s.toks) (fun b o hb e => eb b o hb e) f0 f1 f3 f4 f5⟩
  self := fun _ _ _ _ _ st h => wpAny_pyIter_listiter st h
theorem turn_tuple {P : Program} {w : World} {K : PySem.W.Frag} {tg : Expr} (a it : Addr) : Turn P w K tg (Itt K a) [it] it (fun i h => h.IsTupleIter it a i) where
  mem := by simp
  obj := fun i h st b hb => by
    have e : b = it := by simpa using hb
    subst e
    obtain ⟨o, e, c, d⟩ := st
    exact ⟨o, e, fun v z => by rw [d] at z; cases z⟩
  keep := fun i h h' st k => st.at fun o e => k it (by simp) o e
  item := by
    intro X hP hw hK hc i pins s σ H E I hf st hg
    subst hP hw hK
    obtain ⟨xs, x, hq, hx⟩ := hg
    obtain ⟨its, rv, p, hz⟩ := I.tuple hq
    obtain ⟨u, hu, ru⟩ := rv.get hx
    obtain ⟨f0, f1, f2, f3, f4, f5⟩ := hf it (by simp)
    refine wpAny_pyNext_tuple_item st (show s.heap.IsTuple a its.toArray from p) (x := u) (by simpa using hu) fun h' st' sb => ?_
    have I1 : Inv X pins σ H { s with heap := h' } := I.turned (t' := s.toks) (fun b o hb e => (sb.2 b hb).trans e) f0 f1 f3 f4 f5
    obtain ⟨o, e, c, d⟩ := id st'
    exact ⟨u, rfl, go_of (s := { s with heap := h' }) e c d (by decide) ⟨x, H, I1, ru, ⟨rfl, fun ys hy => by rw [I.tuple_inj hy hq]; exact hx⟩, st', fun b hb => (hf b hb).1⟩⟩
  done := by
    intro X hP hw hK hc i pins s σ H E I hf st hg
    subst hP hw hK
    obtain ⟨xs, hq, hx⟩ := hg
    obtain ⟨its, rv, p, hz⟩ := I.tuple hq
    obtain ⟨f0, f1, f2, f3, f4, f5⟩ := hf it (by simp)
    have hl := rv.length
    exact wpAny_pyNext_tuple_end (I.ok.hd hc) st (show s.heap.IsTuple a its.toArray from p) (by simp; omega) fun h' eb => ⟨rfl, I.turned (t' := s.toks) (fun b o hb e => eb b o hb e) f0 f1 f3 f4 f5⟩
  self := fun _ _ _ _ _ st h => wpAny_pyIter_tupleiter st h
theorem turn_range {P : Program} {w : World} {K : PySem.W.Frag} {tg : Expr} (it : Addr) (lo : Int) (n : Nat) : Turn P w K tg (Itr lo n) [it] it (fun i h => IsRangeIter h it (lo + (i : Nat) * 1) ((n : Int) - (i : Nat)) 1) where
  mem := by simp
  obj := fun i h st b hb => by
    have e : b = it := by simpa using hb
    subst e
    exact ⟨_, st, fun v z => by
      have z' : Data.fields _ = Data.cell v := z
      cases z'⟩
  keep := fun i h h' st k => k it (by simp) _ st
  item := by
    intro X hP hw hK hc i pins s σ H E I hf st hg
    subst hP hw hK
    obtain ⟨f0, f1, f2, f3, f4, f5⟩ := hf it (by simp)
    have W := Walks.range (prog := X.prog) (w := X.w) (I.ok.hd hc) it lo 1 n
    refine W.item i s _ _ hg st fun v h' tk hv st' kk => ?_
    obtain ⟨t, rfl⟩ := hv
    have I1 : Inv X pins σ H { s with heap := h', toks := tk } := I.turned (fun b o hb e => kk b o (by simpa using hb) e) f0 f1 f3 f4 f5
    refine ⟨_, rfl, go_of (s := { s with heap := h', toks := tk }) (n := "range_iterator") st' rfl rfl (by decide) ⟨.int (lo + i), H, I1, ⟨t, ?_⟩, ⟨rfl, rfl⟩, st', fun b hb => (hf b hb).1⟩⟩
    rw [Int.mul_one]
  done := by
    intro X hP hw hK hc i pins s σ H E I hf st hg
    subst hP hw hK
    obtain ⟨f0, f1, f2, f3, f4, f5⟩ := hf it (by simp)
    exact wpAny_pyNext_range_end (I.ok.hd hc) st (by have : n ≤ i := hg; omega) fun h' eb => ⟨rfl, I.turned (t' := s.toks) (fun b o hb e => eb b o hb e) f0 f1 f3 f4 f5⟩
  self := fun _ _ _ _ _ st h => wpAny_pyIter_rangeiter st h
end L2
namespace L2
open PySem PySem.Spec PyProof.Rows
section
variable {X : Cx} {tg : Expr}
def iList (K : PySem.W.Frag) (tl : TE) : TI := fun σ H R => tl σ H fun x H1 => ∃ a, x = .ref a ∧ (∃ xs, SqL K H1 a xs) ∧ R (Itl K a) H1
def iTup (K : PySem.W.Frag) (tl : TE) : TI := fun σ H R => tl σ H fun x H1 => ∃ a, x = .ref a ∧ (∃ xs, SqT K H1 a xs) ∧ R (Itt K a) H1
theorem pi_list {l : Expr} {tl : TE} (hl : PE X l tl) : PI X tg l (iList X.K tl) := by
  intro pins s σ H R I h
  refine thn (hl pins s σ H _ I h) fun v s1 ⟨x, H1, I1, r1, q1⟩ => ?_
  obtain ⟨a, e, ⟨xs, hq⟩, q⟩ := q1
  subst e
  cases r1
  obtain ⟨its, rv, p, hz⟩ := I1.list hq
  refine wpAny_pyIter_list p.isList ?_
  refine ⟨s1.heap.objs.size, [s1.heap.objs.size], _, _, H1, rfl, I1.kept (t' := s1.toks) fun b o e => Heap.get?_push_of_some _ e, turn_list a _, ⟨_, Heap.get?_push_size _ rfl, rfl, rfl⟩, fun b hb => ?_, q⟩
  have e : b = s1.heap.objs.size := by simpa using hb
  subst e
  exact I1.fpOk (Nat.le_refl _) (I1.hok.fresh (Nat.le_refl _))
theorem pi_tup {l : Expr} {tl : TE} (hl : PE X l tl) : PI X tg l (iTup X.K tl) := by
  intro pins s σ H R I h
  refine thn (hl pins s σ H _ I h) fun v s1 ⟨x, H1, I1, r1, q1⟩ => ?_
  obtain ⟨a, e, ⟨xs, hq⟩, q⟩ := q1
  subst e
  cases r1
  obtain ⟨its, rv, p, hz⟩ := I1.tuple hq
  refine wpAny_pyIter_tuple (show s1.heap.IsTuple a its.toArray from p) ?_
  refine ⟨s1.heap.objs.size, [s1.heap.objs.size], _, _, H1, rfl, I1.kept (t' := s1.toks) fun b o e => Heap.get?_push_of_some _ e, turn_tuple a _, ⟨_, Heap.get?_push_size _ rfl, rfl, rfl⟩, fun b hb => ?_, q⟩
  have e : b = s1.heap.objs.size := by simpa using hb
  subst e
  exact I1.fpOk (Nat.le_refl _) (I1.hok.fresh (Nat.le_refl _))
theorem range_it {pins : List (Addr × Obj)} {σ : St} {H : Hp} {s : Shared} {R : It → Hp → Prop} {E : Value → Shared → Prop} {lo hi : Int} {t u v : Tok} {tk : Nat} (I : Inv X pins σ H s) (h1 : -(2 ^ 62) ≤ lo) (h2 : lo < 2 ^ 62) (h3 : -(2 ^ 62) ≤ hi) (h4 : hi < 2 ^ 62)
    (q : R (Itr lo (hi - lo).toNat) H) : wpAny (model X.prog X.w) X.A (pyIter (.ref s.heap.objs.size)) (PIE X pins σ tg R) E { s with heap := s.heap.push { cls := .type "range", data := .fields #[.int lo t, .int hi u, .int 1 v] }, toks := tk } := by
  refine wpAny_pyIter_range (IsRange.new ..) (small_one h1 h2 h3 h4) ?_
  have I1 : Inv X pins σ H { s with heap := s.heap.push { cls := .type "range", data := .fields #[.int lo t, .int hi u, .int 1 v] }, toks := tk } := I.kept fun b o e => Heap.get?_push_of_some _ e
  refine ⟨(s.heap.push { cls := .type "range", data := .fields #[.int lo t, .int hi u, .int 1 v] }).objs.size, [(s.heap.push { cls := .type "range", data := .fields #[.int lo t, .int hi u, .int 1 v] }).objs.size], _, _, H, rfl,
    I1.kept (t' := tk) fun b o e => Heap.get?_push_of_some _ e, turn_range _ lo (hi - lo).toNat, ?_, fun b hb => ?_, q⟩
  · have e1 : lo + ((0 : Nat) : Int) * 1 = lo := by simp
    have e2 : (((hi - lo).toNat : Nat) : Int) - ((0 : Nat) : Int) = Builtin.Range.rangeSize lo hi 1 := by rw [rangeSize_one]; split <;> omega
    show IsRangeIter _ _ (lo + ((0 : Nat) : Int) * 1) ((((hi - lo).toNat : Nat) : Int) - ((0 : Nat) : Int)) 1
    rw [e1, e2]
    exact Heap.get?_push_size _ rfl
  · have e : b = (s.heap.push { cls := .type "range", data := .fields #[.int lo t, .int hi u, .int 1 v] }).objs.size := by simpa using hb
    subst e
    exact I1.fpOk (Nat.le_refl _) (I1.hok.fresh (Nat.le_refl _))
def iRng1 (ta : TA) : TI := fun σ H R => ta σ H fun vs H1 => ∃ j : Int, vs = [.int j] ∧ -(2 ^ 62) ≤ j ∧ j < 2 ^ 62 ∧ R (Itr 0 j.toNat) H1
def iRng2 (ta : TA) : TI := fun σ H R => ta σ H fun vs H1 => ∃ i j : Int, vs = [.int i, .int j] ∧ (-(2 ^ 62) ≤ i ∧ i < 2 ^ 62 ∧ -(2 ^ 62) ≤ j ∧ j < 2 ^ 62) ∧ R (Itr i (j - i).toNat) H1
theorem pi_range1 {a : Expr} {ta : TA} {p pos : Pos} (hg : Gl X "range") (hm : X.mg "range" = none) (ha : PA X [a] ta) (hs : starEach [a] X.env = [(false, eval a X.env)] := by rfl) : PI X tg (.Call (.Name "range" p) [a] [] pos) (iRng1 ta) := by
  intro pins s σ H R I h
  refine Call_ (ld_blt I hg hm boot_range (PyProof.Rows.callWith_type1 (thn (ha pos pins s σ H _ I h) fun us s1 ⟨vs, H1, I1, r1, q1⟩ => ?_) hs rfl))
  obtain ⟨j, e, q1, q2, q⟩ := q1
  subst e
  cases r1 with
  | cons r rr =>
    cases rr
    obtain ⟨t, rfl⟩ := r
    exact call_range_1 (range_it I1 (by omega) (by omega) q1 q2 (by simpa using q))
def tFor (wi : TI) (g : TG) (tb : TS) : TS := fun D σ H => wi σ H fun J H1 => ∃ W : Nat → Nat → St → Hp → Prop, (∃ m, W 0 m σ H1) ∧ ∀ i m σ H, W i m σ H →
  (J.stop i H ∧ D.nx σ H) ∨ (J.go i H ∧ ∃ N : St → Hp → Prop, (∀ σ' H', N σ' H' → ∃ m', m' < m ∧ W (i + 1) m' σ' H') ∧ ∀ x H', J.yld i H x H' → g x σ H' fun σ2 H2 => tb { D with nx := N, ct := N, bk := D.nx } σ2 H2)
def pinsAt (fp : List Addr) (h : Heap) : List (Addr × Obj) := fp.filterMap fun b => (h.get? b).map fun o => (b, o)
theorem mem_pinsAt {fp : List Addr} {h : Heap} {b : Addr} {o : Obj} (hb : b ∈ fp) (e : h.get? b = some o) : (b, o) ∈ pinsAt fp h := List.mem_filterMap.mpr ⟨b, hb, by rw [e]; rfl⟩
theorem of_pinsAt {fp : List Addr} {h : Heap} {p : Addr × Obj} (hp : p ∈ pinsAt fp h) : p.1 ∈ fp ∧ h.get? p.1 = some p.2 := by
  obtain ⟨b, hb, e⟩ := List.mem_filterMap.mp hp
  cases q : h.get? b with
  | none => rw [q] at e; cases e
  | some o =>
    rw [q] at e
    have e' : (b, o) = p := Option.some.inj e
    subst e'
    exact ⟨hb, q⟩
theorem Inv.pinned {pins : List (Addr × Obj)} {σ : St} {H : Hp} {s : Shared} {fp : List Addr} (I : Inv X pins σ H s) (hf : ∀ b ∈ fp, FpOk X pins H b) (ho : ∀ b ∈ fp, ∃ o, s.heap.get? b = some o ∧ ∀ v, o.data ≠ .cell v) : Inv X (pins ++ pinsAt fp s.heap) σ H s :=
  I.pins_of fun p hp => (List.mem_append.mp hp).elim (fun z => I.pin p (List.mem_append_right _ z)) fun z => by
    obtain ⟨hb, e⟩ := of_pinsAt z
    obtain ⟨f0, f1, f2, _⟩ := hf p.1 hb
    obtain ⟨o, e', d⟩ := ho p.1 hb
    rw [e] at e'; cases e'
    exact ⟨e, f0, f1, f2, d⟩
theorem Inv.unpinned {pins pl : List (Addr × Obj)} {σ : St} {H : Hp} {s : Shared} (I : Inv X (pins ++ pl) σ H s) : Inv X pins σ H s := I.pins_of fun p hp => I.pin p (List.mem_append_right _ (List.mem_append_left _ hp))
theorem ps_for {iter : Expr} {body : List Stmt} {wi : TI} {g : TG} {tb : TS} {pos : Pos} (hp : PassesOwn (model X.prog X.w) X.A X.env X.xe) (hc : X.calm = true) (hi : PI X tg iter wi) (hg : PG X tg g) (hb : PSs X body tb)
    (hs : ∀ x, foldedSetIterable iter X.env x = pure x := by intro _; rfl) : PS X (.For tg iter body [] pos) (tFor wi g tb) := by
  intro pins s σ H D I h
  refine wpAny_For (thn (hi pins s σ H _ I h) fun v s1 h1 => thn h1 fun itv s2 h2 => ?_) hs
  obtain ⟨it, fp, tn, J, H2, e, I2, T, st2, f2, W, ⟨m0, w0⟩, turn⟩ := h2
  subst e
  have stat : ∀ {H' : Hp}, (∀ b ∈ fp, H' b = none) → ∀ b ∈ fp, FpOk X pins H' b := fun hn b hb => ⟨hn b hb, (f2 b hb).2⟩
  refine codeAny_forLoop_any (fun n s' => ∃ i σ' H', Inv X pins σ' H' s' ∧ tn i s'.heap ∧ (∀ b ∈ fp, H' b = none) ∧ W i n σ' H') ?_ m0 ⟨0, σ, H2, I2, st2, fun b hb => (f2 b hb).1, w0⟩
  rintro n s3 ⟨i, σ3, H3, I3, st3, fr3, w3⟩
  rcases turn i n σ3 H3 w3 with ⟨stop, qn⟩ | ⟨go, N, hN, step⟩
  · refine wpAny_passesOwn hp (thn (T.done X rfl rfl rfl hc i pins s3 σ3 H3 X.xe I3 (stat fr3) st3 stop) fun r s4 ⟨hr, I4⟩ => ?_)
    subst hr
    exact wpAny_execs_nil ⟨σ3, H3, I4, qn⟩
  · refine wpAny_passesOwn hp (thn (T.item X rfl rfl rfl hc i pins s3 σ3 H3 X.xe I3 (stat fr3) st3 go) fun r s4 ⟨u, hr, h4⟩ => ?_)
    subst hr
    refine wpAny_passesOwn hp (thn h4 fun _ s5 ⟨x, H5, I5, r5, y5, st5, fr5⟩ => ?_)
    have I5' := I5.pinned (stat fr5) (T.obj _ _ st5)
    refine wpAny_passesOwn hp (thn (hg _ s5 σ3 H5 x u _ I5' r5 (step x H5 y5)) fun _ s6 ⟨σ6, H6, I6, q6⟩ => ?_)
    refine wpAny_passesOwn hp (thn (hb _ s6 σ6 H6 _ I6 q6) fun f s7 q7 => ?_)
    have again : ∀ {σ7 : St} {H7 : Hp}, Inv X (pins ++ pinsAt fp s5.heap) σ7 H7 s7 → N σ7 H7 → ∃ m, m < n ∧ ∃ i σ' H', Inv X pins σ' H' s7 ∧ tn i s7.heap ∧ (∀ b ∈ fp, H' b = none) ∧ W i m σ' H' := fun {σ7 H7} I7 n7 => by
      obtain ⟨m', hm, w7⟩ := hN σ7 H7 n7
      refine ⟨m', hm, i + 1, σ7, H7, I7.unpinned, T.keep _ _ _ st5 fun b hb o e => (I7.pin (b, o) (List.mem_append_right _ (List.mem_append_right _ (mem_pinsAt hb e)))).1, fun b hb => ?_, w7⟩
      obtain ⟨o, e, d⟩ := T.obj _ _ st5 b hb
      exact (I7.pin (b, o) (List.mem_append_right _ (List.mem_append_right _ (mem_pinsAt hb e)))).2.1
    cases f with
    | next => obtain ⟨σ7, H7, I7, n7⟩ := q7; exact again I7 n7
    | cont => obtain ⟨σ7, H7, I7, n7⟩ := q7; exact again I7 n7
    | brk => obtain ⟨σ7, H7, I7, q7⟩ := q7; exact ⟨σ7, H7, I7.unpinned, q7⟩
    | ret v => obtain ⟨x7, σ7, H7, I7, r7, q7⟩ := q7; exact ⟨x7, σ7, H7, I7.unpinned, r7, q7⟩
end
theorem for_list {K : PySem.W.Frag} {a : Addr} {xs : List V} {g : TG} {tb : TS} {D : Ends} {σ : St} {H : Hp} (Pv : Nat → St → Hp → Prop) (h0 : Pv 0 σ H) (hl : ∀ i σ H, i ≤ xs.length → Pv i σ H → SqL K H a xs)
    (hs : ∀ i x σ H, xs[i]? = some x → Pv i σ H → g x σ H fun σ2 H2 => tb { D with nx := Pv (i + 1), ct := Pv (i + 1), bk := D.nx } σ2 H2) (hd : ∀ σ H, Pv xs.length σ H → D.nx σ H) :
    ∃ W : Nat → Nat → St → Hp → Prop, (∃ m, W 0 m σ H) ∧ ∀ i m σ H, W i m σ H →
      ((Itl K a).stop i H ∧ D.nx σ H) ∨ ((Itl K a).go i H ∧ ∃ N : St → Hp → Prop, (∀ σ' H', N σ' H' → ∃ m', m' < m ∧ W (i + 1) m' σ' H') ∧ ∀ x H', (Itl K a).yld i H x H' → g x σ H' fun σ2 H2 => tb { D with nx := N, ct := N, bk := D.nx } σ2 H2) := by
  refine ⟨fun i m σ H => m = xs.length - i ∧ i ≤ xs.length ∧ Pv i σ H, ⟨xs.length, by simp, Nat.zero_le _, h0⟩, ?_⟩
  rintro i m σ H ⟨rfl, hi, p⟩
  have q := hl i σ H hi p
  by_cases hlt : i < xs.length
  · refine .inr ⟨⟨xs, xs[i], q, by simp [hlt]⟩, Pv (i + 1), fun σ' H' p' => ⟨xs.length - (i + 1), by omega, rfl, hlt, p'⟩, fun x H' y => ?_⟩
    obtain ⟨e, y⟩ := y
    subst e
    exact hs i x σ _ (y xs q) p
  · have e : i = xs.length := by omega
    subst e
    exact .inl ⟨⟨xs, q, Nat.le_refl _⟩, hd σ H p⟩
theorem for_tup {K : PySem.W.Frag} {a : Addr} {xs : List V} {g : TG} {tb : TS} {D : Ends} {σ : St} {H : Hp} (Pv : Nat → St → Hp → Prop) (h0 : Pv 0 σ H) (hl : ∀ i σ H, i ≤ xs.length → Pv i σ H → SqT K H a xs)
    (hs : ∀ i x σ H, xs[i]? = some x → Pv i σ H → g x σ H fun σ2 H2 => tb { D with nx := Pv (i + 1), ct := Pv (i + 1), bk := D.nx } σ2 H2) (hd : ∀ σ H, Pv xs.length σ H → D.nx σ H) :
    ∃ W : Nat → Nat → St → Hp → Prop, (∃ m, W 0 m σ H) ∧ ∀ i m σ H, W i m σ H →
      ((Itt K a).stop i H ∧ D.nx σ H) ∨ ((Itt K a).go i H ∧ ∃ N : St → Hp → Prop, (∀ σ' H', N σ' H' → ∃ m', m' < m ∧ W (i + 1) m' σ' H') ∧ ∀ x H', (Itt K a).yld i H x H' → g x σ H' fun σ2 H2 => tb { D with nx := N, ct := N, bk := D.nx } σ2 H2) := by
  refine ⟨fun i m σ H => m = xs.length - i ∧ i ≤ xs.length ∧ Pv i σ H, ⟨xs.length, by simp, Nat.zero_le _, h0⟩, ?_⟩
  rintro i m σ H ⟨rfl, hi, p⟩
  have q := hl i σ H hi p
  by_cases hlt : i < xs.length
  · refine .inr ⟨⟨xs, xs[i], q, by simp [hlt]⟩, Pv (i + 1), fun σ' H' p' => ⟨xs.length - (i + 1), by omega, rfl, hlt, p'⟩, fun x H' y => ?_⟩
    obtain ⟨e, y⟩ := y
    subst e
    exact hs i x σ _ (y xs q) p
  · have e : i = xs.length := by omega
    subst e
    exact .inl ⟨⟨xs, q, Nat.le_refl _⟩, hd σ H p⟩
theorem for_range {lo : Int} {n : Nat} {g : TG} {tb : TS} {D : Ends} {σ : St} {H : Hp} (Pv : Nat → St → Hp → Prop) (h0 : Pv 0 σ H)
    (hs : ∀ i σ H, i < n → Pv i σ H → g (.int (lo + i)) σ H fun σ2 H2 => tb { D with nx := Pv (i + 1), ct := Pv (i + 1), bk := D.nx } σ2 H2) (hd : ∀ σ H, Pv n σ H → D.nx σ H) :
    ∃ W : Nat → Nat → St → Hp → Prop, (∃ m, W 0 m σ H) ∧ ∀ i m σ H, W i m σ H →
      ((Itr lo n).stop i H ∧ D.nx σ H) ∨ ((Itr lo n).go i H ∧ ∃ N : St → Hp → Prop, (∀ σ' H', N σ' H' → ∃ m', m' < m ∧ W (i + 1) m' σ' H') ∧ ∀ x H', (Itr lo n).yld i H x H' → g x σ H' fun σ2 H2 => tb { D with nx := N, ct := N, bk := D.nx } σ2 H2) := by
  refine ⟨fun i m σ H => m = n - i ∧ i ≤ n ∧ Pv i σ H, ⟨n, by simp, Nat.zero_le _, h0⟩, ?_⟩
  rintro i m σ H ⟨rfl, hi, p⟩
  by_cases hlt : i < n
  · refine .inr ⟨hlt, Pv (i + 1), fun σ' H' p' => ⟨n - (i + 1), by omega, rfl, hlt, p'⟩, fun x H' y => ?_⟩
    obtain ⟨e, y⟩ := y
    subst e y
    exact hs i σ _ hlt p
  · have e : i = n := by omega
    subst e
    exact .inl ⟨Nat.le_refl _, hd σ H p⟩
end L2
namespace L2
open PySem PySem.Spec PyProof.Rows
abbrev R2 := V → V → Hp → VK → Prop
def OpR (X : Cx) (f : Value → Value → Sem Value) (r : R2) : Prop :=
  ∀ (pins : List (Addr × Obj)) (s : Shared) (σ : St) (H : Hp) (x y : V) (v u : Value) (Q : VK), Inv X pins σ H s → RelV x v → RelV y u → r x y H Q →
    wpAny (model X.prog X.w) X.A (f v u) (EP X pins σ Q) X.xe s
def UnR (X : Cx) (f : Value → Sem Value) (r : V → Hp → VK → Prop) : Prop :=
  ∀ (pins : List (Addr × Obj)) (s : Shared) (σ : St) (H : Hp) (x : V) (v : Value) (Q : VK), Inv X pins σ H s → RelV x v → r x H Q →
    wpAny (model X.prog X.w) X.A (f v) (EP X pins σ Q) X.xe s
def CallR (X : Cx) (f : Value) (r : List V → Hp → VK → Prop) : Prop :=
  ∀ (pins : List (Addr × Obj)) (s : Shared) (σ : St) (H : Hp) (xs : List V) (us : List Value) (Q : VK), Inv X pins σ H s → Vals xs us → r xs H Q →
    wpAny (model X.prog X.w) X.A (call f us) (EP X pins σ Q) X.xe s
def TruR (X : Cx) (r : V → Hp → (Bool → Hp → Prop) → Prop) : Prop :=
  ∀ (pins : List (Addr × Obj)) (s : Shared) (σ : St) (H : Hp) (x : V) (v : Value) (Q : Bool → Hp → Prop), Inv X pins σ H s → RelV x v → r x H Q →
    wpAny (model X.prog X.w) X.A (truthy v) (TP X pins σ Q) X.xe s
def tOp (r : R2) (ta tb : TE) : TE := fun σ H Q => ta σ H fun x H1 => tb σ H1 fun y H2 => r x y H2 Q
def tUn (r : V → Hp → VK → Prop) (ta : TE) : TE := fun σ H Q => ta σ H fun x H1 => r x H1 Q
def rI (C : Int → Int → Prop) (g : Int → Int → V) : R2 := fun x y H Q => ∃ i j, x = .int i ∧ y = .int j ∧ C i j ∧ Q (g i j) H
def rI0 (g : Int → Int → V) : R2 := fun x y H Q => ∃ i j, x = .int i ∧ y = .int j ∧ Q (g i j) H
def rU (g : Int → V) : V → Hp → VK → Prop := fun x H Q => ∃ i, x = .int i ∧ Q (g i) H
section
variable {X : Cx} {a b c : Expr} {ta tb tc : TE} {pos : Pos}
theorem binT (ha : PE X a ta) (hb : PE X b tb) {pins : List (Addr × Obj)} {s : Shared} {σ : St} {H : Hp} {R : V → V → Hp → Prop} (I : Inv X pins σ H s)
    (h : ta σ H fun x H1 => tb σ H1 fun y H2 => R x y H2) {Q : Value → Shared → Prop} {f : Value → Value → Sem Value}
    (hf : ∀ v u s2 x y H2, Inv X pins σ H2 s2 → RelV x v → RelV y u → R x y H2 → wpAny (model X.prog X.w) X.A (f v u) Q X.xe s2) :
    wpAny (model X.prog X.w) X.A (eval a X.env) (fun v s₁ => wpAny (model X.prog X.w) X.A (eval b X.env) (fun u s₂ => wpAny (model X.prog X.w) X.A (f v u) Q X.xe s₂) X.xe s₁) X.xe s := by
  refine thn (ha pins s σ H _ I h) fun v s1 ⟨x, H1, I1, r1, q1⟩ => ?_
  refine thn (hb pins s1 σ H1 _ I1 q1) fun u s2 ⟨y, H2, I2, r2, q2⟩ => ?_
  exact hf v u s2 x y H2 I2 r1 r2 q2
theorem pe_op {op : Operator} {r : R2} (ho : OpR X (binaryOp op) r) (ha : PE X a ta) (hb : PE X b tb) : PE X (.BinOp a op b pos) (tOp r ta tb) := by
  intro pins s σ H Q I h
  exact wpAny_BinOp (binT ha hb I h fun v u s2 x y H2 I2 rx ry q => ho pins s2 σ H2 x y v u Q I2 rx ry q)
theorem pe_un {op : UnaryOp} {r : V → Hp → VK → Prop} (ho : UnR X (unaryOp op) r) (ha : PE X a ta) : PE X (.UnaryOp op a pos) (tUn r ta) := by
  intro pins s σ H Q I h
  exact UnaryOp_ (thn (ha pins s σ H _ I h) fun v s1 ⟨x, H1, I1, r1, q1⟩ => ho pins s1 σ H1 x v Q I1 r1 q1)
theorem opI {f : Value → Value → Sem Value} {C : Int → Int → Prop} {g : Int → Int → Int}
    (rule : ∀ (i j : Int) (t u : Tok) (s : Shared) (Q : Value → Shared → Prop) (E : Value → Shared → Prop), C i j → Q (.int (g i j) s.toks) { s with toks := s.toks + 1 } → wpAny (model X.prog X.w) X.A (f (.int i t) (.int j u)) Q E s) :
    OpR X f (rI C fun i j => .int (g i j)) := by
  intro pins s σ H x y v u Q I rx ry h
  obtain ⟨i, j, rfl, rfl, hc, q⟩ := h
  obtain ⟨t, rfl⟩ := rx
  obtain ⟨t', rfl⟩ := ry
  exact rule i j t t' s _ _ hc ⟨.int (g i j), H, I.tok _, ⟨_, rfl⟩, q⟩
theorem opI0 {f : Value → Value → Sem Value} {g : Int → Int → Int}
    (rule : ∀ (i j : Int) (t u : Tok) (s : Shared) (Q : Value → Shared → Prop) (E : Value → Shared → Prop), Q (.int (g i j) s.toks) { s with toks := s.toks + 1 } → wpAny (model X.prog X.w) X.A (f (.int i t) (.int j u)) Q E s) :
    OpR X f (rI0 fun i j => .int (g i j)) := by
  intro pins s σ H x y v u Q I rx ry h
  obtain ⟨i, j, rfl, rfl, q⟩ := h
  obtain ⟨t, rfl⟩ := rx
  obtain ⟨t', rfl⟩ := ry
  exact rule i j t t' s _ _ ⟨.int (g i j), H, I.tok _, ⟨_, rfl⟩, q⟩
theorem opB0 {f : Value → Value → Sem Value} {g : Int → Int → Bool}
    (rule : ∀ (i j : Int) (t u : Tok) (s : Shared) (Q : Value → Shared → Prop) (E : Value → Shared → Prop), Q (.bool (g i j)) s → wpAny (model X.prog X.w) X.A (f (.int i t) (.int j u)) Q E s) :
    OpR X f (rI0 fun i j => .bl (g i j)) := by
  intro pins s σ H x y v u Q I rx ry h
  obtain ⟨i, j, rfl, rfl, q⟩ := h
  obtain ⟨t, rfl⟩ := rx
  obtain ⟨t', rfl⟩ := ry
  exact rule i j t t' s _ _ ⟨.bl (g i j), H, I, rfl, q⟩
def CDiv (i j : Int) : Prop := 0 < j ∧ j < 1073741824
def CMul (i j : Int) : Prop := (-(2 ^ 64) < i ∧ i < 2 ^ 64) ∨ (-(2 ^ 64) < j ∧ j < 2 ^ 64)
theorem CMul.ok {i j : Int} (h : CMul i j) : IntMulOk i j := by
  rcases h with ⟨h1, h2⟩ | ⟨h1, h2⟩
  · exact .of_left (intBits_le_64 h1 h2)
  · exact .of_right (intBits_le_64 h1 h2)
theorem op_add : OpR X (binaryOp .Add) (rI0 fun i j => .int (i + j)) := opI0 fun _ _ _ _ _ _ _ q => add_int q
theorem op_sub : OpR X (binaryOp .Sub) (rI0 fun i j => .int (i - j)) := opI0 fun _ _ _ _ _ _ _ q => sub_int q
theorem op_mul : OpR X (binaryOp .Mult) (rI CMul fun i j => .int (i * j)) := opI fun _ _ _ _ _ _ _ hc q => mul_int q hc.ok
theorem op_fdiv : OpR X (binaryOp .FloorDiv) (rI CDiv fun i j => .int (i / j)) := opI fun i j _ _ _ _ _ hc q => by
  have h1 : (0 : Int) < j := hc.1
  have h2 : j < 1073741824 := hc.2
  exact floordiv_int (by omega) (by rw [Int.fdiv_eq_ediv_of_nonneg i (by omega)]; exact q) (.inl (PyProof.noPylong_small (by omega)))
theorem op_mod : OpR X (binaryOp .Mod) (rI (fun _ j => 0 < j) fun i j => .int (i % j)) := opI fun i j _ _ _ _ _ hc q => by
  have h1 : (0 : Int) < j := hc
  exact mod_int' (by omega) (by rw [Int.fmod_eq_emod_of_nonneg i (by omega)]; exact q)
theorem unI {f : Value → Sem Value} {g : Int → Int}
    (rule : ∀ (i : Int) (t : Tok) (s : Shared) (Q : Value → Shared → Prop) (E : Value → Shared → Prop), Q (.int (g i) s.toks) { s with toks := s.toks + 1 } → wpAny (model X.prog X.w) X.A (f (.int i t)) Q E s) :
    UnR X f (rU fun i => .int (g i)) := by
  intro pins s σ H x v Q I rx h
  obtain ⟨i, rfl, q⟩ := h
  obtain ⟨t, rfl⟩ := rx
  exact rule i t s _ _ ⟨.int (g i), H, I.tok _, ⟨_, rfl⟩, q⟩
theorem un_neg : UnR X (unaryOp .USub) (rU fun i => .int (-i)) := unI fun _ _ _ _ _ q => neg_int q
end
def scal : V → V → Bool
  | .non, .non => true | .non, .int _ => true | .int _, .non => true | .non, .bl _ => true | .bl _, .non => true | .non, .str _ => true | .str _, .non => true
  | .int _, .int _ => true | .bl _, .bl _ => true | .str _, .str _ => true | .byt _, .byt _ => true
  | .int _, .str _ => true | .str _, .int _ => true | .bl _, .str _ => true | .str _, .bl _ => true
  | _, _ => false
def rEq : R2 := fun x y H Q => scal x y = true ∧ Q (.bl (decide (x = y))) H
def rNe : R2 := fun x y H Q => scal x y = true ∧ Q (.bl (!decide (x = y))) H
theorem dec_int {i j : Int} : decide (V.int i = V.int j) = (i == j) := by
  rw [Bool.eq_iff_iff]
  simp
theorem dec_bl {i j : Bool} : decide (V.bl i = V.bl j) = (i == j) := by
  rw [Bool.eq_iff_iff]
  simp
theorem dec_str {i j : Str} : decide (V.str i = V.str j) = (i == j) := by
  rw [Bool.eq_iff_iff]
  simp
theorem dec_byt {i j : Array UInt8} : decide (V.byt i = V.byt j) = (i.toList == j.toList) := by
  rw [Bool.eq_iff_iff]
  cases i
  cases j
  simp
section
variable {X : Cx} {a b c : Expr} {ta tb tc : TE} {pos : Pos}
theorem fin_bl {pins : List (Addr × Obj)} {σ : St} {H : Hp} {s : Shared} {Q : VK} {k k' : Bool} (I : Inv X pins σ H s) (q : Q (.bl k) H) (e : k = k') : EP X pins σ Q (.bool k') s := by
  subst e
  exact ⟨.bl k, H, I, rfl, q⟩
theorem op_eq : OpR X (compareOp .Eq) rEq := by
  intro pins s σ H x y v u Q I rx ry h
  obtain ⟨hs, q⟩ := h
  cases x with
  | non =>
    cases rx
    cases y with
    | non => cases ry; exact PySem.EqNone.eq_none_none (fin_bl I q (by simp))
    | bl j => cases ry; exact PySem.EqNone.eq_none_bool (fin_bl I q (by simp))
    | int j => obtain ⟨t', rfl⟩ := ry; exact PySem.EqNone.eq_none_int (fin_bl I q (by simp))
    | str j => obtain ⟨t', rfl⟩ := ry; exact PySem.EqNone.eq_none_str (fin_bl I q (by simp))
    | _ => exact absurd (show false = true from hs) Bool.false_ne_true
  | bl i =>
    cases rx
    cases y with
    | non => cases ry; exact PySem.EqNone.eq_bool_none (fin_bl I q (by simp))
    | bl j => cases ry; exact eq_bool (fin_bl I q dec_bl)
    | str j => obtain ⟨t', rfl⟩ := ry; exact PySem.EqMixed.eq_bool_str (fin_bl I q (by simp))
    | _ => exact absurd (show false = true from hs) Bool.false_ne_true
  | int i =>
    obtain ⟨t, rfl⟩ := rx
    cases y with
    | non => cases ry; exact PySem.EqNone.eq_int_none (fin_bl I q (by simp))
    | int j => obtain ⟨t', rfl⟩ := ry; exact eq_int (fin_bl I q dec_int)
    | str j => obtain ⟨t', rfl⟩ := ry; exact PySem.EqMixed.eq_int_str (fin_bl I q (by simp))
    | _ => exact absurd (show false = true from hs) Bool.false_ne_true
  | str i =>
    obtain ⟨t, rfl⟩ := rx
    cases y with
    | non => cases ry; exact PySem.EqNone.eq_str_none (fin_bl I q (by simp))
    | bl j => cases ry; exact PySem.EqMixed.eq_str_bool (fin_bl I q (by simp))
    | int j => obtain ⟨t', rfl⟩ := ry; exact PySem.EqMixed.eq_str_int (fin_bl I q (by simp))
    | str j => obtain ⟨t', rfl⟩ := ry; exact eq_str (fin_bl I q dec_str)
    | _ => exact absurd (show false = true from hs) Bool.false_ne_true
  | byt i =>
    obtain ⟨t, rfl⟩ := rx
    cases y with
    | byt j => obtain ⟨t', rfl⟩ := ry; exact PySem.W.eq_bytes (fin_bl I q dec_byt)
    | _ => exact absurd (show false = true from hs) Bool.false_ne_true
  | _ => cases y <;> exact absurd (show false = true from hs) Bool.false_ne_true
theorem op_ne : OpR X (compareOp .NotEq) rNe := by
  intro pins s σ H x y v u Q I rx ry h
  obtain ⟨hs, q⟩ := h
  cases x with
  | non =>
    cases rx
    cases y with
    | non => cases ry; exact PySem.EqNone.ne_none_none (fin_bl I q (by simp))
    | bl j => cases ry; exact PySem.EqNone.ne_none_bool (fin_bl I q (by simp))
    | int j => obtain ⟨t', rfl⟩ := ry; exact PySem.EqNone.ne_none_int (fin_bl I q (by simp))
    | str j => obtain ⟨t', rfl⟩ := ry; exact PySem.EqNone.ne_none_str (fin_bl I q (by simp))
    | _ => exact absurd (show false = true from hs) Bool.false_ne_true
  | bl i =>
    cases rx
    cases y with
    | non => cases ry; exact PySem.EqNone.ne_bool_none (fin_bl I q (by simp))
    | bl j => cases ry; exact ne_bool (fin_bl I q (congrArg not dec_bl))
    | str j => obtain ⟨t', rfl⟩ := ry; exact PySem.EqMixed.ne_bool_str (fin_bl I q (by simp))
    | _ => exact absurd (show false = true from hs) Bool.false_ne_true
  | int i =>
    obtain ⟨t, rfl⟩ := rx
    cases y with
    | non => cases ry; exact PySem.EqNone.ne_int_none (fin_bl I q (by simp))
    | int j => obtain ⟨t', rfl⟩ := ry; exact ne_int (fin_bl I q (congrArg not dec_int))
    | str j => obtain ⟨t', rfl⟩ := ry; exact PySem.EqMixed.ne_int_str (fin_bl I q (by simp))
    | _ => exact absurd (show false = true from hs) Bool.false_ne_true
  | str i =>
    obtain ⟨t, rfl⟩ := rx
    cases y with
    | non => cases ry; exact PySem.EqNone.ne_str_none (fin_bl I q (by simp))
    | bl j => cases ry; exact PySem.EqMixed.ne_str_bool (fin_bl I q (by simp))
    | int j => obtain ⟨t', rfl⟩ := ry; exact PySem.EqMixed.ne_str_int (fin_bl I q (by simp))
    | str j => obtain ⟨t', rfl⟩ := ry; exact ne_str (fin_bl I q (congrArg not dec_str))
    | _ => exact absurd (show false = true from hs) Bool.false_ne_true
  | byt i =>
    obtain ⟨t, rfl⟩ := rx
    cases y with
    | byt j => obtain ⟨t', rfl⟩ := ry; exact PySem.W.ne_bytes (fin_bl I q (congrArg not dec_byt))
    | _ => exact absurd (show false = true from hs) Bool.false_ne_true
  | _ => cases y <;> exact absurd (show false = true from hs) Bool.false_ne_true
theorem op_lt : OpR X (compareOp .Lt) (rI0 fun i j => .bl (decide (i < j))) := opB0 fun _ _ _ _ _ _ _ q => lt_int q
theorem op_le : OpR X (compareOp .LtE) (rI0 fun i j => .bl (decide (i ≤ j))) := opB0 fun _ _ _ _ _ _ _ q => le_int q
theorem op_gt : OpR X (compareOp .Gt) (rI0 fun i j => .bl (decide (j < i))) := opB0 fun _ _ _ _ _ _ _ q => gt_int q
theorem op_in_str : OpR X (compareOp .In) (fun x y H Q => ∃ i j, x = .str i ∧ y = .str j ∧ Q (.bl (!(Builtin.Str.occurrences j i 0 j.length 1).isEmpty)) H) := by
  intro pins s σ H x y v u Q I rx ry h
  obtain ⟨i, j, rfl, rfl, q⟩ := h
  obtain ⟨t, rfl⟩ := rx
  obtain ⟨t', rfl⟩ := ry
  exact in_str (fin_bl I q rfl)
theorem nomark (b : Expr) {op : CmpOp} (h : op ≠ .In := by decide) (h2 : op ≠ .NotIn := by decide) : behindInMarks op b = false := by
  have e1 : (op == CmpOp.In) = false := by cases op <;> first | rfl | exact absurd rfl h
  have e2 : (op == CmpOp.NotIn) = false := by cases op <;> first | rfl | exact absurd rfl h2
  cases b <;> simp [behindInMarks, e1, e2]
theorem pe_cmpR {op : CmpOp} {r : R2} (ho : OpR X (compareOp op) r) (ha : PE X a ta) (hb : PE X b tb) (hm : behindInMarks op b = false) : PE X (.Compare a [op] [b] pos) (tOp r ta tb) := by
  intro pins s σ H Q I h
  exact wpAny_Compare1 (binT ha hb I h fun v u s2 x y H2 I2 rx ry q => ho pins s2 σ H2 x y v u Q I2 rx ry q) hm
def tTest (t : TE) : TT := fun σ H Q => t σ H fun x H' => ∃ k, x = .bl k ∧ Q k H'
theorem pt_cmpR {op : CmpOp} {r : R2} (ho : OpR X (compareOp op) r) (ha : PE X a ta) (hb : PE X b tb) (hm : behindInMarks op b = false) : PT X (.Compare a [op] [b] pos) (tTest (tOp r ta tb)) := by
  intro pins s σ H Q I h
  refine wpAny_isTrue_Compare1 (thn (ha pins s σ H _ I h) fun v s1 ⟨x, H1, I1, r1, q1⟩ => thn (hb pins s1 σ H1 _ I1 q1) fun u s2 ⟨y, H2, I2, r2, q2⟩ =>
    thn (ho pins s2 σ H2 x y v u _ I2 r1 r2 q2) fun c s3 ⟨z, H3, I3, r3, k, e, q3⟩ => ?_) hm
  subst e
  cases r3
  exact wpAny_truthy_bool ⟨H3, I3, q3⟩
def tChain (r r' : R2) (ta tb tc : TE) : TE := fun σ H Q => ta σ H fun x H1 => tb σ H1 fun y H2 => r x y H2 fun z H3 => ∃ k, z = .bl k ∧
  (if k = true then tc σ H3 fun w' H4 => r' y w' H4 Q else Q (.bl false) H3)
theorem pt_chain {op op' : CmpOp} {r r' : R2} (ho : OpR X (compareOp op) r) (ho' : OpR X (compareOp op') r') (ha : PE X a ta) (hb : PE X b tb) (hc : PE X c tc)
    (hm : lastMarks [op, op'] [b, c] = false := by with_unfolding_all rfl) : PT X (.Compare a [op, op'] [b, c] pos) (tTest (tChain r r' ta tb tc)) := by
  intro pins s σ H Q I h
  refine isTrue_chain (thn (ha pins s σ H _ I h) fun v s1 ⟨x, H1, I1, r1, q1⟩ => test_link (thn (hb pins s1 σ H1 _ I1 q1) fun u s2 ⟨y, H2, I2, r2, q2⟩ =>
    thn (ho pins s2 σ H2 x y v u _ I2 r1 r2 q2) fun d s3 ⟨z, H3, I3, r3, k, e, q3⟩ => ?_)) hm
  subst e
  cases r3
  refine wpAny_truthy_bool ?_
  cases k with
  | false =>
    obtain ⟨k', e', q'⟩ := q3
    cases e'
    exact ite_ff ⟨H3, I3, q'⟩
  | true =>
    refine ite_tt (test_last (thn (hc pins s3 σ H3 _ I3 q3) fun w' s4 ⟨z', H4, I4, r4, q4⟩ => thn (ho' pins s4 σ H4 y z' u w' _ I4 r2 r4 q4) fun d' s5 ⟨z2, H5, I5, r5, k2, e2, q5⟩ => ?_))
    subst e2
    cases r5
    exact wpAny_truthy_bool ⟨H5, I5, q5⟩
def TruV (K : PySem.W.Frag) (x : V) (H : Hp) (k : Bool) : Prop :=
  match x with
  | .non => k = false
  | .bl b => k = b
  | .int i => k = (i != 0)
  | .str y => y.length ≤ sizeLine ∧ k = ((y.length : Int) != 0)
  | .byt y => y.size ≤ sizeLine ∧ k = ((y.size : Int) != 0)
  | .ref p => (∃ xs, SqL K H p xs ∧ k = !xs.isEmpty) ∨ (∃ xs, SqT K H p xs ∧ k = !xs.isEmpty) ∨ ∃ kvs, H p = some (.dK kvs) ∧ k = !kvs.isEmpty
  | _ => False
theorem isEmpty_kv {κ : Type} {kvs : List (κ × V)} {vs : List (κ × Value)} (r : KV kvs vs) : (!vs.isEmpty) = !kvs.isEmpty := by
  cases r <;> rfl
theorem isEmpty_of {xs : List V} {its : List Value} (r : Vals xs its) : (!its.toArray.isEmpty) = !xs.isEmpty := by
  cases r <;> simp
theorem line63 : (sizeLine : Nat) < 2 ^ 63 := by rw [sizeLine_eq]; decide
theorem tru_ok : TruR X (fun x H Q => ∃ k, TruV X.K x H k ∧ Q k H) := by
  intro pins s σ H x v Q I rx h
  obtain ⟨k, e, q⟩ := h
  have hl := line63
  have hs : sizeLine = 16777216 := sizeLine_eq
  cases x with
  | non =>
    cases rx
    have e' : k = false := e
    subst e'
    exact truthy_none ⟨H, I, q⟩
  | bl b =>
    cases rx
    have e' : k = b := e
    subst e'
    exact wpAny_truthy_bool ⟨H, I, q⟩
  | int i =>
    obtain ⟨t, rfl⟩ := rx
    have e' : k = (i != 0) := e
    subst e'
    exact PySem.P.truthy_int ⟨H, I, q⟩
  | str y =>
    obtain ⟨t, rfl⟩ := rx
    obtain ⟨hy, e'⟩ : y.length ≤ sizeLine ∧ k = ((y.length : Int) != 0) := e
    subst e'
    exact PySem.P.truthy_str (by omega) ⟨H, I.tok _, q⟩
  | byt y =>
    obtain ⟨t, rfl⟩ := rx
    obtain ⟨hy, e'⟩ : y.size ≤ sizeLine ∧ k = ((y.size : Int) != 0) := e
    subst e'
    exact PySem.W.truthy_bytes (by omega) ⟨H, I.tok _, q⟩
  | ref p =>
    cases rx
    have e' : (∃ xs, SqL X.K H p xs ∧ k = !xs.isEmpty) ∨ (∃ xs, SqT X.K H p xs ∧ k = !xs.isEmpty) ∨ ∃ kvs, H p = some (.dK kvs) ∧ k = !kvs.isEmpty := e
    rcases e' with ⟨xs, hx, e'⟩ | ⟨xs, hx, e'⟩ | ⟨kvs, hx, e'⟩
    · subst e'
      obtain ⟨its, r, pl, hz⟩ := I.list hx
      have hlen := r.length
      exact wpAny_truthy_list pl.isList (by simp only [List.size_toArray]; omega) ⟨H, I.tok _, by rw [isEmpty_of r]; exact q⟩
    · subst e'
      obtain ⟨its, r, pl, hz⟩ := I.tuple hx
      have hlen := r.length
      exact truthy_tuple pl (by simp only [List.size_toArray]; omega) ⟨H, I.tok _, by rw [isEmpty_of r]; exact q⟩
    · subst e'
      obtain ⟨hz, hS, vs, r, m⟩ : kvs.length ≤ sizeLine ∧ (p == sysModules) = false ∧ ∃ vs, KV kvs vs ∧ s.heap.DictOf (mixKind X.prog X.w) p vs := I.hok p _ hx
      have hlen : kvs.length = vs.length := Paired.length r
      exact wpAny_truthy_dict hS m (by omega) ⟨H, I.tok _, by rw [isEmpty_kv r]; exact q⟩
  | _ => exact (show False from e).elim
theorem pt_truth (ha : PE X a ta) (he : ∀ whole, isTrue a X.env whole = (do let v ← whole; standAt a.pos; holding [v] (truthy v))) :
    PT X a (fun σ H Q => ta σ H fun x H' => ∃ k, TruV X.K x H' k ∧ Q k H') := by
  intro pins s σ H Q I h
  exact isTrue_plain (thn (ha pins s σ H _ I h) fun v s1 ⟨x, H1, I1, r1, q1⟩ => tru_ok pins s1 σ H1 x v Q I1 r1 q1) (he _)
theorem op_add_str : OpR X (binaryOp .Add) (fun x y H Q => ∃ i j, x = .str i ∧ y = .str j ∧ i.length + j.length ≤ sizeLine ∧ Q (.str (i ++ j)) H) := by
  intro pins s σ H x y v u Q I rx ry h
  obtain ⟨i, j, rfl, rfl, hz, q⟩ := h
  obtain ⟨t, rfl⟩ := rx
  obtain ⟨t', rfl⟩ := ry
  exact add_str (fun t' tk => ⟨.str (i ++ j), H, I.tok _, ⟨_, rfl⟩, q⟩) hz
theorem vals1 {x : V} {us : List Value} (r : Vals [x] us) : ∃ u, us = [u] ∧ RelV x u := by
  cases r with
  | cons r1 r2 => cases r2; exact ⟨_, rfl, r1⟩
theorem vals2 {x y : V} {us : List Value} (r : Vals [x, y] us) : ∃ u w', us = [u, w'] ∧ RelV x u ∧ RelV y w' := by
  cases r with
  | cons r1 r2 =>
    cases r2 with
    | cons r3 r4 => cases r4; exact ⟨_, _, rfl, r1, r3⟩
theorem call_min2 (hc : X.calm = true) : CallR X (.builtin "min") (fun xs H Q => ∃ i j, xs = [.int i, .int j] ∧ Q (.int (if j < i then j else i)) H) := by
  intro pins s σ H xs us Q I r h
  obtain ⟨i, j, rfl, q⟩ := h
  obtain ⟨u, w', rfl, ⟨t, rfl⟩, ⟨t', rfl⟩⟩ := vals2 r
  refine min_two_ints (I.ok.hd hc) fun h' tk k => ⟨_, H, I.kept k, ?_, q⟩
  by_cases hj : j < i
  · rw [if_pos hj, if_pos hj]; exact ⟨_, rfl⟩
  · rw [if_neg hj, if_neg hj]; exact ⟨_, rfl⟩
end
end L2
namespace L2
open PySem PySem.Spec PyProof.Rows
structure ObjM (h : Heap) (x dx C : Addr) (mA : Str → Option Value) : Prop where
  obj : h.get? x = some (PySem.W.instObj C dx)
  ns : h.Ns1 dx mA
  ne : dx ≠ x
theorem lookIn_ns {h : Heap} {dx : Addr} {mA : Str → Option Value} (n : h.Ns1 dx mA) : ∃ od, h.get? dx = some od ∧ ∀ name, PySem.W.lookIn name od = some (mA name) := by
  obtain ⟨o, es, ep, ho, hd, hk, _, hm⟩ := n
  refine ⟨o, ho, fun name => ?_⟩
  have e := hm name
  unfold nsFind findBy at e
  rw [← Array.find?_toList] at e
  unfold PySem.W.lookIn
  rw [hd]
  dsimp only
  split
  · rename_i y q
    rw [q] at e
    exact congrArg some e
  · rename_i q
    rw [q] at e
    have a : es.toList.any (·.refKey) = false := by
      rw [List.any_eq_false]
      intro y hy
      obtain ⟨z, t, hkey⟩ := hk y (Array.mem_toList_iff.mp hy)
      simp [DictEntry.refKey, hkey]
    have a' : ¬ es.toList.any (·.refKey) = true := by rw [a]; exact Bool.false_ne_true
    rw [if_neg a']
    exact congrArg some e
theorem ObjM.look {h : Heap} {x dx C : Addr} {mA : Str → Option Value} (I : ObjM h x dx C mA) : ∃ od, PySem.W.InstAt h x (PySem.W.instObj C dx) C (some od) ∧ ∀ name, PySem.W.lookIn name od = some (mA name) :=
  let ⟨od, ho, hl⟩ := lookIn_ns I.ns
  ⟨od, ⟨I.obj, rfl, rfl, ho⟩, hl⟩
section
variable {prog : Program} {w : World} {A : Around} {E : Value → Shared → Prop} {s : Shared} {K : PySem.W.Frag} {x dx C f : Addr} {mA : Str → Option Value} {name : Str} {v : Value}
theorem get_map {expr : Bool} {Q : Value → Shared → Prop} (X : K.In s.heap) (I : ObjM s.heap x dx C mA) (hg : PySem.W.plainGet K C name = true) (hh : PySem.W.hasDictIn K C = true)
    (ha : PySem.W.findIn K (.ref C) name = some none) (hv : mA name = some v) (hv' : PySem.W.handedIn v = true) (h : Q v { s with toks := s.toks + 1 }) :
    wpAny (model prog w) A (getAttr (.ref x) name expr) Q E s := by
  obtain ⟨od, J, hl⟩ := I.look
  exact PySem.W.get_value X J (PySem.W.plainGet_of hg).1 (PySem.W.findObj_own hh ha rfl (by rw [hl, hv])) hv' h
theorem get_meth {pl : Sem Bool} {Q : Value × List Value → Shared → Prop} (X : K.In s.heap) (I : ObjM s.heap x dx C mA) (hg : PySem.W.plainGet K C name = true)
    (hf : PySem.W.findIn K (.ref C) name = some (some (.ref f))) (ht : PySem.W.isFn K (.ref f) = true) (hv : mA name = none) (h : Q (.ref f, [.ref x]) s) :
    wpAny (model prog w) A (getMethod (.ref x) name pl) Q E s := by
  obtain ⟨od, J, hl⟩ := I.look
  exact PySem.W.method_fn X J (PySem.W.plainGet_of hg).1 (PySem.W.plainGet_of hg).2 hf (beq_iff_eq.mp ht) (by show (PySem.W.lookIn name od).map (·.isSome) = some false; rw [hl, hv]; rfl) h
theorem set_map {ns : List Str} {Q : Unit → Shared → Prop} (X : K.In s.heap) (I : ObjM s.heap x dx C mA)
    (hs : PySem.W.findIn K (.ref C) "__setattr__" = some (some (.builtin "object.__setattr__"))) (hp : PySem.W.plainOver K C = true) (ht : PySem.W.takerIn K C name = some none) (hh : PySem.W.hasDictIn K C = true)
    (hw : PySem.Within mA ns) (hsz : ns.length ≤ sizeLine)
    (h : ∀ h', ObjM h' x dx C (fun y => if y = name then some v else mA y) → Heap.SameBut dx s.heap h' → Q () { s with heap := h', toks := s.toks + 2 }) :
    wpAny (model prog w) A (setAttr (.ref x) name v) Q E s := by
  obtain ⟨od, J, hl⟩ := I.look
  refine PySem.W.set_plain X J hs (PySem.W.osa_open (s := { s with toks := s.toks + 1 }) (r := none) X J hp ht fun b => ?_)
  obtain ⟨cd, hc, hd'⟩ := PySem.W.any_some hh
  have hx : s.heap.get? x = some ⟨.ref C, some dx, .plain, #[]⟩ := I.obj
  refine wpAny_bind (wpAny_pure (wpAny_bind (wpAny_bind (wpAny_loadPart hx (wpAny_bind (PySem.W.Looks.here (s := { s with toks := s.toks + 1 }) (PySem.W.looks_clsIn X hc) ?_))))))
  rw [hd']
  refine wpAny_pure (a := some dx) (wpAny_bind (wpAny_pure (wpAny_bind ?_)))
  refine wpAny_nsSet1 (s := { s with toks := s.toks + 1 }) I.ns fun h' hn2 hs2 => ?_
  obtain ⟨oD, esD, epD, hoD, hdD, hcD⟩ := hn2.count (PySem.Within.cons name v hw)
  refine wpAny_bind (wpAny_lookBehind hoD (by rw [hdD]; exact pastItsLine_dict (Nat.le_trans hcD (by rw [List.length_cons]; omega))) ?_)
  exact wpAny_pure (h _ ⟨(hs2.2 _ (Ne.symm I.ne)).trans I.obj, hn2, I.ne⟩ hs2)
theorem make_map {R : Result → Shared → Prop} {vs : List Value} {kw : List (Str × Value)} (X : K.In s.heap) (hm : PySem.W.makesIn K C = true)
    (hi : PySem.W.findIn K (.ref C) "__init__" = some (some (.ref f))) (hf : PySem.W.typeIn K (.ref f) = some (.type "function"))
    (h : codeAny (model prog w) (A.under (.builtin "type.__call__" ⟨.ref C :: vs, kw⟩)) (.call (.ref f) ⟨.ref (s.heap.objs.size + 1) :: vs, kw⟩) (PySem.W.InitBack (s.heap.objs.size + 1) R)
      { s with heap := (s.heap.push PySem.W.emptyDict).push (PySem.W.instObj C s.heap.objs.size) }) :
    codeAny (model prog w) A (.call (.ref C) ⟨vs, kw⟩) R s := by
  obtain ⟨hh, g, d, t, os⟩ := s
  exact PySem.W.make_core (PySem.W.makes_of X hm) (PySem.W.looks_findIn X hi) (fun self => PySem.W.bind_fn X self hf) (.inl rfl) h
end
def putF (f : Str) (v : V) : List (Str × V) → List (Str × V)
  | [] => [(f, v)]
  | (g, x) :: r => if g = f then (g, v) :: r else (g, x) :: putF f v r
theorem lookup_putF (f g : Str) (v : V) : ∀ fs : List (Str × V), (putF f v fs).lookup g = if g = f then some v else fs.lookup g
  | [] => by
    show List.lookup g [(f, v)] = _
    by_cases h : g = f
    · have hb : (g == f) = true := beq_iff_eq.mpr h
      simp only [List.lookup, hb, if_pos h]
    · have hb : (g == f) = false := beq_eq_false_iff_ne.mpr h
      simp only [List.lookup, hb, if_neg h]
  | (k, x) :: r => by
    have ih := lookup_putF f g v r
    rw [show putF f v ((k, x) :: r) = (if k = f then (k, v) :: r else (k, x) :: putF f v r) from rfl]
    by_cases hk : k = f
    · rw [if_pos hk]
      by_cases h : g = k
      · have hb : (g == k) = true := beq_iff_eq.mpr h
        simp only [List.lookup, hb, if_pos (h.trans hk)]
      · have hb : (g == k) = false := beq_eq_false_iff_ne.mpr h
        simp only [List.lookup, hb, if_neg (fun e : g = f => h (e.trans hk.symm))]
    · rw [if_neg hk]
      by_cases h : g = k
      · have hb : (g == k) = true := beq_iff_eq.mpr h
        simp only [List.lookup, hb, if_neg (fun e : g = f => hk (h.symm.trans e))]
      · have hb : (g == k) = false := beq_eq_false_iff_ne.mpr h
        simp only [List.lookup, hb]
        exact ih
theorem keys_putF (f : Str) (v : V) : ∀ fs : List (Str × V), f ∈ (putF f v fs).map (·.1) ∧ ∀ g, g ∈ fs.map (·.1) → g ∈ (putF f v fs).map (·.1)
  | [] => ⟨by simp [putF], fun g h => by simp at h⟩
  | (k, x) :: r => by
    obtain ⟨i1, i2⟩ := keys_putF f v r
    rw [show putF f v ((k, x) :: r) = (if k = f then (k, v) :: r else (k, x) :: putF f v r) from rfl]
    by_cases hk : k = f
    · rw [if_pos hk]
      subst hk
      exact ⟨by simp, fun g h => by simpa using h⟩
    · rw [if_neg hk]
      refine ⟨?_, fun g h => ?_⟩
      · rw [List.map_cons]
        exact List.mem_cons_of_mem _ i1
      · rw [List.map_cons] at h ⊢
        rcases List.mem_cons.mp h with e | e
        · exact List.mem_cons.mpr (.inl e)
        · exact List.mem_cons_of_mem _ (i2 g e)
theorem length_putF (f : Str) (v : V) : ∀ fs : List (Str × V), (putF f v fs).length ≤ fs.length + 1
  | [] => by simp [putF]
  | (k, x) :: r => by
    have ih := length_putF f v r
    rw [show putF f v ((k, x) :: r) = (if k = f then (k, v) :: r else (k, x) :: putF f v r) from rfl]
    by_cases hk : k = f
    · rw [if_pos hk, List.length_cons, List.length_cons]; omega
    · rw [if_neg hk, List.length_cons, List.length_cons]; omega
theorem RelO.some_of {v : V} {o : Option Value} (r : RelO (some v) o) : ∃ u, o = some u ∧ RelV v u := by
  cases o with
  | none => exact (show False from r).elim
  | some u => exact ⟨u, rfl, r⟩
theorem RelO.none_of {o : Option Value} (r : RelO none o) : o = none := by
  cases o with
  | none => rfl
  | some u => exact (show False from r).elim
theorem handed_of {v : V} {u : Value} (r : RelV v u) : PySem.W.handedIn u = true := by
  cases v with
  | non => cases (show u = Value.none from r); rfl
  | bl b => cases (show u = Value.bool b from r); rfl
  | int i => obtain ⟨t, e⟩ := (show ∃ t, u = Value.int i t from r); cases e; rfl
  | str x => obtain ⟨t, e⟩ := (show ∃ t, u = Value.str x t from r); cases e; rfl
  | byt b => obtain ⟨t, e⟩ := (show ∃ t, u = Value.bytes b t from r); cases e; rfl
  | flt b => obtain ⟨t, e⟩ := (show ∃ t, u = Value.float b t from r); cases e; rfl
  | ref a => cases (show u = Value.ref a from r); rfl
  | ty n => cases (show u = Value.type n from r); rfl
section
variable {P : Program} {w : World} {H H' : Hp} {h h' : Heap} {a C dx : Addr} {fs fs' : List (Str × V)}
theorem ins_get (hok : HOk P w H h) (e : H a = some (.ins C dx fs)) : ∃ mA, ObjM h a dx C mA ∧ (∀ f, RelO (fs.lookup f) (mA f)) ∧ PySem.Within mA (fs.map (·.1)) ∧ fs.length ≤ 1000 ∧ H dx = some (.own a) := by
  obtain ⟨d, z, ne, ob, mA, n, r, q⟩ := (show ObjOk P w H h a (.ins C dx fs) from hok a _ e)
  exact ⟨mA, ⟨ob, n, ne⟩, r, q, z, d⟩
end
structure Cls (K : PySem.W.Frag) (C : Addr) : Prop where
  pg : PySem.W.plainGet K C Str.empty = true
  hd : PySem.W.hasDictIn K C = true
  po : PySem.W.plainOver K C = true
  sa : PySem.W.findIn K (.ref C) "__setattr__" = some (some (.builtin "object.__setattr__"))
theorem Cls.get {K : PySem.W.Frag} {C : Addr} (c : Cls K C) (f : Str) : PySem.W.plainGet K C f = true := c.pg
def NoAttr (K : PySem.W.Frag) (C : Addr) (f : Str) : Prop := PySem.W.findIn K (.ref C) f = some none
theorem NoAttr.taker {K : PySem.W.Frag} {C : Addr} {f : Str} (n : NoAttr K C f) : PySem.W.takerIn K C f = some none := by
  unfold PySem.W.takerIn
  rw [show PySem.W.findIn K (.ref C) f = some none from n]
  rfl
structure Con (K : PySem.W.Frag) (C : Addr) (f : Str) (v : V) (u : Value) : Prop where
  at_ : PySem.W.findIn K (.ref C) f = some (some u)
  rel : RelV v u
  get : PySem.W.specialIn K u "__get__" = some none
  cp : PySem.W.copiedNames.contains f = false
structure Meth (K : PySem.W.Frag) (C : Addr) (m : Str) (f : Addr) : Prop where
  at_ : PySem.W.findIn K (.ref C) m = some (some (.ref f))
  fn : PySem.W.isFn K (.ref f) = true
  kp : PySem.W.keepIn K (.ref f) = true
section
variable {X : Cx} {pins : List (Addr × Obj)} {σ : St} {H : Hp} {s : Shared} {a C dx : Addr} {fs : List (Str × V)} {f : Str} {v : V} {A : Around} {E : Value → Shared → Prop}
theorem getattr_ok {b : Bool} {Q : Value → Shared → Prop} (I : Inv X pins σ H s) (e : H a = some (.ins C dx fs)) (c : Cls X.K C) (n : NoAttr X.K C f) (l : fs.lookup f = some v)
    (h : ∀ u s', Inv X pins σ H s' → RelV v u → Q u s') : wpAny (model X.prog X.w) A (getAttr (.ref a) f b) Q E s := by
  obtain ⟨mA, O, r, _, _, _⟩ := ins_get I.hok e
  obtain ⟨u, hu, ru⟩ := RelO.some_of (v := v) (o := mA f) (by rw [← l]; exact r f)
  exact get_map I.kIn O (c.get f) c.hd n hu (handed_of ru) (h u _ (I.tok _) ru)
theorem getmeth_ok {m : Str} {g : Addr} {pl : Sem Bool} {Q : Value × List Value → Shared → Prop} (I : Inv X pins σ H s) (e : H a = some (.ins C dx fs)) (c : Cls X.K C) (k : Meth X.K C m g) (l : fs.lookup m = none)
    (h : Q (.ref g, [.ref a]) s) : wpAny (model X.prog X.w) A (getMethod (.ref a) m pl) Q E s := by
  obtain ⟨mA, O, r, _, _, _⟩ := ins_get I.hok e
  have hn : mA m = none := RelO.none_of (by rw [← l]; exact r m)
  exact get_meth I.kIn O (c.get m) k.at_ k.fn hn h
theorem setattr_ok {y : V} {u : Value} {Q : Unit → Shared → Prop} (I : Inv X pins σ H s) (e : H a = some (.ins C dx fs)) (c : Cls X.K C) (n : NoAttr X.K C f) (hl : fs.length < 1000) (ry : RelV y u)
    (h : ∀ s', Inv X pins σ (upd H a (.ins C dx (putF f y fs))) s' → Q () s') : wpAny (model X.prog X.w) A (setAttr (.ref a) f u) Q E s := by
  obtain ⟨mA, O, r, wi, _, ho⟩ := ins_get I.hok e
  have hz : (fs.map (·.1)).length ≤ sizeLine := by rw [List.length_map, sizeLine_eq]; omega
  refine set_map I.kIn O c.sa c.po n.taker c.hd wi hz fun h' O' sb => h _ ?_
  have hd : ∃ o, h'.get? dx = some o := let ⟨o, _, _, e', _⟩ := O'.ns; ⟨o, e'⟩
  refine I.write (x := a) (e := dx) (by rw [e]; exact True.intro) (.inr ho) (fun b q hb z => (sb.2 b hb).trans z) hd ?_
  refine ⟨by rw [upd_ne O.ne]; exact ho, ?_, O.ne, O'.obj, _, O'.ns, fun g => ?_, fun g hg => ?_⟩
  · have := length_putF f y fs; omega
  · show RelO ((putF f y fs).lookup g) (if g = f then some u else mA g)
    rw [lookup_putF]
    by_cases q : g = f
    · rw [if_pos q, if_pos q]; exact ry
    · rw [if_neg q, if_neg q]; exact r g
  · by_cases q : g = f
    · rw [q]; exact (keys_putF f y fs).1
    · refine (keys_putF f y fs).2 g (wi g fun z => hg ?_)
      show (if g = f then some u else mA g) = none
      rw [if_neg q]; exact z
theorem Inv.made (I : Inv X pins σ H s) : Inv X pins σ (upd (upd H s.heap.objs.size (.own (s.heap.objs.size + 1))) (s.heap.objs.size + 1) (.ins C s.heap.objs.size []))
    { s with heap := (s.heap.push PySem.W.emptyDict).push (PySem.W.instObj C s.heap.objs.size) } := by
  have e1 : (s.heap.push PySem.W.emptyDict).get? s.heap.objs.size = some PySem.W.emptyDict := Heap.get?_push_size s.heap rfl
  have e2 : ((s.heap.push PySem.W.emptyDict).push (PySem.W.instObj C s.heap.objs.size)).get? (s.heap.objs.size + 1) = some (PySem.W.instObj C s.heap.objs.size) := by
    have := Heap.get?_push_size (s.heap.push PySem.W.emptyDict) (o := PySem.W.instObj C s.heap.objs.size) rfl
    rwa [Heap.size_push] at this
  have e3 : (s.heap.push PySem.W.emptyDict).Ns s.heap.objs.size (fun _ => none) := ⟨PySem.W.emptyDict, #[], _, e1, rfl, (fun e he => absurd he (by simp)), fun _ => rfl⟩
  have I1 := I.laid (a := s.heap.objs.size) (o := .own (s.heap.objs.size + 1)) (h' := s.heap.push PySem.W.emptyDict) (t' := s.toks) (fun b u q => Heap.get?_push_of_some _ q) (Nat.le_refl _) ⟨_, e1⟩
  refine I1.laid (a := s.heap.objs.size + 1) (o := .ins C s.heap.objs.size []) (t' := s.toks) (fun b u q => Heap.get?_push_of_some _ q) (Nat.le_of_eq (Heap.size_push _ _)) ?_
  have ne : s.heap.objs.size ≠ s.heap.objs.size + 1 := Nat.ne_of_lt (Nat.lt_succ_self _)
  refine ⟨by rw [upd_ne ne, upd_same], Nat.zero_le _, ne, e2, fun _ => none, (Heap.Ns1.of_empty e3).at fun o q => Heap.get?_push_of_some _ q, fun _ => True.intro, fun y hy => absurd rfl hy⟩
theorem attr_of {prog : Program} {w : World} {env : Env} {e : Expr} {f : Str} {pos : Pos} {s : Shared} {Q : Value → Shared → Prop} (hb : attributeBase e f env (eval e env) = eval e env)
    (h : wpAny (model prog w) A (eval e env) (fun o s₁ => wpAny (model prog w) A (getAttr o f true) Q E s₁) E s) : wpAny (model prog w) A (eval (.Attribute e f pos) env) Q E s :=
  Attribute_any_ h (by rw [arm_eval_Attribute, hb])
end
def tFld (K : PySem.W.Frag) (ta : TE) (f : Str) : TE := fun σ H Q => ta σ H fun x H1 => ∃ a C dx fs v, x = .ref a ∧ H1 a = some (.ins C dx fs) ∧ Cls K C ∧ NoAttr K C f ∧ fs.lookup f = some v ∧ Q v H1
def sFld (K : PySem.W.Frag) (ta tv : TE) (f : Str) : TS := fun D σ H => tv σ H fun y H1 => ta σ H1 fun x H2 => ∃ a C dx fs, x = .ref a ∧ H2 a = some (.ins C dx fs) ∧ Cls K C ∧ NoAttr K C f ∧ fs.length < 1000 ∧
  D.nx σ (upd H2 a (.ins C dx (putF f y fs)))
section
variable {X : Cx} {o e value : Expr} {f : Str} {pos pos' tpos : Pos} {ta tv : TE}
theorem pe_fld (he : PE X e ta) (hb : attributeBase e f X.env (eval e X.env) = eval e X.env) : PE X (.Attribute e f pos) (tFld X.K ta f) := by
  intro pins s σ H Q I h
  refine attr_of hb (thn (he pins s σ H _ I h) fun u s1 ⟨x, H1, I1, rx, a, C, dx, fs, v, ex, ea, c, n, l, q⟩ => ?_)
  subst ex
  obtain rfl : u = Value.ref a := rx
  exact getattr_ok I1 ea c n l fun u' s2 I2 ru => ⟨v, H1, I2, ru, q⟩
theorem ps_fld (ha : PE X o ta) (hv : PE X value tv) (hs : swapsWith value (some (.Attribute o f pos')) pos.line X.env = pure false) : PS X (.Assign [.Attribute o f pos'] value pos) (sFld X.K ta tv f) := by
  intro pins s σ H D I h
  refine plainObj_wpAny_Assign_Attribute (thn (hv pins s σ H _ I h) fun u s1 ⟨y, H1, I1, ry, q⟩ => thn (ha pins s1 σ H1 _ I1 q) fun ov s2 ⟨x, H2, I2, rx, a, C, dx, fs, ex, ea, c, n, l, q2⟩ => ?_) hs
  subst ex
  obtain rfl : ov = Value.ref a := rx
  exact setattr_ok I2 ea c n l ry fun s3 I3 => ⟨σ, _, I3, q2⟩
end
section
variable {X : Cx} {pins : List (Addr × Obj)} {σ : St} {H : Hp} {s : Shared} {A : Around} {E : Value → Shared → Prop} {Q : Value → Shared → Prop} {c : Value} {b : Bool}
inductive TyOf (K : PySem.W.Frag) (H : Hp) : V → Value → Prop where
  | non : TyOf K H .non (.type "NoneType")
  | bl (x : Bool) : TyOf K H (.bl x) (.type "bool")
  | int (i : Int) : TyOf K H (.int i) (.type "int")
  | str (x : Str) : TyOf K H (.str x) (.type "str")
  | flt (x : UInt64) : TyOf K H (.flt x) (.type "float")
  | lst {a : Addr} {xs : List V} (e : H a = some (.lst xs)) : TyOf K H (.ref a) (.type "list")
  | frz {a : Addr} {o : Obj} {xs : List V} (e : H a = some (.frz o (.lst xs))) : TyOf K H (.ref a) (.type "list")
  | tup {a : Addr} {xs : List V} (e : H a = some (.tup xs)) : TyOf K H (.ref a) (.type "tuple")
  | dK {a : Addr} {kvs : List (Key × V)} (e : H a = some (.dK kvs)) : TyOf K H (.ref a) (.type "dict")
  | dT {a : Addr} {kvs : List (List Key × V)} (e : H a = some (.dT kvs)) : TyOf K H (.ref a) (.type "dict")
  | ins {a C dx : Addr} {fs : List (Str × V)} (e : H a = some (.ins C dx fs)) (cl : Cls K C) (ha : PySem.W.findIn K (.ref C) "__class__" = some (some (.builtin "object.__class__")))
      (hn : PySem.W.specialIn K (.builtin "object.__class__") "__get__" = some (some (.builtin "getset_descriptor.__get__"))) (htk : PySem.W.takesIn K (.builtin "object.__class__") = some true)
      (hm : PySem.W.mroIn K C (.type "object") = some true) : TyOf K H (.ref a) (.ref C)
theorem isinst_ok {x : V} {u t : Value} (I : Inv X pins σ H s) (rx : RelV x u) (ty : TyOf X.K H x t) (e : PySem.W.kitOne X.K t c = some b) (h : ∀ tk, Q (.bool b) { s with toks := tk }) :
    wpAny (model X.prog X.w) A (call (.builtin "isinstance") [u, c]) Q E s := by
  cases ty with
  | non => cases (show u = Value.none from rx); exact PySem.W.kia_one PySem.W.kitx_none I.kIn True.intro e (fun z => nomatch z) h
  | bl y => cases (show u = Value.bool y from rx); exact PySem.W.kia_one PySem.W.kitx_bool I.kIn True.intro e (fun z => nomatch z) h
  | int i => obtain ⟨t, q⟩ := (show ∃ t, u = Value.int i t from rx); cases q; exact PySem.W.kia_one PySem.W.kitx_int I.kIn True.intro e (fun z => nomatch z) h
  | str y => obtain ⟨t, q⟩ := (show ∃ t, u = Value.str y t from rx); cases q; exact PySem.W.kia_one PySem.W.kitx_str I.kIn True.intro e (fun z => nomatch z) h
  | flt y => obtain ⟨t, q⟩ := (show ∃ t, u = Value.float y t from rx); cases q; exact PySem.W.kia_one PySem.W.kitx_float I.kIn True.intro e (fun z => nomatch z) h
  | @lst a xs ea =>
    cases (show u = Value.ref a from rx)
    obtain ⟨_, _, n, _, h1⟩ := (show ObjOk X.prog X.w H s.heap a (.lst xs) from I.hok a _ ea)
    exact PySem.W.kia_one PySem.W.kitx_list I.kIn ⟨_, h1, rfl⟩ e (fun z => nomatch z) h
  | @frz a ob xs ea =>
    cases (show u = Value.ref a from rx)
    obtain ⟨_, _, _, n, _, h1⟩ := (show ObjOk X.prog X.w H s.heap a (.frz ob (.lst xs)) from I.hok a _ ea)
    exact PySem.W.kia_one PySem.W.kitx_list I.kIn ⟨_, h1, rfl⟩ e (fun z => nomatch z) h
  | @tup a xs ea =>
    cases (show u = Value.ref a from rx)
    obtain ⟨_, _, _, p⟩ := (show ObjOk X.prog X.w H s.heap a (.tup xs) from I.hok a _ ea)
    obtain ⟨o, h1, h2, _⟩ := p
    exact PySem.W.kia_one PySem.W.kitx_tuple I.kIn ⟨o, h1, h2⟩ e (fun z => nomatch z) h
  | @dK a kvs ea =>
    cases (show u = Value.ref a from rx)
    obtain ⟨_, _, vs, _, p⟩ := (show ObjOk X.prog X.w H s.heap a (.dK kvs) from I.hok a _ ea)
    obtain ⟨o, es, ep, h1, h2, _⟩ := p
    exact PySem.W.kia_one PySem.W.kitx_dict I.kIn ⟨o, h1, h2.1⟩ e (fun z => nomatch z) h
  | @dT a kvs ea =>
    cases (show u = Value.ref a from rx)
    obtain ⟨_, _, xs, _, o, es, ep, h1, h2, _⟩ := (show ObjOk X.prog X.w H s.heap a (.dT kvs) from I.hok a _ ea)
    exact PySem.W.kia_one PySem.W.kitx_dict I.kIn ⟨o, h1, h2.1⟩ e (fun z => nomatch z) h
  | @ins a C dx fs ea cl ha hn htk hm =>
    cases (show u = Value.ref a from rx)
    obtain ⟨mA, O, _⟩ := ins_get I.hok ea
    obtain ⟨od, J, _⟩ := O.look
    exact PySem.W.kia_one (PySem.W.kitx_own (cl.get _) cl.hd ha hn htk hm) I.kIn J e (fun z => nomatch z) h
end
end L2
namespace L2
open PySem PySem.Spec PyProof.Rows
structure Room (k : Nat) (A : Around) : Prop where
  hd : A.handled = none
  dp : A.depth + 3 * k + 5 < recursionLimit
  un : A.units + 16 * k + 200 < cLine
theorem Room.mono {j k : Nat} {A : Around} (r : Room k A) (h : j ≤ k) : Room j A := ⟨r.hd, by have := r.dp; omega, by have := r.un; omega⟩
theorem Room.deeper {k : Nat} {A : Around} (r : Room (k + 1) A) (env : Env) : Room k (A.deeper env) :=
  ⟨r.hd, by have := r.dp; show A.depth + 1 + 3 * k + 5 < _; omega, by have := r.un; show A.units + 3 + 16 * k + 200 < _; omega⟩
theorem Room.in1 {k : Nat} {A : Around} (r : Room (k + 1) A) : Room k A.in1 :=
  ⟨r.hd, by have := r.dp; show A.depth + 3 * k + 5 < _; omega, by have := r.un; show A.units + 1 + 16 * k + 200 < _; omega⟩
theorem make_depth {A : Around} {C : Addr} {us : List Value} {kw : List (Str × Value)} : (A.under (.builtin "type.__call__" ⟨.ref C :: us, kw⟩)).depth = A.depth + 1 := by
  first | rfl | simp [Around.under, Code.weight, Code.isCreation, Code.isGuard, Code.isCaller, Code.frames, Code.isFrame, guardIds]
theorem make_units {A : Around} {C : Addr} {us : List Value} {kw : List (Str × Value)} : (A.under (.builtin "type.__call__" ⟨.ref C :: us, kw⟩)).units = A.units + 1 := by
  first | rfl | simp [Around.under, Code.cUnits, Code.frames, Code.isFrame]
theorem Room.make {k : Nat} {A : Around} (r : Room (k + 1) A) (C : Addr) (us : List Value) (kw : List (Str × Value)) : Room k (A.under (.builtin "type.__call__" ⟨.ref C :: us, kw⟩)) :=
  ⟨r.hd, by have := r.dp; rw [make_depth]; omega, by have := r.un; rw [make_units]; omega⟩
theorem Room.depth {k : Nat} {A : Around} (r : Room k A) : A.depth < recursionLimit := by have := r.dp; omega
theorem Room.units {k : Nat} {A : Around} (r : Room k A) : A.units + 64 < cLine := by have := r.un; omega
def tNil : TA := fun _ H Q => Q [] H
def tCons (ta : TE) (tr : TA) : TA := fun σ H Q => ta σ H fun x H1 => tr σ H1 fun xs H2 => Q (x :: xs) H2
section
variable {X : Cx} {e : Expr} {es : List Expr} {te : TE} {t : TA} {pos : Pos}
theorem pa_nil : PA X [] tNil := fun _ _ _ _ H Q I h => Calls.spliced_nil ⟨[], H, I, .nil, h⟩
theorem pa_cons (ha : PE X e te) (hr : PA X es t) (hs : starEach (e :: es) X.env = (false, eval e X.env) :: starEach es X.env := by rfl) : PA X (e :: es) (tCons te t) := by
  intro pos pins s σ H Q I h
  rw [hs]
  show wpAny _ _ (spliced ((false, eval e X.env) :: backTo pos (starEach es X.env))) _ _ s
  refine Calls.spliced_cons (thn (ha pins s σ H _ I h) fun u s1 ⟨x, H1, I1, r1, q1⟩ => ?_)
  exact thn (hr pos pins s1 σ H1 _ I1 q1) fun us s2 ⟨xs, H2, I2, r2, q2⟩ => ⟨x :: xs, H2, I2, .cons r1 r2, q2⟩
def tTup (t : TA) : TE := fun σ H Q => t σ H fun xs H1 => xs.length ≤ sizeLine ∧ ∀ p, H1 p = none → Q (.ref p) (upd H1 p (.tup xs))
def tLst (t : TA) : TE := fun σ H Q => t σ H fun xs H1 => xs.length ≤ sizeLine ∧ ∀ p, H1 p = none → Q (.ref p) (upd H1 p (.lst xs))
theorem pe_tup {x1} (h : PA X es t) : PE X (.Tuple es x1 pos) (tTup t) := by
  intro pins s σ H Q I hq
  refine wpAny_Tuple_spliced (thn (h pos pins s σ H _ I hq) fun us s1 ⟨xs, H1, I1, r, z, q⟩ => ⟨by rw [← r.length]; exact z, ?_⟩)
  have hf : H1 s1.heap.objs.size = none := I1.hok.fresh (Nat.le_refl _)
  refine ⟨.ref s1.heap.objs.size, upd H1 s1.heap.objs.size (.tup xs), I1.laid (t' := s1.toks) (fun b u e => Heap.get?_push_of_some _ e) (Nat.le_refl _) ?_, rfl, q _ hf⟩
  exact ⟨z, us, r, ⟨_, Heap.get?_push_size _ rfl, rfl, _, rfl⟩⟩
theorem pe_lst (h : PA X es t) : PE X (.List es pos) (tLst t) := by
  intro pins s σ H Q I hq
  refine wpAny_List_spliced (thn (h pos pins s σ H _ I hq) fun us s1 ⟨xs, H1, I1, r, z, q⟩ => ⟨by rw [← r.length]; exact z, ?_⟩)
  have hf : H1 s1.heap.objs.size = none := I1.hok.fresh (Nat.le_refl _)
  refine ⟨.ref s1.heap.objs.size, upd H1 s1.heap.objs.size (.lst xs), I1.laid (t' := s1.toks) (fun b u e => Heap.get?_push_of_some _ e) (Nat.le_refl _) ?_, rfl, q _ hf⟩
  exact ⟨z, us, 0, r, Heap.get?_push_size _ rfl⟩
end
abbrev Sp := List V → Hp → VK → XK → Prop
abbrev CXT := List Env → Hp → Shared → XK → Value → Shared → Prop
structure Env0 (P : Program) (w : World) (K : PySem.W.Frag) (mg : Str → Option Value) (base : Heap) (A : Around) (outer : List Env) (s : Shared) (H : Hp) : Prop where
  frames : A.frames = some outer
  mod : Mod K mg base
  bs : ∀ b o, base.get? b = some o → s.heap.get? b = some o ∧ H b = none
  bsz : base.objs.size ≤ s.heap.objs.size
  funs : s.heap.FunFrames base outer
  frf : ∀ b ∈ frs outer, H b = none
  hok : HOk P w H s.heap
  bare : AllBare s.gens
def CE (outer : List Env) (P : Program) (w : World) (H : Hp) (s : Shared) (Q : VK) (u : Value) (s' : Shared) : Prop :=
  ∃ v H', s'.os = s.os ∧ AllBare s'.gens ∧ Un (frs outer) [] H H' s.heap s'.heap ∧ HOk P w H' s'.heap ∧ RelV v u ∧ Q v H'
def CR (CX : CXT) (outer : List Env) (P : Program) (w : World) (H : Hp) (s : Shared) (Q : VK) (E : XK) (r : Result) (s' : Shared) : Prop :=
  match r with
  | .ok (.ret u) => CE outer P w H s Q u s'
  | .ok _ => False
  | .error e => CX outer H s E e s'
structure FnOk (P : Program) (w : World) (K : PySem.W.Frag) (mg : Str → Option Value) (base : Heap) (CX : CXT) (k : Nat) (f : Addr) (fd : FuncData) (ps : List Str) (sp : Sp) : Prop where
  len : ∀ vs H Q E, sp vs H Q E → vs.length = ps.length
  run : ∀ (A : Around) (outer : List Env) (s : Shared) (H : Hp) (args : Args) (us : List Value) (vs : List V) (Q : VK) (E : XK), Room k A → Env0 P w K mg base A outer s H → BindsTo s fd args (ps.zip us) → Vals vs us → sp vs H Q E →
    codeAny (model P w) A (.call (.ref f) args) (CR CX outer P w H s Q E) s
theorem FnOk.mono {P : Program} {w : World} {K : PySem.W.Frag} {mg : Str → Option Value} {base : Heap} {CX : CXT} {j k : Nat} {f : Addr} {fd : FuncData} {ps : List Str} {sp : Sp} (F : FnOk P w K mg base CX j f fd ps sp) (h : j ≤ k) :
    FnOk P w K mg base CX k f fd ps sp := ⟨F.len, fun A outer s H args us vs Q E hr => F.run A outer s H args us vs Q E (hr.mono h)⟩
theorem FnOk.imp {P : Program} {w : World} {K : PySem.W.Frag} {mg : Str → Option Value} {base : Heap} {CX : CXT} {k : Nat} {f : Addr} {fd : FuncData} {ps : List Str} {sp sp' : Sp} (F : FnOk P w K mg base CX k f fd ps sp)
    (h : ∀ vs H Q E, sp' vs H Q E → sp vs H Q E) : FnOk P w K mg base CX k f fd ps sp' :=
  ⟨fun vs H Q E q => F.len vs H Q E (h _ _ _ _ q), fun A outer s H args us vs Q E hr he hb hv hs => F.run A outer s H args us vs Q E hr he hb hv (h _ _ _ _ hs)⟩
theorem Env0.make {P : Program} {w : World} {K : PySem.W.Frag} {mg : Str → Option Value} {base : Heap} {A : Around} {outer : List Env} {s : Shared} {H : Hp} (e : Env0 P w K mg base A outer s H) (C : Addr) (us : List Value) (kw : List (Str × Value)) :
    Env0 P w K mg base (A.under (.builtin "type.__call__" ⟨.ref C :: us, kw⟩)) outer s H := ⟨by first | exact e.frames | (simpa [Around.under, Code.envs, Code.isFrame, pushEnvs] using e.frames), e.mod, e.bs, e.bsz, e.funs, e.frf, e.hok, e.bare⟩
theorem Env0.in1 {P : Program} {w : World} {K : PySem.W.Frag} {mg : Str → Option Value} {base : Heap} {A : Around} {outer : List Env} {s : Shared} {H : Hp} (e : Env0 P w K mg base A outer s H) :
    Env0 P w K mg base A.in1 outer s H := ⟨e.frames, e.mod, e.bs, e.bsz, e.funs, e.frf, e.hok, e.bare⟩
section
variable {X : Cx} {pins : List (Addr × Obj)} {σ : St} {H : Hp} {s s' : Shared}
theorem Inv.env0 (I : Inv X pins σ H s) : Env0 X.prog X.w X.K X.mg X.base X.A X.stack s H :=
  ⟨I.ok.frames, I.ok.mod, I.bs, Nat.le_trans I.ok.bsz I.sz, I.stack, I.stkFree, I.hok, I.bare⟩
theorem Inv.after {Q : VK} {u : Value} (I : Inv X pins σ H s) (h : CE X.stack X.prog X.w H s Q u s') : EP X pins σ Q u s' := by
  obtain ⟨v, H', os, bare, un, hok, r, q⟩ := h
  obtain ⟨hh, g, d, t, os'⟩ := s'
  obtain rfl : os' = s.os := os
  exact ⟨v, H', I.call (h' := hh) (g' := g) (d' := d) (t' := t) (ch := []) un hok bare (fun b z => absurd z (by simp)), r, q⟩
end
def tCall (sp : Sp) (dvs : List V) (E : XK) (t : TA) : TE := fun σ H Q => t σ H fun vs H1 => sp (vs ++ dvs) H1 Q E
def tMeth (C : Addr) (m : Str) (sp : Sp) (dvs : List V) (E : XK) (ta : TE) (t : TA) : TE := fun σ H Q => ta σ H fun x H1 => ∃ a dx fs, x = .ref a ∧ H1 a = some (.ins C dx fs) ∧ fs.lookup m = none ∧
  t σ H1 fun vs H2 => sp (x :: (vs ++ dvs)) H2 Q E
def tMake (C : Addr) (sp : Sp) (dvs : List V) (E : XK) (t : TA) : TE := fun σ H Q => t σ H fun vs H1 => ∀ x dx, H1 x = none → H1 dx = none → dx ≠ x →
  sp (.ref x :: (vs ++ dvs)) (upd (upd H1 dx (.own x)) x (.ins C dx [])) (fun v H2 => v = .non ∧ Q (.ref x) H2) E
def Binds (K : PySem.W.Frag) (fd : FuncData) (ps : List Str) (ds : List Value) : Prop :=
  ∀ (s : Shared) (us : List Value), K.In s.heap → (us ++ ds).length = ps.length → BindsTo s fd ⟨us, []⟩ (ps.zip (us ++ ds))
theorem Binds.all {K : PySem.W.Frag} {fd : FuncData} {ps : List Str} (h : ∀ us : List Value, us.length = ps.length → bindArgs fd ⟨us, []⟩ = pure (ps.zip us)) : Binds K fd ps [] := fun s us _ hl => by
  rw [List.append_nil] at hl ⊢
  exact .of_eq (h us hl)
def Passes (CX : CXT) (X : Cx) (E : XK) : Prop := ∀ (pins : List (Addr × Obj)) (σ : St) (H : Hp) (s : Shared) (e : Value) (s' : Shared), Inv X pins σ H s → CX X.stack H s E e s' → X.xe e s'
section
variable {X : Cx} {CX : CXT} {k : Nat} {f C : Addr} {fd : FuncData} {ps : List Str} {sp : Sp} {dvs : List V} {ds : List Value} {E : XK} {x m : Str} {p pos apos : Pos} {e o : Expr} {es : List Expr} {ta : TE} {t : TA}
theorem run_fn {pins : List (Addr × Obj)} {σ : St} {H : Hp} {s : Shared} {Q : VK} {us : List Value} {vs : List V} (F : FnOk X.prog X.w X.K X.mg X.base CX k f fd ps sp) (hr : Room k X.A) (hb : Binds X.K fd ps ds) (hd : Vals dvs ds) (hx : Passes CX X E)
    (I : Inv X pins σ H s) (r : Vals vs us) (h : sp (vs ++ dvs) H Q E) : wpAny (model X.prog X.w) X.A (call (.ref f) us) (EP X pins σ Q) X.xe s := by
  have r2 : Vals (vs ++ dvs) (us ++ ds) := r.append hd
  have hl : (us ++ ds).length = ps.length := by rw [← r2.length]; exact F.len _ _ _ _ h
  refine wpAny_call (codeAny_mono (F.run X.A X.stack s H ⟨us, []⟩ (us ++ ds) (vs ++ dvs) Q E hr I.env0 (hb s us I.kIn hl) r2 h) fun r s' hq => ?_)
  cases r with
  | error e => exact hx pins σ H s e s' I hq
  | ok fl =>
    cases fl with
    | ret u => exact I.after hq
    | next => exact False.elim hq
    | brk => exact False.elim hq
    | cont => exact False.elim hq
theorem pe_call (F : FnOk X.prog X.w X.K X.mg X.base CX k f fd ps sp) (hr : Room k X.A) (hg : Gl X x) (hm : X.mg x = some (.ref f)) (hk : PySem.W.keepIn X.K (.ref f) = true) (hb : Binds X.K fd ps ds) (hd : Vals dvs ds) (hx : Passes CX X E)
    (ha : PA X (e :: es) t) (hdb : (x == ("__debug__" : Str)) = false := by decide) (he : starEach (e :: es) X.env = (false, eval e X.env) :: starEach es X.env := by rfl) (hpl : (backTo pos (starEach es X.env)).any (·.1) = false := by rfl) :
    PE X (.Call (.Name x p) (e :: es) [] pos) (tCall sp dvs E t) := by
  intro pins s σ H Q I h
  refine wpAny_Call_Name_kw (ld_glob I hg hm ?_ hdb)
  refine PySem.W.callWith_K (h₀ := X.base) I.ok.mod.kin hk (thn (ha pos pins s σ H _ I h) fun us s1 ⟨vs, H1, I1, r, q⟩ => ⟨I1.kIn, ?_⟩) he hpl
  exact run_fn F hr hb hd hx I1 r q
theorem pe_meth0 {pl : Sem Bool} (he : PE X o ta) (c : Cls X.K C) (hm : Meth X.K C m f) (F : FnOk X.prog X.w X.K X.mg X.base CX k f fd ps sp) (hr : Room k X.A) (hb : Binds X.K fd ps ds) (hd : Vals dvs ds) (hx : Passes CX X E)
    (ht : eval (.Call (.Attribute o m apos) [] [] pos) X.env = (do
      let ov ← eval o X.env
      standAt apos.atName
      let (f, first) ← holding [ov] (getMethod ov m pl)
      callWith pos f first (backTo pos (starEach [] X.env)) (backToKw pos (keywordEach [] X.env))) := by rfl) :
    PE X (.Call (.Attribute o m apos) [] [] pos) (tMeth C m sp dvs E ta tNil) := by
  intro pins s σ H Q I h
  refine PySem.W.methodCall_KW (pl := pl) (thn (he pins s σ H _ I h) fun u s1 ⟨x, H1, I1, rx, a, dx, fs, ex, ea, l, q⟩ => ?_) ht
  subst ex
  obtain rfl : u = Value.ref a := rx
  refine getmeth_ok I1 ea c hm l ?_
  exact PySem.W.callWith_K0 (first := [.ref a]) I1.kIn hm.kp (run_fn (us := [.ref a]) (vs := [.ref a]) F hr hb hd hx I1 (.cons rfl .nil) q)
structure Mk (K : PySem.W.Frag) (C f : Addr) : Prop where
  makes : PySem.W.makesIn K C = true
  init : PySem.W.findIn K (.ref C) "__init__" = some (some (.ref f))
  fn : PySem.W.isFn K (.ref f) = true
  kp : PySem.W.keepIn K (.ref C) = true
theorem run_make {pins : List (Addr × Obj)} {σ : St} {H : Hp} {s : Shared} {Q : VK} {us : List Value} {vs : List V} (M : Mk X.K C f) (F : FnOk X.prog X.w X.K X.mg X.base CX k f fd ps sp) (hr : Room (k + 1) X.A) (hb : Binds X.K fd ps ds) (hd : Vals dvs ds)
    (hx : Passes CX X E) (I : Inv X pins σ H s) (r : Vals vs us)
    (h : ∀ x dx, H x = none → H dx = none → dx ≠ x → sp (.ref x :: (vs ++ dvs)) (upd (upd H dx (.own x)) x (.ins C dx [])) (fun v H2 => v = .non ∧ Q (.ref x) H2) E) :
    wpAny (model X.prog X.w) X.A (call (.ref C) us) (EP X pins σ Q) X.xe s := by
  have hq := h (s.heap.objs.size + 1) s.heap.objs.size (I.hok.fresh (Nat.le_succ _)) (I.hok.fresh (Nat.le_refl _)) (Nat.ne_of_lt (Nat.lt_succ_self _))
  have I2 := Inv.made (C := C) I
  have r2 : Vals (V.ref (s.heap.objs.size + 1) :: (vs ++ dvs)) (Value.ref (s.heap.objs.size + 1) :: (us ++ ds)) := .cons rfl (r.append hd)
  have hl : (Value.ref (s.heap.objs.size + 1) :: us ++ ds).length = ps.length := by
    have e := r2.length
    rw [F.len _ _ _ _ hq] at e
    exact e.symm
  refine wpAny_call (make_map (f := f) I.kIn M.makes M.init (beq_iff_eq.mp M.fn) (codeAny_mono (F.run _ X.stack _ _ ⟨Value.ref (s.heap.objs.size + 1) :: us, []⟩ (Value.ref (s.heap.objs.size + 1) :: (us ++ ds)) _ _ E (hr.make C us [])
    (I2.env0.make C us []) (hb _ (Value.ref (s.heap.objs.size + 1) :: us) I2.kIn hl) r2 hq) fun r s' hq' => ?_))
  cases r with
  | error e => exact hx pins σ _ _ e s' I2 hq'
  | ok fl =>
    cases fl with
    | ret u =>
      obtain ⟨v, H', I3, rv, ev, q3⟩ := I2.after hq'
      subst ev
      exact ⟨rv, ⟨V.ref (s.heap.objs.size + 1), H', I3, rfl, q3⟩⟩
    | next => exact False.elim hq'
    | brk => exact False.elim hq'
    | cont => exact False.elim hq'
theorem pe_make (M : Mk X.K C f) (F : FnOk X.prog X.w X.K X.mg X.base CX k f fd ps sp) (hr : Room (k + 1) X.A) (hg : Gl X x) (hm : X.mg x = some (.ref C)) (hb : Binds X.K fd ps ds) (hd : Vals dvs ds) (hx : Passes CX X E)
    (ha : PA X (e :: es) t) (hdb : (x == ("__debug__" : Str)) = false := by decide) (he : starEach (e :: es) X.env = (false, eval e X.env) :: starEach es X.env := by rfl) (hpl : (backTo pos (starEach es X.env)).any (·.1) = false := by rfl) :
    PE X (.Call (.Name x p) (e :: es) [] pos) (tMake C sp dvs E t) := by
  intro pins s σ H Q I h
  refine wpAny_Call_Name_kw (ld_glob I hg hm ?_ hdb)
  refine PySem.W.callWith_K (h₀ := X.base) I.ok.mod.kin M.kp (thn (ha pos pins s σ H _ I h) fun us s1 ⟨vs, H1, I1, r, q⟩ => ⟨I1.kIn, ?_⟩) he hpl
  exact run_make M F hr hb hd hx I1 r q
end
section
variable {X : Cx} {CX : CXT} {k : Nat} {f C : Addr} {fd : FuncData} {ps ks : List Str} {sp : Sp} {E : XK} {x m : Str} {p pos apos kpos : Pos} {e o : Expr} {es : List Expr} {kws : List Keyword} {te ta : TE} {t tk : TA} {nm : Option Str}
structure KBinds (K : PySem.W.Frag) (fd : FuncData) (ps ks : List Str) (g : List Value → List Value → List Value) (gV : List V → List V → List V) : Prop where
  to : ∀ (s : Shared) (us ws : List Value), K.In s.heap → (g us ws).length = ps.length → BindsTo s fd ⟨us, ks.zip ws⟩ (ps.zip (g us ws))
  rel : ∀ {vs : List V} {us : List Value} {zs : List V} {ws : List Value}, Vals vs us → Vals zs ws → Vals (gV vs zs) (g us ws)
variable {g : List Value → List Value → List Value} {gV : List V → List V → List V}
end
structure FnScope (N P : List Str) (sc : Scope) : Prop where
  kind : sc.kind = .function
  co : sc.isCoroutine = false
  gen : sc.isGenerator = false
  nd : N.Nodup
  pre : N.take P.length = P
  par : ∀ x ∈ P, sc.names.lookup x = some .local ∨ sc.names.lookup x = some .cell
  nofree : ∀ y ∈ sc.names, y.2 ≠ .free
theorem bindL_out {kindOf : Str → Option NameKind} {x : Str} : ∀ {binds : List (Str × Value)} {m : Str → Option Value}, (∀ v, (x, v) ∉ binds) → bindL kindOf binds m x = m x
  | [], _, _ => rfl
  | (n, v) :: r, m, h => by
    unfold bindL
    rw [bindL_out fun w hw => h w (List.mem_cons_of_mem _ hw)]
    split
    · have : x ≠ n := by rintro rfl; exact h v List.mem_cons_self
      simp [this]
    · rfl
theorem bindC_out {kindOf : Str → Option NameKind} {x : Str} : ∀ {binds : List (Str × Value)} {m : Str → Option Value}, (∀ v, (x, v) ∉ binds) → bindC kindOf binds m x = m x
  | [], _, _ => rfl
  | (n, v) :: r, m, h => by
    unfold bindC
    rw [bindC_out fun w hw => h w (List.mem_cons_of_mem _ hw)]
    split
    · rfl
    · have : x ≠ n := by rintro rfl; exact h v List.mem_cons_self
      simp [this]
theorem bindL_get {kindOf : Str → Option NameKind} {x : Str} {v : Value} : ∀ {P : List Str} {vs : List Value} {i : Nat} {m : Str → Option Value}, P.Nodup → P[i]? = some x → vs[i]? = some v → kindOf x = some .local →
    bindL kindOf (P.zip vs) m x = some v
  | [], _, _, _, _, h, _, _ => by simp at h
  | _ :: _, [], _, _, _, _, h, _ => by simp at h
  | p :: P, w :: vs, 0, m, nd, h1, h2, hk => by
    simp at h1 h2; subst h1; subst h2
    show bindL kindOf ((p, w) :: P.zip vs) m p = _
    unfold bindL
    rw [bindL_out fun v hv => (List.nodup_cons.mp nd).1 (List.of_mem_zip hv).1, if_pos hk]
    simp
  | p :: P, w :: vs, i + 1, m, nd, h1, h2, hk => by
    show bindL kindOf ((p, w) :: P.zip vs) m x = _
    unfold bindL
    exact bindL_get (i := i) (List.nodup_cons.mp nd).2 (by simpa using h1) (by simpa using h2) hk
theorem bindC_get {kindOf : Str → Option NameKind} {x : Str} {v : Value} : ∀ {P : List Str} {vs : List Value} {i : Nat} {m : Str → Option Value}, P.Nodup → P[i]? = some x → vs[i]? = some v → kindOf x ≠ some .local →
    bindC kindOf (P.zip vs) m x = some v
  | [], _, _, _, _, h, _, _ => by simp at h
  | _ :: _, [], _, _, _, _, h, _ => by simp at h
  | p :: P, w :: vs, 0, m, nd, h1, h2, hk => by
    simp at h1 h2; subst h1; subst h2
    show bindC kindOf ((p, w) :: P.zip vs) m p = _
    unfold bindC
    rw [bindC_out fun v hv => (List.nodup_cons.mp nd).1 (List.of_mem_zip hv).1, if_neg hk]
    simp
  | p :: P, w :: vs, i + 1, m, nd, h1, h2, hk => by
    show bindC kindOf ((p, w) :: P.zip vs) m x = _
    unfold bindC
    exact bindC_get (i := i) (List.nodup_cons.mp nd).2 (by simpa using h1) (by simpa using h2) hk
def start (N : List Str) (vs : List V) : St := vs.map some ++ List.replicate (N.length - vs.length) none
def cxOf (CX : CXT) (P : Program) (w : World) (K : PySem.W.Frag) (mg : Str → Option Value) (base : Heap) (N : List Str) (qual : Str) (scope : Scope) (f : Addr) (cd : Value) (A : Around) (outer : List Env) (s : Shared) (H : Hp) (E : XK) : Cx where
  prog := P
  w := w
  K := K
  mg := mg
  base := base
  A := A.deeper (envOfC qual scope s.heap.objs.size f cd)
  N := N
  s₀ := s
  H₀ := H
  env := envOfC qual scope s.heap.objs.size f cd
  outer := outer
  stack := envOfC qual scope s.heap.objs.size f cd :: outer
  ex := []
  calm := true
  fn := fun _ => true
  pn := []
  xe := fun e s' => wpAny (model P w) (A.deeper (envOfC qual scope s.heap.objs.size f cd)) (leaving (envOfC qual scope s.heap.objs.size f cd) e) (fun _ s'' => CX outer H s E e s'') (fun e' s'' => CX outer H s E e' s'') s'
theorem cell_has {sc : Scope} {n : Nat} {x : Str} (h : sc.names.lookup x = some .cell) : ∃ c, (cellsFrom n sc.names []).lookup x = some c := by
  have q := PySem.W.cellsFrom_some sc.names n [] (.inl h)
  exact Option.isSome_iff_exists.mp q
theorem inv_start {CX : CXT} {P : Program} {w : World} {K : PySem.W.Frag} {mg : Str → Option Value} {base : Heap} {N ps : List Str} {qual : Str} {scope : Scope} {f : Addr} {cd : Value} {A : Around} {outer : List Env} {s s1 : Shared} {H : Hp} {E : XK} {us : List Value} {vs : List V}
    (S : FnScope N ps scope) (hd : A.handled = none) (e0 : Env0 P w K mg base A outer s H) (hl : vs.length = ps.length) (r : Vals vs us)
    (x : InCallC s s.heap.objs.size (bindL (envOfC qual scope s.heap.objs.size f cd).kindOf (ps.zip us) fun _ => none) (cellsFrom (s.heap.objs.size + 1) scope.names []) (bindC (envOfC qual scope s.heap.objs.size f cd).kindOf (ps.zip us) fun _ => none) s1) :
    Inv (cxOf CX P w K mg base N qual scope f cd A outer s H E) [] (start N vs) H s1 := by
  have hpl : ps.length ≤ N.length := by have := congrArg List.length S.pre; rw [List.length_take] at this; omega
  obtain ⟨h1, tk, rfl, hk⟩ := x.done
  have noA : ∀ b : Addr, b ∉ (cxOf CX P w K mg base N qual scope f cd A outer s H E).ex := fun b z => absurd (show b ∈ ([] : List Addr) from z) (by simp)
  refine ⟨⟨e0.mod, S.kind, rfl, rfl, Nat.le_refl _, fun y z c h1 h2 => ?_, fun y hy => ?_, fun y c _ h => ?_, fun _ => hd, Around.frames_deeper e0.frames, .inr ⟨rfl, rfl⟩, fun b z => absurd z (noA b), e0.bs, e0.bsz, fun b _ _ => noA b, fun b z => absurd z (noA b), e0.funs, e0.frf⟩,
    rfl, e0.bare, Un.kept hk, ⟨_, x.toInCall.ns, fun i y v h1 h2 h3 => ?_⟩, fun y c h => ⟨_, x.cell y c h⟩, e0.hok.fresh (Nat.le_refl _), fun y c h => ?_, fun p hp => absurd (show p ∈ ([] : List (Addr × Obj)) from hp) (by simp), e0.hok.kept hk, ?_⟩
  · exact name_of_addr x.apart (PySem.mem_of_lookup h1) (PySem.mem_of_lookup h2)
  · have hy : scope.names.lookup y = some .cell ∨ scope.names.lookup y = some .free := hy
    rcases hy with hy | hy
    · exact cell_has hy
    · exact absurd rfl (S.nofree _ (PySem.mem_of_lookup hy))
  · exact Nat.le_of_lt (x.above y c (PySem.mem_of_lookup h))
  · have hi : i < vs.length := by
      unfold start at h2
      by_cases hi : i < vs.length
      · exact hi
      · rw [List.getElem?_append_right (by simpa using hi)] at h2
        rw [List.getElem?_replicate] at h2
        split at h2 <;> cases h2
    have ha : vs[i]? = some v := by
      unfold start at h2
      rw [List.getElem?_append_left (by simpa using hi), List.getElem?_map] at h2
      cases e : vs[i]? with
      | none => rw [e] at h2; cases h2
      | some a => rw [e] at h2; cases h2; rfl
    obtain ⟨u, hu, rv⟩ := r.get ha
    have hp : ps[i]? = some y := by
      rw [← S.pre, List.getElem?_take_of_lt (by omega)]; exact h1
    have ndP : ps.Nodup := by rw [← S.pre]; exact S.nd.sublist (List.take_sublist _ _)
    refine ⟨u, rv, ?_⟩
    rcases S.par y (List.mem_of_getElem? hp) with k | k
    · exact .inl ⟨k, bindL_get ndP hp hu k⟩
    · obtain ⟨c, e⟩ := cell_has (n := s.heap.objs.size + 1) k
      refine .inr ⟨.inl k, c, e, ?_⟩
      have q := x.cell y c e
      rw [bindC_get ndP hp hu (by show scope.names.lookup y ≠ _; rw [k]; decide)] at q
      exact q
  · exact e0.hok.fresh (Nat.le_of_lt (x.above y c (PySem.mem_of_lookup h)))
  · unfold start
    show _ = N.length
    rw [List.length_append, List.length_map, List.length_replicate]
    omega
theorem fn_of {CX : CXT} {P : Program} {w : World} {K : PySem.W.Frag} {mg : Str → Option Value} {base : Heap} {k : Nat} {f : Addr} {name qual : Str} {params : Arguments} {body : List Stmt} {scope : Scope} {dV kV doc pm cdv ct oc : Value} {an od : Option Addr}
    {osl : Array (Option Value)} {N ps : List Str} {sp : Sp} (lk : K.lookup f = some ⟨oc, od, .func (PySem.W.fnOf name qual params body scope dV kV doc pm an cdv ct), osl⟩) (hcd : PySem.W.codeIn K cdv qual = true) (S : FnScope N ps scope)
    (len : ∀ vs H Q E, sp vs H Q E → vs.length = ps.length)
    (hbody : ∀ (A : Around) (outer : List Env) (s : Shared) (H : Hp) (vs : List V) (Q : VK) (E : XK), Room k (A.deeper (envOfC qual scope s.heap.objs.size f cdv)) → sp vs H Q E →
      ∃ t, PSs (cxOf CX P w K mg base N qual scope f cdv A outer s H E) body t ∧ t { nx := fun _ H' => Q .non H', rt := Q } (start N vs) H) :
    FnOk P w K mg base CX (k + 1) f (PySem.W.fnOf name qual params body scope dV kV doc pm an cdv ct) ps sp := by
  refine ⟨len, fun A outer s H args us vs Q E hr e0 hb r hsp => ?_⟩
  have hl := len _ _ _ _ hsp
  have KX : K.In s.heap := e0.mod.kin.keeps fun b o e => (e0.bs b o e).1
  have lim : s.heap.NoLimit := e0.mod.nolimit.keeps fun b o e => (e0.bs b o e).1
  have hkind : ∀ y ∈ ps.zip us, scope.names.lookup y.1 = some .local ∨ (scope.names.lookup y.1 = some .cell ∧ ((cellsFrom (s.heap.objs.size + 1) scope.names []).lookup y.1).isSome = true) := fun ⟨n, v⟩ hy => by
    rcases S.par n (List.of_mem_zip hy).1 with q | q
    · exact .inl q
    · exact .inr ⟨q, PySem.W.cellsFrom_some _ _ _ (.inl q)⟩
  refine codeAny_call_function hr.depth (KX _ _ lk) rfl S.co S.gen rfl (PySem.W.codeRec_of KX hcd) (hb _ _ _ _ ?_)
  refine wpAny_newFunctionEnv_cells S.kind hkind fun env he s1 x => ?_
  subst he
  refine ⟨lim.keeps x.toInCall.keep, codeAny_func ?_⟩
  obtain ⟨t, ht, hq⟩ := hbody A outer s H vs Q E (hr.deeper _) hsp
  have I : Inv (cxOf CX P w K mg base N qual scope f cdv A outer s H E) [] (start N vs) H s1 := inv_start S hr.hd e0 hl r x
  refine wpAny_mono (ht [] s1 (start N vs) H _ I hq) (fun fl s' hs => ?_) fun e s' hs => hs
  have fin : ∀ {σ' : St} {H' : Hp} {v : V} {u : Value}, Inv (cxOf CX P w K mg base N qual scope f cdv A outer s H E) [] σ' H' s' → RelV v u → Q v H' → CE outer P w H s Q u s' :=
    fun {σ' H' v u} J rv q => ⟨v, H', J.os, J.bare, J.base, J.hok, rv, q⟩
  cases fl with
  | ret u =>
    obtain ⟨v, σ', H', J, rv, q⟩ := hs
    exact fin J rv q
  | next =>
    obtain ⟨σ', H', J, q⟩ := hs
    exact fin (v := V.non) (u := Value.none) J rfl q
  | brk =>
    obtain ⟨_, _, _, q⟩ := hs
    exact False.elim q
  | cont =>
    obtain ⟨_, _, _, q⟩ := hs
    exact False.elim q
end L2
namespace L2
open PySem PySem.Spec PyProof.Rows
section
variable {X : Cx} {x : Str} {p pos : Pos} {e : Expr} {es : List Expr} {t : TA} {id T : String} {r : List V → Hp → VK → Prop}
def tCB (r : List V → Hp → VK → Prop) (t : TA) : TE := fun σ H Q => t σ H fun vs H1 => r vs H1 Q
theorem pe_callB (hc : CallR X (.builtin id) r) (hg : Gl X x) (hm : X.mg x = none) (hv : bootBuiltins x = some (.builtin id)) (ha : PA X (e :: es) t) (hn : x ≠ "__name__" := by decide) (hdb : (x == ("__debug__" : Str)) = false := by decide)
    (he : starEach (e :: es) X.env = (false, eval e X.env) :: starEach es X.env := by rfl) (hpl : (backTo pos (starEach es X.env)).any (·.1) = false := by rfl) : PE X (.Call (.Name x p) (e :: es) [] pos) (tCB r t) := by
  intro pins s σ H Q I h
  refine wpAny_Call_Name_kw (ld_blt I hg hm hv ?_ hn hdb)
  exact PyProof.Rows.callWith_builtin1 (thn (ha pos pins s σ H _ I h) fun us s1 ⟨vs, H1, I1, r1, q1⟩ => hc pins s1 σ H1 vs us Q I1 r1 q1) he hpl
theorem pe_callTy (hc : CallR X (.type T) r) (hg : Gl X x) (hm : X.mg x = none) (hv : bootBuiltins x = some (.type T)) (ha : PA X (e :: es) t) (hn : x ≠ "__name__" := by decide) (hdb : (x == ("__debug__" : Str)) = false := by decide)
    (he : starEach (e :: es) X.env = (false, eval e X.env) :: starEach es X.env := by rfl) (hpl : (backTo pos (starEach es X.env)).any (·.1) = false := by rfl) : PE X (.Call (.Name x p) (e :: es) [] pos) (tCB r t) := by
  intro pins s σ H Q I h
  refine wpAny_Call_Name_kw (ld_blt I hg hm hv ?_ hn hdb)
  exact PyProof.Rows.callWith_type1 (thn (ha pos pins s σ H _ I h) fun us s1 ⟨vs, H1, I1, r1, q1⟩ => hc pins s1 σ H1 vs us Q I1 r1 q1) he hpl
end
end L2
namespace HT
open PySem PyProof.Rows
section
open PySem.SeqAt
open PySem.AutoSeq1 (wpAny_loadPart')
open PySem.MeetsSeq PySem.MeetsSeq2 PySem.MeetsSeq3
end
section
variable {prog : Program} {w : World} {A : Around} {E : Value → Shared → Prop} {s : Shared}
def sIx (n d : Nat) : Option Int → Nat
  | none => d
  | some v => if v < 0 then (v + (n : Int)).toNat else min v.toNat n
theorem sIx_none (n d : Nat) : sIx n d none = d := rfl
theorem sIx_nat (n d k : Nat) : sIx n d (some (k : Int)) = min k n := by
  show (if (k : Int) < 0 then ((k : Int) + (n : Int)).toNat else min (k : Int).toNat n) = min k n
  rw [if_neg (by omega), Int.toNat_natCast]
end
end HT
namespace L2
open PySem PySem.Spec PyProof.Rows
abbrev TO := St → Hp → (Option Int → Hp → Prop) → Prop
def PO (X : Cx) (e : Option Expr) (t : TO) : Prop :=
  ∀ (pins : List (Addr × Obj)) (s : Shared) (σ : St) (H : Hp) (Q : Option Int → Hp → Prop), Inv X pins σ H s → t σ H Q →
    wpAny (model X.prog X.w) X.A (evalPart e X.env) (fun u s' => ∃ o H', Inv X pins σ H' s' ∧ IsPart u o ∧ Q o H') X.xe s
def tNoPart : TO := fun _ H Q => Q none H
def tPart (t : TE) : TO := fun σ H Q => t σ H fun x H1 => ∃ i, x = .int i ∧ Q (some i) H1
section
variable {X : Cx} {e : Expr} {te : TE} {lo hi : Option Expr} {tl th : TO} {pos p2 : Pos}
theorem po_none : PO X none tNoPart := by
  intro pins s σ H Q I h
  rw [evalPart_none]
  exact wpAny_pure ⟨none, H, I, .none, h⟩
theorem po_some (h : PE X e te) : PO X (some e) (tPart te) := by
  intro pins s σ H Q I hw
  rw [evalPart_some]
  refine thn (h pins s σ H _ I hw) fun u s1 ⟨x, H1, I1, r1, q1⟩ => ?_
  obtain ⟨i, rfl, q⟩ := q1
  obtain ⟨t, rfl⟩ := r1
  exact ⟨some i, H1, I1, .int i t, q⟩
def SlR (X : Cx) (r : V → Option Int → Option Int → Hp → VK → Prop) : Prop :=
  ∀ (pins : List (Addr × Obj)) (s : Shared) (σ : St) (H : Hp) (x : V) (v vl vu : Value) (lo hi : Option Int) (sl : Addr) (Q : VK), Inv X pins σ H s → RelV x v → s.heap.IsSliceOf sl vl vu .none → IsPart vl lo → IsPart vu hi → r x lo hi H Q →
    ∃ T id, typeLookup (.type T) "__getitem__" = pure (some (.builtin id)) ∧ s.TypeIs v T ∧ wpAny (model X.prog X.w) X.A (getItem v (.ref sl)) (EP X pins σ Q) X.xe s
def tSl (r : V → Option Int → Option Int → Hp → VK → Prop) (te : TE) (tl th : TO) : TE := fun σ H Q => te σ H fun x H1 => tl σ H1 fun l H2 => th σ H2 fun u H3 => r x l u H3 Q
theorem pe_slice {r : V → Option Int → Option Int → Hp → VK → Prop} (hr : SlR X r) (he : PE X e te) (hl : PO X lo tl) (hu : PO X hi th) : PE X (.Subscript e (.Slice lo hi none p2) pos) (tSl r te tl th) := by
  intro pins s σ H Q I h
  refine Subscript_ (thn (he pins s σ H _ I h) fun v s1 ⟨x, H1, I1, r1, q1⟩ => ?_)
  refine wpAny_Slice (thn (hl pins s1 σ H1 _ I1 q1) fun vl s2 ⟨l, H2, I2, pl, q2⟩ => thn (hu pins s2 σ H2 _ I2 q2) fun vu s3 ⟨u, H3, I3, pu, q3⟩ => ?_)
  rw [evalPart_none]
  refine wpAny_pure ?_
  have I4 : Inv X pins σ H3 { s3 with heap := s3.heap.push { cls := .type "slice", data := .fields #[vl, vu, .none] } } := I3.kept (t' := s3.toks) fun b ob q => Heap.get?_push_of_some _ q
  obtain ⟨T, id, hT, ht, hg⟩ := hr pins { s3 with heap := s3.heap.push { cls := .type "slice", data := .fields #[vl, vu, .none] } } σ H3 x v vl vu l u s3.heap.objs.size Q I4 r1 (Heap.IsSliceOf.new ..) pl pu q3
  show wpAny (model X.prog X.w) X.A (subscriptTail e (.Slice lo hi none p2) v (.ref s3.heap.objs.size)) (EP X pins σ Q) X.xe { s3 with heap := s3.heap.push { cls := .type "slice", data := .fields #[vl, vu, .none] } }
  exact tail_any (ops := [.ref s3.heap.objs.size, v]) ht hT hg (by with_unfolding_all rfl)
def cutV (xs : List V) (lo hi : Option Int) : List V := (xs.drop (HT.sIx xs.length 0 lo)).take (HT.sIx xs.length xs.length hi - HT.sIx xs.length 0 lo)
theorem cutV_length (xs : List V) (lo hi : Option Int) : (cutV xs lo hi).length ≤ xs.length := by
  unfold cutV
  rw [List.length_take, List.length_drop]
  omega
end
end L2
namespace L2
open PySem PySem.Spec PyProof.Rows
def ixN (n : Nat) (i : Int) : Option Nat := if 0 ≤ i then (if i < n then some i.toNat else none) else if -(n : Int) ≤ i then some (i + n).toNat else none
def atI {α : Type} (xs : List α) (i : Int) : Option α := (ixN xs.length i).bind fun j => xs[j]?
theorem ixN_seq {n : Nat} {i : Int} {j : Nat} (h : ixN n i = some j) : seqIndex? i n = some j ∧ j < n ∧ -(n : Int) ≤ i ∧ i < n := by
  unfold ixN at h
  by_cases h0 : 0 ≤ i
  · rw [if_pos h0] at h
    by_cases h1 : i < n
    · rw [if_pos h1] at h
      have e : i.toNat = j := Option.some.inj h
      exact ⟨by rw [seqIndex_of h0 h1, e], by omega, by omega, h1⟩
    · rw [if_neg h1] at h; cases h
  · rw [if_neg h0] at h
    by_cases h1 : -(n : Int) ≤ i
    · rw [if_pos h1] at h
      have e : (i + n).toNat = j := Option.some.inj h
      exact ⟨by rw [seqIndex_neg (by omega) h1, e], by omega, h1, by omega⟩
    · rw [if_neg h1] at h; cases h
theorem atI_get {α : Type} {xs : List α} {i : Int} {v : α} (h : atI xs i = some v) : ∃ j, seqIndex? i xs.length = some j ∧ xs[j]? = some v ∧ j < xs.length ∧ -(xs.length : Int) ≤ i ∧ i < xs.length := by
  unfold atI at h
  cases e : ixN xs.length i with
  | none => rw [e] at h; cases h
  | some j =>
    rw [e] at h
    obtain ⟨h1, h2, h3, h4⟩ := ixN_seq e
    exact ⟨j, h1, h, h2, h3, h4⟩
theorem atI_nat {α : Type} {xs : List α} {j : Nat} {v : α} (h : xs[j]? = some v) : atI xs (j : Int) = some v := by
  have hj : j < xs.length := (List.getElem?_eq_some_iff.mp h).1
  have e : ixN xs.length (j : Int) = some j := by
    unfold ixN
    rw [if_pos (by omega), if_pos (by omega)]; simp
  unfold atI; rw [e]; exact h
def PlainIx (b : Expr) : Prop := ∀ o i, subscripted b false o i = operate [o, i] (getItem o i)
def IxR (X : Cx) (r : R2) : Prop :=
  ∀ (value slice : Expr) (pins : List (Addr × Obj)) (s : Shared) (σ : St) (H : Hp) (x y : V) (v u : Value) (Q : VK), Inv X pins σ H s → RelV x v → RelV y u → r x y H Q →
    subscripted slice false v u = operate [v, u] (getItem v u) → wpAny (model X.prog X.w) X.A (subscriptTail value slice v u) (EP X pins σ Q) X.xe s
def MtR (X : Cx) (id : String) (r : V → List V → Hp → VK → Prop) : Prop :=
  ∀ (pins : List (Addr × Obj)) (s : Shared) (σ : St) (H : Hp) (x : V) (xs : List V) (v : Value) (us : List Value) (Q : VK), Inv X pins σ H s → RelV x v → Vals xs us → r x xs H Q →
    wpAny (model X.prog X.w) X.A (call (.builtin id) (v :: us)) (EP X pins σ Q) X.xe s
section
variable {X : Cx} {a b : Expr} {ta tb : TE} {pos : Pos}
theorem pe_ix {r : R2} (hr : IxR X r) (ha : PE X a ta) (hb : PE X b tb) (hs : PlainIx b) : PE X (.Subscript a b pos) (tOp r ta tb) := by
  intro pins s σ H Q I h
  exact Subscript_ (binT ha hb I h fun v u s2 x y H2 I2 rx ry q => hr a b pins s2 σ H2 x y v u Q I2 rx ry q (hs _ _))
def rIxL (K : PySem.W.Frag) : R2 := fun x y H Q => ∃ p xs i v, x = .ref p ∧ y = .int i ∧ SqL K H p xs ∧ atI xs i = some v ∧ Q v H
def rIxT (K : PySem.W.Frag) : R2 := fun x y H Q => ∃ p xs i v, x = .ref p ∧ y = .int i ∧ SqT K H p xs ∧ atI xs i = some v ∧ Q v H
def rIxS : R2 := fun x y H Q => ∃ z i c, x = .str z ∧ y = .int i ∧ z.length ≤ sizeLine ∧ atI z.cps.toList i = some c ∧ Q (.str ⟨#[c]⟩) H
theorem ix_list : IxR X (rIxL X.K) := by
  intro value slice pins s σ H x y v u Q I rx ry h hs
  obtain ⟨p, xs, i, z, rfl, rfl, hq, he, q⟩ := h
  cases rx
  obtain ⟨t, rfl⟩ := ry
  obtain ⟨its, r, pl, hz⟩ := I.list hq
  obtain ⟨j, h1, h2, h3, h4, h5⟩ := atI_get he
  obtain ⟨w, ew, rw'⟩ := r.get h2
  have hl := r.length
  have hn := line63
  have fin : EP X pins σ Q w s := ⟨z, H, I, rw', q⟩
  by_cases h0 : 0 ≤ i
  · have hj : i.toNat = j := by
      rw [seqIndex_of h0 h5] at h1
      exact Option.some.inj h1
    exact item_listR pl.isList h0 (by omega) (by rw [hj]; simpa using ew) fin hs
  · have hj : (i + (its.toArray.size : Int)).toNat = j := by
      rw [seqIndex_neg (by omega) h4] at h1
      rw [List.size_toArray, ← hl]
      exact Option.some.inj h1
    exact subscriptTail_builtinR (x := w) pl.isList.typeIs slot_list_getitem.lookup
      (wpAny_getItem_list_neg (Q := fun r s' => r = w ∧ EP X pins σ Q r s') pl.isList (by omega) (by rw [List.size_toArray] <;> omega) (by omega) (by rw [hj]; simpa using ew) ⟨rfl, fin⟩) hs
theorem ix_tup : IxR X (rIxT X.K) := by
  intro value slice pins s σ H x y v u Q I rx ry h hs
  obtain ⟨p, xs, i, z, rfl, rfl, hq, he, q⟩ := h
  cases rx
  obtain ⟨t, rfl⟩ := ry
  obtain ⟨its, r, pl, hz⟩ := I.tuple hq
  obtain ⟨j, h1, h2, h3, h4, h5⟩ := atI_get he
  obtain ⟨w, ew, rw'⟩ := r.get h2
  have hl := r.length
  have hn := line63
  have fin : EP X pins σ Q w s := ⟨z, H, I, rw', q⟩
  exact subscriptTail_builtinR (x := w) pl.typeIs slot_tuple_getitem.lookup
    (getItem_tuple (j := j) (Q := fun r s' => r = w ∧ EP X pins σ Q r s') pl (by omega) (by omega) (by rw [List.size_toArray, ← hl]; exact h1) (by simpa using ew) ⟨rfl, fin⟩) hs
theorem ix_str : IxR X rIxS := by
  intro value slice pins s σ H x y v u Q I rx ry h hs
  obtain ⟨z, i, c, rfl, rfl, hz, he, q⟩ := h
  obtain ⟨t, rfl⟩ := rx
  obtain ⟨t', rfl⟩ := ry
  obtain ⟨j, h1, h2, h3, h4, h5⟩ := atI_get he
  have hl : z.cps.toList.length = z.length := by simp [Str.length]
  rw [hl] at h1 h4 h5
  have hn := line63
  exact tail_any (typeIs_str s z t) slot_str_getitem.lookup (getItem_str (c := c) (by
    have e1 : decide (i < -(2 ^ 63 : Int)) = false := decide_eq_false (by omega)
    have e2 : decide (i ≥ 2 ^ 63) = false := decide_eq_false (by omega)
    rw [e1, e2, Bool.or_false]) (by rw [h1]; simpa using h2) ⟨.str ⟨#[c]⟩, H, I.tok _, ⟨_, rfl⟩, q⟩) hs
theorem Inv.lst {pins : List (Addr × Obj)} {σ : St} {H : Hp} {s : Shared} {p : Addr} {xs : List V} (I : Inv X pins σ H s) (h : H p = some (.lst xs)) :
    ∃ (its : List Value) (n : Nat), Vals xs its ∧ s.heap.get? p = some { cls := .type "list", data := .seq its.toArray n } ∧ xs.length ≤ sizeLine := by
  obtain ⟨z, its, n, r, e⟩ := I.hok p _ h
  exact ⟨its, n, r, e, z⟩
def rSetL : V → V → V → Hp → (Hp → Prop) → Prop := fun o i v H Q => ∃ p xs k j, o = .ref p ∧ i = .int k ∧ H p = some (.lst xs) ∧ ixN xs.length k = some j ∧ Q (upd H p (.lst (xs.set j v)))
theorem slice_bounds (lo hi : Option Int) (n : Nat) : (sliceBounds lo hi none n).1 = ((HT.sIx n 0 lo : Nat) : Int) ∧ (sliceBounds lo hi none n).2.1 = ((HT.sIx n n hi : Nat) : Int) ∧ (sliceBounds lo hi none n).2.2 = 1 := by
  refine ⟨?_, ?_, rfl⟩
  · cases lo with
    | none => simp [sliceBounds, HT.sIx]
    | some i =>
      simp only [sliceBounds, HT.sIx, Option.getD_none, show (1 : Int) > 0 by decide, if_true]
      by_cases h : i < 0
      · simp only [h, if_true] <;> omega
      · simp only [h, if_false] <;> omega
  · cases hi with
    | none => simp [sliceBounds, HT.sIx]
    | some i =>
      simp only [sliceBounds, HT.sIx, Option.getD_none, show (1 : Int) > 0 by decide, if_true]
      by_cases h : i < 0
      · simp only [h, if_true] <;> omega
      · simp only [h, if_false] <;> omega
theorem slicePick_cut (its : List Value) (lo hi : Option Int) : slicePick its.toArray lo hi none = ((its.drop (HT.sIx its.length 0 lo)).take (HT.sIx its.length its.length hi - HT.sIx its.length 0 lo)).toArray := by
  obtain ⟨h1, h2, h3⟩ := slice_bounds lo hi its.toArray.size
  unfold slicePick
  rw [h1, h2, h3]
  simp only [sliceRange_one, pick_run, List.size_toArray] <;> rfl
def rSlL (K : PySem.W.Frag) : V → Option Int → Option Int → Hp → VK → Prop := fun x lo hi H Q => ∃ a xs, x = .ref a ∧ SqL K H a xs ∧ ∀ p, H p = none → Q (.ref p) (upd H p (.lst (cutV xs lo hi)))
theorem sl_list : SlR X (rSlL X.K) := by
  intro pins s σ H x v vl vu lo hi sl Q I rx hs pl pu h
  obtain ⟨a, xs, rfl, hx, q⟩ := h
  cases rx
  obtain ⟨its, r, ht, hz⟩ := I.list hx
  have hlen := r.length
  refine ⟨"list", _, slot_list_getitem.lookup, ht.isList.typeIs, ?_⟩
  refine wpAny_getItem_list_slice ht.isList hs pl pu .none (by simp) ?_ (by rw [List.size_toArray] <;> omega)
  rw [slicePick_cut, ← hlen]
  refine ⟨.ref s.heap.objs.size, _, I.laid (t' := s.toks) (o := .lst (cutV xs lo hi)) (fun b ob q => Heap.get?_push_of_some _ q) (Nat.le_refl _) ?_, rfl, q _ (I.hok.fresh (Nat.le_refl _))⟩
  exact ⟨Nat.le_trans (cutV_length xs lo hi) hz, _, 0, (r.drop (HT.sIx xs.length 0 lo)).take (HT.sIx xs.length xs.length hi - HT.sIx xs.length 0 lo), Heap.get?_push_size _ rfl⟩
theorem call_len_seq : CallR X (.builtin "len") (fun xs H Q => ∃ p ys, xs = [.ref p] ∧ (SqL X.K H p ys ∨ SqT X.K H p ys) ∧ Q (.int ys.length) H) := by
  intro pins s σ H xs us Q I r h
  obtain ⟨p, ys, rfl, hq, q⟩ := h
  obtain ⟨u, rfl, rx⟩ := vals1 r
  cases rx
  have hn := line63
  rcases hq with hq | hq
  · obtain ⟨its, r', pl, hz⟩ := I.list hq
    have hlen := r'.length
    exact Calls.call_len_list pl.isList (by simp only [List.size_toArray] <;> omega) ⟨.int ys.length, H, I.tok _, ⟨s.toks + 1, by rw [List.size_toArray, hlen]⟩, q⟩
  · obtain ⟨its, r', pl, hz⟩ := I.tuple hq
    have hlen := r'.length
    exact len_tuple pl (by simp only [List.size_toArray] <;> omega) ⟨.int ys.length, H, I.tok _, ⟨s.toks + 1, by rw [List.size_toArray, hlen]⟩, q⟩
theorem call_len_str : CallR X (.builtin "len") (fun xs H Q => ∃ z, xs = [.str z] ∧ z.length ≤ sizeLine ∧ Q (.int z.length) H) := by
  intro pins s σ H xs us Q I r h
  obtain ⟨z, rfl, hz, q⟩ := h
  obtain ⟨u, rfl, t, rfl⟩ := vals1 r
  have hn := line63
  exact len_str (by omega) ⟨.int z.length, H, I.tok _, ⟨_, rfl⟩, q⟩
theorem call_tuple_of : CallR X (.type "tuple") (fun xs H Q => ∃ p ys, xs = [.ref p] ∧ ((SqL X.K H p ys ∧ ∀ l, H l = none → Q (.ref l) (upd H l (.tup ys))) ∨ (SqT X.K H p ys ∧ Q (.ref p) H))) := by
  intro pins s σ H xs us Q I r h
  obtain ⟨p, ys, rfl, h⟩ := h
  obtain ⟨u, rfl, rx⟩ := vals1 r
  cases rx
  rcases h with ⟨hq, q⟩ | ⟨hq, q⟩
  · obtain ⟨its, r', pl, hz⟩ := I.list hq
    have hlen := r'.length
    refine call_tuple_list pl.isList (fun h' kp => ?_) (by simp only [List.size_toArray] <;> omega)
    have I1 : Inv X pins σ H { s with heap := h' } := I.kept (t' := s.toks) kp
    have I2 : Inv X pins σ (upd H h'.objs.size (.tup ys)) { s with heap := h'.push { cls := .type "tuple", data := .seq its.toArray } } :=
      I1.laid (t' := s.toks) (fun b o e => Heap.get?_push_of_some _ e) (Nat.le_refl _) (show ObjOk X.prog X.w _ _ _ (.tup ys) from ⟨hz, its, r', IsTup.new _ _⟩)
    exact ⟨.ref h'.objs.size, _, I2, rfl, q _ (I1.hok.fresh (Nat.le_refl _))⟩
  · obtain ⟨its, r', pl, hz⟩ := I.tuple hq
    exact call_tuple_same pl ⟨.ref p, H, I, rfl, q⟩
def tyV (K : PySem.W.Frag) (T : String) (x : V) (H : Hp) : Prop := match x with
  | .str _ => T = "str"
  | .int _ => T = "int"
  | .ref p => (T = "list" ∧ ∃ xs, SqL K H p xs) ∨ (T = "tuple" ∧ ∃ o, K.lookup p = some o ∧ o.cls = .type "tuple" ∧ o.dict = none) ∨
      (T = "dict" ∧ ((∃ kvs, H p = some (.dK kvs)) ∨ ∃ kvs, H p = some (.dT kvs))) ∨ (T = "set" ∧ ∃ S n, H p = some (.set S n))
  | _ => False
theorem tyV_is {pins : List (Addr × Obj)} {σ : St} {H : Hp} {s : Shared} {T : String} {x : V} {v : Value} (I : Inv X pins σ H s) (r : RelV x v) (ty : tyV X.K T x H) :
    s.TypeIs v T ∧ ∀ a, v = .ref a → ∃ ob, s.heap.get? a = some ob ∧ ob.dict = none := by
  cases x with
  | str z =>
    obtain ⟨t, rfl⟩ := r
    cases (show T = "str" from ty)
    exact ⟨typeIs_str s z t, fun _ e => nomatch e⟩
  | int i =>
    obtain ⟨t, rfl⟩ := r
    cases (show T = "int" from ty)
    exact ⟨typeIs_int s i t, fun _ e => nomatch e⟩
  | ref p =>
    cases r
    rcases ty with ⟨rfl, xs, hq⟩ | ⟨rfl, o, hk, hc, hd⟩ | ⟨rfl, hk⟩ | ⟨rfl, S, n, hk⟩
    · obtain ⟨its, _, pl, _⟩ := I.list hq
      refine ⟨pl.isList.typeIs, fun a e => ?_⟩
      cases e
      obtain ⟨o, n, e, c, hd, _⟩ := pl
      exact ⟨o, e, hd⟩
    · refine ⟨⟨o, I.kIn p o hk, hc⟩, fun a e => ?_⟩
      cases e
      exact ⟨o, I.kIn _ o hk, hd⟩
    · have z : ∃ o, s.heap.get? p = some o ∧ o.ExactDict := by
        rcases hk with ⟨kvs, hk⟩ | ⟨kvs, hk⟩
        · obtain ⟨_, _, _, _, o, _, _, e, ex, _⟩ := I.hok p _ hk
          exact ⟨o, e, ex⟩
        · obtain ⟨_, _, _, _, o, _, _, e, ex, _⟩ := I.hok p _ hk
          exact ⟨o, e, ex⟩
      obtain ⟨o, e, ex⟩ := z
      refine ⟨⟨o, e, ex.1⟩, fun a e2 => ?_⟩
      cases e2
      exact ⟨o, e, ex.2.1⟩
    · obtain ⟨o, _, _, _, e, ex, _⟩ := I.hok p _ hk
      refine ⟨⟨o, e, ex.1⟩, fun a e2 => ?_⟩
      cases e2
      exact ⟨o, e, ex.2.1⟩
  | _ => exact False.elim ty
def tBM0 (K : PySem.W.Frag) (T : String) (r : V → List V → Hp → VK → Prop) (to : TE) : TE := fun σ H Q => to σ H fun x H1 => tyV K T x H1 ∧ r x [] H1 Q
def tBM (K : PySem.W.Frag) (T : String) (r : V → List V → Hp → VK → Prop) (to : TE) (t : TA) : TE := fun σ H Q => to σ H fun x H1 => tyV K T x H1 ∧ t σ H1 fun xs H2 => r x xs H2 Q
variable {o e : Expr} {es : List Expr} {to : TE} {t : TA} {name : Str} {apos cpos : Pos} {T id : String} {r : V → List V → Hp → VK → Prop}
theorem pe_bm0 (pa : PlainAttrs T) (slot : Slot T name id) (hty : typeOf (.builtin id) = pure (.type "method_descriptor")) (hm : MtR X id r) (ho : PE X o to)
    (hbase : attributeBase o name X.env (eval o X.env) = eval o X.env := by rfl) (hline : (apos.endLine == cpos.line) = true := by rfl) : PE X (.Call (.Attribute o name apos) [] [] cpos) (tBM0 X.K T r to) := by
  intro pins s σ H Q I h
  refine wpAny_Call_method0_late hbase hline (thn (ho pins s σ H _ I h) fun v s1 ⟨x, H1, I1, r1, ty, q1⟩ => ?_)
  obtain ⟨h1, h2⟩ := tyV_is I1 r1 ty
  exact ⟨T, id, pa, slot, hty, h1, h2, Calls.callWith_builtin rfl (PySem.evalArgs_none (hm pins s1 σ H1 x [] v [] Q I1 r1 .nil q1))⟩
theorem pe_bm (pa : PlainAttrs T) (slot : Slot T name id) (hty : typeOf (.builtin id) = pure (.type "method_descriptor")) (hm : MtR X id r) (ho : PE X o to) (ha : PA X (e :: es) t)
    (hbase : attributeBase o name X.env (eval o X.env) = eval o X.env := by rfl)
    (hfew : ((backTo cpos (starEach (e :: es) X.env)).all (fun x => !x.1) && (backToKw cpos (keywordEach [] X.env)).all (fun x => x.1.isSome)
      && decide ((e :: es).length + ([] : List Keyword).length + (if ([] : List Keyword).isEmpty then 0 else 1) < 30)) = true := by rfl)
    (hline : (apos.endLine == cpos.line) = true := by rfl) (hs : starEach (e :: es) X.env = (false, eval e X.env) :: starEach es X.env := by rfl) (hplain : (backTo cpos (starEach es X.env)).any (·.1) = false := by rfl) :
    PE X (.Call (.Attribute o name apos) (e :: es) [] cpos) (tBM X.K T r to t) := by
  intro pins s σ H Q I h
  refine wpAny_Call_method_late hbase hfew hline rfl (thn (ho pins s σ H _ I h) fun v s1 ⟨x, H1, I1, r1, ty, q1⟩ => ?_)
  obtain ⟨h1, h2⟩ := tyV_is I1 r1 ty
  refine ⟨T, id, pa, slot, hty, h1, h2, ?_⟩
  have hA := ha cpos pins s1 σ H1 _ I1 q1
  rw [hs] at hA ⊢
  refine Calls.callWith_builtin (by show (false || (backTo cpos (starEach es X.env)).any (·.1)) = false; rw [hplain] <;> rfl) (Calls.evalArgs_plain ?_)
  exact thn hA fun us s2 ⟨vs, H2, I2, r2, q2⟩ => hm pins s2 σ H2 x vs v us Q I2 r1 r2 q2
end
end L2
namespace L2
open PySem PySem.Spec PyProof.Rows
def MtM (X : Cx) (id : String) (r : V → List V → Hp → VK → Prop) : Prop :=
  ∀ (pins : List (Addr × Obj)) (s : Shared) (σ : St) (H : Hp) (x : V) (xs : List V) (v : Value) (us : List Value) (Q : VK), Inv X pins σ H s → RelV x v → Vals xs us → r x xs H Q →
    wpAny (model X.prog X.w) X.A (call (.builtin id) (v :: us)) (EP X pins σ Q) X.xe s
theorem Vals.one : ∀ {x : V} {us : List Value}, Vals [x] us → ∃ u, us = [u] ∧ RelV x u
  | _, _, .cons r .nil => ⟨_, rfl, r⟩
theorem Vals.two : ∀ {x y : V} {us : List Value}, Vals [x, y] us → ∃ u v, us = [u, v] ∧ RelV x u ∧ RelV y v
  | _, _, _, .cons r (.cons q .nil) => ⟨_, _, rfl, r, q⟩
theorem Vals.zero : ∀ {us : List Value}, Vals [] us → us = []
  | _, .nil => rfl
theorem Vals.dropLast {xs : List V} {us : List Value} (h : Vals xs us) : Vals xs.dropLast us.dropLast := by
  induction h with
  | nil => exact .nil
  | cons r t ih =>
    cases t with
    | nil => exact .nil
    | cons q t' => exact .cons r ih
section
variable {X : Cx} {pins : List (Addr × Obj)} {σ : St} {H : Hp} {s : Shared} {l b : Addr} {xs ys zs : List V}
theorem Inv.lset {its its' : List Value} {n : Nat} {f : Array Value → Array Value} {t' : Nat} (I : Inv X pins σ H s) (hH : H l = some (.lst xs))
    (e : s.heap.get? l = some { cls := .type "list", data := .seq its.toArray n }) (hf : f its.toArray = its'.toArray) (hv : Vals ys its') (hz : ys.length ≤ sizeLine) :
    Inv X pins σ (upd H l (.lst ys)) { s with heap := s.heap.update l (Obj.mapSeq f), toks := t' } := by
  have q := PySem.IsL.update e f
  rw [hf] at q
  refine I.write (x := l) (e := l) (by rw [hH]; exact trivial) (.inl rfl) (fun b' u hb hu => (Heap.get?_update_other s.heap (Obj.mapSeq f) (Ne.symm hb)).trans hu) ⟨_, q⟩ ?_
  exact ⟨hz, its', _, hv, q⟩
theorem Inv.lnew {its : List Value} {t' : Nat} (I : Inv X pins σ H s) (hv : Vals ys its) (hz : ys.length ≤ sizeLine) :
    Inv X pins σ (upd H s.heap.objs.size (.lst ys)) { s with heap := s.heap.push { cls := .type "list", data := .seq its.toArray }, toks := t' } :=
  I.laid (fun _ _ q => Heap.get?_push_of_some _ q) (Nat.le_refl _) ⟨hz, its, 0, hv, Heap.get?_push_size _ rfl⟩
theorem Inv.fresh (I : Inv X pins σ H s) : H s.heap.objs.size = none := I.hok.fresh (Nat.le_refl _)
theorem Inv.lstM (I : Inv X pins σ H s) (hH : H l = some (.lst xs)) : xs.length ≤ sizeLine ∧ ∃ (its : List Value) (n : Nat), Vals xs its ∧ xs.length = its.length ∧ s.heap.get? l = some { cls := .type "list", data := .seq its.toArray n } := by
  obtain ⟨z, its, n, r, e⟩ := I.hok l _ hH
  exact ⟨z, its, n, r, r.length, e⟩
theorem notLongL {n : Nat} (h : n ≤ sizeLine) : Builtin.List.listTooLong n = false := by
  unfold Builtin.List.listTooLong
  exact decide_eq_false (by omega)
end
section
variable {X : Cx}
def rAppend : V → List V → Hp → VK → Prop := fun x vs H Q => ∃ l xs y, x = .ref l ∧ vs = [y] ∧ H l = some (.lst xs) ∧ xs.length < sizeLine ∧ Q .non (upd H l (.lst (xs ++ [y])))
theorem mt_append : MtM X "list.append" rAppend := by
  intro pins s σ H x vs v us Q I rx rv h
  obtain ⟨l, xs, y, rfl, rfl, hH, hz, q⟩ := h
  cases rx
  obtain ⟨u, rfl, ru⟩ := rv.one
  obtain ⟨z, its, n, r, hl, e⟩ := I.lstM hH
  refine call_meets F.slot_list_append ⟨_, e, rfl⟩ F.entry_list_append (F.args_list_append_2 _ _) (PySem.list_append l its.toArray n u (by rw [List.size_toArray]; omega)) ⟨e, ?_⟩
  refine ⟨.non, _, I.lset (its' := its ++ [u]) hH e (by simp) (r.append (.cons ru .nil)) ?_, rfl, q⟩
  rw [List.length_append, List.length_singleton]
  omega
def rExtend : V → List V → Hp → VK → Prop := fun x vs H Q => ∃ l b xs zs, x = .ref l ∧ vs = [.ref b] ∧ H l = some (.lst xs) ∧ H b = some (.lst zs) ∧ xs.length + zs.length ≤ sizeLine ∧ Q .non (upd H l (.lst (xs ++ zs)))
theorem mt_extend : MtM X "list.extend" rExtend := by
  intro pins s σ H x vs v us Q I rx rv h
  obtain ⟨l, b, xs, zs, rfl, rfl, hH, hB, hz, q⟩ := h
  cases rx
  obtain ⟨u, rfl, ru⟩ := rv.one
  cases ru
  obtain ⟨z, its, n, r, hl, e⟩ := I.lstM hH
  obtain ⟨z2, its2, n2, r2, hl2, e2⟩ := I.lstM hB
  have hsz : its.toArray.size + its2.toArray.size ≤ sizeLine := by rw [List.size_toArray, List.size_toArray]; omega
  have hlong : ¬ (!its.toArray.isEmpty && Builtin.List.listTooLong (its.toArray.size + its2.toArray.size)) = true := by
    rw [notLongL hsz, Bool.and_false]
    exact Bool.false_ne_true
  refine call_meets F.slot_list_extend ⟨_, e, rfl⟩ F.entry_list_extend (F.args_list_extend_2 _ _)
    (AutoSeq1.list_extend_list_list_0 l its.toArray n b its2.toArray n2 hlong (by rw [List.size_toArray]; omega) (by omega)) ⟨e, e2, ?_⟩
  refine ⟨.non, _, I.lset (its' := its ++ its2) hH e (by simp) (r.append r2) ?_, rfl, q⟩
  rw [List.length_append]
  omega
def rCat : R2 := fun x y H Q => ∃ l b xs zs, x = .ref l ∧ y = .ref b ∧ H l = some (.lst xs) ∧ H b = some (.lst zs) ∧ xs.length + zs.length ≤ sizeLine ∧ ∀ p, H p = none → Q (.ref p) (upd H p (.lst (xs ++ zs)))
theorem op_cat : OpR X (binaryOp .Add) rCat := by
  intro pins s σ H x y v u Q I rx ry h
  obtain ⟨l, b, xs, zs, rfl, rfl, hH, hB, hz, q⟩ := h
  cases rx
  cases ry
  obtain ⟨z, its, n, r, hl, e⟩ := I.lstM hH
  obtain ⟨z2, its2, n2, r2, hl2, e2⟩ := I.lstM hB
  refine PySem.P.add_list e e2 ?_ (by rw [List.size_toArray, List.size_toArray]; omega)
  have ea : its.toArray ++ its2.toArray = (its ++ its2).toArray := by simp
  rw [ea]
  exact ⟨.ref _, _, I.lnew (t' := s.toks) (r.append r2) (by rw [List.length_append]; omega), rfl, q _ I.fresh⟩
end
section
variable {prog : Program} {w : World} {A : Around} {E : Value → Shared → Prop} {s : Shared}
set_option maxRecDepth 100000 in
end
section
variable {X : Cx}
end
end L2
namespace Att
open PySem PySem.W PySem.Calls PyProof.Rows
theorem ints_of_wellAll {P : Params} {h : Heap} : ∀ (ns : List Int) (vs : List Value), WellAll P h vs (ns.map WData.int) → IntsAre vs ns := by
  intro ns
  induction ns with
  | nil =>
    intro vs w
    rw [List.map_nil] at w
    cases w
    exact .nil
  | cons n ns ih =>
    intro vs w
    rw [List.map_cons] at w
    cases w with
    | cons a b =>
      cases a
      exact .cons _ _ (ih _ b)
theorem script_of {l : OpenLaw} {n : Nat} (hn : l.most = some n) {P : Params} {h : Heap} {args : List WData} {vals : List Value}
    (hpre : l.row.toRowW.claim.pre args = true) (hwl : WellAll P h vals args) :
    ∃ a vs ns, vals = [Value.ref a] ∧ args = [WData.list (ns.map WData.int)] ∧ h.get? a = some { cls := .type "list", data := .seq vs.toArray } ∧ IntsAre vs ns ∧ ns.length ≤ n := by
  have hsh : WShape.hasAll [] args [.list .int] = true := (pre_splitW hpre).1
  have hc : l.pre.holds [] { args := args } = true := (pre_splitW hpre).2
  obtain ⟨d, r, rfl, h1, h2⟩ := hasAllW_cons hsh
  obtain rfl := hasAllW_nil h2
  obtain ⟨xs, rfl, h3⟩ := hasW_list h1
  obtain ⟨ns, rfl⟩ := items_int h3
  have hlen : ns.length ≤ n := by
    unfold OpenLaw.pre at hc
    have h4 : (WTm.not (.lt (.lit (.int (n : Int))) (.len (.arg 0)))).holds [] { args := [.list (ns.map .int)] } = true := by
      have h4 := (holds_andW hc).1
      rw [hn] at h4
      exact h4
    have h5 := condW_of h4 (w_not (w_lt w_lit (w_len_list (w_arg rfl))))
    rw [List.length_map] at h5
    refine Nat.le_of_not_lt fun q => ?_
    have q' : (n : Int) < ((ns.length : Nat) : Int) := by omega
    first
      | (rw [decide_eq_true q'] at h5; exact absurd h5 (by decide))
      | (simp at h5; omega)
  cases hwl with
  | cons w1 w2 =>
    cases w2
    cases w1 with
    | list ho hall => exact ⟨_, _, ns, rfl, rfl, ho, ints_of_wellAll ns _ hall, hlen⟩
theorem post_true (l : OpenLaw) (args : List WData) : l.row.toRowW.claim.post args (.bool true) args = true :=
  postW_of (r := l.row.toRowW) (X := (true == true))
    (show WShape.has [] (.bool true) .bool = true by first | rfl | decide | simp [WShape.has, WShape.arms, WShape.armsAll])
    (show (WTm.eq .res (.lit (.bool true))).value [] { args := args, res := some (.bool true), after := args } = some (.bool (true == true)) from w_eq_bool (w_res rfl) w_lit) rfl
theorem attach_call {l : OpenLaw} {n : Nat} {q : Program} {loose : List Str} {XP : (Str → Option Value) → Heap → Prop} {YP : World → Heap → Prop} {d : DefRec}
    (hn : l.most = some n) (hdf : d.params.defaults = [])
    (call : ∀ (w : World) (s₀ s₁ : Shared) (mg mb : Str → Option Value) (fa : Addr) (o : Obj) (pm cd doc : Value) (a : Addr) (vs : List Value) (ns : List Int),
      Ground q loose [] XP w s₀ mg mb s₁.heap → YP w s₁.heap →
      s₁.heap.get? fa = some o → o.data = .func (docDef d.name d.params d.body d.scope pm cd doc) → s₁.heap.CodeRec cd d.name → mg d.name = some (.ref fa) →
      s₁.heap.get? a = some { cls := .type "list", data := .seq vs.toArray } → IntsAre vs ns → ns.length ≤ n → s₁.gens = #[] →
      codeAny (model l.prog w) callerA (.call (.ref fa) ⟨[.ref a], []⟩) (fun r s' => r = .ok (.ret (.bool true)) ∧ OldK s₁.heap s'.heap ∧ s'.os = s₁.os ∧ AllBare s'.gens) s₁) :
    WalkO q loose XP YP l.row.toRowW d [] (fun f vs => PySem.call f vs) := by
  intro w s₀ s₁ mg mb G Y fa o pm cd doc dV kV ho hd hcd hD hmg hg args vals as hpre hlay hrd hwl hlo
  obtain rfl : dV = .none := Dflts.none hD hdf
  obtain rfl : kV = .none := Dflts.noKw hD
  obtain ⟨a, vs, ns, rfl, rfl, hobj, hints, hlen⟩ := script_of hn hpre hwl
  refine enter_call (codeAny_mono (call w s₀ s₁ mg mb fa o pm cd doc a vs ns G Y ho (fd_plain hd) hcd hmg hobj hints hlen hg) fun r s' hq => ?_)
  obtain ⟨rfl, h2, h3, h4⟩ := hq
  exact ⟨.inl ⟨.bool true, .bool true, [], rfl, fun _ => rfl, .bool true, post_true l _, fun _ => ⟨List.Pairwise.nil, fun _ hm => (nomatch hm)⟩⟩, h2, h3, h4⟩
section
variable {prog : Program} {w : World} {A : Around} {E : Value → Shared → Prop} {s : Shared} {K : Frag}
end
end Att
namespace L2
open PySem PySem.Spec PyProof.Rows
theorem vals_ints : ∀ {vs : List Value} {ns : List Int}, IntsAre vs ns → Vals (ns.map V.int) vs
  | _, _, .nil => .nil
  | _, _, .cons n t h => .cons ⟨t, rfl⟩ (vals_ints h)
def Only (H : Hp) : Prop := ∀ b, H b = none ∨ ∃ o xs, H b = some (.frz o (.lst xs))
theorem law_call {P : Program} {w : World} {K : PySem.W.Frag} {mg mb : Str → Option Value} {CX : CXT} {k : Nat} {fa a : Addr} {fd : FuncData} {x : Str} {sp : Sp} {s₁ : Shared} {vs : List Value} {ns : List Int}
    (KX : K.In s₁.heap) (hns : s₁.heap.Ns mainGlobals mg) (hb : s₁.heap.Ns builtinsNs mb) (hbb : ∀ x : Str, x ≠ "__name__" → mb x = bootBuiltins x) (hlim : s₁.heap.NoLimit) (hg : s₁.gens = #[])
    (ha : s₁.heap.get? a = some { cls := .type "list", data := .seq vs.toArray }) (hi : IntsAre vs ns) (hl : ns.length ≤ sizeLine) (hr : Room k callerA)
    (F : ∀ base : Heap, K.In base → base.Ns mainGlobals mg → FnOk P w K mg base CX k fa fd [x] sp) (hbind : ∀ (s : Shared) (u : Value), BindsTo s fd ⟨[u], []⟩ [(x, u)])
    (hsp : ∀ H : Hp, Only H → SqL K H a (ns.map V.int) → sp [.ref a] H (fun v _ => v = .bl true) fun _ _ _ => False)
    (hCX : ∀ H e s', CX [] H s₁ (fun _ _ _ => False) e s' → False) :
    codeAny (model P w) callerA (.call (.ref fa) ⟨[.ref a], []⟩) (fun r s' => r = .ok (.ret (.bool true)) ∧ OldK s₁.heap s'.heap ∧ s'.os = s₁.os ∧ AllBare s'.gens) s₁ := by
  have rv := vals_ints hi
  have lenV := hi.length
  have core : ∀ H : Hp, Only H → SqL K H a (ns.map V.int) → HOk P w H s₁.heap → (∀ b, H b ≠ none → b = a) → (H a ≠ none → K.lookup a = none) →
      codeAny (model P w) callerA (.call (.ref fa) ⟨[.ref a], []⟩) (fun r s' => r = .ok (.ret (.bool true)) ∧ OldK s₁.heap s'.heap ∧ s'.os = s₁.os ∧ AllBare s'.gens) s₁ := by
    intro H hO hS hok hA hK
    have base_of : ∀ {b : Addr} {o : Obj}, s₁.heap.get? b = some o → H b = none → (hidT s₁.heap H).get? b = some o := fun e n => hidT_get e n
    have noA : ∀ {b : Addr} {o : Obj} {es : Array DictEntry} {ep : Nat}, s₁.heap.get? b = some o → o.data = .dict es ep → H b = none := fun {b o es ep} e d => by
      cases q : H b with
      | none => rfl
      | some u =>
        have e' : b = a := hA b (by rw [q]; simp)
        subst e'
        rw [ha] at e; cases e
        have d' : Data.seq vs.toArray _ = Data.dict es ep := d
        cases d'
    have nsK : ∀ {b : Addr} {m : Str → Option Value}, s₁.heap.Ns b m → (hidT s₁.heap H).Ns b m := fun {b m} ⟨o, es, ep, e, d, r⟩ => ⟨o, es, ep, base_of e (noA e d), d, r⟩
    have hKb : K.In (hidT s₁.heap H) := fun b o e => base_of (KX b o e) (by
      cases q : H b with
      | none => rfl
      | some u =>
        have e' : b = a := hA b (by rw [q]; simp)
        subst e'
        rw [hK (by rw [q]; simp)] at e; cases e)
    have hM : Mod K mg (hidT s₁.heap H) := ⟨hKb, nsK hns, ⟨mb, nsK hb, hbb⟩, let ⟨mc, h1, h2⟩ := hlim; ⟨mc, nsK h1, h2⟩⟩
    have e0 : Env0 P w K mg (hidT s₁.heap H) callerA [] s₁ H := ⟨rfl, hM, fun b o e => of_hidT e, Nat.le_of_eq (hidT_size _ _), trivial, fun b hb => absurd (show b ∈ ([] : List Addr) from hb) (by simp), hok, .of_eq hg⟩
    refine codeAny_mono ((F _ hKb (nsK hns)).run callerA [] s₁ H ⟨[.ref a], []⟩ [.ref a] [.ref a] _ _ hr e0 (hbind s₁ (.ref a)) (.cons rfl .nil) (hsp H hO hS)) fun r s' h => ?_
    cases r with
    | error e => exact (hCX H e s' h).elim
    | ok fl =>
      cases fl with
      | next => exact False.elim h
      | brk => exact False.elim h
      | cont => exact False.elim h
      | ret u =>
        obtain ⟨v, H', os, bare, un, hok', r', q⟩ := h
        have q' : v = .bl true := q
        subst q'
        obtain rfl : u = Value.bool true := r'
        refine ⟨rfl, OldK.of_keep fun b o e => ?_, os, bare⟩
        cases q : H b with
        | none => exact un.keep b o e q (by intro z; exact absurd (show b ∈ ([] : List Addr) from z) (by simp)) (by simp)
        | some u =>
          rcases hO b with z | ⟨ob, xs, z⟩
          · rw [q] at z; cases z
          · have z2 := un.frzs b ob _ z
            obtain ⟨e1, _⟩ := hok b _ z
            obtain ⟨e2, _⟩ := hok' b _ z2
            rw [e] at e1; cases e1
            exact e2
  cases hk : K.lookup a with
  | some o =>
    have e := KX a o hk
    rw [ha] at e
    cases e
    refine core (fun _ => none) (fun _ => .inl rfl) (.inr ⟨_, vs.toArray, _, hk, rfl, rfl, rfl, by rw [List.size_toArray, lenV]; exact hl, by simpa using rv⟩) (fun b u z => by have z' : (none : Option HO) = some u := z; cases z') (fun b z => absurd rfl z) fun z => absurd rfl z
  | none =>
    refine core (fun b => if b = a then some (.frz { cls := .type "list", data := .seq vs.toArray } (.lst (ns.map V.int))) else none) (fun b => ?_) (.inl (.inr ⟨{ cls := .type "list", data := .seq vs.toArray }, if_pos rfl⟩)) (fun b u z => ?_) (fun b z => ?_) fun _ => hk
    · by_cases hb : b = a
      · exact .inr ⟨_, _, if_pos hb⟩
      · exact .inl (if_neg hb)
    · by_cases hb : b = a
      · have z' := (if_pos hb).symm.trans z
        cases z'
        subst hb
        exact ⟨ha, by rw [List.length_map]; exact hl, vs, _, rv, ha⟩
      · have z' := (if_neg hb).symm.trans z
        cases z'
    · by_cases hb : b = a
      · exact hb
      · exact absurd (if_neg hb) z
end L2
namespace L2
open PySem PySem.Spec PyProof.Rows
abbrev KOf {K : PySem.W.Frag} {h : Heap} (_ : K.In h) : PySem.W.Frag := K
theorem walk_of {l : PySem.W.OpenLaw} {n k : Nat} {q : Program} {loose : List Str} {XP : (Str → Option Value) → Heap → Prop} {YP : World → Heap → Prop} {d : DefRec} {K : Params → PySem.W.Frag} {CX : World → CXT} {sp : World → Sp} {x : Str}
    (hn : l.most = some n) (hn2 : n ≤ sizeLine) (hdf : d.params.defaults = []) (hr : Room k callerA)
    (hY : ∀ (w : World) (h : Heap), YP w h → (K w.params).In h)
    (F : ∀ (w : World) (mg : Str → Option Value) (fa : Addr) (h : Heap), (K w.params).In h → h.Ns mainGlobals mg → mg d.name = some (.ref fa) →
      ∃ fd : FuncData, (∀ (s : Shared) (u : Value), BindsTo s fd ⟨[u], []⟩ [(x, u)]) ∧
        ∀ base : Heap, (K w.params).In base → base.Ns mainGlobals mg → FnOk l.prog w (K w.params) mg base (CX w) k fa fd [x] (sp w))
    (hsp : ∀ (w : World) (H : Hp) (a : Addr) (ns : List Int), ns.length ≤ n → Only H → SqL (K w.params) H a (ns.map V.int) → sp w [.ref a] H (fun v _ => v = .bl true) fun _ _ _ => False)
    (hCX : ∀ (w : World) (H : Hp) (s : Shared) (e : Value) (s' : Shared), CX w [] H s (fun _ _ _ => False) e s' → False) :
    PySem.W.WalkO q loose XP YP l.row.toRowW d [] (fun f vs => PySem.call f vs) := by
  refine Att.attach_call hn hdf fun w s₀ s₁ mg mb fa o pm cd doc a vs ns G Y ho hd hcd hmg hobj hints hlen hg => ?_
  have KX := hY w _ Y
  obtain ⟨fd, hb, hF⟩ := F w mg fa _ KX G.T.g hmg
  exact law_call KX G.T.g G.T.b G.T.builtins G.T.nolimit hg hobj hints (Nat.le_trans hlen hn2) hr hF hb (fun H hO hS => hsp w H a ns hlen hO hS) fun H e s' => hCX w H s₁ e s'
end L2
namespace L2
open PySem PySem.Spec PyProof.Rows
def inClass (s : Stmt) (j : Nat) : Stmt := match s with
  | .ClassDef _ _ _ body _ _ _ _ _ _ _ => body.getD j (.Pass ⟨0, 0, 0, 0⟩)
  | _ => .Pass ⟨0, 0, 0, 0⟩
def defArgs (s : Stmt) : Arguments := match s with
  | .FunctionDef _ a _ _ _ _ _ _ _ _ => a
  | _ => { posonlyargs := [], args := [], vararg := none, kwonlyargs := [], kw_defaults := [], kwarg := none, defaults := [] }
def defBody (s : Stmt) : List Stmt := match s with
  | .FunctionDef _ _ b _ _ _ _ _ _ _ => b
  | _ => []
def defScope (s : Stmt) : Scope := match s with
  | .FunctionDef _ _ _ _ _ _ sc _ _ _ => sc
  | _ => { kind := .function, names := [], isGenerator := false, isCoroutine := false }
abbrev CX0 : CXT := fun _ _ _ _ _ _ => False
abbrev E0 : XK := fun _ _ _ => False
theorem pass0 {X : Cx} : Passes CX0 X E0 := fun _ _ _ _ _ _ _ h => h.elim
structure Fun (K : PySem.W.Frag) (x qual : Str) (st : Stmt) (f : Addr) (fd : FuncData) : Prop where
  ex : ∃ (oc : Value) (od : Option Addr) (kV doc pm : Value) (an : Option Addr) (cdv ct : Value) (osl : Array (Option Value)),
    fd = PySem.W.fnOf x qual (defArgs st) (defBody st) (defScope st) .none kV doc pm an cdv ct ∧ K.lookup f = some ⟨oc, od, .func fd, osl⟩ ∧ PySem.W.codeIn K cdv qual = true
  kp : PySem.W.keepIn K (.ref f) = true
section
variable {P : Program} {w : World} {K : PySem.W.Frag} {mg : Str → Option Value} {base : Heap}
theorem Fun.ok {x qual : Str} {st : Stmt} {f : Addr} {fd : FuncData} {N ps : List Str} {k : Nat} {sp : Sp} (F : Fun K x qual st f fd) (S : FnScope N ps (defScope st)) (len : ∀ vs H Q E, sp vs H Q E → vs.length = ps.length)
    (hbody : ∀ (cdv : Value) (A : Around) (outer : List Env) (s : Shared) (H : Hp) (vs : List V) (Q : VK) (E : XK), Room k (A.deeper (envOfC qual (defScope st) s.heap.objs.size f cdv)) → sp vs H Q E →
      ∃ t, PSs (cxOf CX0 P w K mg base N qual (defScope st) f cdv A outer s H E).nox (defBody st) t ∧ t { nx := fun _ H' => Q .non H', rt := Q } (start N vs) H) : FnOk P w K mg base CX0 (k + 1) f fd ps sp := by
  obtain ⟨oc, od, kV, doc, pm, an, cdv, ct, osl, rfl, lk, hcd⟩ := F.ex
  refine fn_of lk hcd S len fun A outer s H vs Q E hr hsp => ?_
  obtain ⟨t, h, q⟩ := hbody cdv A outer s H vs Q E hr hsp
  exact ⟨t, h.nox, q⟩
theorem Fun.binds {x qual : Str} {st : Stmt} {f : Addr} {fd : FuncData} {ps : List Str} (F : Fun K x qual st f fd)
    (h : ∀ (kV doc pm : Value) (an : Option Addr) (cdv ct : Value) (us : List Value), us.length = ps.length → bindArgs (PySem.W.fnOf x qual (defArgs st) (defBody st) (defScope st) .none kV doc pm an cdv ct) ⟨us, []⟩ = pure (ps.zip us)) : Binds K fd ps [] := by
  obtain ⟨oc, od, kV, doc, pm, an, cdv, ct, osl, rfl, lk, hcd⟩ := F.ex
  exact .all (h kV doc pm an cdv ct)
theorem fun_mk {x qual : Str} {st : Stmt} {f : Addr} {oc : Value} {od an : Option Addr} {osl : Array (Option Value)} {kV doc pm cdv ct : Value} (l : K.lookup f = some ⟨oc, od, .func (PySem.W.fnOf x qual (defArgs st) (defBody st) (defScope st) .none kV doc pm an cdv ct), osl⟩)
    (c : PySem.W.codeIn K cdv qual = true) (k : PySem.W.keepIn K (.ref f) = true) : Fun K x qual st f (PySem.W.fnOf x qual (defArgs st) (defBody st) (defScope st) .none kV doc pm an cdv ct) := ⟨⟨oc, od, kV, doc, pm, an, cdv, ct, osl, rfl, l, c⟩, k⟩
end
theorem small1000 {n : Nat} (h : n ≤ 1000) : n < sizeLine := Nat.lt_of_le_of_lt h (by decide)
section
variable {X : Cx}
theorem pv (i : Nat) {x : Str} {pos : Pos} (hN : X.N[i]? = some x := by rfl) (hv : Vis X.env.scope x := by first | exact Or.inl rfl | exact Or.inr (Or.inl rfl) | exact Or.inr (Or.inr rfl)) (hd : (x == ("__debug__" : Str)) = false := by decide)
    (hcd : (x == ("__classdict__" : Str)) = false := by decide) : PE X (.Name x pos) (tVar i) := pe_var hN hv hd hcd
end
theorem iteF {A B : Prop} (h : B) : if false = true then A else B := by
  rw [if_neg Bool.false_ne_true]
  exact h
theorem iteT {A B : Prop} (h : A) : if true = true then A else B := by
  rw [if_pos rfl]
  exact h
theorem ite2 {c A B : Prop} [Decidable c] (h1 : c → A) (h2 : ¬ c → B) : if c then A else B := by
  by_cases h : c
  · rw [if_pos h]
    exact h1 h
  · rw [if_neg h]
    exact h2 h
def Same (H H' : Hp) : Prop := ∀ b o, H b = some o → H' b = some o
theorem Same.refl (H : Hp) : Same H H := fun _ _ h => h
theorem Same.trans {H H1 H2 : Hp} (a : Same H H1) (b : Same H1 H2) : Same H H2 := fun c o h => b c o (a c o h)
theorem Same.free {H H' : Hp} (e : Same H H') {l : Addr} (h : H' l = Option.none) : H l = Option.none := by
  cases q : H l with
  | none => rfl
  | some o =>
    rw [e l o q] at h
    cases h
theorem Same.seq {K : PySem.W.Frag} {H H' : Hp} {a : Addr} {xs : List V} (e : Same H H') (h : SqL K H a xs) : SqL K H' a xs := by
  rcases h with (h | ⟨o, h⟩) | h
  · exact .inl (.inl (e _ _ h))
  · exact .inl (.inr ⟨o, e _ _ h⟩)
  · exact .inr h
end L2
namespace L2
open PySem PySem.Spec PyProof.Rows
section
variable {P : Program} {w : World} {H : Hp} {h : Heap} {a : Addr} {o : HO}
theorem HOk.track (x : HOk P w H h) (hn : H a = none) (new : ObjOk P w (upd H a o) h a o) : HOk P w (upd H a o) h := fun b u e => by
  by_cases hb : b = a
  · subst hb; rw [upd_same] at e; cases e; exact new
  · rw [upd_ne hb] at e
    exact (x b u e).stay (fun c v _ q => q) (fun c q => by rw [upd_ne (ne_of_none q hn)]; exact q) fun c xs q => by rw [upd_ne (ne_of_none q hn)]; exact q
end
def Its (x : Str) : It := ⟨fun i _ => i < x.cps.size, fun i H v H' => H' = H ∧ ∃ c, x.cps[i]? = some c ∧ v = .str ⟨#[c]⟩, fun i _ => i = x.cps.size⟩
theorem walks_str {prog : Program} {w : World} {A : Around} (hh : A.handled = none) (I : Addr) (x : Str) (t : Tok) : Walks prog w A I [I] [I] x.cps.size (SignAt x) (fun i h => h.IsStrIter I (strIterType x) x t i) := by
  cases ha : x.cps.all (· < 128)
  · have e : strIterType x = "str_iterator" := by simp [strIterType, ha]
    rw [e]; exact Walks.strWide hh I x t
  · have e : strIterType x = "str_ascii_iterator" := by simp [strIterType, ha]
    rw [e]; exact Walks.strAscii hh I x t
theorem turn_str {P : Program} {w : World} {K : PySem.W.Frag} {tg : Expr} (it : Addr) (x : Str) (t : Tok) : Turn P w K tg (Its x) [it] it (fun i h => h.IsStrIter it (strIterType x) x t i) where
  mem := by simp
  obj := fun i h st b hb => by
    have e : b = it := by simpa using hb
    subst e
    obtain ⟨o, ho, _, hd⟩ := st
    exact ⟨o, ho, fun v q => by rw [hd] at q; cases q⟩
  keep := fun i h h' st k => by
    obtain ⟨o, ho, r⟩ := st
    exact ⟨o, k it (by simp) o ho, r⟩
  item := by
    intro X hP hw hK hc i pins s σ H E I hf st hg
    subst hP hw hK
    obtain ⟨f0, f1, f2, f3, f4, f5⟩ := hf it (by simp)
    refine (walks_str (I.ok.hd hc) it x t).item i s _ _ hg st fun v h' tk hv st' kk => ?_
    obtain ⟨c, u, hx, rfl⟩ := hv
    have I1 : Inv X pins σ H { s with heap := h', toks := tk } := I.turned (fun b o hb e => kk b o (by simpa using hb) e) f0 f1 f3 f4 f5
    obtain ⟨o, ho, hcl, hd⟩ := id st'
    refine ⟨_, rfl, go_of (s := { s with heap := h', toks := tk }) (n := strIterType x) ho hcl hd ?_ ⟨.str ⟨#[c]⟩, H, I1, ⟨u, rfl⟩, ⟨rfl, c, hx, rfl⟩, st', fun b hb => (hf b hb).1⟩⟩
    unfold strIterType; split <;> decide
  done := by
    intro X hP hw hK hc i pins s σ H E I hf st hg
    subst hP hw hK
    obtain ⟨f0, f1, f2, f3, f4, f5⟩ := hf it (by simp)
    have hg' : i = x.cps.size := hg
    subst hg'
    exact (walks_str (I.ok.hd hc) it x t).done s _ _ st fun h' tk kk => ⟨rfl, I.turned (fun b o hb e => kk b o (by simpa using hb) e) f0 f1 f3 f4 f5⟩
  self := fun A i s Q E st h => by
    cases ha : x.cps.all (· < 128)
    · have e : strIterType x = "str_iterator" := by simp [strIterType, ha]
      rw [e] at st; exact wpAny_pyIter_striter_wide st h
    · have e : strIterType x = "str_ascii_iterator" := by simp [strIterType, ha]
      rw [e] at st; exact wpAny_pyIter_striter_ascii st h
def iStr (tl : TE) : TI := fun σ H R => tl σ H fun x H1 => ∃ z, x = .str z ∧ R (Its z) H1
theorem pi_str {X : Cx} {tg l : Expr} {tl : TE} (hl : PE X l tl) : PI X tg l (iStr tl) := by
  intro pins s σ H R I h
  refine thn (hl pins s σ H _ I h) fun v s1 ⟨x, H1, I1, r1, q1⟩ => ?_
  obtain ⟨z, e, q⟩ := q1
  subst e
  obtain ⟨t, rfl⟩ := r1
  refine wpAny_pyIter_strU ?_
  refine ⟨s1.heap.objs.size, [s1.heap.objs.size], _, _, H1, rfl, I1.kept (t' := s1.toks) fun b o e => Heap.get?_push_of_some _ e, turn_str _ z t, ⟨_, Heap.get?_push_size _ rfl, rfl, rfl⟩, fun b hb => ?_, q⟩
  have e : b = s1.heap.objs.size := by simpa using hb
  subst e
  exact I1.fpOk (Nat.le_refl _) (I1.hok.fresh (Nat.le_refl _))
section
variable {prog : Program} {w : World} {A : Around} {R : Result → Shared → Prop} {s : Shared}
theorem compLoop_go {elt target iter : Expr} {ifs : List Expr} {scope : Scope} {pos : Pos} {it acc : Value} {env : Env} (I : Nat → Shared → Prop)
    (turn : ∀ n s, I n s → wpAny (model prog w) A (pyNext it) (fun r s₁ => match r with
      | none => R (.ok .next) s₁
      | some v => wpAny (model prog w) A (letOwnedTupleGo target it v) (fun _ s₁' => wpAny (model prog w) A (assign target env v) (fun _ s₂ =>
          wpAny (model prog w) A (forIn ifs true fun c r => if r = true then do let ok ← isTrue c env (eval c env); pure (ForInStep.yield ok) else pure (ForInStep.yield r)) (fun ok s₃ =>
            if ok = true then wpAny (model prog w) A (eval elt env) (fun x s₄ =>
              wpAny (model prog w) A (call (.builtin "list.append") [acc, x]) (fun _ s₅ => ∃ m, m < n ∧ I m s₅) (fun _ _ => False) s₄) (fun _ _ => False) s₃
            else ∃ m, m < n ∧ I m s₃) (fun _ _ => False) s₂) (fun _ _ => False) s₁') (fun _ _ => False) s₁) (fun _ _ => False) s)
    (n : Nat) (h : I n s) :
    codeAny (model prog w) A (.compLoop (.ListComp elt [⟨target, iter, ifs, 0⟩] scope pos) 0 it acc env) R s := by
  refine codeAny_loop rfl I (fun n s hI => ?_) n h
  show wpAny _ A ((compTurn (.ListComp elt [⟨target, iter, ifs, 0⟩] scope pos) 0 it acc env).onRaise (fun x => do noteFrame x env; theTreesLotGoes x)) _ _ s
  refine wpAny_noted ?_
  rw [compTurn_list]
  refine wpAny_bind (wpAny_standAt (wpAny_bind (wpAny_mono (turn n s hI) (fun r s₁ h₁ => ?_) fun _ _ h' => h'.elim)))
  cases r with
  | none => exact wpAny_pure h₁
  | some v =>
    refine wpAny_bind (wpAny_mono h₁ (fun _ s₁' h₁' => wpAny_bind (wpAny_mono h₁' (fun _ s₂ h₂ => wpAny_bind (wpAny_mono h₂ (fun ok s₃ h₃ => ?_) fun _ _ h' => h'.elim)) fun _ _ h' => h'.elim)) fun _ _ h' => h'.elim)
    cases ok with
    | false => exact wpAny_pure ⟨rfl, h₃⟩
    | true =>
      exact wpAny_bind (wpAny_bind (wpAny_mono h₃ (fun x s₄ h₄ => wpAny_bind (wpAny_mono h₄ (fun _ s₅ h₅ => wpAny_pure (wpAny_pure ⟨rfl, h₅⟩)) fun _ _ h' => h'.elim)) fun _ _ h' => h'.elim))
end
def clos (env : Env) : List (Str × NameKind) → List (Str × Addr) → List (Str × Addr)
  | [], acc => acc
  | (n, k) :: r, acc => clos env r (if k == .free then (n, (env.cells.lookup n).getD 0) :: acc else acc)
theorem closureFor_clos {scope : Scope} {env : Env} (h : ∀ y ∈ scope.names, y.2 = .free → ∃ c, env.cells.lookup y.1 = some c) : closureFor scope env = pure (clos env scope.names []) := by
  simp only [closureFor]
  suffices hh : ∀ (l : List (Str × NameKind)) (acc : List (Str × Addr)), (∀ y ∈ l, y.2 = .free → ∃ c, env.cells.lookup y.1 = some c) →
      (forIn l acc fun x r => if (x.2 == NameKind.free) = true then do let a ← cellOf env x.1; pure (ForInStep.yield ((x.1, a) :: r)) else pure (ForInStep.yield r) : Sem (List (Str × Addr))) = pure (clos env l acc) by
    have := hh scope.names [] h
    simp only [bind_pure]
    exact this
  intro l
  induction l with
  | nil => intro acc _; rfl
  | cons y r ih =>
    intro acc hy
    obtain ⟨n, k⟩ := y
    rw [List.forIn_cons]
    cases hk : (k == NameKind.free) with
    | true =>
      obtain ⟨c, hc⟩ := hy (n, k) List.mem_cons_self (by simpa using hk)
      have e1 : cellOf env n = pure c := by unfold cellOf; rw [hc]
      simp only [hk, if_true, e1, pure_bind]
      rw [ih _ fun z hz => hy z (List.mem_cons_of_mem _ hz)]
      simp only [clos, hk, if_true, hc, Option.getD_some]
    | false =>
      simp only [hk, Bool.false_eq_true, if_false, pure_bind]
      rw [ih _ fun z hz => hy z (List.mem_cons_of_mem _ hz)]
      simp only [clos, hk, Bool.false_eq_true, if_false]
theorem clos_val {env : Env} {x : Str} {c : Addr} : ∀ {l : List (Str × NameKind)} {acc : List (Str × Addr)}, (∀ y ∈ l, y.2 = .free → ∃ c, env.cells.lookup y.1 = some c) → (acc.lookup x = some c → env.cells.lookup x = some c) → (clos env l acc).lookup x = some c → env.cells.lookup x = some c
  | [], _, _, ha, e => ha e
  | (n, k) :: r, acc, hl, ha, e => by
    refine clos_val (l := r) (fun z hz => hl z (List.mem_cons_of_mem _ hz)) (fun q => ?_) e
    cases hk : (k == NameKind.free) with
    | false => rw [hk] at q; exact ha q
    | true =>
      rw [hk] at q
      obtain ⟨c', hc⟩ := hl (n, k) List.mem_cons_self (by simpa using hk)
      simp only [if_true, hc, Option.getD_some, List.lookup_cons] at q
      cases hx : (x == n) with
      | true => rw [hx] at q; cases q; rw [show x = n from by simpa using hx]; exact hc
      | false => rw [hx] at q; exact ha q
theorem clos_mem {env : Env} {x : Str} {c : Addr} : ∀ {l : List (Str × NameKind)} {acc : List (Str × Addr)}, (clos env l acc).lookup x = some c → acc.lookup x = some c ∨ (x, NameKind.free) ∈ l
  | [], _, e => .inl e
  | (n, k) :: r, acc, e => by
    rcases clos_mem (l := r) e with q | q
    · cases hk : (k == NameKind.free) with
      | false => rw [hk] at q; exact .inl q
      | true =>
        rw [hk] at q
        simp only [if_true, List.lookup_cons] at q
        cases hx : (x == n) with
        | true =>
          have e1 : x = n := by simpa using hx
          have e2 : k = NameKind.free := by simpa using hk
          subst e1 e2
          exact .inr List.mem_cons_self
        | false => rw [hx] at q; exact .inl q
    · exact .inr (List.mem_cons_of_mem _ q)
theorem clos_has {env : Env} {x : Str} : ∀ {l : List (Str × NameKind)} {acc : List (Str × Addr)}, (∃ c, acc.lookup x = some c) ∨ (x, NameKind.free) ∈ l → ∃ c, (clos env l acc).lookup x = some c
  | [], _, h => h.elim (fun z => z) fun z => nomatch z
  | (n, k) :: r, acc, h => by
    refine clos_has (l := r) ?_
    rcases h with ⟨c, h⟩ | h
    · refine .inl ?_
      cases hk : (k == NameKind.free) with
      | false => exact ⟨c, h⟩
      | true =>
        simp only [if_true, List.lookup_cons]
        cases hx : (x == n) with
        | true => exact ⟨_, rfl⟩
        | false => exact ⟨c, h⟩
    · rcases List.mem_cons.mp h with h | h
      · cases h
        refine .inl ?_
        rw [if_pos (by rfl), List.lookup_cons]
        exact ⟨_, by rw [show (x == x) = true from by simp]⟩
      · exact .inr h
theorem lookup_mem {α : Type} {x : Str} {k : α} : ∀ {l : List (Str × α)}, l.lookup x = some k → (x, k) ∈ l
  | (n, z) :: r, e => by
    rw [List.lookup_cons] at e
    cases hx : (x == n) with
    | true => rw [hx] at e; cases e; rw [show x = n from by simpa using hx]; exact List.mem_cons_self
    | false => rw [hx] at e; exact List.mem_cons_of_mem _ (lookup_mem e)
theorem relab_one (env : Env) (n : Str) (z : NameKind) : ∃ z', (if (z == NameKind.free && env.scope.kind == .function && env.kindOf n == some .cell) = true then (n, NameKind.cell) else (n, z)) = (n, z') ∧ (z' = z ∨ (z = .free ∧ z' = .cell)) := by
  by_cases hc : (z == NameKind.free && env.scope.kind == .function && env.kindOf n == some .cell) = true
  · rw [if_pos hc]
    simp only [Bool.and_eq_true] at hc
    exact ⟨_, rfl, .inr ⟨by simpa using hc.1.1, rfl⟩⟩
  · rw [if_neg hc]; exact ⟨_, rfl, .inl rfl⟩
theorem relabel_kind {env : Env} {x : Str} : ∀ {l : List (Str × NameKind)} {k : NameKind}, l.lookup x = some k →
    ((l.map fun (n, k) => if (k == NameKind.free && env.scope.kind == .function && env.kindOf n == some .cell) then (n, NameKind.cell) else (n, k)).lookup x = some k) ∨
    (k = .free ∧ (l.map fun (n, k) => if (k == NameKind.free && env.scope.kind == .function && env.kindOf n == some .cell) then (n, NameKind.cell) else (n, k)).lookup x = some .cell)
  | (n, z) :: r, k, e => by
    obtain ⟨z', e1, e2⟩ := relab_one env n z
    have ih := fun h => relabel_kind (env := env) (x := x) (l := r) (k := k) h
    rw [List.lookup_cons] at e
    rw [List.map_cons]
    dsimp only
    rw [e1, List.lookup_cons]
    cases hx : (x == n) with
    | true =>
      rw [hx] at e
      cases e
      rcases e2 with e2 | ⟨e2, e3⟩
      · rw [e2]; exact .inl rfl
      · rw [e3]; exact .inr ⟨e2, rfl⟩
    | false => rw [hx] at e; exact ih e
theorem relabel_none {env : Env} {x : Str} : ∀ {l : List (Str × NameKind)}, l.lookup x = none →
    (l.map fun (n, k) => if (k == NameKind.free && env.scope.kind == .function && env.kindOf n == some .cell) then (n, NameKind.cell) else (n, k)).lookup x = none
  | [], _ => rfl
  | (n, z) :: r, e => by
    obtain ⟨z', e1, e2⟩ := relab_one env n z
    have ih := fun h => relabel_none (env := env) (x := x) (l := r) h
    rw [List.lookup_cons] at e
    rw [List.map_cons]
    dsimp only
    rw [e1, List.lookup_cons]
    cases hx : (x == n) with
    | true => rw [hx] at e; cases e
    | false => rw [hx] at e; exact ih e
structure CompScope (N : List Str) (osc scope : Scope) (own cap : List Str) (ix : List Nat) : Prop where
  kind : scope.kind = .function
  cell : ∀ y ∈ scope.names, y.2 ≠ .cell
  names : ∀ y ∈ scope.names, y.2 = .local → scope.names.lookup y.1 = some .local
  free : ∀ y ∈ scope.names, y.2 = .free → y.1 ∈ cap
  ownL : ∀ x ∈ own, scope.names.lookup x = some .local
  capL : ∀ x ∈ cap, scope.names.lookup x = some .free
  out : ∀ x ∈ cap, osc.names.lookup x = some .cell ∨ osc.names.lookup x = some .free
  ixL : ix.map (fun i => N[i]?) = cap.map some
  nd : (own ++ cap).Nodup
def Cx.comp (X : Cx) (scope : Scope) (own cap : List Str) (C : Addr) (s₀ : Shared) (H₀ : Hp) (ex : List Addr) (pn : List (Addr × Obj)) : Cx :=
  { X with N := own ++ cap, s₀ := s₀, H₀ := H₀, env := compEnvC scope (clos X.env scope.names []) C X.env, outer := X.stack, ex := ex, fn := fun x => own.contains x, pn := pn, xe := fun _ _ => False }
def capS (σ : St) (own : List Str) (ix : List Nat) : St := own.map (fun _ => none) ++ ix.map (fun i => (σ[i]?).join)
section
variable {X : Cx} {pins : List (Addr × Obj)} {σ : St} {H : Hp} {s : Shared} {scope : Scope} {own cap : List Str} {ix : List Nat}
theorem CompScope.has (S : CompScope X.N X.env.scope scope own cap ix) (ok : X.Ok) : ∀ y ∈ scope.names, y.2 = .free → ∃ c, X.env.cells.lookup y.1 = some c := fun y hy hf => ok.has y.1 (S.out y.1 (S.free y hy hf))
theorem Inv.comp (I : Inv X pins σ H s) (S : CompScope X.N X.env.scope scope own cap ix) {fp : List Addr} (hf : ∀ b ∈ fp, FpOk X pins H b) (ho : ∀ b ∈ fp, ∃ o, s.heap.get? b = some o)
    {h₁ : Heap} {tk : Nat} {C : Addr} {m : Str → Option Value} (hC : s.heap.objs.size ≤ C) (old : ∀ b o, s.heap.get? b = some o → h₁.get? b = some o) (hns : h₁.Ns C m) :
    Inv (X.comp scope own cap C s H fp (X.pn ++ pins)) [] (capS σ own ix) H { s with heap := h₁, toks := tk } := by
  have cv : ∀ x c, (clos X.env scope.names []).lookup x = some c → X.env.cells.lookup x = some c := fun x c e => clos_val (S.has I.ok) (fun q => by simp at q) e
  have cc : ∀ x c, (clos X.env scope.names []).lookup x = some c → x ∈ cap := fun x c e => by
    rcases clos_mem e with q | q
    · cases q
    · exact S.free _ q rfl
  have kk : ∀ x, ((compEnvC scope (clos X.env scope.names []) C X.env).kindOf x = some .cell ∨ (compEnvC scope (clos X.env scope.names []) C X.env).kindOf x = some .free) → x ∈ cap := fun x hx => by
    cases e : scope.names.lookup x with
    | none =>
      have q := relabel_none (env := X.env) e
      rcases hx with hx | hx
      · have hx' : _ = some NameKind.cell := hx
        exact nomatch q.symm.trans hx'
      · have hx' : _ = some NameKind.free := hx
        exact nomatch q.symm.trans hx'
    | some k =>
      have nc : k ≠ .cell := S.cell _ (lookup_mem e)
      rcases relabel_kind (env := X.env) e with q | ⟨q, _⟩
      · rcases hx with hx | hx
        · have hx' : _ = some NameKind.cell := hx
          exact absurd (Option.some.inj (q.symm.trans hx')) nc
        · have hx' : _ = some NameKind.free := hx
          exact S.free _ (lookup_mem e) (Option.some.inj (q.symm.trans hx'))
      · exact S.free _ (lookup_mem e) q
  have capk : ∀ x ∈ cap, (compEnvC scope (clos X.env scope.names []) C X.env).kindOf x = some .cell ∨ (compEnvC scope (clos X.env scope.names []) C X.env).kindOf x = some .free := fun x hx => by
    rcases relabel_kind (env := X.env) (S.capL x hx) with q | ⟨_, q⟩
    · exact .inr q
    · exact .inl q
  have lt : ∀ {b : Addr} {o : Obj}, s.heap.get? b = some o → b ≠ C := fun e => Nat.ne_of_lt (Nat.lt_of_lt_of_le (Heap.lt_size e) hC)
  have hfs : ∀ b, b ∈ frs X.stack → b ∈ X.env.locals :: X.fs := I.stkSub
  refine ⟨⟨I.ok.mod, S.kind, I.ok.glob, I.ok.blt, hC, fun x y c e1 e2 => I.ok.inj x y c (cv x c e1) (cv y c e2), fun x hx => clos_has (.inr (lookup_mem (S.capL x (kk x hx)))), fun x c hx e => ?_, I.ok.hd, I.ok.frames, .inl rfl, fun b hb => ?_,
    I.bs, Nat.le_trans I.ok.bsz I.sz, fun b o e hb => ?_, fun b hb hb' => ?_, I.stack, I.stkFree⟩, rfl, I.bare, Un.kept old, ?_, fun x c e => ?_, I.hok.fresh hC, fun x c e => I.freeC x c (cv x c e), fun p hp => ?_, I.hok.kept old, ?_⟩
  · exfalso
    have h1 : x ∈ own := by simpa [Cx.comp] using hx
    have h2 : x ∈ cap := cc x c e
    exact (List.nodup_append.mp S.nd).2.2 x h1 x h2 rfl
  · obtain ⟨o, e⟩ := ho b hb
    exact ⟨lt e, fun x c q => (hf b hb).2.2.2.2.1 x c (cv x c q)⟩
  · rcases (hf b hb).2.2.2.1 with z | z
    · exact I.ok.noex b o e z
    · exact absurd (Nat.lt_of_lt_of_le (Heap.lt_size e) (Nat.le_trans I.ok.bsz z)) (Nat.lt_irrefl _)
  · rcases List.mem_cons.mp (hfs b hb') with z | z
    · exact (hf b hb).2.1 z
    · exact (hf b hb).2.2.1 z
  · refine ⟨m, hns, fun i x v e1 e2 _ => ?_⟩
    by_cases hi : i < own.length
    · have e3 : (capS σ own ix)[i]? = some none := by
        unfold capS
        rw [List.getElem?_append_left (by simpa using hi), List.getElem?_map]
        rw [List.getElem?_eq_getElem hi]; rfl
      rw [e3] at e2; cases e2
    · have hj : own.length ≤ i := Nat.not_lt.mp hi
      have e1' : cap[i - own.length]? = some x := by
        have : (own ++ cap)[i]? = some x := e1
        rwa [List.getElem?_append_right hj] at this
      have e4 : (ix.map (fun i => X.N[i]?))[i - own.length]? = some (some x) := by rw [S.ixL, List.getElem?_map, e1']; rfl
      rw [List.getElem?_map] at e4
      cases q : ix[i - own.length]? with
      | none => rw [q] at e4; cases e4
      | some j =>
        rw [q] at e4
        have hNj : X.N[j]? = some x := Option.some.inj e4
        have e5 : (σ[j]?).join = some v := by
          unfold capS at e2
          rw [List.getElem?_append_right (by simpa using hj), List.getElem?_map, List.length_map, q] at e2
          exact Option.some.inj e2
        have e6 : σ[j]? = some (some v) := by
          cases r : σ[j]? with
          | none => rw [r] at e5; cases e5
          | some z => rw [r] at e5; exact congrArg some e5
        have hx : x ∈ cap := List.mem_of_getElem? e1'
        obtain ⟨mo, hn, hl⟩ := I.loc
        obtain ⟨u, ru, lu⟩ := hl j x v hNj e6 (.inr (S.out x hx))
        refine ⟨u, ru, .inr ⟨capk x hx, ?_⟩⟩
        rcases lu with ⟨kx, _⟩ | ⟨_, c, hc, hcell⟩
        · have kx' : X.env.scope.names.lookup x = some .local := kx
          rcases S.out x hx with z | z
          · exact nomatch kx'.symm.trans z
          · exact nomatch kx'.symm.trans z
        · obtain ⟨c', hc'⟩ := clos_has (env := X.env) (x := x) (l := scope.names) (acc := []) (.inr (lookup_mem (S.capL x hx)))
          have : c' = c := Option.some.inj ((cv x c' hc').symm.trans hc)
          subst this
          obtain ⟨oc, hoc, hdc⟩ := hcell
          exact ⟨c', hc', oc, old _ _ hoc, hdc⟩
  · obtain ⟨v, oc, hoc, hdc⟩ := I.cell x c (cv x c e)
    exact ⟨v, oc, old _ _ hoc, hdc⟩
  · have hp' : p ∈ X.pn ++ pins := by simpa [Cx.comp] using hp
    obtain ⟨q1, q2, q3, q4, q5⟩ := I.pin p hp'
    refine ⟨old _ _ q1, q2, lt q1, fun z => ?_, q5⟩
    rcases List.mem_cons.mp (hfs p.1 z) with y | y
    · exact q3 y
    · exact q4 y
  · show (capS σ own ix).length = (own ++ cap).length
    have := congrArg List.length S.ixL
    rw [List.length_map, List.length_map] at this
    unfold capS
    rw [List.length_append, List.length_append, List.length_map, List.length_map, this]
end
def PIfs (X : Cx) (ifs : List Expr) (t : TT) : Prop :=
  ∀ (pins : List (Addr × Obj)) (s : Shared) (σ : St) (H : Hp) (Q : Bool → Hp → Prop), Inv X pins σ H s → t σ H Q →
    wpAny (model X.prog X.w) X.A (forIn ifs true fun c r => if r = true then do let ok ← isTrue c X.env (eval c X.env); pure (ForInStep.yield ok) else pure (ForInStep.yield r)) (TP X pins σ Q) X.xe s
def tYes : TT := fun _ H Q => Q true H
theorem pifs_nil {X : Cx} : PIfs X [] tYes := fun _ _ _ H _ I h => wpAny_tests_nil ⟨H, I, h⟩
def tComp (own : List Str) (ix : List Nat) (wi : TI) (g : TG) (ti : TT) (te : TE) : TE := fun σ H Q => wi σ H fun J H1 =>
  ∃ W : Nat → Nat → List V → St → Hp → Prop, (∃ m, W 0 m [] (capS σ own ix) H1) ∧ ∀ i m ys σ' H, W i m ys σ' H →
    (J.stop i H ∧ ys.length ≤ sizeLine ∧ ∀ D, H D = none → Q (.ref D) (upd H D (.lst ys))) ∨
    (J.go i H ∧ ∀ x H', J.yld i H x H' → g x σ' H' fun σ2 H2 => ti σ2 H2 fun b H3 => if b = true then te σ2 H3 fun y H4 => ys.length < sizeLine ∧ ∃ m', m' < m ∧ W (i + 1) m' (ys ++ [y]) σ2 H4 else ∃ m', m' < m ∧ W (i + 1) m' ys σ2 H3)
section
variable {X : Cx} {pins : List (Addr × Obj)} {σ : St} {scope : Scope} {own cap : List Str} {ix : List Nat} {tg iter elt : Expr} {ifs : List Expr} {pos : Pos}
set_option maxHeartbeats 4000000 in
theorem comp_block {s : Shared} {H : Hp} {it : Addr} {fp : List Addr} {tn : Nat → Heap → Prop} {J : It} {g : TG} {ti : TT} {te : TE} {Q : VK} {W : Nat → Nat → List V → St → Hp → Prop} {E : Value → Shared → Prop} {RR : Value → Addr → Result → Shared → Prop} (hc : X.calm = true)
    (I : Inv X pins σ H s) (S : CompScope X.N X.env.scope scope own cap ix) (T : Turn X.prog X.w X.K tg J fp it tn) (st : tn 0 s.heap) (hf : ∀ b ∈ fp, FpOk X pins H b)
    (hb : ∀ (C : Addr) (s₀ : Shared) (H₀ : Hp) (ex : List Addr) (pn : List (Addr × Obj)), PG (X.comp scope own cap C s₀ H₀ ex pn) tg g ∧ PIfs (X.comp scope own cap C s₀ H₀ ex pn) ifs ti ∧ PE (X.comp scope own cap C s₀ H₀ ex pn) elt te)
    (h0 : ∃ m, W 0 m [] (capS σ own ix) H)
    (turn : ∀ i m ys σ' H, W i m ys σ' H → (J.stop i H ∧ ys.length ≤ sizeLine ∧ ∀ D, H D = none → Q (.ref D) (upd H D (.lst ys))) ∨
      (J.go i H ∧ ∀ x H', J.yld i H x H' → g x σ' H' fun σ2 H2 => ti σ2 H2 fun b H3 => if b = true then te σ2 H3 fun y H4 => ys.length < sizeLine ∧ ∃ m', m' < m ∧ W (i + 1) m' (ys ++ [y]) σ2 H4 else ∃ m', m' < m ∧ W (i + 1) m' ys σ2 H3))
    (hRR : ∀ (D C : Addr) (oC : Obj) (m : Str → Option Value) (H' : Hp) (s' : Shared), s'.heap.get? C = some oC → s'.heap.Ns C m → C ≠ X.env.locals → (X.s₀.heap.objs.size ≤ C) → (∀ x c, X.env.cells.lookup x = some c → c ≠ C) → (∀ p ∈ X.pn ++ pins, p.1 ≠ C) → C ∉ X.fs → H' C = none →
      Inv X pins σ H' s' → Q (.ref D) H' → RR (.ref D) C (.ok .next) s') :
    wpAny (model X.prog X.w) X.A (newList []) (fun acc s₃ => wpAny (model X.prog X.w) X.A (newFunctionEnv scope X.env.globals (clos X.env scope.names []) [] X.env.qual none .none (some X.env)) (fun cenv s₄ =>
      codeAny (model X.prog X.w) X.A (.compStart (.ListComp elt [⟨tg, iter, ifs, 0⟩] scope pos) 0 (.ref it) acc { cenv with scope := relabel scope X.env }) (RR acc cenv.locals) s₄) E s₃) E s := by
  refine wpAny_newObj_type (wpAny_newFunctionEnv S.cell (by intro y hy; simp at hy) (fun h₁ hns₁ hsb₁ => ?_) S.kind)
  dsimp only at hns₁ hsb₁ ⊢
  generalize hH2 : s.heap.push { cls := .type "list", dict := none, data := .seq ([] : List Value).toArray } = HH at hns₁ hsb₁ ⊢
  generalize hCn : HH.objs.size = C at hns₁ hsb₁ ⊢
  generalize hDn : s.heap.objs.size = D
  have hC : C = D + 1 := by rw [← hCn, ← hH2, Heap.size_push, hDn]
  have hDC : D ≠ C := by rw [hC]; exact Nat.ne_of_lt (Nat.lt_succ_self _)
  have below : ∀ b, b < s.heap.objs.size → b ≠ C ∧ b ≠ D := fun b hb => by rw [hDn] at hb; exact ⟨by rw [hC]; exact Nat.ne_of_lt (Nat.lt_succ_of_lt hb), Nat.ne_of_lt hb⟩
  have old : ∀ b o, s.heap.get? b = some o → h₁.get? b = some o := fun b o e => hsb₁.extBut b o (below b (Heap.lt_size e)).1 (Heap.get?_push_of_some _ (hH2 ▸ Heap.get?_push_of_some _ e))
  have hacc : h₁.get? D = some { cls := .type "list", data := .seq ([] : List Value).toArray 0 } := hsb₁.extBut _ _ hDC (Heap.get?_push_of_some _ (by rw [← hH2, ← hDn]; exact Heap.get?_push_size _ rfl))
  have hCs : s.heap.objs.size ≤ C := by rw [hDn, hC]; exact Nat.le_succ _
  have hDs : s.heap.objs.size ≤ D := Nat.le_of_eq hDn
  have hDf : D ∉ fp := fun hm => by
    obtain ⟨o, e, _⟩ := T.obj _ _ st D hm
    exact (below D (Heap.lt_size e)).2 rfl
  have hD0 : H D = none := I.hok.fresh hDs
  obtain ⟨gG, gI, gE⟩ := hb C s H fp (X.pn ++ pins)
  have I0 : ∀ tk, Inv (X.comp scope own cap C s H fp (X.pn ++ pins)) [] (capS σ own ix) H { s with heap := h₁, toks := tk } := fun tk => I.comp S hf (fun b hb => (T.obj _ _ st b hb).imp fun o e => e.1) hCs old hns₁
  have cvX : ∀ x c, (X.comp scope own cap C s H fp (X.pn ++ pins)).env.cells.lookup x = some c → X.env.cells.lookup x = some c := fun x c e => clos_val (S.has I.ok) (fun q => by simp at q) e
  have cellLt : ∀ x c, X.env.cells.lookup x = some c → c < s.heap.objs.size := fun x c e => by obtain ⟨v, q⟩ := I.cell x c e; exact q.lt
  have frsLt : ∀ b ∈ frs X.stack, b < s.heap.objs.size := fun b hb => by
    rcases List.mem_cons.mp (I.stkSub b hb) with z | z
    · rw [z]; exact I.lt
    · obtain ⟨_, o, ho, _⟩ := I.funs.mem z
      exact Heap.lt_size ho
  have fpB : ∀ (H' : Hp) (ps : List (Addr × Obj)), (∀ p ∈ ps, p.1 = D) → (∀ b ∈ fp, H' b = none) → ∀ b ∈ fp, FpOk (X.comp scope own cap C s H fp (X.pn ++ pins)) ps H' b := fun H' ps hps hn b hb => by
    obtain ⟨o, e, _⟩ := T.obj _ _ st b hb
    obtain ⟨f0, f1, f2, f3, f4, f5⟩ := hf b hb
    refine ⟨hn b hb, (below b (Heap.lt_size e)).1, fun z => ?_, .inl hb, fun x c q => f4 x c (cvX x c q), fun p hp => ?_⟩
    · rcases List.mem_cons.mp (I.stkSub b z) with y | y
      · exact f1 y
      · exact f2 y
    · rcases List.mem_append.mp hp with z | z
      · exact f5 p z
      · intro y
        exact hDf (by rw [← hps p z, y]; exact hb)
  have pinD : ∀ {H' : Hp} {σ' : St} {s' : Shared} {o : Obj}, Inv (X.comp scope own cap C s H fp (X.pn ++ pins)) [] σ' H' s' → s'.heap.get? D = some o → (∀ v, o.data ≠ .cell v) → H' D = none → Inv (X.comp scope own cap C s H fp (X.pn ++ pins)) [(D, o)] σ' H' s' := fun {H' σ' s' o} I' e hd hn =>
    I'.pins_of fun p hp => by
      have e1 : p = (D, o) := by simpa using hp
      subst e1
      exact ⟨e, hn, hDC, fun z => Nat.lt_irrefl _ (Nat.lt_of_lt_of_le (frsLt D z) hDs), hd⟩
  have loop : ∀ s₃ : Shared, s₃ = { s with heap := h₁, toks := s.toks + ([] : List (Str × Value)).length } →
      codeAny (model X.prog X.w) X.A (.compLoop (.ListComp elt [⟨tg, iter, ifs, 0⟩] scope pos) 0 (.ref it) (.ref D) (compEnvC scope (clos X.env scope.names []) C X.env)) (RR (.ref D) C) s₃ := by
    rintro s₃ rfl
    obtain ⟨m0, w0⟩ := h0
    refine compLoop_go (fun n s' => ∃ i ys σ' H', Inv (X.comp scope own cap C s H fp (X.pn ++ pins)) [] σ' H' s' ∧ tn i s'.heap ∧ (∀ b ∈ fp, H' b = none) ∧ H' D = none ∧
      (∃ (its : List Value) (k : Nat), Vals ys its ∧ s'.heap.get? D = some { cls := .type "list", data := .seq its.toArray k }) ∧ ys.length ≤ sizeLine ∧ W i n ys σ' H') ?_ m0
      ⟨0, [], _, H, I0 _, T.keep _ _ _ st fun b _ o e => old b o e, fun b hb => (hf b hb).1, hD0, ⟨[], 0, .nil, hacc⟩, Nat.zero_le _, w0⟩
    rintro n s' ⟨i, ys, σ', H', I', st', fr', hD', ⟨its, k, hv, hDo⟩, hyl, w'⟩
    have ID := pinD I' hDo (fun v q => nomatch q) hD'
    rcases turn i n ys σ' H' w' with ⟨stop, hz, q⟩ | ⟨go, step⟩
    · refine thn (T.done (X.comp scope own cap C s H fp (X.pn ++ pins)) rfl rfl rfl hc i [(D, _)] s' σ' H' _ ID (fpB H' _ (fun p hp => by rw [List.mem_singleton.mp hp]) fr') st' stop) fun r s'' ⟨hr, I2⟩ => ?_
      subst hr
      show RR (.ref D) C (.ok .next) s''
      have hDo2 : s''.heap.get? D = some { cls := .type "list", data := .seq its.toArray k } := (I2.pin (D, _) (List.mem_append_right _ (List.mem_singleton.mpr rfl))).1
      obtain ⟨m2, hn2, _⟩ := I2.loc
      obtain ⟨oC, es, ep, hoC, _⟩ := id hn2
      have hok2 : HOk X.prog X.w (upd H' D (.lst ys)) s''.heap := I2.hok.track hD' ⟨hyl, its, k, hv, hDo2⟩
      have un : Un (frs X.stack) fp H (upd H' D (.lst ys)) s.heap s''.heap := by
        have u0 : Un (frs X.stack) fp H H' s.heap s''.heap := I2.base
        refine ⟨u0.keep, u0.slot, fun b o e hn hx => ?_, u0.there, fun b xs e => ?_, fun b o u e => ?_, fun b ps e => ?_⟩
        · rw [upd_ne (below b (Heap.lt_size e)).2]; exact u0.free b o e hn hx
        · rw [upd_ne (ne_of_none (u0.tups b xs e) hD')]; exact u0.tups b xs e
        · rw [upd_ne (ne_of_none (u0.frzs b o u e) hD')]; exact u0.frzs b o u e
        · obtain ⟨more, e'⟩ := u0.tbls b ps e
          exact ⟨more, by rw [upd_ne (ne_of_none e' hD')]; exact e'⟩
      have IX : Inv X pins σ (upd H' D (.lst ys)) s'' := I.call' (ch := fp) I2.os un hok2 I2.bare fun b hb => ⟨(hf b hb).2.2.2.1, (hf b hb).2.1, (hf b hb).2.2.2.2.1, (hf b hb).2.2.2.2.2⟩
      refine hRR D C oC m2 _ s'' hoC hn2 ?_ ?_ (fun x c e z => ?_) (fun p hp z => ?_) (fun z => ?_) ?_ IX (q D hD')
      · exact fun z => Nat.lt_irrefl _ (Nat.lt_of_lt_of_le I.lt (by rw [← z]; exact hCs))
      · exact Nat.le_trans I.sz hCs
      · exact Nat.lt_irrefl _ (Nat.lt_of_lt_of_le (cellLt x c e) (by rw [z]; exact hCs))
      · exact Nat.lt_irrefl _ (Nat.lt_of_lt_of_le (Heap.lt_size (I.pin p hp).1) (by rw [z]; exact hCs))
      · obtain ⟨_, o, ho, _⟩ := I.funs.mem z
        exact Nat.lt_irrefl _ (Nat.lt_of_lt_of_le (Heap.lt_size ho) hCs)
      · rw [upd_ne hDC.symm]; exact I2.free
    · refine thn (T.item (X.comp scope own cap C s H fp (X.pn ++ pins)) rfl rfl rfl hc i [(D, _)] s' σ' H' _ ID (fpB H' _ (fun p hp => by rw [List.mem_singleton.mp hp]) fr') st' go) fun r s4 ⟨u, hr, h4⟩ => ?_
      subst hr
      refine thn h4 fun _ s5 ⟨x, H5, I5, r5, y5, st5, fr5⟩ => ?_
      have hDp5 := I5.pin (D, _) (List.mem_append_right _ (List.mem_singleton.mpr rfl))
      have I5' := I5.pinned (fpB H5 _ (fun p hp => by rw [List.mem_singleton.mp hp]) fr5) (T.obj _ _ st5)
      refine thn (gG _ s5 σ' H5 x u _ I5' r5 (step x H5 y5)) fun _ s6 ⟨σ6, H6, I6, q6⟩ => ?_
      refine thn (gI _ s6 σ6 H6 _ I6 q6) fun ok s7 ⟨H7, I7, q7⟩ => ?_
      have fpK : ∀ {σ8 : St} {H8 : Hp} {s8 : Shared}, Inv (X.comp scope own cap C s H fp (X.pn ++ pins)) ([(D, ({ cls := .type "list", data := .seq its.toArray k } : Obj))] ++ pinsAt fp s5.heap) σ8 H8 s8 → tn (i + 1) s8.heap ∧ (∀ b ∈ fp, H8 b = none) := fun {σ8 H8 s8} I8 => by
        refine ⟨T.keep _ _ _ st5 fun b hb o e => (I8.pin (b, o) (List.mem_append_right _ (List.mem_append_right _ (mem_pinsAt hb e)))).1, fun b hb => ?_⟩
        obtain ⟨o, e, d⟩ := T.obj _ _ st5 b hb
        exact (I8.pin (b, o) (List.mem_append_right _ (List.mem_append_right _ (mem_pinsAt hb e)))).2.1
      have dK : ∀ {σ8 : St} {H8 : Hp} {s8 : Shared}, Inv (X.comp scope own cap C s H fp (X.pn ++ pins)) ([(D, ({ cls := .type "list", data := .seq its.toArray k } : Obj))] ++ pinsAt fp s5.heap) σ8 H8 s8 → s8.heap.get? D = some { cls := .type "list", data := .seq its.toArray k } ∧ H8 D = none := fun {σ8 H8 s8} I8 => by
        have z := I8.pin (D, _) (List.mem_append_right _ (List.mem_append_left _ (List.mem_singleton.mpr rfl)))
        exact ⟨z.1, z.2.1⟩
      cases ok with
      | false =>
        obtain ⟨m', hm, w7⟩ := q7
        obtain ⟨st7, fr7⟩ := fpK I7
        obtain ⟨hD7, hn7⟩ := dK I7
        exact ⟨m', hm, i + 1, ys, σ6, H7, I7.pins_of (fun p hp => nomatch hp), st7, fr7, hn7, ⟨its, k, hv, hD7⟩, hyl, w7⟩
      | true =>
        refine thn (gE _ s7 σ6 H7 _ I7 q7) fun xv s8 ⟨y, H8, I8, r8, hl8, m', hm, w8⟩ => ?_
        obtain ⟨st8, fr8⟩ := fpK I8
        obtain ⟨hD8, hn8⟩ := dK I8
        refine append_at (hsz := by rw [List.size_toArray, ← hv.length]; exact Nat.le_of_lt hl8) hD8 fun h9 hs9 hD9 => ?_
        have I9 : Inv (X.comp scope own cap C s H fp (X.pn ++ pins)) [] σ6 H8 { s8 with heap := h9 } := by
          refine (I8.pins_of (pins' := []) fun p hp => nomatch hp).turned (t' := s8.toks) (it := D) (fun b o hb e => hs9.extBut b o hb e) hn8 hDC (.inr hDs) (fun x c e z => ?_) (fun p hp z => ?_)
          · exact Nat.lt_irrefl _ (Nat.lt_of_lt_of_le (cellLt x c (cvX x c e)) (by rw [z]; exact hDs))
          · have hp' : p ∈ X.pn ++ pins := by simpa [Cx.comp] using hp
            exact Nat.lt_irrefl _ (Nat.lt_of_lt_of_le (Heap.lt_size (I.pin p hp').1) (by rw [z]; exact hDs))
        refine ⟨m', hm, i + 1, ys ++ [y], σ6, H8, I9, T.keep _ _ _ st8 fun b hb o e => hs9.extBut b o (fun z => hDf (by rw [← z]; exact hb)) e, fr8, hn8, ⟨its ++ [xv], k + 1, hv.append (.cons r8 .nil), ?_⟩, by rw [List.length_append, List.length_singleton]; exact hl8, w8⟩
        rw [hD9, List.push_toArray]
  exact codeAny_compStart_list (loop _ rfl) (T.self _ 0 _ _ _ (T.keep _ _ _ st fun b _ o e => old b o e) (loop _ rfl))
theorem pe_comp {wi : TI} {g : TG} {ti : TT} {te : TE} (hc : X.calm = true) (S : CompScope X.N X.env.scope scope own cap ix) (hi : PI X tg iter wi)
    (hb : ∀ (C : Addr) (s₀ : Shared) (H₀ : Hp) (ex : List Addr) (pn : List (Addr × Obj)), PG (X.comp scope own cap C s₀ H₀ ex pn) tg g ∧ PIfs (X.comp scope own cap C s₀ H₀ ex pn) ifs ti ∧ PE (X.comp scope own cap C s₀ H₀ ex pn) elt te)
    (hs : ∀ x, foldedSetIterable iter X.env x = pure x := by intro _; rfl) : PE X (.ListComp elt [⟨tg, iter, ifs, 0⟩] scope pos) (tComp own ix wi g ti te) := by
  intro pins s σ H Q I h
  rw [eval_ListComp]
  refine wpAny_comprehension_free (use := none) rfl hs (closureFor_clos (S.has I.ok)) S.kind S.names (thn (hi pins s σ H _ I h) fun xv s₁ h₁ => thn h₁ fun itv s₂ h₂ => ?_)
  obtain ⟨it, fp, tn, J, H2, e, I2, T, st2, f2, W, h0, turn⟩ := h₂
  subst e
  refine comp_block (Q := Q) (RR := fun acc C => compPost (model X.prog X.w) X.A X.xe none (EP X pins σ Q) acc C) hc I2 S T st2 f2 hb h0 turn ?_
  intro D C oC m H' s' hoC hn h1 h2 h3 h4 h5 h6 I' q
  refine ⟨m, hn, fun h' hs' => ⟨.ref D, H', I'.turned (t' := s'.toks) (it := C) (fun b o hb e => hs'.extBut b o hb e) h6 (Ne.symm h1.symm) (.inr h2) h3 h4, rfl, q⟩⟩
theorem ps_setC {wi : TI} {g : TG} {ti : TT} {te : TE} {i : Nat} {y : Str} {py spos : Pos} (hc : X.calm = true) (hN : X.N.Nodup) (hy : X.N[i]? = some y) (hx : Loc X.env.scope y) (S : CompScope X.N X.env.scope scope own cap ix) (hi : PI X tg iter wi)
    (hb : ∀ (C : Addr) (s₀ : Shared) (H₀ : Hp) (ex : List Addr) (pn : List (Addr × Obj)), PG (X.comp scope own cap C s₀ H₀ ex pn) tg g ∧ PIfs (X.comp scope own cap C s₀ H₀ ex pn) ifs ti ∧ PE (X.comp scope own cap C s₀ H₀ ex pn) elt te)
    (hsw : swapsWith (.ListComp elt [⟨tg, iter, ifs, 0⟩] scope pos) (some (.Name y py)) spos.line X.env = pure true := by rfl)
    (hs : ∀ x, foldedSetIterable iter X.env x = pure x := by intro _; rfl) (hf : X.fn y = true ∨ X.env.scope.names.lookup y = some .local := by first | exact .inl rfl | exact .inr rfl | assumption) :
    PS X (.Assign [.Name y py] (.ListComp elt [⟨tg, iter, ifs, 0⟩] scope pos) spos) (tAsg (tComp own ix wi g ti te) (gName i)) := by
  intro pins s σ H D I h
  rw [exec_Assign_Name_used _ _ _ _ hsw]
  refine wpAny_bind (wpAny_standAt (wpAny_bind ?_))
  show wpAny _ X.A (do let _ ← comprehension (.ListComp elt [⟨tg, iter, ifs, 0⟩] scope pos) scope X.env _ (newList []) false (eval iter X.env) (some (assign (.Name y py) X.env))) _ _ s
  refine wpAny_bind (wpAny_mono (wpAny_comprehension_free (use := some (assign (.Name y py) X.env)) (Q := fun _ s' => SP X pins D .next s') rfl hs (closureFor_clos (S.has I.ok)) S.kind S.names
    (thn (hi pins s σ H _ I h) fun xv s₁ h₁ => thn h₁ fun itv s₂ h₂ => ?_)) (fun _ s' hq => wpAny_pure (wpAny_pure hq)) fun _ _ e => e)
  obtain ⟨it, fp, tn, J, H2, e, I2, T, st2, f2, W, h0, turn⟩ := h₂
  subst e
  refine comp_block (Q := fun x H1 => gName i x σ H1 D.nx) (RR := fun acc C => compPost (model X.prog X.w) X.A X.xe (some (assign (.Name y py) X.env)) (fun _ s' => SP X pins D .next s') acc C) hc I2 S T st2 f2 hb h0 turn ?_
  intro Da C oC m H' s' hoC hn h1 h2 h3 h4 h5 h6 I' q
  have hdc : ∀ v, oC.data ≠ .cell v := fun v z => by
    obtain ⟨o', es, ep, ho', hd', _⟩ := hn
    rw [hoC] at ho'; cases ho'; rw [hd'] at z; cases z
  have Ip : Inv X (pins ++ [(C, oC)]) σ H' s' := I'.pins_of fun p hp => by
    rcases List.mem_append.mp hp with z | z
    · exact I'.pin p (List.mem_append_right _ z)
    · have e1 : p = (C, oC) := by simpa using z
      subst e1
      exact ⟨hoC, h6, h1, h5, hdc⟩
  show wpAny _ X.A (assign (.Name y py) X.env (.ref Da)) _ _ _
  refine wpAny_assign_Name (store_ok (v := .ref Da) Ip hN hy hx rfl (fun s2 I3 => ?_) hf)
  have pc := I3.pin (C, oC) (List.mem_append_right _ (List.mem_append_right _ (by simp)))
  obtain ⟨o', es, ep, ho', r'⟩ := hn
  rw [hoC] at ho'; cases ho'
  refine ⟨m, ⟨oC, es, ep, pc.1, r'⟩, fun h' hs' => ⟨_, H', (Inv.unpinned I3).turned (t' := s2.toks) (it := C) (fun b o hb e => hs'.extBut b o hb e) h6 h1 (.inr h2) h3 h4, q⟩⟩
end
theorem comp_list {K : PySem.W.Frag} {a : Addr} {xs : List V} {x0 : Str} {ix : List Nat} {ti : TT} {te : TE} {Q : VK} {σ : St} {H : Hp} (Pv : Nat → List V → Hp → Prop) (h0 : Pv 0 [] H) (hl : ∀ i ys H, i ≤ xs.length → Pv i ys H → SqL K H a xs)
    (hs : ∀ i x ys H (R : List V → Hp → Prop), xs[i]? = some x → Pv i ys H → (∀ ys' H', Pv (i + 1) ys' H' → R ys' H') → ti (some x :: ix.map fun j => (σ[j]?).join) H fun b H3 => if b = true then te (some x :: ix.map fun j => (σ[j]?).join) H3 fun y H4 => ys.length < sizeLine ∧ R (ys ++ [y]) H4 else R ys H3)
    (hd : ∀ ys H, Pv xs.length ys H → ys.length ≤ sizeLine ∧ ∀ D, H D = none → Q (.ref D) (upd H D (.lst ys))) :
    ∃ W : Nat → Nat → List V → St → Hp → Prop, (∃ m, W 0 m [] (capS σ [x0] ix) H) ∧ ∀ i m ys σ' H, W i m ys σ' H →
      ((Itl K a).stop i H ∧ ys.length ≤ sizeLine ∧ ∀ D, H D = none → Q (.ref D) (upd H D (.lst ys))) ∨
      ((Itl K a).go i H ∧ ∀ x H', (Itl K a).yld i H x H' → gName 0 x σ' H' fun σ2 H2 => ti σ2 H2 fun b H3 => if b = true then te σ2 H3 fun y H4 => ys.length < sizeLine ∧ ∃ m', m' < m ∧ W (i + 1) m' (ys ++ [y]) σ2 H4 else ∃ m', m' < m ∧ W (i + 1) m' ys σ2 H3) := by
  refine ⟨fun i m ys σ' H => m = xs.length - i ∧ i ≤ xs.length ∧ (∃ o, σ' = o :: ix.map fun j => (σ[j]?).join) ∧ Pv i ys H, ⟨xs.length, by simp, Nat.zero_le _, ⟨none, rfl⟩, h0⟩, ?_⟩
  rintro i m ys σ' H ⟨rfl, hi, ⟨o, rfl⟩, p⟩
  have q := hl i ys H hi p
  by_cases hlt : i < xs.length
  · refine .inr ⟨⟨xs, xs[i], q, by simp [hlt]⟩, fun x H' y => ?_⟩
    obtain ⟨e, y⟩ := y
    subst e
    exact hs i x ys _ (fun ys' H4 => ∃ m', m' < xs.length - i ∧ m' = xs.length - (i + 1) ∧ i + 1 ≤ xs.length ∧ (∃ o', some x :: (ix.map fun j => (σ[j]?).join) = o' :: ix.map fun j => (σ[j]?).join) ∧ Pv (i + 1) ys' H4) (y xs q) p
      fun ys' H4 z => ⟨xs.length - (i + 1), by omega, rfl, hlt, ⟨_, rfl⟩, z⟩
  · have e : i = xs.length := by omega
    subst e
    exact .inl ⟨⟨xs, q, Nat.le_refl _⟩, hd ys H p⟩
theorem comp_str {z : Str} {x0 : Str} {ix : List Nat} {ti : TT} {te : TE} {Q : VK} {σ : St} {H : Hp} (Pv : Nat → List V → Hp → Prop) (h0 : Pv 0 [] H)
    (hs : ∀ i c ys H (R : List V → Hp → Prop), z.cps[i]? = some c → Pv i ys H → (∀ ys' H', Pv (i + 1) ys' H' → R ys' H') → ti (some (.str ⟨#[c]⟩) :: ix.map fun j => (σ[j]?).join) H fun b H3 => if b = true then te (some (.str ⟨#[c]⟩) :: ix.map fun j => (σ[j]?).join) H3 fun y H4 => ys.length < sizeLine ∧ R (ys ++ [y]) H4 else R ys H3)
    (hd : ∀ ys H, Pv z.cps.size ys H → ys.length ≤ sizeLine ∧ ∀ D, H D = none → Q (.ref D) (upd H D (.lst ys))) :
    ∃ W : Nat → Nat → List V → St → Hp → Prop, (∃ m, W 0 m [] (capS σ [x0] ix) H) ∧ ∀ i m ys σ' H, W i m ys σ' H →
      ((Its z).stop i H ∧ ys.length ≤ sizeLine ∧ ∀ D, H D = none → Q (.ref D) (upd H D (.lst ys))) ∨
      ((Its z).go i H ∧ ∀ x H', (Its z).yld i H x H' → gName 0 x σ' H' fun σ2 H2 => ti σ2 H2 fun b H3 => if b = true then te σ2 H3 fun y H4 => ys.length < sizeLine ∧ ∃ m', m' < m ∧ W (i + 1) m' (ys ++ [y]) σ2 H4 else ∃ m', m' < m ∧ W (i + 1) m' ys σ2 H3) := by
  refine ⟨fun i m ys σ' H => m = z.cps.size - i ∧ i ≤ z.cps.size ∧ (∃ o, σ' = o :: ix.map fun j => (σ[j]?).join) ∧ Pv i ys H, ⟨z.cps.size, by simp, Nat.zero_le _, ⟨none, rfl⟩, h0⟩, ?_⟩
  rintro i m ys σ' H ⟨rfl, hi, ⟨o, rfl⟩, p⟩
  by_cases hlt : i < z.cps.size
  · refine .inr ⟨hlt, fun x H' y => ?_⟩
    obtain ⟨e, c, hc, rfl⟩ := y
    subst e
    exact hs i c ys _ (fun ys' H4 => ∃ m', m' < z.cps.size - i ∧ m' = z.cps.size - (i + 1) ∧ i + 1 ≤ z.cps.size ∧ (∃ o', some (V.str ⟨#[c]⟩) :: (ix.map fun j => (σ[j]?).join) = o' :: ix.map fun j => (σ[j]?).join) ∧ Pv (i + 1) ys' H4) hc p
      fun ys' H4 q => ⟨z.cps.size - (i + 1), by omega, rfl, hlt, ⟨_, rfl⟩, q⟩
  · have e : i = z.cps.size := by omega
    subst e
    exact .inl ⟨rfl, hd ys H p⟩
theorem comp_range {lo : Int} {n : Nat} {x0 : Str} {ix : List Nat} {ti : TT} {te : TE} {Q : VK} {σ : St} {H : Hp} (Pv : Nat → List V → Hp → Prop) (h0 : Pv 0 [] H)
    (hs : ∀ i ys H (R : List V → Hp → Prop), i < n → Pv i ys H → (∀ ys' H', Pv (i + 1) ys' H' → R ys' H') → ti (some (.int (lo + i)) :: ix.map fun j => (σ[j]?).join) H fun b H3 => if b = true then te (some (.int (lo + i)) :: ix.map fun j => (σ[j]?).join) H3 fun y H4 => ys.length < sizeLine ∧ R (ys ++ [y]) H4 else R ys H3)
    (hd : ∀ ys H, Pv n ys H → ys.length ≤ sizeLine ∧ ∀ D, H D = none → Q (.ref D) (upd H D (.lst ys))) :
    ∃ W : Nat → Nat → List V → St → Hp → Prop, (∃ m, W 0 m [] (capS σ [x0] ix) H) ∧ ∀ i m ys σ' H, W i m ys σ' H →
      ((Itr lo n).stop i H ∧ ys.length ≤ sizeLine ∧ ∀ D, H D = none → Q (.ref D) (upd H D (.lst ys))) ∨
      ((Itr lo n).go i H ∧ ∀ x H', (Itr lo n).yld i H x H' → gName 0 x σ' H' fun σ2 H2 => ti σ2 H2 fun b H3 => if b = true then te σ2 H3 fun y H4 => ys.length < sizeLine ∧ ∃ m', m' < m ∧ W (i + 1) m' (ys ++ [y]) σ2 H4 else ∃ m', m' < m ∧ W (i + 1) m' ys σ2 H3) := by
  refine ⟨fun i m ys σ' H => m = n - i ∧ i ≤ n ∧ (∃ o, σ' = o :: ix.map fun j => (σ[j]?).join) ∧ Pv i ys H, ⟨n, by simp, Nat.zero_le _, ⟨none, rfl⟩, h0⟩, ?_⟩
  rintro i m ys σ' H ⟨rfl, hi, ⟨o, rfl⟩, p⟩
  by_cases hlt : i < n
  · refine .inr ⟨hlt, fun x H' y => ?_⟩
    obtain ⟨e, y⟩ := y
    subst e y
    exact hs i ys _ (fun ys' H4 => ∃ m', m' < n - i ∧ m' = n - (i + 1) ∧ i + 1 ≤ n ∧ (∃ o', some (V.int (lo + i)) :: (ix.map fun j => (σ[j]?).join) = o' :: ix.map fun j => (σ[j]?).join) ∧ Pv (i + 1) ys' H4) hlt p
      fun ys' H4 q => ⟨n - (i + 1), by omega, rfl, hlt, ⟨_, rfl⟩, q⟩
  · have e : i = n := by omega
    subst e
    exact .inl ⟨Nat.le_refl _, hd ys H p⟩
theorem tcomp_list {K : PySem.W.Frag} {a : Addr} {xs : List V} {x0 : Str} {ix : List Nat} {wi : TI} {ti : TT} {te : TE} {Q : VK} {σ : St} {H H1 : Hp} (hi : ∀ R : It → Hp → Prop, R (Itl K a) H1 → wi σ H R) (Pv : Nat → List V → Hp → Prop) (h0 : Pv 0 [] H1) (hl : ∀ i ys H, i ≤ xs.length → Pv i ys H → SqL K H a xs)
    (hs : ∀ i x ys H (R : List V → Hp → Prop), xs[i]? = some x → Pv i ys H → (∀ ys' H', Pv (i + 1) ys' H' → R ys' H') → ti (some x :: ix.map fun j => (σ[j]?).join) H fun b H3 => if b = true then te (some x :: ix.map fun j => (σ[j]?).join) H3 fun y H4 => ys.length < sizeLine ∧ R (ys ++ [y]) H4 else R ys H3)
    (hd : ∀ ys H, Pv xs.length ys H → ys.length ≤ sizeLine ∧ ∀ D, H D = none → Q (.ref D) (upd H D (.lst ys))) : tComp [x0] ix wi (gName 0) ti te σ H Q := hi _ (comp_list Pv h0 hl hs hd)
theorem tcomp_str {z : Str} {x0 : Str} {ix : List Nat} {wi : TI} {ti : TT} {te : TE} {Q : VK} {σ : St} {H H1 : Hp} (hi : ∀ R : It → Hp → Prop, R (Its z) H1 → wi σ H R) (Pv : Nat → List V → Hp → Prop) (h0 : Pv 0 [] H1)
    (hs : ∀ i c ys H (R : List V → Hp → Prop), z.cps[i]? = some c → Pv i ys H → (∀ ys' H', Pv (i + 1) ys' H' → R ys' H') → ti (some (.str ⟨#[c]⟩) :: ix.map fun j => (σ[j]?).join) H fun b H3 => if b = true then te (some (.str ⟨#[c]⟩) :: ix.map fun j => (σ[j]?).join) H3 fun y H4 => ys.length < sizeLine ∧ R (ys ++ [y]) H4 else R ys H3)
    (hd : ∀ ys H, Pv z.cps.size ys H → ys.length ≤ sizeLine ∧ ∀ D, H D = none → Q (.ref D) (upd H D (.lst ys))) : tComp [x0] ix wi (gName 0) ti te σ H Q := hi _ (comp_str Pv h0 hs hd)
theorem tcomp_range {lo : Int} {n : Nat} {x0 : Str} {ix : List Nat} {wi : TI} {ti : TT} {te : TE} {Q : VK} {σ : St} {H H1 : Hp} (hi : ∀ R : It → Hp → Prop, R (Itr lo n) H1 → wi σ H R) (Pv : Nat → List V → Hp → Prop) (h0 : Pv 0 [] H1)
    (hs : ∀ i ys H (R : List V → Hp → Prop), i < n → Pv i ys H → (∀ ys' H', Pv (i + 1) ys' H' → R ys' H') → ti (some (.int (lo + i)) :: ix.map fun j => (σ[j]?).join) H fun b H3 => if b = true then te (some (.int (lo + i)) :: ix.map fun j => (σ[j]?).join) H3 fun y H4 => ys.length < sizeLine ∧ R (ys ++ [y]) H4 else R ys H3)
    (hd : ∀ ys H, Pv n ys H → ys.length ≤ sizeLine ∧ ∀ D, H D = none → Q (.ref D) (upd H D (.lst ys))) : tComp [x0] ix wi (gName 0) ti te σ H Q := hi _ (comp_range Pv h0 hs hd)
end L2
namespace L2
open PySem PySem.Spec PyProof.Rows
section
variable {X : Cx}
theorem call_isiT : CallR X (.builtin "isinstance") (fun xs H Q => ∃ x n t b, xs = [x, .ty n] ∧ TyOf X.K H x t ∧ PySem.W.kitOne X.K t (.type n) = some b ∧ Q (.bl b) H) := by
  intro pins s σ H xs us Q I r h
  obtain ⟨x, n, t, b, rfl, ty, e, q⟩ := h
  obtain ⟨u, w', rfl, rx, rc⟩ := vals2 r
  cases (show w' = Value.type n from rc)
  exact isinst_ok I rx ty e fun tk => ⟨.bl b, H, I.tok tk, rfl, q⟩
theorem pe_ty {x : Str} {n : String} {pos : Pos} (hg : Gl X x) (hm : X.mg x = none) (hv : bootBuiltins x = some (.type n)) (hn : x ≠ "__name__" := by decide) (hd : (x == ("__debug__" : Str)) = false := by decide) : PE X (.Name x pos) (tC (.ty n)) :=
  pe_bltn (v := .ty n) hg hm hv rfl hn hd
theorem truth_bools {prog : Program} {w : World} {A : Around} {bs : List Bool} {its : List Value} (r : Vals (bs.map V.bl) its) : TruthOf prog w A (fun i v => its.toArray[i]? = some v) (fun i => bs.getD i false) := by
  intro i v s Q E hv q
  have hv' : its[i]? = some v := by simpa using hv
  have hl := r.length
  rw [List.length_map] at hl
  have hi : i < its.length := (List.getElem?_eq_some_iff.mp hv').1
  have hb : (bs.map V.bl)[i]? = some (.bl (bs.getD i false)) := by
    rw [List.getElem?_map, List.getD_eq_getElem?_getD, List.getElem?_eq_getElem (show i < bs.length by omega)]
    rfl
  obtain ⟨u, hu, ru⟩ := Vals.get r hb
  rw [hv'] at hu
  cases hu
  cases (show v = Value.bool _ from ru)
  exact wpAny_truthy_bool q
theorem range_all (bs : List Bool) : (List.range bs.length).all (fun i => bs.getD i false) = bs.all id := by
  rw [Bool.eq_iff_iff, List.all_eq_true, List.all_eq_true]
  constructor
  · intro h b hb
    obtain ⟨i, hi, e⟩ := List.mem_iff_getElem.mp hb
    have := h i (List.mem_range.mpr hi)
    rw [List.getD_eq_getElem?_getD, List.getElem?_eq_getElem hi, e] at this
    exact this
  · intro h i hi
    have hi' := List.mem_range.mp hi
    rw [List.getD_eq_getElem?_getD, List.getElem?_eq_getElem hi']
    exact h _ (List.getElem_mem hi')
theorem call_all (hc : X.calm = true) : CallR X (.builtin "all") (fun xs H Q => ∃ (p : Addr) (bs : List Bool), xs = [.ref p] ∧ SqL X.K H p (bs.map V.bl) ∧ Q (.bl (bs.all id)) H) := by
  intro pins s σ H xs us Q I r h
  obtain ⟨p, bs, rfl, hq, q⟩ := h
  obtain ⟨u, rfl, rx⟩ := vals1 r
  cases (show u = Value.ref p from rx)
  obtain ⟨its, rv, pl, hz⟩ := I.list hq
  have hlt : p < s.heap.objs.size := by obtain ⟨_, e, _⟩ := pl.isList; exact Heap.lt_size e
  have hl := rv.length
  rw [List.length_map] at hl
  refine call_all_walk (wpAny_pyIter_list pl.isList ⟨s.heap.objs.size, _, _, _, _, _, _, rfl, Walks.list (A := X.A.in1) (show X.A.in1.handled = none from I.ok.hd hc) s.heap.objs.size p (Nat.ne_of_lt hlt) its.toArray, ⟨⟨_, Heap.get?_push_size _ rfl, rfl, rfl⟩, pl.isList.push _⟩, truth_bools rv, fun h' tk hk => ?_⟩)
  rw [List.size_toArray, ← hl, range_all]
  exact ⟨.bl _, H, I.kept fun b o e => hk b o (by simpa using Nat.ne_of_lt (Heap.lt_size e)) (Heap.get?_push_of_some _ e), rfl, q⟩
def rSlS : V → Option Int → Option Int → Hp → VK → Prop := fun x lo hi H Q => ∃ z, x = .str z ∧ z.length ≤ sizeLine ∧ Q (.str (Txt.slice z lo hi)) H
theorem sl_str : SlR X rSlS := by
  intro pins s σ H x v vl vu lo hi sl Q I rx hs pl pu h
  obtain ⟨z, rfl, hz, q⟩ := h
  obtain ⟨t, rfl⟩ := rx
  refine ⟨"str", _, F.slot_str_getitem.lookup, typeIs_str _ _ _, ?_⟩
  have fin : (Txt.slice z lo hi).length ≤ sizeLine ∧ ∀ t' k, EP X pins σ Q (.str (Txt.slice z lo hi) t') { s with toks := k } := ⟨Nat.le_trans (Txt.slice_le z _ _) hz, fun t' k => ⟨.str _, H, I.tok k, ⟨t', rfl⟩, q⟩⟩
  obtain ⟨o, ho, hc, hd⟩ := hs
  cases pl with
  | none =>
    cases pu with
    | none => exact wpAny_getItem_str_slice (l := none) (u := none) (st := none) ⟨o, ho, hc, hd⟩ rfl (post_val_or_str fin)
    | int j uj => exact wpAny_getItem_str_slice (l := none) (u := some (j, uj)) (st := none) ⟨o, ho, hc, hd⟩ rfl (post_val_or_str fin)
  | int i ui =>
    cases pu with
    | none => exact wpAny_getItem_str_slice (l := some (i, ui)) (u := none) (st := none) ⟨o, ho, hc, hd⟩ rfl (post_val_or_str fin)
    | int j uj => exact wpAny_getItem_str_slice (l := some (i, ui)) (u := some (j, uj)) (st := none) ⟨o, ho, hc, hd⟩ rfl (post_val_or_str fin)
end
structure Def (K : PySem.W.Frag) (mg : Str → Option Value) (x : Str) (st : Stmt) (ps : List Str) (f : Addr) (fd : FuncData) : Prop where
  F : Fun K x x st f fd
  mg : mg x = some (.ref f)
  b : Binds K fd ps []
theorem atI_int {α : Type} {xs : List α} {i : Int} (h0 : 0 ≤ i) (h1 : i < xs.length) : ∃ v, v ∈ xs ∧ xs[i.toNat]? = some v ∧ atI xs i = some v := by
  obtain ⟨n, rfl⟩ := Int.eq_ofNat_of_zero_le h0
  have hn : n < xs.length := by omega
  exact ⟨xs[n], List.getElem_mem hn, by simp [hn], atI_nat (List.getElem?_eq_getElem hn)⟩
theorem atI_mod {α : Type} {xs : List α} {i m : Int} (h0 : 0 < m) (h1 : m ≤ xs.length) : ∃ v, v ∈ xs ∧ xs[(i % m).toNat]? = some v ∧ atI xs (i % m) = some v :=
  atI_int (Int.emod_nonneg _ (by omega)) (by have := Int.emod_lt_of_pos i h0; omega)
end L2
namespace L2
open PySem PySem.Spec PyProof.Rows
mutual
inductive DatV (K : PySem.W.Frag) (H : Hp) : V → PyData → Prop
  | non : DatV K H .non .none
  | bl (b : Bool) : DatV K H (.bl b) (.bool b)
  | int (i : Int) : DatV K H (.int i) (.int i)
  | str (x : Str) : DatV K H (.str x) (.str x)
  | lst {a : Addr} {xs : List V} {ds : List PyData} : SqL K H a xs → DatVs K H xs ds → DatV K H (.ref a) (.list ds)
  | tup {a : Addr} {xs : List V} {ds : List PyData} : SqT K H a xs → DatVs K H xs ds → DatV K H (.ref a) (.tuple ds)
inductive DatVs (K : PySem.W.Frag) (H : Hp) : List V → List PyData → Prop
  | nil : DatVs K H [] []
  | cons {x : V} {d : PyData} {xs : List V} {ds : List PyData} : DatV K H x d → DatVs K H xs ds → DatVs K H (x :: xs) (d :: ds)
end
theorem DatV.reads {X : Cx} {pins : List (Addr × Obj)} {σ : St} {H : Hp} {s : Shared} (I : Inv X pins σ H s) {v : V} {d : PyData} (h : DatV X.K H v d) : ∀ u, RelV v u → ∃ as, Reads s.heap u d as :=
  DatV.rec (motive_1 := fun v d _ => ∀ u, RelV v u → ∃ as, Reads s.heap u d as) (motive_2 := fun xs ds _ => ∀ us, Vals xs us → ∃ as, ReadsAll s.heap us ds as)
    (fun u r => by cases (show u = Value.none from r); exact ⟨_, .none⟩)
    (fun b u r => by cases (show u = Value.bool b from r); exact ⟨_, .bool b⟩)
    (fun i u r => by obtain ⟨t, rfl⟩ := (show ∃ t, u = Value.int i t from r); exact ⟨_, .int i t⟩)
    (fun x u r => by obtain ⟨t, rfl⟩ := (show ∃ t, u = Value.str x t from r); exact ⟨_, .str x t⟩)
    (fun {a xs ds} hq _ ih u r => by
      cases (show u = Value.ref a from r)
      obtain ⟨its, rv, pl, _⟩ := I.list hq
      obtain ⟨o, ho, hc, n, hd⟩ := pl.isList
      obtain ⟨as, ra⟩ := ih its rv
      exact ⟨_, .list ho hc hd (by simpa using ra)⟩)
    (fun {a xs ds} hq _ ih u r => by
      cases (show u = Value.ref a from r)
      obtain ⟨its, rv, pl, _⟩ := I.tuple hq
      obtain ⟨o, ho, hc, n, hd⟩ := pl
      obtain ⟨as, ra⟩ := ih its rv
      exact ⟨_, .tuple ho hc hd (by simpa using ra)⟩)
    (fun us r => by cases r; exact ⟨_, .nil⟩)
    (fun {x d xs ds} _ _ ih1 ih2 us r => by
      cases r with
      | cons r1 r2 =>
        obtain ⟨as, ra⟩ := ih1 _ r1
        obtain ⟨bs, rb⟩ := ih2 _ r2
        exact ⟨_, .cons ra rb⟩) h
theorem SqL.same {K : PySem.W.Frag} {H H' : Hp} {a : Addr} {xs : List V} (e : Same H H') (h : SqL K H a xs) : SqL K H' a xs := e.seq h
theorem SqT.same {K : PySem.W.Frag} {H H' : Hp} {a : Addr} {xs : List V} (e : Same H H') (h : SqT K H a xs) : SqT K H' a xs := by
  rcases h with (h | ⟨o, h⟩) | h
  · exact .inl (.inl (e _ _ h))
  · exact .inl (.inr ⟨o, e _ _ h⟩)
  · exact .inr h
theorem DatV.same {K : PySem.W.Frag} {H H' : Hp} (e : Same H H') {v : V} {d : PyData} (h : DatV K H v d) : DatV K H' v d :=
  DatV.rec (motive_1 := fun v d _ => DatV K H' v d) (motive_2 := fun xs ds _ => DatVs K H' xs ds) .non .bl .int .str (fun q _ ih => .lst (q.same e) ih) (fun q _ ih => .tup (q.same e) ih) .nil (fun _ _ a b => .cons a b) h
theorem DatVs.same {K : PySem.W.Frag} {H H' : Hp} (e : Same H H') {v : List V} {d : List PyData} (h : DatVs K H v d) : DatVs K H' v d :=
  DatVs.rec (motive_1 := fun v d _ => DatV K H' v d) (motive_2 := fun xs ds _ => DatVs K H' xs ds) .non .bl .int .str (fun q _ ih => .lst (q.same e) ih) (fun q _ ih => .tup (q.same e) ih) .nil (fun _ _ a b => .cons a b) h
section
variable {X : Cx}
def rEqD (K : PySem.W.Frag) (neg : Bool) : R2 := fun x y H Q => ∃ d e, DatV K H x d ∧ DatV K H y e ∧ SeqAt.shaped d = true ∧ SeqAt.shaped e = true ∧ Q (.bl (if neg then !PyData.eqv d e else PyData.eqv d e)) H
theorem op_eqD (hu : X.A.units + 64 < cLine) : OpR X (compareOp .Eq) (rEqD X.K false) := by
  intro pins s σ H x y v u Q I rx ry h
  obtain ⟨d, e, hd, he, s1, s2, q⟩ := h
  obtain ⟨as, ra⟩ := hd.reads I v rx
  obtain ⟨bs, rb⟩ := he.reads I u ry
  exact eq_dataH ra rb s1 s2 hu ⟨.bl _, H, I, rfl, q⟩
end
end L2
namespace L2
open PySem PySem.Spec PyProof.Rows
def CtxP (φ : Option Value → Prop) (e : Addr) (h : Heap) : Prop := ∃ o fs, h.get? e = some o ∧ o.data = .fields fs ∧ φ fs[2]?
section
variable {M : Model} {A : Around} {E : Value → Shared → Prop} {s : Shared} {φ : Option Value → Prop}
theorem entryC {B : Heap} {ev : Env} {out : List Env} {L e : Addr} {o : Obj} {fs : Array Value} {hd a0 : Value} {hn : Bool} {Q : Unit → Shared → Prop}
    (fr : A.frames = some (ev :: out)) (ff : s.heap.FunFrames B (ev :: out)) (fL : ev.frame = some L) (st : B.StaysIn s.heap) (ne : B.get? e = none)
    (he : s.heap.get? e = some o) (od : o.data = .fields fs) (f0 : fs[0]? = some a0) (f1 : 1 < fs.size) (f2 : φ fs[2]?)
    (k : ∀ h', Heap.NotedW B (ev :: out) e o.cls a0 (rawInt L) s.heap h' → CtxP φ e h' → Q () { s with heap := h' }) :
    wpAny M A (do let a ← frameOf ev; let pl ← entryPlaceOf L hn; let b ← EntryCells.newEntry hd a .none (rawInt L) .none pl; setField (.ref e) 1 b) Q E s := by
  have notF : e ∉ (ev :: out).filterMap (·.frame) := fun q => by
    obtain ⟨_, o2, e2, d2⟩ := ff.mem q
    rw [he] at e2
    cases e2
    exact d2 fs od
  refine wpAny_bind (wpAny_frameOf_fun fr ff fL fun g sg => wpAny_bind (wpAny_entryPlaceOf fun pl isP => ?_))
  unfold EntryCells.newEntry newFields
  refine wpAny_bind (wpAny_newObj_type ?_ (isP.sizeOk5 _ _ _ _ _))
  have ge : g.get? e = some o := (sg.2.1 e notF).trans he
  have gB : B.StaysIn g := fun b u q => (sg.2.1 b fun z => by
    rw [(ff.mem z).1] at q
    cases q).trans (st b u q)
  generalize hT : ({ cls := .type "traceback", dict := none, data := .fields ([hd, .ref L, .none, rawInt L, .none] ++ (if pl.isEmpty then List.replicate 6 Value.none else pl)).toArray } : Obj) = tb
  have td : tb.data = .fields ([hd, .ref L, .none, rawInt L, .none] ++ (if pl.isEmpty then List.replicate 6 Value.none else pl)).toArray := by rw [← hT]
  have tf : tb.isFreed = false := Obj.isFreed_of_fields td
  have pe := Heap.get?_push_of_some (h := g) tb ge
  refine wpAny_setField pe od f1 ?_
  have nT : g.objs.size ≠ e := Nat.ne_of_gt (Heap.lt_size ge)
  have ud := Obj.data_mapFields od (·.setIfInBounds 1 (Value.ref g.objs.size))
  have ue := Heap.get?_update_self (Obj.mapFields (·.setIfInBounds 1 (Value.ref g.objs.size))) pe (Obj.isFreed_of_fields ud)
  have uT := (Heap.get?_update_other (g.push tb) (Obj.mapFields (·.setIfInBounds 1 (Value.ref g.objs.size))) (Ne.symm nT)).trans (Heap.get?_push_size g tf)
  have stay : ∀ b u, b ≠ e → g.get? b = some u → ((g.push tb).update e (Obj.mapFields (·.setIfInBounds 1 (Value.ref g.objs.size)))).get? b = some u := fun b u q z => by
    rw [Heap.get?_update_other _ _ (Ne.symm q)]
    exact Heap.get?_push_of_some _ z
  have other : ∀ b u, s.heap.get? b = some u → (∀ vs, u.data ≠ .fields vs) → b ≠ e := fun b u z nf q => by
    rw [q, he] at z
    cases z
    exact nf fs od
  refine k _ ⟨fun b u q => stay b u (fun z => by rw [z, ne] at q; cases q) (gB b u q), ff.of_keeps fun b u z nf => ?_, ?_, fun b u z nf => ?_⟩ ⟨_, _, ue, ud, by rw [Array.getElem?_setIfInBounds_ne (by decide)]; exact f2⟩
  · obtain ⟨sl, z2⟩ := sg.2.2 b u z
    exact ⟨_, stay b _ (other b u z nf) z2, rfl⟩
  · refine ⟨_, _, g.objs.size, _, _, ue, ⟨Obj.cls_mapFields _ _, by rw [Array.getElem?_setIfInBounds_ne (by decide)]; exact f0⟩, ud, by simp [f1], gB.fresh, nT, uT, td, ?_⟩
    first
      | (simp; done)
      | (rcases isP with rfl | ⟨_, _, _, _, _, _, _, rfl⟩ <;> simp)
  · obtain ⟨sl, z2⟩ := sg.2.2 b u z
    exact ⟨sl, stay b _ (other b u z nf) z2⟩
theorem looksC {B : Heap} {ev : Env} {out : List Env} {L e : Addr} {cls a0 : Value} {Q : Unit → Shared → Prop} (fr : A.frames = some (ev :: out)) (fL : ev.frame = some L) (fl : Heap.FlyingW B (ev :: out) e cls a0 s.heap) (cx : CtxP φ e s.heap)
    (k : ∀ h', Heap.HeldW B (ev :: out) e cls a0 L h' → s.heap.UpToSlots h' → CtxP φ e h' → Q () { s with heap := h' }) : wpAny M A (noteFrame (.ref e) ev) Q E s := by
  obtain ⟨st, ne, ff, o, fs, T, oT, ts, he, ⟨hc, f0⟩, od, f1, nT, Te, hT, dT, t3⟩ := fl
  obtain ⟨o2, fs2, he2, od2, f2⟩ := cx
  rw [he] at he2
  cases he2
  rw [od] at od2
  cases od2
  subst hc
  unfold noteFrame
  simp only [fL]
  refine wpAny_bind (wpAny_field he od f1 ?_)
  rw [if_pos (show (Value.ref T != Value.none) = true from by simp)]
  refine wpAny_bind (wpAny_field hT dT t3 ?_)
  rw [if_neg (show ¬ ((Value.none == rawInt L) = true) from by simp [rawInt])]
  refine wpAny_bind (wpAny_setField hT dT (Array.getElem?_eq_some_iff.mp t3).1 ?_)
  have oth : ∀ b, b ≠ T → (s.heap.update T (Obj.mapFields (·.setIfInBounds 3 Value.none))).get? b = s.heap.get? b := fun b q => Heap.get?_update_other _ _ (Ne.symm q)
  have noT : ∀ b u, s.heap.get? b = some u → (∀ vs, u.data ≠ .fields vs) → b ≠ T := fun b u z nf q => by
    rw [q, hT] at z
    cases z
    exact nf ts dT
  refine entryC (φ := φ) fr (ff.of_keeps fun b u z nf => ⟨u, (oth b (noT b u z nf)).trans z, rfl⟩) fL (fun b u q => (oth b fun z => by rw [z, nT] at q; cases q).trans (st b u q)) ne ((oth e (Ne.symm Te)).trans he) od f0 (Array.getElem?_eq_some_iff.mp f1).1 f2 fun h' N cx' => ?_
  obtain ⟨n1, n2, n3, n4⟩ := N
  exact k h' ⟨n1, ne, n2, n3⟩ (fun b u z nf => n4 b u ((oth b (noT b u z nf)).trans z) nf) cx'
theorem landsC {B : Heap} {l : List Env} {e : Addr} {cls a0 fl : Value} {Q : Unit → Shared → Prop} (st : B.StaysIn s.heap) (ne : B.get? e = none) (ff : s.heap.FunFrames B l) (tr : s.heap.TracedAtW B e cls a0 fl) (cx : CtxP φ e s.heap)
    (k : ∀ h', Heap.FlyingW B l e cls a0 h' → s.heap.UpToSlots h' → CtxP φ e h' → Q () { s with heap := h' }) : wpAny M A (setFlight (.ref e) none) Q E s := by
  obtain ⟨o, fs, T, oT, ts, he, hc, od, f1, nT, Te, hT, dT, t3⟩ := tr
  obtain ⟨o2, fs2, he2, od2, f2⟩ := cx
  rw [he] at he2
  cases he2
  rw [od] at od2
  cases od2
  have t3s : 3 < ts.size := (Array.getElem?_eq_some_iff.mp t3).1
  have oth : ∀ b, b ≠ T → (s.heap.update T (Obj.mapFields (·.setIfInBounds 3 Value.none))).get? b = s.heap.get? b := fun b q => Heap.get?_update_other _ _ (Ne.symm q)
  have noT : ∀ b u, s.heap.get? b = some u → (∀ vs, u.data ≠ .fields vs) → b ≠ T := fun b u z nf q => by
    rw [q, hT] at z
    cases z
    exact nf ts dT
  unfold setFlight
  refine wpAny_bind (wpAny_field he od f1 ?_)
  rw [if_pos (show (Value.ref T != Value.none) = true from by simp)]
  have dT2 := Obj.data_mapFields dT (·.setIfInBounds 3 Value.none)
  have uT := Heap.get?_update_self (Obj.mapFields (·.setIfInBounds 3 Value.none)) hT (Obj.isFreed_of_fields dT2)
  have ee := (oth e (Ne.symm Te)).trans he
  exact wpAny_setField hT dT t3s (k _ ⟨fun b u q => (oth b fun z => by rw [z, nT] at q; cases q).trans (st b u q), ne, ff.of_keeps fun b u z nf => ⟨u, (oth b (noT b u z nf)).trans z, rfl⟩, o, fs, T, _, _, ee, hc, od, f1, nT, Te, uT, dT2, by simp [t3s]⟩
    (fun b u z nf => ⟨u.slots, (oth b (noT b u z nf)).trans z⟩) ⟨o, fs, ee, od, f2⟩)
theorem leavesC {B : Heap} {ev : Env} {out : List Env} {L e : Addr} {cls a0 : Value} {Q : Unit → Shared → Prop} (fr : A.frames = some (ev :: out)) (fL : ev.frame = some L) (fl : Heap.FlyingW B (ev :: out) e cls a0 s.heap) (cx : CtxP φ e s.heap)
    (k : ∀ h', Heap.FlyingW B out e cls a0 h' → s.heap.UpToSlots h' → CtxP φ e h' → Q () { s with heap := h' }) : wpAny M A (leaving ev (.ref e)) Q E s := by
  unfold leaving
  refine wpAny_bind (looksC fr fL fl cx fun g hl sg cg => ?_)
  obtain ⟨h1, h2, h3, h4⟩ := hl
  refine landsC h1 h2 h3 h4 cg fun g2 f2 sg2 cg2 => ?_
  obtain ⟨k1, k2, ⟨_, _, k3⟩, k4⟩ := f2
  exact k g2 ⟨k1, k2, k3, k4⟩ (sg.trans sg2) cg2
theorem firstC {B : Heap} {ev : Env} {out : List Env} {L e : Addr} {o : Obj} {fs : Array Value} {a0 : Value} {Q : Unit → Shared → Prop} (fr : A.frames = some (ev :: out)) (ff : s.heap.FunFrames B (ev :: out)) (fL : ev.frame = some L) (st : B.StaysIn s.heap) (ne : B.get? e = none)
    (he : s.heap.get? e = some o) (od : o.data = .fields fs) (f0 : fs[0]? = some a0) (f1 : fs[1]? = some .none) (f2 : φ fs[2]?)
    (k : ∀ h', Heap.FlyingW B out e o.cls a0 h' → s.heap.UpToSlots h' → CtxP φ e h' → Q () { s with heap := h' }) : wpAny M A (leaving ev (.ref e)) Q E s := by
  unfold leaving noteFrame
  simp only [fL]
  refine wpAny_bind (wpAny_bind (wpAny_field he od f1 ?_))
  rw [if_neg (by decide)]
  refine entryC (φ := φ) fr ff fL st ne he od f0 (Array.getElem?_eq_some_iff.mp f1).1 f2 fun g N cg => ?_
  obtain ⟨n1, n2, n3, n4⟩ := N
  refine landsC n1 ne n2 n3 cg fun g2 f2 sg2 cg2 => ?_
  obtain ⟨k1, k2, ⟨_, _, k3⟩, k4⟩ := f2
  exact k g2 ⟨k1, k2, k3, k4⟩ (Heap.UpToSlots.trans n4 sg2) cg2
end
end L2
namespace L2
open PySem PySem.Spec PyProof.Rows
section
variable {P : Program} {w : World} {H H' : Hp} {h h' : Heap} {a : Addr} {o : HO}
theorem ObjOk.there (x : ObjOk P w H h a o) : ∃ ob, h.get? a = some ob := by
  cases o with
  | lst xs => obtain ⟨_, _, _, _, e⟩ := x; exact ⟨_, e⟩
  | tup xs => obtain ⟨_, _, _, _, e, _⟩ := x; exact ⟨_, e⟩
  | dK kvs => obtain ⟨_, _, _, _, o, _, _, e, _⟩ := x; exact ⟨_, e⟩
  | dT kvs => obtain ⟨_, _, _, _, o, _, _, e, _⟩ := x; exact ⟨_, e⟩
  | set S n => obtain ⟨o, _, _, _, e, _⟩ := x; exact ⟨_, e⟩
  | ins C dx fs => obtain ⟨_, _, _, e, _⟩ := x; exact ⟨_, e⟩
  | own y => obtain ⟨_, e⟩ := x; exact ⟨_, e⟩
  | xd fs => obtain ⟨_, ⟨_, _, _, e, _⟩, _⟩ := x; exact ⟨_, e⟩
  | rng lo hi => obtain ⟨_, _, _, e⟩ := x; exact ⟨_, e⟩
  | frz ob u => obtain ⟨e, _⟩ := x; exact ⟨_, e⟩
  | tbl ps => exact ⟨_, (show h.get? a = some _ from x)⟩
  | met f y => exact ⟨_, (show h.get? a = some _ from x)⟩
  | ext φ => obtain ⟨_, ⟨_, e⟩, _⟩ := x; exact ⟨_, e⟩
end
def excN (a : Addr) (cls : Value) : HO := .ext fun h => ∃ ob vs, h.get? a = some ob ∧ ob.cls = cls ∧ ob.data = .fields vs ∧ vs[2]? = some .none
theorem excN_ok {P : Program} {w : World} {H : Hp} {h : Heap} {a : Addr} {cls : Value} {ob : Obj} {vs : Array Value} (e : h.get? a = some ob) (hc : ob.cls = cls) (hd : ob.data = .fields vs) (h2 : vs[2]? = some .none) : ObjOk P w H h a (excN a cls) :=
  ⟨⟨ob, vs, e, hc, hd, h2⟩, ⟨ob, e⟩, fun h1 h2 ⟨o1, v1, e1, c1, d1, x1⟩ k => ⟨o1, v1, k o1 e1, c1, d1, x1⟩⟩
abbrev CtxT := Hp → Option Value → Prop
def ctx1 : CtxT := fun _ v => v = some .none
def ctx3 : CtxT := fun H v => v = some .none ∨ ∃ a c, v = some (.ref a) ∧ H a = some (excN a c)
structure Fly (φ : CtxT) (P : Program) (w : World) (outer : List Env) (H H' : Hp) (s : Shared) (ea : Addr) (cls : Value) (s' : Shared) : Prop where
  os : s'.os = s.os
  bare : AllBare s'.gens
  cx : CtxP (φ H') ea s'.heap
  un : Un (frs outer) [] H H' s.heap s'.heap
  fly : ∃ B a0, Heap.FlyingW B outer ea cls a0 s'.heap ∧ HOk P w H' B ∧ (∀ b o, s.heap.get? b = some o → H b = none → b ∉ frs outer → B.get? b = some o) ∧ (∀ b o, s.heap.get? b = some o → b ∉ frs outer → ∃ o', B.get? b = some o')
def CXP (φ : CtxT) (P : Program) (w : World) : CXT := fun outer H s E e s' => ∃ ea cls H', e = .ref ea ∧ Fly φ P w outer H H' s ea cls s' ∧ E cls none H'
abbrev CX1 := CXP ctx1
abbrev CX3 := CXP ctx3
section
variable {φ : CtxT} {P : Program} {w : World} {outer : List Env} {H H' : Hp} {s s' : Shared} {ea : Addr} {cls : Value}
theorem Fly.turn {B : Heap} {a0 : Value} {h'' : Heap} (f : Fly φ P w outer H H' s ea cls s') (hfl : Heap.FlyingW B outer ea cls a0 s'.heap) (hok : HOk P w H' B) (h3 : ∀ b o, s.heap.get? b = some o → H b = none → b ∉ frs outer → B.get? b = some o)
    (h4 : ∀ b o, s.heap.get? b = some o → b ∉ frs outer → ∃ o', B.get? b = some o') (hfl' : Heap.FlyingW B outer ea cls a0 h'') (sm : s'.heap.UpToSlots h'') (cx : CtxP (φ H') ea h'') : Fly φ P w outer H H' s ea cls { s' with heap := h'' } := by
  have fr : ∀ b o', b ∈ frs outer → s'.heap.get? b = some o' → ∃ sl, h''.get? b = some { o' with slots := sl } := fun b o' hb e => by
    obtain ⟨_, o1, e1, d1⟩ := hfl.2.2.1.mem hb
    rw [e] at e1; cases e1
    exact sm b o' e d1
  refine ⟨f.os, f.bare, cx, ⟨fun b o e n hb _ => hfl'.1 _ _ (h3 b o e n hb), fun b o e n hb hx => ?_, f.un.free, fun b o e hx => ?_, f.un.tups, f.un.frzs, f.un.tbls⟩, B, a0, hfl', hok, h3, h4⟩
  · obtain ⟨sl, e1⟩ := f.un.slot b o e n hb hx
    obtain ⟨sl', e2⟩ := fr b _ hb e1
    exact ⟨sl', e2⟩
  · by_cases hb : b ∈ frs outer
    · obtain ⟨o', e1⟩ := f.un.there b o e hx
      obtain ⟨sl', e2⟩ := fr b _ hb e1
      exact ⟨_, e2⟩
    · obtain ⟨o', e1⟩ := h4 b o e hb
      exact ⟨o', hfl'.1 _ _ e1⟩
theorem Fly.free (f : Fly φ P w outer H H' s ea cls s') : H' ea = none := by
  obtain ⟨B, a0, hfl, hok, _⟩ := f.fly
  cases q : H' ea with
  | none => rfl
  | some o =>
    obtain ⟨ob, e⟩ := (hok ea o q).there
    rw [hfl.2.1] at e; cases e
theorem Fly.hok (f : Fly φ P w outer H H' s ea cls s') : HOk P w H' s'.heap := by
  obtain ⟨B, a0, hfl, hok, _⟩ := f.fly
  exact hok.kept fun b u e => hfl.1 b u e
theorem Fly.new (f : Fly φ P w outer H H' s ea cls s') : s.heap.get? ea = none := by
  obtain ⟨B, a0, hfl, hok, h3, h4⟩ := f.fly
  cases q : s.heap.get? ea with
  | none => rfl
  | some o =>
    by_cases hb : ea ∈ frs outer
    · obtain ⟨_, o1, e1, d1⟩ := hfl.2.2.1.mem hb
      obtain ⟨_, _, _, oe, vs, T, oT, ts, he, _, hd, _⟩ := hfl
      rw [e1] at he; cases he
      exact absurd hd (d1 vs)
    · obtain ⟨o', e⟩ := h4 ea o q hb
      rw [hfl.2.1] at e; cases e
theorem Fly.at (f : Fly φ P w outer H H' s ea cls s') : ∃ oe vs, s'.heap.get? ea = some oe ∧ oe.cls = cls ∧ oe.data = .fields vs := by
  obtain ⟨B, a0, hfl, _⟩ := f.fly
  obtain ⟨oe, vs, he, hc, hd, _⟩ := hfl.first
  exact ⟨oe, vs, he, hc, hd⟩
end
structure Own (X : Cx) : Prop where
  stack : X.stack = X.env :: X.outer
  frame : X.env.frame = some X.env.locals
  ex : X.ex = []
section
variable {X : Cx} {pins : List (Addr × Obj)} {σ : St} {H H' : Hp} {s s' : Shared} {ea : Addr} {cls : Value} {φ : CtxT}
theorem Own.frs (O : Own X) : frs X.stack = X.env.locals :: X.fs := by
  rw [O.stack]
  show (X.env :: X.outer).filterMap _ = _
  rw [List.filterMap_cons, O.frame]
  rfl
theorem Inv.old (I : Inv X pins σ H s) {b : Addr} {o : Obj} (e : X.s₀.heap.get? b = some o) : b ≠ X.env.locals := Nat.ne_of_lt (Nat.lt_of_lt_of_le (Heap.lt_size e) I.ok.above)
theorem Inv.oldStk (O : Own X) (I : Inv X pins σ H s) {b : Addr} {o : Obj} (e : X.s₀.heap.get? b = some o) (hb : b ∉ X.fs) : b ∉ L2.frs X.stack := by
  rw [O.frs]
  intro z
  rcases List.mem_cons.mp z with q | q
  · exact I.old e q
  · exact hb q
theorem Fly.on (O : Own X) (I : Inv X pins σ H s) (f : Fly φ X.prog X.w X.stack H H' s ea cls s') {h'' : Heap} (B : Heap) (a0 : Value) (hfl : Heap.FlyingW B X.stack ea cls a0 s'.heap) (hok : HOk X.prog X.w H' B)
    (h3 : ∀ b o, s.heap.get? b = some o → H b = none → b ∉ frs X.stack → B.get? b = some o) (h4 : ∀ b o, s.heap.get? b = some o → b ∉ frs X.stack → ∃ o', B.get? b = some o') (hfl' : Heap.FlyingW B X.outer ea cls a0 h'') (sm : s'.heap.UpToSlots h'') (cx : CtxP (φ H') ea h'') :
    Fly φ X.prog X.w X.outer X.H₀ H' X.s₀ ea cls { s' with heap := h'' } := by
  have nex : ∀ b : Addr, b ∉ X.ex := fun b z => by rw [O.ex] at z; exact nomatch z
  have fsS : ∀ b, b ∈ X.fs → b ∈ frs X.stack := fun b hb => by rw [O.frs]; exact List.mem_cons_of_mem _ hb
  have fr : ∀ b o', b ∈ X.fs → s'.heap.get? b = some o' → ∃ sl, h''.get? b = some { o' with slots := sl } := fun b o' hb e => by
    obtain ⟨_, o1, e1, d1⟩ := hfl.2.2.1.mem (fsS b hb)
    rw [e] at e1; cases e1
    exact sm b o' e d1
  have k3 : ∀ b o, X.s₀.heap.get? b = some o → X.H₀ b = none → b ∉ X.fs → B.get? b = some o := fun b o e n hb => h3 b o (I.base.keep b o e n hb (nex b)) (I.base.free b o e n (nex b)) (I.oldStk O e hb)
  have k4 : ∀ b o, X.s₀.heap.get? b = some o → b ∉ X.fs → ∃ o', B.get? b = some o' := fun b o e hb => by
    obtain ⟨o1, e1⟩ := I.base.there b o e (nex b)
    exact h4 b o1 e1 (I.oldStk O e hb)
  refine ⟨f.os.trans I.os, f.bare, cx, ⟨fun b o e n hb _ => hfl'.1 _ _ (k3 b o e n hb), fun b o e n hb _ => ?_, fun b o e n _ => ?_, fun b o e _ => ?_, fun b xs q => f.un.tups b xs (I.base.tups b xs q), fun b o u q => f.un.frzs b o u (I.base.frzs b o u q), fun b ps q => ?_⟩, B, a0, hfl', hok, k3, k4⟩
  · obtain ⟨sl, e1⟩ := I.base.slot b o e n hb (nex b)
    obtain ⟨sl1, e2⟩ := f.un.slot b _ e1 (I.base.free b o e n (nex b)) (fsS b hb) (by simp)
    obtain ⟨sl2, e3⟩ := fr b _ hb e2
    exact ⟨sl2, e3⟩
  · obtain ⟨o1, e1⟩ := I.base.there b o e (nex b)
    exact f.un.free b o1 e1 (I.base.free b o e n (nex b)) (by simp)
  · by_cases hb : b ∈ X.fs
    · obtain ⟨o1, e1⟩ := I.base.there b o e (nex b)
      obtain ⟨o2, e2⟩ := f.un.there b o1 e1 (by simp)
      obtain ⟨sl, e3⟩ := fr b _ hb e2
      exact ⟨_, e3⟩
    · obtain ⟨o', e1⟩ := k4 b o e hb
      exact ⟨o', hfl'.1 _ _ e1⟩
  · obtain ⟨m1, e1⟩ := I.base.tbls b ps q
    obtain ⟨m2, e2⟩ := f.un.tbls b _ e1
    exact ⟨m1 ++ m2, by rw [e2, Array.append_assoc]⟩
theorem Inv.hid (I : Inv X pins σ H s) : HOk X.prog X.w H (PySem.W.hideAll s.heap (frs X.stack)) := fun a o e => by
  have out : ∀ b u, H b = some u → b ∉ frs X.stack := fun b u q z => by rw [I.stkFree b z] at q; cases q
  refine (I.hok a o e).stay (fun b u hb q => PySem.W.hideAll_get _ q ?_) (fun _ q => q) fun _ _ q => q
  rcases hb with rfl | hb
  · exact out _ _ e
  · exact out _ _ hb
theorem Inv.thrown (O : Own X) (I : Inv X pins σ H s) {h1 h'' : Heap} {a0 : Value} (mk : ∀ b o, s.heap.get? b = some o → h1.get? b = some o) (hfl' : Heap.FlyingW (PySem.W.hideAll s.heap (frs X.stack)) X.outer ea cls a0 h'') (sm : h1.UpToSlots h'') (cx : CtxP (φ H) ea h'') :
    Fly φ X.prog X.w X.outer X.H₀ H X.s₀ ea cls { s with heap := h'' } := by
  have nex : ∀ b : Addr, b ∉ X.ex := fun b z => by rw [O.ex] at z; exact nomatch z
  have fr : ∀ b o1 sl, b ∈ X.fs → X.s₀.heap.get? b = some o1 → s.heap.get? b = some { o1 with slots := sl } → ∃ sl, h''.get? b = some { o1 with slots := sl } := fun b o1 sl hb e0 e => by
    obtain ⟨_, o2, e2, d2⟩ := I.ok.funs.mem hb
    rw [e0] at e2; cases e2
    obtain ⟨sl', q⟩ := sm b _ (mk _ _ e) d2
    exact ⟨sl', q⟩
  have k3 : ∀ b o, X.s₀.heap.get? b = some o → X.H₀ b = none → b ∉ X.fs → (PySem.W.hideAll s.heap (frs X.stack)).get? b = some o := fun b o e n hb => PySem.W.hideAll_get _ (I.base.keep b o e n hb (nex b)) (I.oldStk O e hb)
  have k4 : ∀ b o, X.s₀.heap.get? b = some o → b ∉ X.fs → ∃ o', (PySem.W.hideAll s.heap (frs X.stack)).get? b = some o' := fun b o e hb => by
    obtain ⟨o1, e1⟩ := I.base.there b o e (nex b)
    exact ⟨o1, PySem.W.hideAll_get _ e1 (I.oldStk O e hb)⟩
  refine ⟨I.os, I.bare, cx, ⟨fun b o e n hb _ => hfl'.1 _ _ (k3 b o e n hb), fun b o e n hb _ => ?_, fun b o e n _ => I.base.free b o e n (nex b), fun b o e _ => ?_, I.base.tups, I.base.frzs, I.base.tbls⟩, _, a0, hfl', I.hid, k3, k4⟩
  · obtain ⟨sl, e1⟩ := I.base.slot b o e n hb (nex b)
    exact fr b o sl hb e e1
  · by_cases hb : b ∈ X.fs
    · obtain ⟨sl, e1⟩ := I.base.slot b o e (I.ok.frf b hb) hb (nex b)
      obtain ⟨sl', q⟩ := fr b o sl hb e e1
      exact ⟨_, q⟩
    · obtain ⟨o', e1⟩ := k4 b o e hb
      exact ⟨o', hfl'.1 _ _ e1⟩
end
def Raises (X : Cx) (E : XK) : Prop := ∀ (pins : List (Addr × Obj)) (σ : St) (H : Hp) (s : Shared) (ea : Addr) (cls : Value) (vs : List Value) (h' : Heap), Inv X pins σ H s → Heap.MadeExcOf s.heap h' ea cls vs → E cls none H → X.xe (.ref ea) { s with heap := h' }
section
variable {P : Program} {w : World} {K : PySem.W.Frag} {mg : Str → Option Value} {base : Heap} {N : List Str} {qual : Str} {scope : Scope} {f : Addr} {cd : Value} {A : Around} {outer : List Env} {s : Shared} {H : Hp} {E : XK}
theorem own_def {CX : CXT} : Own (cxOf CX P w K mg base N qual scope f cd A outer s H E) := ⟨rfl, rfl, rfl⟩
theorem pass1 {φ : CtxT} : Passes (CXP φ P w) (cxOf (CXP φ P w) P w K mg base N qual scope f cd A outer s H E) E := by
  intro pins σ H1 s1 e s' I hx
  obtain ⟨ea, cls, H', rfl, fl, hE⟩ := hx
  obtain ⟨B, a0, hfl, hok, h3, h4⟩ := id fl.fly
  show wpAny _ _ (leaving _ _) _ _ _
  exact leavesC (L := (cxOf (CXP φ P w) P w K mg base N qual scope f cd A outer s H E).env.locals) I.ok.frames rfl hfl fl.cx fun h'' hfl' sm cx => ⟨ea, cls, H', rfl, fl.on own_def I B a0 hfl hok h3 h4 hfl' sm cx, hE⟩
theorem leftOf {φ : CtxT} {pins : List (Addr × Obj)} {σ : St} {H1 : Hp} {s1 : Shared} {ea : Addr} {h' : Heap} {o : Obj} {fs : Array Value} {a0 : Value} (I : Inv (cxOf (CXP φ P w) P w K mg base N qual scope f cd A outer s H E) pins σ H1 s1)
    (mk : ∀ b o, s1.heap.get? b = some o → h'.get? b = some o) (nw : s1.heap.get? ea = none) (he : h'.get? ea = some o) (od : o.data = .fields fs) (f0 : fs[0]? = some a0) (f1 : fs[1]? = some .none) (f2 : φ H1 fs[2]?) (hE : E o.cls none H1) :
    (cxOf (CXP φ P w) P w K mg base N qual scope f cd A outer s H E).xe (.ref ea) { s1 with heap := h' } := by
  show wpAny _ _ (leaving _ _) _ _ _
  have hin : ∀ env ∈ (cxOf (CXP φ P w) P w K mg base N qual scope f cd A outer s H E).stack, ∀ b, env.frame = some b → b ∈ frs (cxOf (CXP φ P w) P w K mg base N qual scope f cd A outer s H E).stack := fun env he b hb => List.mem_filterMap.mpr ⟨env, he, hb⟩
  have ff := PySem.W.funFrames_hide I.stack hin
  have st : (PySem.W.hideAll s1.heap (frs (cxOf (CXP φ P w) P w K mg base N qual scope f cd A outer s H E).stack)).StaysIn s1.heap := fun b o q => PySem.W.of_hideAll _ q
  refine firstC (s := { s1 with heap := h' }) (φ := φ H1) (L := (cxOf (CXP φ P w) P w K mg base N qual scope f cd A outer s H E).env.locals) I.ok.frames (ff.of_keeps fun b o q _ => ⟨o, mk b o q, rfl⟩) rfl (fun b u q => mk b u (st b u q)) ?_ he od f0 f1 f2 fun h'' fl sm cx => ⟨ea, o.cls, H1, rfl, I.thrown own_def mk fl sm cx, hE⟩
  cases q : (PySem.W.hideAll s1.heap (frs (cxOf (CXP φ P w) P w K mg base N qual scope f cd A outer s H E).stack)).get? ea with
  | none => rfl
  | some u =>
    have := st _ _ q
    rw [nw] at this
    cases this
theorem raises1 {φ : CtxT} (hφ : ∀ H, φ H (some .none) := by first | exact fun _ => rfl | exact fun _ => Or.inl rfl) : Raises (cxOf (CXP φ P w) P w K mg base N qual scope f cd A outer s H E) E := by
  intro pins σ H1 s1 ea cls vs h' I mk hE
  obtain ⟨t, he, _, _⟩ := mk.there
  exact leftOf I mk.keeps mk.new he rfl rfl rfl (hφ _) hE
end
theorem passE {φ : CtxT} {P : Program} {w : World} {X : Cx} : Passes (CXP φ P w) X E0 := fun _ _ _ _ _ _ _ ⟨_, _, _, _, _, h⟩ => h.elim
structure ExcCls (K : PySem.W.Frag) (mg : Str → Option Value) (x : Str) (C : Addr) : Prop where
  mg : mg x = some (.ref C)
  ns : PySem.W.nsIn K mainGlobals x = some (some (.ref C))
  exc : PySem.W.excIn K C [.type "ValueError", .type "Exception", .type "BaseException", .type "object"] "ValueError.__new__" = true
theorem exc_obj {K : PySem.W.Frag} {h : Heap} {C : Addr} {bmB : List Value} {newId : String} (X : K.In h) (q : PySem.W.excIn K C bmB newId = true) :
    ∃ bm N nm qn bs hdct sn sub ab col dd k0 k1 k2 k3 k5 mN, h.get? C = some (excClassObj nm qn C N bs bm hdct sn sub ab col dd k0 k1 k2 k3 k5 newId) ∧ h.Ns N mN ∧ mN "__init__" = none ∧ OwnTail h bmB bm := by
  unfold PySem.W.excIn at q
  split at q
  · rename_i dd cd sl ho
    split at q
    · rename_i C' bm k0 k1 k2 k3 n k5 hm hs
      simp only [Bool.and_eq_true, beq_iff_eq, Bool.not_eq_true'] at q
      obtain ⟨⟨⟨⟨⟨rfl, rfl⟩, hdel⟩, ht⟩, hok⟩, hni⟩ := q
      obtain ⟨nm, bs, mro, ns, qn, hd, sn, sub, ab, col, del⟩ := cd
      dsimp only at hm hdel hok hni
      subst hm hdel
      have hsl : sl = #[k0, k1, k2, k3, some (.builtin n), k5] := by
        obtain ⟨l⟩ := sl
        simp only at hs
        rw [hs]
      subst hsl
      exact ⟨bm, ns, nm, qn, bs, hd, sn, sub, ab, col, dd, k0, k1, k2, k3, k5, _, X _ _ ho, .of_isNs (PySem.W.isNs_of_in X hok), PySem.W.nsMap_none_of_in X hok hni, PySem.W.tail_of_in X ht⟩
    · cases q
  · cases q
section
variable {X : Cx} {x : Str} {C : Addr} {np cpos pos : Pos} {e : Expr} {es : List Expr} {t : TA} {E : XK}
def tRaise (C : Addr) (E : XK) (t : TA) : TS := fun _ σ H => t σ H fun vs H1 => vs.length ≤ sizeLine ∧ E (.ref C) none H1
theorem ps_raise (c : ExcCls X.K X.mg x C) (hc : X.calm = true) (hr : Raises X E) (hg : Gl X x) (ha : PA X (e :: es) t) (hd : (x == ("__debug__" : Str)) = false := by decide)
    (he : starEach (e :: es) X.env = (false, eval e X.env) :: starEach es X.env := by rfl) (hpl : (backTo cpos (starEach es X.env)).any (·.1) = false := by rfl) : PS X (.Raise (some (.Call (.Name x np) (e :: es) [] cpos)) none pos) (tRaise C E t) := by
  intro pins s σ H D I h
  obtain ⟨tl, N, nm, q, bs, hdct, sn, sub, ab, col, dd, k0, k1, k2, k3, k5, mN, hC, hN, hni, T⟩ := exc_obj I.ok.mod.kin c.exc
  refine wpAny_Raise_call_subT (C := C) (nm := nm) (q := q) (N := N) (bs := bs) (bm := tl) (hdct := hdct) (sn := sn) (sub := sub) (ab := ab) (col := col) (dd := dd) (k0 := k0) (k1 := k1) (k2 := k2) (k3 := k3) (k5 := k5)
    PySem.F.excBase_ValueError (mN := mN) (T.hasType PySem.F.excBase_ValueError.hasBase) (I.ok.hd hc) (by rw [he]; show (false || (backTo cpos (starEach es X.env)).any (·.1)) = false; rw [hpl]; rfl) hni (ld_glob I hg c.mg ⟨rfl, ?_⟩ hd)
  have h2 := ha cpos pins s σ H _ I h
  rw [he] at h2 ⊢
  refine Calls.evalArgs_plain (wpAny_mono h2 (fun us s2 ⟨vs, H2, I2, r, hz, hE⟩ => ?_) fun _ _ y => y)
  exact ⟨rfl, by rw [← r.length]; exact hz, I2.bk _ _ hC, hN.keeps I2.bk, T.keeps I2.bk, fun h' ea mk => hr pins σ H2 s2 ea (.ref C) us h' I2 mk hE⟩
end
theorem Fun.okX {φ : CtxT} {P : Program} {w : World} {K : PySem.W.Frag} {mg : Str → Option Value} {base : Heap} {x qual : Str} {st : Stmt} {f : Addr} {fd : FuncData} {N ps : List Str} {k : Nat} {sp : Sp} (F : Fun K x qual st f fd) (S : FnScope N ps (defScope st)) (len : ∀ vs H Q E, sp vs H Q E → vs.length = ps.length)
    (hbody : ∀ (cdv : Value) (A : Around) (outer : List Env) (s : Shared) (H : Hp) (vs : List V) (Q : VK) (E : XK), Room k (A.deeper (envOfC qual (defScope st) s.heap.objs.size f cdv)) → sp vs H Q E →
      ∃ t, PSs (cxOf (CXP φ P w) P w K mg base N qual (defScope st) f cdv A outer s H E) (defBody st) t ∧ t { nx := fun _ H' => Q .non H', rt := Q } (start N vs) H) : FnOk P w K mg base (CXP φ P w) (k + 1) f fd ps sp := by
  obtain ⟨oc, od, kV, doc, pm, an, cdv, ct, osl, rfl, lk, hcd⟩ := F.ex
  exact fn_of lk hcd S len fun A outer s H vs Q E hr hsp => hbody cdv A outer s H vs Q E hr hsp
end L2
namespace L2
open PySem PySem.Spec PyProof.Rows
theorem Inv.track {X : Cx} {pins : List (Addr × Obj)} {σ : St} {H : Hp} {s : Shared} {a : Addr} {o : HO} (I : Inv X pins σ H s) (hn : H a = none) (new : ObjOk X.prog X.w (upd H a o) s.heap a o) (h0 : X.s₀.heap.get? a = none) (hL : a ≠ X.env.locals)
    (hC : ∀ x c, X.env.cells.lookup x = some c → c ≠ a) (hp : ∀ p ∈ X.pn ++ pins, p.1 ≠ a) : Inv X pins σ (upd H a o) s := by
  have ne : ∀ b ob, X.s₀.heap.get? b = some ob → b ≠ a := fun b ob e z => by rw [z, h0] at e; cases e
  have tr : ∀ b u, H b = some u → upd H a o b = some u := fun b u e => by rw [upd_ne (ne_of_none e hn)]; exact e
  refine ⟨I.ok, I.os, I.bare, ⟨I.base.keep, I.base.slot, fun b ob e n hx => by rw [upd_ne (ne b ob e)]; exact I.base.free b ob e n hx, I.base.there, fun b xs q => tr _ _ (I.base.tups b xs q), fun b ob u q => tr _ _ (I.base.frzs b ob u q), fun b ps q => ?_⟩,
    I.loc, I.cell, by rw [upd_ne (Ne.symm hL)]; exact I.free, fun x c e => by rw [upd_ne (hC x c e)]; exact I.freeC x c e, fun p q => ?_, I.hok.track hn new, I.len⟩
  · obtain ⟨m, e⟩ := I.base.tbls b ps q
    exact ⟨m, tr _ _ e⟩
  · obtain ⟨q1, q2, q3⟩ := I.pin p q
    exact ⟨q1, by rw [upd_ne (hp p q)]; exact q2, q3⟩
def XP (φ : CtxT) (X : Cx) (pins : List (Addr × Obj)) (σ : St) (E : XK) (ev : Value) (s' : Shared) : Prop := ∃ H s0, Inv X pins σ H s0 ∧ CXP φ X.prog X.w X.stack H s0 E ev s'
abbrev TX := St → Hp → VK → XK → Prop
def PEX (φ : CtxT) (X : Cx) (e : Expr) (t : TX) : Prop :=
  ∀ (pins : List (Addr × Obj)) (s : Shared) (σ : St) (H : Hp) (Q : VK) (E : XK), Inv X pins σ H s → t σ H Q E → wpAny (model X.prog X.w) X.A (eval e X.env) (EP X pins σ Q) (XP φ X pins σ E) s
section
variable {φ : CtxT} {X : Cx} {k : Nat} {f C : Addr} {fd : FuncData} {ps : List Str} {sp : Sp} {dvs : List V} {ds : List Value} {x m : Str} {p pos apos : Pos} {e o : Expr} {es : List Expr} {ta : TE} {t : TA}
def tCallX (sp : Sp) (dvs : List V) (t : TA) : TX := fun σ H Q E => t σ H fun vs H1 => sp (vs ++ dvs) H1 Q E
theorem run_fnX {pins : List (Addr × Obj)} {σ : St} {H : Hp} {s : Shared} {Q : VK} {E : XK} {us : List Value} {vs : List V} (F : FnOk X.prog X.w X.K X.mg X.base (CXP φ X.prog X.w) k f fd ps sp) (hr : Room k X.A) (hb : Binds X.K fd ps ds) (hd : Vals dvs ds)
    (I : Inv X pins σ H s) (r : Vals vs us) (h : sp (vs ++ dvs) H Q E) : wpAny (model X.prog X.w) X.A (call (.ref f) us) (EP X pins σ Q) (XP φ X pins σ E) s := by
  have r2 : Vals (vs ++ dvs) (us ++ ds) := r.append hd
  have hl : (us ++ ds).length = ps.length := by rw [← r2.length]; exact F.len _ _ _ _ h
  refine wpAny_call (codeAny_mono (F.run X.A X.stack s H ⟨us, []⟩ (us ++ ds) (vs ++ dvs) Q E hr I.env0 (hb s us I.kIn hl) r2 h) fun r s' hq => ?_)
  cases r with
  | error e => exact ⟨H, s, I, hq⟩
  | ok fl =>
    cases fl with
    | ret u => exact I.after hq
    | next => exact False.elim hq
    | brk => exact False.elim hq
    | cont => exact False.elim hq
theorem pex_call (F : FnOk X.prog X.w X.K X.mg X.base (CXP φ X.prog X.w) k f fd ps sp) (hr : Room k X.A) (hg : Gl X x) (hm : X.mg x = some (.ref f)) (hk : PySem.W.keepIn X.K (.ref f) = true) (hb : Binds X.K fd ps ds) (hd : Vals dvs ds)
    (ha : PA X.nox (e :: es) t) (hdb : (x == ("__debug__" : Str)) = false := by decide) (he : starEach (e :: es) X.env = (false, eval e X.env) :: starEach es X.env := by rfl) (hpl : (backTo pos (starEach es X.env)).any (·.1) = false := by rfl) :
    PEX φ X (.Call (.Name x p) (e :: es) [] pos) (tCallX sp dvs t) := by
  intro pins s σ H Q E I h
  refine wpAny_Call_Name_kw (ld_glob I hg hm ?_ hdb)
  refine PySem.W.callWith_K (h₀ := X.base) I.ok.mod.kin hk (wpAny_mono (ha pos pins s σ H _ (I.wish _) h) (fun us s1 ⟨vs, H1, I1, r, q⟩ => ⟨I1.kIn, ?_⟩) fun _ _ z => z.elim) he hpl
  exact run_fnX F hr hb hd I1.unwish r q
end
def Cx.suite (X : Cx) (ea : Addr) : Cx := { X with A := X.A.mark (some (.ref ea)), calm := false, xe := fun _ _ => False }
section
variable {X : Cx} {pins : List (Addr × Obj)} {σ : St} {H : Hp} {s : Shared} {ea : Addr}
theorem Inv.suite (I : Inv X pins σ H s) (ea : Addr) : Inv (X.suite ea) pins σ H s :=
  ⟨⟨I.ok.mod, I.ok.kind, I.ok.glob, I.ok.blt, I.ok.above, I.ok.inj, I.ok.has, I.ok.cab, fun q => (nomatch q), I.ok.frames, I.ok.stk, I.ok.exf, I.ok.bs, I.ok.bsz, I.ok.noex, I.ok.exfs, I.ok.funs, I.ok.frf⟩, I.os, I.bare, I.base, I.loc, I.cell, I.free, I.freeC, I.pin, I.hok, I.len⟩
theorem Inv.unsuite (hh : X.calm = true → X.A.handled = none) (I : Inv (X.suite ea) pins σ H s) : Inv X pins σ H s :=
  ⟨⟨I.ok.mod, I.ok.kind, I.ok.glob, I.ok.blt, I.ok.above, I.ok.inj, I.ok.has, I.ok.cab, hh, I.ok.frames, I.ok.stk, I.ok.exf, I.ok.bs, I.ok.bsz, I.ok.noex, I.ok.exfs, I.ok.funs, I.ok.frf⟩, I.os, I.bare, I.base, I.loc, I.cell, I.free, I.freeC, I.pin, I.hok, I.len⟩
theorem Inv.unbind {h' : Heap} {t' : Nat} {i : Nat} {n : Str} {m : Str → Option Value} {v : Option Value} (I : Inv X pins σ H s) (hN : X.N.Nodup) (hi : X.N[i]? = some n) (hm : s.heap.Ns X.env.locals m) (hn : h'.Ns X.env.locals (fun x => if x = n then v else m x)) (hs : Heap.SameBut X.env.locals s.heap h') :
    Inv X pins (σ.set i none) H { s with heap := h', toks := t' } := by
  have inj : ∀ {m1 m2 : Str → Option Value}, s.heap.Ns X.env.locals m1 → s.heap.Ns X.env.locals m2 → m1 = m2 := fun {m1 m2} a b => by
    obtain ⟨o, es, ep, e, d, _, f⟩ := a
    obtain ⟨o', es', ep', e', d', _, f'⟩ := b
    rw [e] at e'; cases e'
    rw [d] at d'; cases d'
    funext x
    rw [← f, ← f']
  obtain ⟨m0, hn0, hl⟩ := I.loc
  have em := inj hn0 hm
  subst em
  have hok : HOk X.prog X.w H h' := fun b ob e => by
    refine (I.hok b ob e).stay (fun c w' hc q => (hs.2 c ?_).trans q) (fun _ q => q) fun _ _ q => q
    rintro rfl
    rcases hc with hc | hc
    · rw [← hc, I.free] at e; cases e
    · rw [I.free] at hc; cases hc
  refine ⟨I.ok, I.os, I.bare, ⟨fun b o e k hb hx => (hs.2 b (I.old e)).trans (I.base.keep b o e k hb hx), fun b o e k hb hx => ?_, I.base.free, fun b o e hx => ?_, I.base.tups, I.base.frzs, I.base.tbls⟩, ⟨_, hn, fun j y v' e1 e2 e3 => ?_⟩, fun y c e => ?_, I.free, I.freeC, fun p hp => ?_, hok, by simpa using I.len⟩
  · obtain ⟨sl, e1⟩ := I.base.slot b o e k hb hx
    exact ⟨sl, (hs.2 b (I.old e)).trans e1⟩
  · obtain ⟨o', e1⟩ := I.base.there b o e hx
    exact ⟨o', (hs.2 b (I.old e)).trans e1⟩
  · by_cases hj : j = i
    · subst hj
      rw [List.getElem?_set] at e2
      simp at e2
    · rw [List.getElem?_set_ne (Ne.symm hj)] at e2
      obtain ⟨u', r', q⟩ := hl j y v' e1 e2 e3
      refine ⟨u', r', ?_⟩
      rcases q with ⟨k, e⟩ | ⟨k, c, e, z⟩
      · refine .inl ⟨k, ?_⟩
        have : y ≠ n := fun e => hj (nodup_ix hN e1 (e ▸ hi))
        simp [this, e]
      · exact .inr ⟨k, c, e, z.sameBut hs (I.cne y c e)⟩
  · obtain ⟨w', z⟩ := I.cell y c e
    exact ⟨w', z.sameBut hs (I.cne y c e)⟩
  · obtain ⟨e, k, ne, nf, d⟩ := I.pin p hp
    exact ⟨(hs.2 p.1 ne).trans e, k, ne, nf, d⟩
end
section
variable {φ : CtxT} {X : Cx} {e : Expr} {c n : Str} {b₀ : Stmt} {suite : List Stmt} {epos np hpos pos : Pos} {te : TX} {ts : TS} {cv : Value} {i : Nat}
def ends0 (D : Ends) (i : Nat) : Ends := { nx := fun σ H => D.nx (σ.set i none) H, rt := D.rt, bk := fun σ H => D.bk (σ.set i none) H, ct := fun σ H => D.ct (σ.set i none) H }
end
end L2
namespace L2
open PySem PySem.Spec PyProof.Rows
section
variable {prog : Program} {w : World} {A : Around} {E : Value → Shared → Prop} {K : PySem.W.Frag} {h : Heap} {g : Array GenState} {d : Drawn} {t : Nat} {os : OsState} {a D : Addr} {o : Obj} {vs : Array Value}
structure ExcLk (K : PySem.W.Frag) (D : Addr) : Prop where
  ga : PySem.W.findIn K (.ref D) "__getattribute__" = some (some (.builtin "BaseException.__getattribute__"))
  gt : PySem.W.findIn K (.ref D) "__getattr__" = some none
  cl : PySem.W.findIn K (.ref D) "__class__" = some (some (.builtin "object.__class__"))
  mro : PySem.W.mroIn K D (.type "object") = some true
  sub : PySem.W.subIn K (.ref D) (.type "BaseException") = some true
  cls : (PySem.W.clsIn K D).isSome = true
section
open PySem.W Builtin Builtin.ObjectAttr Builtin.Getset_descriptor
theorem exc_class_get {tp : Value} {R : Result → Shared → Prop} (X : K.In h) (hx : h.get? a = some o) (hc : o.cls = .ref D) (hm : mroIn K D (.type "object") = some true)
    (hq : R (.ok (.ret (.ref D))) ⟨h, g, d, t, os⟩) : codeAny (model prog w) A (.call (.builtin "getset_descriptor.__get__") ⟨[.builtin "object.__class__", .ref a, tp], []⟩) R ⟨h, g, d, t, os⟩ := by
  have L0 : Looks (model prog w) h (typeOf (.ref a)) (.ref D) := hc ▸ (Looks.ld hx).andThen .now
  have L1 := looks_mroIn (M := model prog w) X hm
  refine codeAny_call_builtin KF.slot_gs.plain KF.entry_gs (KF.slot_gs.check _ _ _ _ _ _ _ _ KF.type_class (KF.args_gs _ _ _) ?_)
  unfold Builtin.«getset_descriptor.__get__» descrGet
  rw [dga_obj]
  refine wpAny_bind (wpAny_pure ?_)
  unfold descrGetter descrCheckInstance descrNameAndClass isInstance
  simp only [KF.owner_class]
  repeat lk
  refine ⟨Code.quiet_builtin _ (by decide +kernel), codeAny_builtin KF.entry_class ?_⟩
  unfold Builtin.«object.__class__» shownTypeOf
  repeat lk
  exact hq
end
theorem exc_check {M : Model} {nameV : Value} {Q : Unit → Shared → Prop} (Z : ExcLk K D) (X : K.In h) (hx : h.get? a = some o) (hc : o.cls = .ref D) (hq : Q () ⟨h, g, d, t, os⟩) :
    wpAny M A (checkBuiltinCall "BaseException.__getattribute__" ⟨[.ref a, nameV], []⟩) Q E ⟨h, g, d, t, os⟩ := by
  have hk : builtinKind "BaseException.__getattribute__" = some .slot := by decide +kernel
  have hsplit : splitId "BaseException.__getattribute__" = some ("BaseException", "__getattribute__") := by decide +kernel
  have ha := PySem.F.args_bexc_ga (.ref a) nameV
  have LS := PySem.W.looks_subIn (M := M) X Z.sub
  simp only [checkBuiltinCall, hk, hsplit]
  refine wpAny_bind ?_
  unfold isInstance
  repeat (first | (with_reducible refine wpAny_loadPart_at hx ?_; rw [hc]) | with_reducible refine LS.at ?_ | wp_step)
  exact hq
theorem exc_entry {tk : Tok} {Q : Fin → Shared → Prop} (Z : ExcLk K D) (X : K.In h) (hx : h.get? a = some o) (hc : o.cls = .ref D) (hq : Q (.done (.ret (.ref D))) ⟨h, g, d, t, os⟩) :
    wpAny (model prog w) A (Builtin.«object.__getattribute__» ⟨[.ref a, .str "__class__" tk], []⟩) Q E ⟨h, g, d, t, os⟩ := by
  have hT5 : (⟨h, g, d, t, os⟩ : Shared).TypeIs (.builtin "object.__class__") "getset_descriptor" := PySem.F.typeOf_object_class
  have f5 := PySem.F.typeOf_object_class
  have f6 := PySem.F.slot_gs_get.lookup
  have f7 := PySem.F.slot_gs_set.lookup
  have LC := PySem.W.looks_findIn (M := model prog w) X Z.cl
  repeat (any_goals (first | assumption | (with_reducible refine wpAny_loadPart_at hx ?_; rw [hc]) | with_reducible refine LC.at ?_ | wp_step))
  refine exc_class_get X hx hc Z.mro ?_
  repeat (any_goals (first | assumption | wp_step))
theorem exc_by {tk : Tok} {fill : Bool} {Q : Value → Shared → Prop} (Z : ExcLk K D) (X : K.In h) (hx : h.get? a = some o) (hc : o.cls = .ref D) (hq : Q (.ref D) ⟨h, g, d, t, os⟩) :
    wpAny (model prog w) A (getAttrBy (.ref a) (.str "__class__" tk) fill) Q E ⟨h, g, d, t, os⟩ := by
  have FB := PySem.F.attr_ValueError
  have f3 := FB.ga.bind (.ref a)
  have hx2 : (Value.builtin "BaseException.__getattribute__" == Value.builtin "object.__getattribute__") = false := by decide +kernel
  have hx1 : (onTheHeap (Value.ref D) && Value.builtin "BaseException.__getattribute__" == Value.builtin "object.__getattribute__") = false := by rw [hx2]; rfl
  have LG := PySem.W.looks_findIn (M := model prog w) X Z.ga
  have LT := PySem.W.looks_findIn (M := model prog w) X Z.gt
  repeat (any_goals (first | assumption | (with_reducible refine wpAny_loadPart_at hx ?_; rw [hc]) | with_reducible refine LG.at ?_ | with_reducible refine LT.at ?_ | wp_step))
  refine codeAny_call_builtin FB.ga.plain PySem.F.entry_bexc_ga (exc_check Z X hx hc (exc_entry Z X hx hc ?_))
  repeat (any_goals (first | assumption | wp_step))
theorem exc_attr {Q : Option Value → Shared → Prop} (Z : ExcLk K D) (X : K.In h) (hx : h.get? a = some o) (hc : o.cls = .ref D) (hq : Q (some (.ref D)) ⟨h, g, d, t + 1, os⟩) :
    wpAny (model prog w) A (getAttr? (.ref a) "__class__") Q E ⟨h, g, d, t, os⟩ := by
  unfold getAttr? getAttrBy?
  repeat (any_goals (first | assumption | with_reducible apply exc_by Z X hx hc | wp_step))
theorem kitx_exc (Z : ExcLk K D) : PySem.W.KitX K (.ref a) (.ref D) (fun h => ∃ ob, h.get? a = some ob ∧ ob.cls = .ref D) where
  ty := fun M h X ⟨ob, e, c⟩ => c ▸ (PySem.W.Looks.ld e).andThen .now
  it := fun _ _ X _ => by
    obtain ⟨cdD, hcD⟩ := Option.isSome_iff_exists.mp Z.cls
    unfold PySem.W.clsIn at hcD
    split at hcD
    · rename_i c' d' cd' sl' ho
      intro A' Q' E' s' k q
      unfold isType loadHead
      exact wpAny_bind (wpAny_loadPart (k _ _ (X _ _ ho)) (wpAny_pure q))
    · cases hcD
  ne := fun h tp dd its n sl X htp => by
    obtain ⟨cdD, hcD⟩ := Option.isSome_iff_exists.mp Z.cls
    refine Bool.eq_false_iff.mpr fun q => ?_
    have e : D = tp := Value.ref.inj (beq_iff_eq.mp q)
    subst e
    unfold PySem.W.clsIn at hcD
    split at hcD
    · rename_i c' d' cd' sl' ho
      have z := (X _ _ ho).symm.trans htp
      cases z
    · cases hcD
  ca := fun {prog w A E Q s} X p k => by
    obtain ⟨ob, e, c⟩ := p
    obtain ⟨h, g, d, t, os⟩ := s
    exact exc_attr Z X e c k
end
section
variable {X : Cx}
end
structure RoomN (k : Nat) (A : Around) : Prop where
  dp : A.depth + 3 * k + 5 < recursionLimit
  un : A.units + 16 * k + 200 < cLine
theorem Room.n {k : Nat} {A : Around} (r : Room k A) : RoomN k A := ⟨r.dp, r.un⟩
theorem RoomN.mono {j k : Nat} {A : Around} (r : RoomN k A) (h : j ≤ k) : RoomN j A := ⟨by have := r.dp; omega, by have := r.un; omega⟩
theorem RoomN.mark {k : Nat} {A : Around} (r : RoomN k A) (hd : Option Value) : RoomN k (A.mark hd) := ⟨r.dp, r.un⟩
theorem RoomN.deeper {k : Nat} {A : Around} (r : RoomN (k + 1) A) (env : Env) : RoomN k (A.deeper env) :=
  ⟨by have := r.dp; show A.depth + 1 + 3 * k + 5 < _; omega, by have := r.un; show A.units + 3 + 16 * k + 200 < _; omega⟩
theorem RoomN.depth {k : Nat} {A : Around} (r : RoomN k A) : A.depth < recursionLimit := by have := r.dp; omega
theorem RoomN.units {k : Nat} {A : Around} (r : RoomN k A) : A.units + 64 < cLine := by have := r.un; omega
structure FnOkN (P : Program) (w : World) (K : PySem.W.Frag) (mg : Str → Option Value) (base : Heap) (k : Nat) (f : Addr) (fd : FuncData) (ps : List Str) (sp : Sp) : Prop where
  len : ∀ vs H Q E, sp vs H Q E → vs.length = ps.length
  run : ∀ (A : Around) (outer : List Env) (s : Shared) (H : Hp) (args : Args) (us : List Value) (vs : List V) (Q : VK) (E : XK), RoomN k A → Env0 P w K mg base A outer s H → BindsTo s fd args (ps.zip us) → Vals vs us → sp vs H Q E →
    codeAny (model P w) A (.call (.ref f) args) (CR CX0 outer P w H s Q E) s
theorem FnOkN.calm {P : Program} {w : World} {K : PySem.W.Frag} {mg : Str → Option Value} {base : Heap} {k : Nat} {f : Addr} {fd : FuncData} {ps : List Str} {sp : Sp} (F : FnOkN P w K mg base k f fd ps sp) : FnOk P w K mg base CX0 k f fd ps sp :=
  ⟨F.len, fun A outer s H args us vs Q E hr => F.run A outer s H args us vs Q E hr.n⟩
def cxOfN (P : Program) (w : World) (K : PySem.W.Frag) (mg : Str → Option Value) (base : Heap) (N : List Str) (qual : Str) (scope : Scope) (f : Addr) (cd : Value) (A : Around) (outer : List Env) (s : Shared) (H : Hp) : Cx :=
  { cxOf CX0 P w K mg base N qual scope f cd A outer s H E0 with calm := false, xe := fun _ _ => False }
section
variable {X : Cx} {k : Nat} {f : Addr} {fd : FuncData} {ps : List Str} {sp : Sp} {dvs : List V} {ds : List Value} {x : Str} {p pos : Pos} {e : Expr} {es : List Expr} {t : TA} {E : XK}
end
structure ClsM (K : PySem.W.Frag) (B : Addr) (m : Str) (f : Addr) : Prop where
  sp : PySem.W.specialIn K (.ref B) "__getattribute__" = some (some (.builtin "type.__getattribute__"))
  rd : PySem.W.readsIn K B (.type "type") = true
  fd : PySem.W.findCls K (.ref B) (.type "type") m = some (.val (.ref f))
  kp : PySem.W.keepIn K (.ref f) = true
section
variable {X : Cx} {CX : CXT} {k : Nat} {f B : Addr} {fd : FuncData} {ps : List Str} {sp : Sp} {dvs : List V} {ds : List Value} {E : XK} {x m : Str} {p pos apos : Pos} {e : Expr} {es : List Expr} {t : TA}
theorem pe_clsm {pl : Sem Bool} (hg : Gl X x) (hmg : X.mg x = some (.ref B)) (c : ClsM X.K B m f) (F : FnOk X.prog X.w X.K X.mg X.base CX k f fd ps sp) (hr : Room k X.A) (hb : Binds X.K fd ps ds) (hd : Vals dvs ds) (hx : Passes CX X E) (ha : PA X (e :: es) t)
    (hdb : (x == ("__debug__" : Str)) = false := by decide) (hst : starEach (e :: es) X.env = (false, eval e X.env) :: starEach es X.env := by rfl) (hpl : (backTo pos (starEach es X.env)).any (·.1) = false := by rfl)
    (ht : eval (.Call (.Attribute (.Name x p) m apos) (e :: es) [] pos) X.env = (do
      let ov ← eval (.Name x p) X.env
      standAt apos.atName
      let (f, first) ← holding [ov] (getMethod ov m pl)
      callWith pos f first (backTo pos (starEach (e :: es) X.env)) (backToKw pos (keywordEach [] X.env))) := by rfl) :
    PE X (.Call (.Attribute (.Name x p) m apos) (e :: es) [] pos) (tCall sp dvs E t) := by
  intro pins s σ H Q I h
  refine PySem.W.methodCall_KW (pl := pl) (ld_glob I hg hmg ?_ hdb) ht
  refine PySem.W.method_cls I.kIn c.sp (PySem.W.cls_value I.kIn c.rd c.fd rfl ?_)
  have I' := I.tok (s.toks + 1)
  refine PySem.W.callWith_K (first := []) (h₀ := X.base) I.ok.mod.kin c.kp (thn (ha pos pins { s with toks := s.toks + 1 } σ H _ I' h) fun us s2 ⟨vs, H2, I2, r, q2⟩ => ⟨I2.kIn, ?_⟩) hst hpl
  exact run_fn F hr hb hd hx I2 r q2
end
section
variable {X : Cx}
def rInsert : V → List V → Hp → VK → Prop := fun x vs H Q => ∃ l xs i y, x = .ref l ∧ vs = [.int i, y] ∧ H l = some (.lst xs) ∧ 0 ≤ i ∧ i ≤ xs.length ∧ xs.length < sizeLine ∧ Q .non (upd H l (.lst (xs.take i.toNat ++ y :: xs.drop i.toNat)))
end
end L2
namespace L2
open PySem PySem.Spec PyProof.Rows
section
variable {X : Cx}
theorem CallR.imp {f : Value} {r r' : List V → Hp → VK → Prop} (h : CallR X f r) (hi : ∀ xs H Q, r' xs H Q → r xs H Q) : CallR X f r' := fun pins s σ H xs us Q I rs q => h pins s σ H xs us Q I rs (hi _ _ _ q)
def rLenL (K : PySem.W.Frag) : List V → Hp → VK → Prop := fun xs H Q => ∃ p ys, xs = [.ref p] ∧ SqL K H p ys ∧ Q (.int ys.length) H
def rLenT (K : PySem.W.Frag) : List V → Hp → VK → Prop := fun xs H Q => ∃ p ys, xs = [.ref p] ∧ SqT K H p ys ∧ Q (.int ys.length) H
def rListL (K : PySem.W.Frag) : List V → Hp → VK → Prop := fun xs H Q => ∃ p ys, xs = [.ref p] ∧ SqL K H p ys ∧ ∀ l, H l = none → Q (.ref l) (upd H l (.lst ys))
def rListT (K : PySem.W.Frag) : List V → Hp → VK → Prop := fun xs H Q => ∃ p ys, xs = [.ref p] ∧ SqT K H p ys ∧ ∀ l, H l = none → Q (.ref l) (upd H l (.lst ys))
def rTupL (K : PySem.W.Frag) : List V → Hp → VK → Prop := fun xs H Q => ∃ p ys, xs = [.ref p] ∧ SqL K H p ys ∧ ∀ l, H l = none → Q (.ref l) (upd H l (.tup ys))
def rTupT (K : PySem.W.Frag) : List V → Hp → VK → Prop := fun xs H Q => ∃ p ys, xs = [.ref p] ∧ SqT K H p ys ∧ Q (.ref p) H
def rIsiT (K : PySem.W.Frag) : List V → Hp → VK → Prop := fun xs H Q => ∃ x n t b, xs = [x, .ty n] ∧ TyOf K H x t ∧ PySem.W.kitOne K t (.type n) = some b ∧ Q (.bl b) H
theorem call_lenL : CallR X (.builtin "len") (rLenL X.K) := call_len_seq.imp fun _ _ _ ⟨p, ys, e, h, q⟩ => ⟨p, ys, e, .inl h, q⟩
theorem call_lenT : CallR X (.builtin "len") (rLenT X.K) := call_len_seq.imp fun _ _ _ ⟨p, ys, e, h, q⟩ => ⟨p, ys, e, .inr h, q⟩
theorem call_tupL : CallR X (.type "tuple") (rTupL X.K) := call_tuple_of.imp fun _ _ _ ⟨p, ys, e, h, q⟩ => ⟨p, ys, e, .inl ⟨h, q⟩⟩
end
theorem scal_ii {a b : Int} : (scal (.int a) (.int b) = true) = True := eq_true rfl
theorem scal_ss {a b : Str} : (scal (.str a) (.str b) = true) = True := eq_true rfl
theorem scal_bb {a b : Bool} : (scal (.bl a) (.bl b) = true) = True := eq_true rfl
theorem Same.upd {H H' : Hp} {l : Addr} {o : HO} (s : Same H H') (h : H' l = none) : Same H (upd H' l o) := fun b u e => by
  have e' := s b u e
  rw [upd_ne (ne_of_none e' h)]
  exact e'
theorem Same.put {H : Hp} {l : Addr} {o : HO} (h : H l = none) : Same H (L2.upd H l o) := (Same.refl H).upd h
end L2
namespace SH
open PySem L2
abbrev LET : Str := "abcdefghijklmnopqrstuvwxyz"
def letC (c : Nat) : Bool := !(Builtin.Str.occurrences LET ⟨#[c]⟩ 0 LET.length 1).isEmpty
def markS (x : Str) : Bool := decide (1 ≤ x.length) && decide (x.length ≤ 8) && x.cps.toList.all letC
def markV : V → Bool
  | .str x => markS x
  | _ => false
def wholeV : V → Bool
  | .int _ => true
  | _ => false
inductive Thg (H : Hp) : V → Prop where
  | non : Thg H .non
  | bl (b : Bool) : Thg H (.bl b)
  | int (i : Int) : Thg H (.int i)
  | str (x : Str) (h : x.length ≤ 1000) : Thg H (.str x)
  | lst {a : Addr} {xs : List V} (h : H a = some (.lst xs)) : Thg H (.ref a)
  | tup {a : Addr} {xs : List V} (h : H a = some (.tup xs)) : Thg H (.ref a)
theorem Thg.same {H H' : Hp} {v : V} (s : Same H H') (t : Thg H v) : Thg H' v := by
  cases t with
  | non => exact .non
  | bl b => exact .bl b
  | int i => exact .int i
  | str x h => exact .str x h
  | lst h => exact .lst (s _ _ h)
  | tup h => exact .tup (s _ _ h)
def isStr : V → Bool
  | .str _ => true
  | _ => false
def isInt : V → Bool
  | .int _ => true
  | .bl _ => true
  | _ => false
def isBl : V → Bool
  | .bl _ => true
  | _ => false
section
variable {K : PySem.W.Frag}
theorem Thg.ty {H : Hp} {v : V} (t : Thg H v) : ∃ y, TyOf K H v y ∧ PySem.W.kitOne K y (.type "str") = some (isStr v) ∧ PySem.W.kitOne K y (.type "int") = some (isInt v) ∧ PySem.W.kitOne K y (.type "bool") = some (isBl v) := by
  cases t with
  | non => exact ⟨_, .non, by kernel_rfl, by kernel_rfl, by kernel_rfl⟩
  | bl b => exact ⟨_, .bl b, by kernel_rfl, by kernel_rfl, by kernel_rfl⟩
  | int i => exact ⟨_, .int i, by kernel_rfl, by kernel_rfl, by kernel_rfl⟩
  | str x h => exact ⟨_, .str x, by kernel_rfl, by kernel_rfl, by kernel_rfl⟩
  | lst h => exact ⟨_, .lst h, by kernel_rfl, by kernel_rfl, by kernel_rfl⟩
  | tup h => exact ⟨_, .tup h, by kernel_rfl, by kernel_rfl, by kernel_rfl⟩
theorem Thg.isList {H : Hp} {v : V} (t : Thg H v) : ∃ y b, TyOf K H v y ∧ PySem.W.kitOne K y (.type "list") = some b ∧ ((b = true ∧ ∃ a xs, v = .ref a ∧ H a = some (.lst xs)) ∨ (b = false ∧ ∀ a xs, v = .ref a → H a ≠ some (.lst xs))) := by
  cases t with
  | non => exact ⟨_, false, .non, by kernel_rfl, .inr ⟨rfl, fun _ _ z => nomatch z⟩⟩
  | bl b => exact ⟨_, false, .bl b, by kernel_rfl, .inr ⟨rfl, fun _ _ z => nomatch z⟩⟩
  | int i => exact ⟨_, false, .int i, by kernel_rfl, .inr ⟨rfl, fun _ _ z => nomatch z⟩⟩
  | str x h => exact ⟨_, false, .str x, by kernel_rfl, .inr ⟨rfl, fun _ _ z => nomatch z⟩⟩
  | lst h => exact ⟨_, true, .lst h, by kernel_rfl, .inl ⟨rfl, _, _, rfl, h⟩⟩
  | tup h => exact ⟨_, false, .tup h, by kernel_rfl, .inr ⟨rfl, fun _ _ z e => by cases z; rw [h] at e; cases e⟩⟩
end
theorem all_take_succ {p : Nat → Bool} {l : List Nat} {i c : Nat} (h : l[i]? = some c) : (l.take (i + 1)).all p = ((l.take i).all p && p c) := by
  rw [List.take_add_one, h]
  simp
theorem at_str {z : Str} {i m : Int} (h0 : 0 < m) (h1 : m ≤ z.length) : ∃ c, c ∈ z.cps.toList ∧ atI z.cps.toList (i % m) = some c := by
  obtain ⟨v, hm, _, e⟩ := atI_mod (xs := z.cps.toList) (i := i) h0 (by simpa [Str.length] using h1)
  exact ⟨v, hm, e⟩
theorem one_len (c : Nat) : (⟨#[c]⟩ : Str).length = 1 := rfl
def cellF (ns : List Int) (k : Nat) : Int := ns.getD k 0
def StIs (σ τ : St) : Prop := σ = τ
theorem StIs.rfl {σ : St} : StIs σ σ := Eq.refl σ
theorem StIs.eq {σ τ : St} (h : StIs σ τ) : σ = τ := h
def GoodL (n : Nat) (H : Hp) (v : V) : Prop := ∃ a xs, v = .ref a ∧ H a = some (.lst xs) ∧ xs.length ≤ n
def GoodM (n : Nat) (H : Hp) (v : V) : Prop := ∃ a xs, v = .ref a ∧ H a = some (.lst xs) ∧ xs.length ≤ n ∧ xs.all markV = true
def Thg2 (H : Hp) (v : V) : Prop := Thg H v ∧ ∀ a xs, v = .ref a → H a = some (.lst xs) → ∀ x ∈ xs, Thg H x
theorem Thg.back {H H' : Hp} {v : V} {a : Addr} {xs : List V} (t : Thg H v) (s : Same H H') (e : v = .ref a) (h : H' a = some (.lst xs)) : H a = some (.lst xs) := by
  cases t with
  | non => cases e
  | bl b => cases e
  | int i => cases e
  | str x h => cases e
  | lst h1 => cases e; rw [s _ _ h1] at h; cases h; exact h1
  | tup h1 => cases e; rw [s _ _ h1] at h; cases h
theorem Thg2.same {H H' : Hp} {v : V} (s : Same H H') (t : Thg2 H v) : Thg2 H' v := ⟨t.1.same s, fun a xs e h x hx => (t.2 a xs e (t.1.back s e h) x hx).same s⟩
theorem GoodM.back {n : Nat} {H H' : Hp} {v : V} (t : Thg H v) (s : Same H H') (g : GoodM n H' v) : GoodM n H v := by
  obtain ⟨a, xs, e, h, l, m⟩ := g
  exact ⟨a, xs, e, t.back s e h, l, m⟩
theorem thg2_lst {H : Hp} {a : Addr} {xs : List V} (h : H a = some (.lst xs)) (hx : ∀ x ∈ xs, Thg H x) : Thg2 H (.ref a) := ⟨.lst h, fun a' xs' e h' x m => by cases e; rw [h] at h'; cases h'; exact hx x m⟩
theorem app_list (a y : Str) : (a ++ y).cps.toList = a.cps.toList ++ y.cps.toList := by
  rw [PySem.Str.cps_append, Array.toList_append]
theorem letC_iff {c : Nat} : letC c = true ↔ c ∈ LET.cps.toList := by
  unfold letC
  rw [PySem.StrLaws.found_one, decide_eq_true_eq]
theorem letC_ok {c : Nat} (h : letC c = true) : c < 0x110000 := by
  have h1 : ∀ d ∈ LET.cps.toList, d < 0x110000 := by decide +kernel
  exact h1 c (letC_iff.mp h)
theorem mark_all {z : Str} (h : markS z = true) : 1 ≤ z.length ∧ z.length ≤ 8 ∧ ∀ c ∈ z.cps.toList, letC c = true := by
  unfold markS at h
  simp only [Bool.and_eq_true, decide_eq_true_eq, List.all_eq_true] at h
  exact ⟨h.1.1, h.1.2, h.2⟩
theorem mark_strOk {z : Str} (h : markS z = true) : PyData.strOk z = true := by
  unfold PyData.strOk
  rw [← Array.all_toList, List.all_eq_true]
  intro c hc
  exact decide_eq_true (letC_ok ((mark_all h).2.2 c hc))
theorem mark_of {z : Str} (h1 : 1 ≤ z.length) (h2 : z.length ≤ 8) (h3 : ∀ c ∈ z.cps.toList, letC c = true) : markS z = true := by
  unfold markS
  simp only [Bool.and_eq_true, decide_eq_true_eq, List.all_eq_true]
  exact ⟨⟨h1, h2⟩, h3⟩
end SH
namespace SH
open PySem L2
theorem lookup2 {α : Type} {a b : Str} {x y : α} (h : (b == a) = false) : List.lookup b [(a, x), (b, y)] = some y := by
  rw [List.lookup_cons, h, List.lookup_cons, beq_self_eq_true]
theorem lookup_no {α : Type} {a b c : Str} {x y : α} (h : (c == a) = false) (h' : (c == b) = false) : List.lookup c [(a, x), (b, y)] = none := by
  rw [List.lookup_cons, h, List.lookup_cons, h']
  rfl
theorem putF2 {a b : Str} {x y : V} (h : ¬ a = b) : putF b y [(a, x)] = [(a, x), (b, y)] := by
  show (if a = b then [(a, y)] else (a, x) :: putF b y []) = _
  rw [if_neg h]
  rfl
abbrev Nd := Str × Int
def NodeAt (H : Hp) (x : V) (n : Nd) : Prop := ∃ t, x = .ref t ∧ H t = some (.tup [.str n.1, .int n.2])
def NodesAt (H : Hp) : List V → List Nd → Prop
  | [], [] => True
  | x :: xs, n :: ns => NodeAt H x n ∧ NodesAt H xs ns
  | [], _ :: _ => False
  | _ :: _, [] => False
theorem NodeAt.same {H H' : Hp} {x : V} {n : Nd} (s : Same H H') (h : NodeAt H x n) : NodeAt H' x n := by
  obtain ⟨t, e, h⟩ := h
  exact ⟨t, e, s _ _ h⟩
theorem NodeAt.uniq {H : Hp} {x : V} {n m : Nd} (a : NodeAt H x n) (b : NodeAt H x m) : n = m := by
  obtain ⟨t, e, h⟩ := a
  obtain ⟨t', e', h'⟩ := b
  rw [e] at e'
  cases e'
  rw [h] at h'
  obtain ⟨n1, n2⟩ := n
  obtain ⟨m1, m2⟩ := m
  simp at h'
  rw [h'.1, h'.2]
theorem NodesAt.same {H H' : Hp} (s : Same H H') : ∀ {xs : List V} {ns : List Nd}, NodesAt H xs ns → NodesAt H' xs ns
  | [], [], h => h
  | _ :: _, _ :: _, h => ⟨h.1.same s, NodesAt.same s h.2⟩
  | [], _ :: _, h => h.elim
  | _ :: _, [], h => h.elim
theorem NodesAt.tups {H H' : Hp} (s : ∀ b ys, H b = some (.tup ys) → H' b = some (.tup ys)) : ∀ {xs : List V} {ns : List Nd}, NodesAt H xs ns → NodesAt H' xs ns
  | [], [], h => h
  | _ :: _, _ :: _, h => by
    obtain ⟨⟨t, e, h1⟩, h2⟩ := h
    exact ⟨⟨t, e, s _ _ h1⟩, NodesAt.tups s h2⟩
  | [], _ :: _, h => h.elim
  | _ :: _, [], h => h.elim
theorem NodesAt.length {H : Hp} : ∀ {xs : List V} {ns : List Nd}, NodesAt H xs ns → xs.length = ns.length
  | [], [], _ => rfl
  | _ :: _, _ :: _, h => by rw [List.length_cons, List.length_cons, NodesAt.length h.2]
  | [], _ :: _, h => h.elim
  | _ :: _, [], h => h.elim
theorem NodesAt.uniq {H : Hp} : ∀ {xs : List V} {ns ms : List Nd}, NodesAt H xs ns → NodesAt H xs ms → ns = ms
  | [], [], [], _, _ => rfl
  | _ :: _, _ :: _, _ :: _, a, b => by rw [a.1.uniq b.1, NodesAt.uniq a.2 b.2]
  | [], _ :: _, _, a, _ => a.elim
  | [], _, _ :: _, _, b => b.elim
  | _ :: _, [], _, a, _ => a.elim
  | _ :: _, _, [], _, b => b.elim
theorem NodesAt.append {H : Hp} : ∀ {xs ys : List V} {ns ms : List Nd}, NodesAt H xs ns → NodesAt H ys ms → NodesAt H (xs ++ ys) (ns ++ ms)
  | [], _, [], _, _, b => b
  | _ :: _, _, _ :: _, _, a, b => ⟨a.1, NodesAt.append a.2 b⟩
  | [], _, _ :: _, _, a, _ => a.elim
  | _ :: _, _, [], _, a, _ => a.elim
theorem NodesAt.split {H : Hp} : ∀ {xs ys : List V} {ns : List Nd}, NodesAt H (xs ++ ys) ns → ∃ n1 n2, ns = n1 ++ n2 ∧ NodesAt H xs n1 ∧ NodesAt H ys n2
  | [], _, ns, h => ⟨[], ns, rfl, trivial, h⟩
  | x :: xs, ys, [], h => h.elim
  | x :: xs, ys, n :: ns, h => by
    obtain ⟨n1, n2, e, a, b⟩ := NodesAt.split (xs := xs) h.2
    exact ⟨n :: n1, n2, by rw [e]; rfl, ⟨h.1, a⟩, b⟩
theorem NodesAt.get {H : Hp} : ∀ {xs : List V} {ns : List Nd} {i : Nat} {x : V}, NodesAt H xs ns → xs[i]? = some x → ∃ n, ns[i]? = some n ∧ NodeAt H x n
  | [], [], _, _, _, e => by simp at e
  | _ :: _, n :: _, 0, _, h, e => by simp at e; subst e; exact ⟨n, rfl, h.1⟩
  | _ :: _, _ :: _, i + 1, x, h, e => by
    obtain ⟨m, a, b⟩ := NodesAt.get (i := i) (x := x) h.2 (by simpa using e)
    exact ⟨m, by simpa using a, b⟩
  | [], _ :: _, _, _, h, _ => h.elim
  | _ :: _, [], _, _, h, _ => h.elim
theorem NodesAt.take {H : Hp} : ∀ {xs : List V} {ns : List Nd} (i : Nat), NodesAt H xs ns → NodesAt H (xs.take i) (ns.take i)
  | [], [], _, _ => by simp [NodesAt]
  | _ :: _, _ :: _, 0, _ => trivial
  | _ :: _, _ :: _, i + 1, h => ⟨h.1, NodesAt.take i h.2⟩
  | [], _ :: _, _, h => h.elim
  | _ :: _, [], _, h => h.elim
theorem NodesAt.drop {H : Hp} : ∀ {xs : List V} {ns : List Nd} (i : Nat), NodesAt H xs ns → NodesAt H (xs.drop i) (ns.drop i)
  | [], [], _, _ => by simp [NodesAt]
  | _ :: _, _ :: _, 0, h => h
  | _ :: _, _ :: _, i + 1, h => NodesAt.drop i h.2
  | [], _ :: _, _, h => h.elim
  | _ :: _, [], _, h => h.elim
def deep1 (n : Nd) : Int := min (n.2 + 1) 12
def depthOk : Int → List Nd → Prop
  | _, [] => True
  | d, n :: r => markS n.1 = true ∧ 0 ≤ n.2 ∧ n.2 ≤ d ∧ depthOk (deep1 n) r
def deepAfter : Int → List Nd → Int
  | d, [] => d
  | _, n :: r => deepAfter (deep1 n) r
theorem depthOk_append : ∀ {d : Int} {a b : List Nd}, depthOk d (a ++ b) ↔ depthOk d a ∧ depthOk (deepAfter d a) b
  | d, [], b => by simp [depthOk, deepAfter]
  | d, n :: r, b => by
    have ih := depthOk_append (d := deep1 n) (a := r) (b := b)
    simp only [List.cons_append, depthOk, deepAfter, ih]
    constructor
    · rintro ⟨h1, h2, h3, h4, h5⟩; exact ⟨⟨h1, h2, h3, h4⟩, h5⟩
    · rintro ⟨⟨h1, h2, h3, h4⟩, h5⟩; exact ⟨h1, h2, h3, h4, h5⟩
theorem deepAfter_append : ∀ {d : Int} {a b : List Nd}, deepAfter d (a ++ b) = deepAfter (deepAfter d a) b
  | _, [], _ => rfl
  | _, n :: r, b => deepAfter_append (d := deep1 n) (a := r) (b := b)
theorem depthOk_all {d : Int} {ns : List Nd} : depthOk d ns → ∀ n ∈ ns, markS n.1 = true ∧ 0 ≤ n.2 := by
  induction ns generalizing d with
  | nil => intro _ n h; exact nomatch h
  | cons m r ih =>
    rintro ⟨h1, h2, _, h4⟩ n hn
    rcases List.mem_cons.mp hn with e | e
    · rw [e]; exact ⟨h1, h2⟩
    · exact ih h4 n e
def Thg3 (H : Hp) (v : V) : Prop := Thg H v ∧ ∀ a xs, v = .ref a → H a = some (.tup xs) → ∀ x ∈ xs, Thg H x
def Thg4 (H : Hp) (v : V) : Prop := Thg H v ∧ ∀ a xs, v = .ref a → H a = some (.lst xs) → ∀ x ∈ xs, Thg3 H x
def GoodN (H : Hp) (v : V) : Prop := ∃ a xs ns, v = .ref a ∧ H a = some (.lst xs) ∧ xs.length ≤ 40 ∧ NodesAt H xs ns ∧ depthOk 0 ns
theorem Thg.backT {H H' : Hp} {v : V} {a : Addr} {xs : List V} (t : Thg H v) (s : Same H H') (e : v = .ref a) (h : H' a = some (.tup xs)) : H a = some (.tup xs) := by
  cases t with
  | non => cases e
  | bl b => cases e
  | int i => cases e
  | str x h => cases e
  | lst h1 => cases e; rw [s _ _ h1] at h; cases h
  | tup h1 => cases e; rw [s _ _ h1] at h; cases h; exact h1
theorem Thg3.same {H H' : Hp} {v : V} (s : Same H H') (t : Thg3 H v) : Thg3 H' v := ⟨t.1.same s, fun a xs e h x hx => (t.2 a xs e (t.1.backT s e h) x hx).same s⟩
theorem Thg4.same {H H' : Hp} {v : V} (s : Same H H') (t : Thg4 H v) : Thg4 H' v := ⟨t.1.same s, fun a xs e h x hx => (t.2 a xs e (t.1.back s e h) x hx).same s⟩
theorem NodeAt.back {H H' : Hp} {v : V} {n : Nd} (t : Thg H v) (s : Same H H') (h : NodeAt H' v n) : NodeAt H v n := by
  obtain ⟨a, e, h⟩ := h
  exact ⟨a, e, t.backT s e h⟩
theorem NodesAt.back {H H' : Hp} (s : Same H H') : ∀ {xs : List V} {ns : List Nd}, (∀ x ∈ xs, Thg H x) → NodesAt H' xs ns → NodesAt H xs ns
  | [], [], _, h => h
  | x :: xs, _ :: _, t, h => ⟨h.1.back (t x List.mem_cons_self) s, NodesAt.back s (fun y hy => t y (List.mem_cons_of_mem _ hy)) h.2⟩
  | [], _ :: _, _, h => h.elim
  | _ :: _, [], _, h => h.elim
theorem GoodN.back {H H' : Hp} {v : V} (t : Thg4 H v) (s : Same H H') (g : GoodN H' v) : GoodN H v := by
  obtain ⟨a, xs, ns, e, h, l, m, d⟩ := g
  have h0 := t.1.back s e h
  exact ⟨a, xs, ns, e, h0, l, m.back s fun x hx => (t.2 a xs e h0 x hx).1, d⟩
theorem Thg.isTup {K : PySem.W.Frag} {H : Hp} {v : V} (t : Thg H v) : ∃ y b, TyOf K H v y ∧ PySem.W.kitOne K y (.type "tuple") = some b ∧ ((b = true ∧ ∃ a xs, v = .ref a ∧ H a = some (.tup xs)) ∨ (b = false ∧ ∀ a xs, v = .ref a → H a ≠ some (.tup xs))) := by
  cases t with
  | non => exact ⟨_, false, .non, by kernel_rfl, .inr ⟨rfl, fun _ _ z => nomatch z⟩⟩
  | bl b => exact ⟨_, false, .bl b, by kernel_rfl, .inr ⟨rfl, fun _ _ z => nomatch z⟩⟩
  | int i => exact ⟨_, false, .int i, by kernel_rfl, .inr ⟨rfl, fun _ _ z => nomatch z⟩⟩
  | str x h => exact ⟨_, false, .str x, by kernel_rfl, .inr ⟨rfl, fun _ _ z => nomatch z⟩⟩
  | lst h => exact ⟨_, false, .lst h, by kernel_rfl, .inr ⟨rfl, fun _ _ z e => by cases z; rw [h] at e; cases e⟩⟩
  | tup h => exact ⟨_, true, .tup h, by kernel_rfl, .inl ⟨rfl, _, _, rfl, h⟩⟩
theorem notN_mid {H : Hp} {a : Addr} {A R : List V} {b : V} {ns : List Nd} (h : H a = some (.lst (A ++ b :: R))) (hA : NodesAt H A ns) (hb : ∀ n, NodeAt H b n → ¬ (markS n.1 = true ∧ 0 ≤ n.2 ∧ n.2 ≤ deepAfter 0 ns)) : ¬ GoodN H (.ref a) := by
  rintro ⟨a', xs', ms, e, h', l, m, d⟩
  cases e
  rw [h] at h'
  cases h'
  obtain ⟨n1, n2, rfl, m1, m2⟩ := m.split
  cases n2 with
  | nil => exact m2.elim
  | cons n r =>
    have := m1.uniq hA
    subst this
    have d2 := (depthOk_append.mp d).2
    exact hb n m2.1 ⟨d2.1, d2.2.1, d2.2.2.1⟩
theorem thg3_tup {H : Hp} {a : Addr} {xs : List V} (h : H a = some (.tup xs)) (hx : ∀ x ∈ xs, Thg H x) : Thg3 H (.ref a) := ⟨.tup h, fun a' xs' e h' x m => by cases e; rw [h] at h'; cases h'; exact hx x m⟩
theorem thg4_lst {H : Hp} {a : Addr} {xs : List V} (h : H a = some (.lst xs)) (hx : ∀ x ∈ xs, Thg3 H x) : Thg4 H (.ref a) := ⟨.lst h, fun a' xs' e h' x m => by cases e; rw [h] at h'; cases h'; exact hx x m⟩
theorem NodeAt.thg3 {H : Hp} {x : V} {n : Nd} (h : NodeAt H x n) (hm : n.1.length ≤ 1000) : Thg3 H x := by
  obtain ⟨t, e, h⟩ := h
  subst e
  refine thg3_tup h fun y hy => ?_
  simp only [List.mem_cons, List.not_mem_nil, or_false] at hy
  rcases hy with rfl | rfl
  · exact .str _ hm
  · exact .int _
theorem NodesAt.thg3 {H : Hp} : ∀ {xs : List V} {ns : List Nd}, NodesAt H xs ns → (∀ n ∈ ns, n.1.length ≤ 1000) → ∀ x ∈ xs, Thg3 H x
  | [], [], _, _, _, hx => nomatch hx
  | y :: xs, n :: ns, h, hm, x, hx => by
    rcases List.mem_cons.mp hx with e | e
    · rw [e]; exact h.1.thg3 (hm n List.mem_cons_self)
    · exact NodesAt.thg3 h.2 (fun m hm' => hm m (List.mem_cons_of_mem _ hm')) x e
  | [], _ :: _, h, _, _, _ => h.elim
  | _ :: _, [], h, _, _, _ => h.elim
def datN (ns : List Nd) : List PyData := ns.map fun n => .tuple [.str n.1, .int n.2]
theorem NodesAt.dat {K : PySem.W.Frag} {H : Hp} : ∀ {xs : List V} {ns : List Nd}, NodesAt H xs ns → DatVs K H xs (datN ns)
  | [], [], _ => .nil
  | _ :: _, _ :: _, h => by
    obtain ⟨⟨t, e, h1⟩, h2⟩ := h
    subst e
    exact .cons (.tup (SqT.of h1) (.cons (.str _) (.cons (.int _) .nil))) (NodesAt.dat h2)
  | [], _ :: _, h => h.elim
  | _ :: _, [], h => h.elim
theorem canLay_nodes : ∀ {ns : List Nd}, (∀ n ∈ ns, PyData.strOk n.1 = true) → PyData.canLayAll0 (datN ns) = true
  | [], _ => rfl
  | n :: r, h => by
    have h1 := h n List.mem_cons_self
    have h2 := canLay_nodes (ns := r) fun y hy => h y (List.mem_cons_of_mem _ hy)
    unfold datN at h2 ⊢
    simp only [List.map_cons, PyData.canLayAll0, PyData.canLay0, h1, h2, Bool.and_self]
theorem depth_nodes : ∀ ns : List Nd, PyData.depthAll (datN ns) ≤ 1
  | [] => Nat.zero_le _
  | n :: r => by
    have h2 := depth_nodes r
    unfold datN at h2 ⊢
    simp only [List.map_cons, PyData.depthAll, PyData.depth]
    omega
end SH
namespace L2
open PySem PySem.Spec PyProof.Rows
theorem tseq_open {a b : TS} {D : Ends} {σ : St} {H : Hp} (h : ∀ B : TS, B = b → tSeq a B D σ H) : tSeq a b D σ H := h b rfl
def Itr3 (lo st : Int) (n : Nat) : It := ⟨fun i _ => i < n, fun i H x H' => H' = H ∧ x = .int (lo + i * st), fun i _ => n ≤ i⟩
theorem turn_range3 {P : Program} {w : World} {K : PySem.W.Frag} {tg : Expr} (it : Addr) (lo c : Int) (n : Nat) : Turn P w K tg (Itr3 lo c n) [it] it (fun i h => IsRangeIter h it (lo + (i : Nat) * c) ((n : Int) - (i : Nat)) c) where
  mem := by simp
  obj := fun i h st b hb => by
    have e : b = it := by simpa using hb
    subst e
    exact ⟨_, st, fun v z => by
      have z' : Data.fields _ = Data.cell v := z
      cases z'⟩
  keep := fun i h h' st k => k it (by simp) _ st
  item := by
    intro X hP hw hK hc i pins s σ H E I hf st hg
    subst hP hw hK
    obtain ⟨f0, f1, f2, f3, f4, f5⟩ := hf it (by simp)
    have W := Walks.range (prog := X.prog) (w := X.w) (I.ok.hd hc) it lo c n
    refine W.item i s _ _ hg st fun v h' tk hv st' kk => ?_
    obtain ⟨t, rfl⟩ := hv
    have I1 : Inv X pins σ H { s with heap := h', toks := tk } := I.turned (fun b o hb e => kk b o (by simpa using hb) e) f0 f1 f3 f4 f5
    exact ⟨_, rfl, go_of (s := { s with heap := h', toks := tk }) (n := "range_iterator") st' rfl rfl (by decide) ⟨.int (lo + i * c), H, I1, ⟨t, rfl⟩, ⟨rfl, rfl⟩, st', fun b hb => (hf b hb).1⟩⟩
  done := by
    intro X hP hw hK hc i pins s σ H E I hf st hg
    subst hP hw hK
    obtain ⟨f0, f1, f2, f3, f4, f5⟩ := hf it (by simp)
    exact wpAny_pyNext_range_end (I.ok.hd hc) st (by have : n ≤ i := hg; omega) fun h' eb => ⟨rfl, I.turned (t' := s.toks) (fun b o hb e => eb b o hb e) f0 f1 f3 f4 f5⟩
  self := fun _ _ _ _ _ st h => wpAny_pyIter_rangeiter st h
theorem rsize3 {j c : Int} (hc : 1 ≤ c) : 0 ≤ Builtin.Range.rangeSize 0 j c ∧ (Builtin.Range.rangeSize 0 j c ≤ j ∨ Builtin.Range.rangeSize 0 j c = 0) ∧ ∀ i : Nat, (i : Int) < Builtin.Range.rangeSize 0 j c → (i : Int) * c < j := by
  by_cases hj : 0 < j
  · refine ⟨?_, .inl ?_, fun i hi => (start_inside hc (by omega) (by omega) hi).2⟩
    · rw [rangeSize_pos hc (by omega)]; exact Int.ediv_nonneg (by omega) (by omega)
    · rw [rangeSize_pos hc (by omega)]
      refine Int.ediv_le_of_le_mul (by omega) ?_
      have h : 0 ≤ (j - 1) * (c - 1) := Int.mul_nonneg (by omega) (by omega)
      have e : (j - 1) * (c - 1) = j * c - j - c + 1 := by
        rw [Int.sub_mul, Int.mul_sub, Int.mul_sub]; omega
      omega
  · have e : Builtin.Range.rangeSize 0 j c = 0 := by
      unfold Builtin.Range.rangeSize
      rw [if_pos (by omega), if_neg (by omega)]
    rw [e]
    exact ⟨Int.le_refl _, .inr rfl, fun i hi => absurd hi (by omega)⟩
theorem small3 {j c : Int} (h1 : -1000 ≤ j) (h2 : j ≤ 1000) (hc : 1 ≤ c) (hc2 : c ≤ 1000) : Builtin.Range.small 0 j c = true := by
  obtain ⟨h3, h4, _⟩ := rsize3 (j := j) hc
  have h5 : Builtin.Range.rangeSize 0 j c ≤ 1000 := by omega
  unfold Builtin.Range.small
  generalize Builtin.Range.rangeSize 0 j c = n at h3 h5
  have h6 : n * c ≤ 1000 * 1000 := Int.mul_le_mul h5 hc2 (by omega) (by omega)
  have h7 : 0 ≤ n * c := Int.mul_nonneg h3 (by omega)
  simp only [Builtin.Range.rangeFitsLong, Bool.and_eq_true, Bool.or_eq_true, decide_eq_true_eq, beq_iff_eq, show c > 0 from by omega, if_true]
  omega
section
variable {X : Cx} {tg : Expr}
def iRng3 (ta : TA) : TI := fun σ H R => ta σ H fun vs H1 => ∃ j c : Int, vs = [.int 0, .int j, .int c] ∧ (-1000 ≤ j ∧ j ≤ 1000 ∧ 1 ≤ c ∧ c ≤ 1000) ∧ ∀ n : Nat, (∀ i : Nat, i < n → (i : Int) * c < j) → R (Itr3 0 c n) H1
end
end L2
namespace SH
open PySem L2
def RowAt (f : List V → HO) (H : Hp) (x : V) (l : List V) : Prop := ∃ a, x = .ref a ∧ H a = some (f l)
def RowsAt (f : List V → HO) (H : Hp) : List V → List (List V) → Prop
  | [], [] => True
  | x :: xs, n :: ns => RowAt f H x n ∧ RowsAt f H xs ns
  | [], _ :: _ => False
  | _ :: _, [] => False
section
variable {f : List V → HO} {H H' : Hp}
theorem RowAt.same {x : V} {n : List V} (s : Same H H') (h : RowAt f H x n) : RowAt f H' x n := by
  obtain ⟨t, e, h⟩ := h
  exact ⟨t, e, s _ _ h⟩
theorem RowsAt.keep (s : ∀ b ys, H b = some (f ys) → H' b = some (f ys)) : ∀ {xs : List V} {ns : List (List V)}, RowsAt f H xs ns → RowsAt f H' xs ns
  | [], [], h => h
  | _ :: _, _ :: _, h => by
    obtain ⟨⟨t, e, h1⟩, h2⟩ := h
    exact ⟨⟨t, e, s _ _ h1⟩, RowsAt.keep s h2⟩
  | [], _ :: _, h => h.elim
  | _ :: _, [], h => h.elim
theorem RowsAt.same (s : Same H H') {xs : List V} {ns : List (List V)} (h : RowsAt f H xs ns) : RowsAt f H' xs ns := h.keep fun b ys e => s b _ e
theorem RowsAt.length : ∀ {xs : List V} {ns : List (List V)}, RowsAt f H xs ns → xs.length = ns.length
  | [], [], _ => rfl
  | _ :: _, _ :: _, h => by rw [List.length_cons, List.length_cons, RowsAt.length h.2]
  | [], _ :: _, h => h.elim
  | _ :: _, [], h => h.elim
theorem RowsAt.append : ∀ {xs ys : List V} {ns ms : List (List V)}, RowsAt f H xs ns → RowsAt f H ys ms → RowsAt f H (xs ++ ys) (ns ++ ms)
  | [], _, [], _, _, b => b
  | _ :: _, _, _ :: _, _, a, b => ⟨a.1, RowsAt.append a.2 b⟩
  | [], _, _ :: _, _, a, _ => a.elim
  | _ :: _, _, [], _, a, _ => a.elim
theorem RowsAt.get : ∀ {xs : List V} {ns : List (List V)} {i : Nat} {x : V}, RowsAt f H xs ns → xs[i]? = some x → ∃ n, ns[i]? = some n ∧ RowAt f H x n
  | [], [], _, _, _, e => by simp at e
  | _ :: _, n :: _, 0, _, h, e => by simp at e; subst e; exact ⟨n, rfl, h.1⟩
  | _ :: _, _ :: _, i + 1, x, h, e => by
    obtain ⟨m, a, b⟩ := RowsAt.get (i := i) (x := x) h.2 (by simpa using e)
    exact ⟨m, by simpa using a, b⟩
  | [], _ :: _, _, _, h, _ => h.elim
  | _ :: _, [], _, _, h, _ => h.elim
theorem RowsAt.take : ∀ {xs : List V} {ns : List (List V)} (i : Nat), RowsAt f H xs ns → RowsAt f H (xs.take i) (ns.take i)
  | [], [], _, _ => by simp [RowsAt]
  | _ :: _, _ :: _, 0, _ => trivial
  | _ :: _, _ :: _, i + 1, h => ⟨h.1, RowsAt.take i h.2⟩
  | [], _ :: _, _, h => h.elim
  | _ :: _, [], _, h => h.elim
theorem RowsAt.drop : ∀ {xs : List V} {ns : List (List V)} (i : Nat), RowsAt f H xs ns → RowsAt f H (xs.drop i) (ns.drop i)
  | [], [], _, _ => by simp [RowsAt]
  | _ :: _, _ :: _, 0, h => h
  | _ :: _, _ :: _, i + 1, h => RowsAt.drop i h.2
  | [], _ :: _, _, h => h.elim
  | _ :: _, [], _, h => h.elim
theorem RowsAt.mem : ∀ {xs : List V} {ns : List (List V)} {x : V}, RowsAt f H xs ns → x ∈ xs → ∃ n ∈ ns, RowAt f H x n
  | [], _, _, _, h => nomatch h
  | y :: xs, n :: ns, x, h, hx => by
    rcases List.mem_cons.mp hx with e | e
    · rw [e]; exact ⟨n, List.mem_cons_self, h.1⟩
    · obtain ⟨m, hm, r⟩ := RowsAt.mem h.2 e
      exact ⟨m, List.mem_cons_of_mem _ hm, r⟩
  | _ :: _, [], _, h, _ => h.elim
end
theorem RowAt.uniq {H : Hp} {x : V} {n m : List V} (a : RowAt .lst H x n) (b : RowAt .lst H x m) : n = m := by
  obtain ⟨t, e, h⟩ := a
  obtain ⟨t', e', h'⟩ := b
  rw [e] at e'
  cases e'
  rw [h] at h'
  cases h'
  rfl
theorem RowsAt.uniq {H : Hp} : ∀ {xs : List V} {ns ms : List (List V)}, RowsAt .lst H xs ns → RowsAt .lst H xs ms → ns = ms
  | [], [], [], _, _ => rfl
  | _ :: _, _ :: _, _ :: _, a, b => by rw [a.1.uniq b.1, RowsAt.uniq a.2 b.2]
  | [], _ :: _, _, a, _ => a.elim
  | [], _, _ :: _, _, b => b.elim
  | _ :: _, [], _, a, _ => a.elim
  | _ :: _, _, [], _, b => b.elim
def lineOk (w : Nat) (l : List V) : Prop := l.length = w ∧ l.all markV = true
def tabOk (ls : List (List V)) : Prop := ∃ w, w ≤ 12 ∧ ∀ l ∈ ls, lineOk w l
def Thg5 (H : Hp) (v : V) : Prop := Thg H v ∧ ∀ a xs, v = .ref a → H a = some (.lst xs) → ∀ x ∈ xs, Thg2 H x
def GoodT (H : Hp) (v : V) : Prop := ∃ a xs ls, v = .ref a ∧ H a = some (.lst xs) ∧ xs.length ≤ 12 ∧ RowsAt .lst H xs ls ∧ tabOk ls
theorem Thg5.same {H H' : Hp} {v : V} (s : Same H H') (t : Thg5 H v) : Thg5 H' v := ⟨t.1.same s, fun a xs e h x hx => (t.2 a xs e (t.1.back s e h) x hx).same s⟩
theorem RowsAt.back {H H' : Hp} (s : Same H H') : ∀ {xs : List V} {ns : List (List V)}, (∀ x ∈ xs, Thg H x) → RowsAt .lst H' xs ns → RowsAt .lst H xs ns
  | [], [], _, h => h
  | x :: xs, _ :: _, t, h => by
    obtain ⟨⟨a, e, h1⟩, h2⟩ := h
    exact ⟨⟨a, e, (t x List.mem_cons_self).back s e h1⟩, RowsAt.back s (fun y hy => t y (List.mem_cons_of_mem _ hy)) h2⟩
  | [], _ :: _, _, h => h.elim
  | _ :: _, [], _, h => h.elim
theorem GoodT.back {H H' : Hp} {v : V} (t : Thg5 H v) (s : Same H H') (g : GoodT H' v) : GoodT H v := by
  obtain ⟨a, xs, ns, e, h, l, m, d⟩ := g
  have h0 := t.1.back s e h
  exact ⟨a, xs, ns, e, h0, l, m.back s fun x hx => (t.2 a xs e h0 x hx).1, d⟩
theorem notT_mem {H : Hp} {a : Addr} {xs : List V} {b : V} (h : H a = some (.lst xs)) (hm : b ∈ xs) (hb : ¬ GoodM 12 H b) : ¬ GoodT H (.ref a) := by
  rintro ⟨a', xs', ns, e, h', l, r, w, hw, hall⟩
  cases e
  rw [h] at h'
  cases h'
  obtain ⟨n, hn, c, e, hc⟩ := r.mem hm
  obtain ⟨h1, h2⟩ := hall n hn
  exact hb ⟨c, n, e, hc, by omega, h2⟩
theorem notT_two {H : Hp} {a : Addr} {xs : List V} {b c : V} {l1 l2 : List V} (h : H a = some (.lst xs)) (hm : b ∈ xs) (hm2 : c ∈ xs) (h1 : RowAt .lst H b l1) (h2 : RowAt .lst H c l2) (hne : l1.length ≠ l2.length) : ¬ GoodT H (.ref a) := by
  rintro ⟨a', xs', ns, e, h', l, r, w, hw, hall⟩
  cases e
  rw [h] at h'
  cases h'
  obtain ⟨n, hn, r1⟩ := r.mem hm
  obtain ⟨m, hm', r2⟩ := r.mem hm2
  have e1 := r1.uniq h1
  have e2 := r2.uniq h2
  subst e1 e2
  exact hne ((hall _ hn).1.trans (hall _ hm').1.symm)
def datM : V → PyData
  | .str z => .str z
  | _ => .none
theorem datVs_marks {K : PySem.W.Frag} {H : Hp} : ∀ {l : List V}, l.all markV = true → DatVs K H l (l.map datM)
  | [], _ => .nil
  | x :: r, h => by
    rw [List.all_cons, Bool.and_eq_true] at h
    cases x with
    | str z => exact .cons (.str _) (datVs_marks h.2)
    | _ => cases h.1
theorem canLay_marks : ∀ {l : List V}, l.all markV = true → PyData.canLayAll0 (l.map datM) = true
  | [], _ => rfl
  | x :: r, h => by
    rw [List.all_cons, Bool.and_eq_true] at h
    have ih := canLay_marks h.2
    cases x with
    | str z =>
      have h1 := mark_strOk (show markS z = true from h.1)
      simp only [List.map_cons, datM, PyData.canLayAll0, PyData.canLay0, h1, ih, Bool.and_self]
    | _ => cases h.1
theorem depth_marks : ∀ l : List V, PyData.depthAll (l.map datM) ≤ 0
  | [] => Nat.le_refl _
  | x :: r => by
    have ih := depth_marks r
    cases x <;> simp only [List.map_cons, datM, PyData.depthAll, PyData.depth] <;> omega
theorem canLay_tups : ∀ {ls : List (List V)}, (∀ l ∈ ls, l.all markV = true) → PyData.canLayAll0 (ls.map fun l => PyData.tuple (l.map datM)) = true
  | [], _ => rfl
  | n :: r, h => by
    have h1 := canLay_marks (h n List.mem_cons_self)
    have h2 := canLay_tups (ls := r) fun y hy => h y (List.mem_cons_of_mem _ hy)
    simp only [List.map_cons, PyData.canLayAll0, PyData.canLay0, h1, h2, Bool.and_self]
theorem depth_tups : ∀ ls : List (List V), PyData.depthAll (ls.map fun l => PyData.tuple (l.map datM)) ≤ 1
  | [] => Nat.zero_le _
  | n :: r => by
    have h2 := depth_tups r
    have h1 := depth_marks n
    simp only [List.map_cons, PyData.depthAll, PyData.depth]
    omega
theorem RowsAt.datT {K : PySem.W.Frag} {H : Hp} : ∀ {xs : List V} {ls : List (List V)}, (∀ l ∈ ls, l.all markV = true) → RowsAt .tup H xs ls → DatVs K H xs (ls.map fun l => PyData.tuple (l.map datM))
  | [], [], _, _ => .nil
  | _ :: _, n :: _, hm, h => by
    obtain ⟨⟨t, e, h1⟩, h2⟩ := h
    subst e
    exact .cons (.tup (SqT.of h1) (datVs_marks (hm n List.mem_cons_self))) (RowsAt.datT (fun y hy => hm y (List.mem_cons_of_mem _ hy)) h2)
  | [], _ :: _, _, h => h.elim
  | _ :: _, [], _, h => h.elim
def wideT (ls : List (List V)) : Nat := (ls.headD []).length
theorem wideT_le {ls : List (List V)} (h : tabOk ls) : wideT ls ≤ 12 := by
  obtain ⟨w, hw, ha⟩ := h
  cases ls with
  | nil => exact Nat.zero_le _
  | cons l r => show l.length ≤ 12; rw [(ha l List.mem_cons_self).1]; exact hw
theorem wideT_all {ls : List (List V)} (h : tabOk ls) : ∀ l ∈ ls, lineOk (wideT ls) l := fun l hl => by
  obtain ⟨w, hw, ha⟩ := h
  cases ls with
  | nil => exact nomatch hl
  | cons l0 r =>
    have e : wideT (l0 :: r) = w := (ha l0 List.mem_cons_self).1
    rw [e]
    exact ha l hl
theorem tab_marks {ls : List (List V)} (h : tabOk ls) : ∀ l ∈ ls, l.all markV = true := fun l hl => (wideT_all h l hl).2
theorem flat_len {ls : List (List V)} (h : ∀ l ∈ ls, l.length ≤ 12) : ls.flatten.length ≤ 12 * ls.length := by
  induction ls with
  | nil => exact Nat.le_refl _
  | cons l r ih =>
    have h1 := h l List.mem_cons_self
    have h2 := ih fun y hy => h y (List.mem_cons_of_mem _ hy)
    rw [List.flatten_cons, List.length_append, List.length_cons]
    omega
theorem putF3 {a b c : Str} {x y z : V} (h : ¬ a = c) (h' : ¬ b = c) : putF c z [(a, x), (b, y)] = [(a, x), (b, y), (c, z)] := by
  show (if a = c then [(a, z), (b, y)] else (a, x) :: (if b = c then [(b, z)] else (b, y) :: putF c z [])) = _
  rw [if_neg h, if_neg h']
  rfl
theorem lookup_no3 {α : Type} {a b d c : Str} {x y z : α} (h : (c == a) = false) (h' : (c == b) = false) (h'' : (c == d) = false) : List.lookup c [(a, x), (b, y), (d, z)] = none := by
  rw [List.lookup_cons, h, List.lookup_cons, h', List.lookup_cons, h'']
  rfl
theorem lookup3b {α : Type} {a b c : Str} {x y z : α} (h : (b == a) = false) : List.lookup b [(a, x), (b, y), (c, z)] = some y := by
  rw [List.lookup_cons, h, List.lookup_cons, beq_self_eq_true]
theorem lookup3 {α : Type} {a b c : Str} {x y z : α} (h : (c == a) = false) (h' : (c == b) = false) : List.lookup c [(a, x), (b, y), (c, z)] = some z := by
  rw [List.lookup_cons, h, List.lookup_cons, h', List.lookup_cons, beq_self_eq_true]
theorem GoodM.same {n : Nat} {H H' : Hp} {v : V} (s : Same H H') (g : GoodM n H v) : GoodM n H' v := by
  obtain ⟨a, xs, e, h, r⟩ := g
  exact ⟨a, xs, e, s _ _ h, r⟩
theorem RowsAt.keepm {f : List V → HO} {H H' : Hp} : ∀ {xs : List V} {ns : List (List V)}, (∀ b ys, V.ref b ∈ xs → H b = some (f ys) → H' b = some (f ys)) → RowsAt f H xs ns → RowsAt f H' xs ns
  | [], [], _, h => h
  | _ :: _, _ :: _, s, h => by
    obtain ⟨⟨t, e, h1⟩, h2⟩ := h
    exact ⟨⟨t, e, s _ _ (by rw [e]; exact List.mem_cons_self) h1⟩, RowsAt.keepm (fun b ys hb => s b ys (List.mem_cons_of_mem _ hb)) h2⟩
  | [], _ :: _, _, h => h.elim
  | _ :: _, [], _, h => h.elim
def NotIn (l : Addr) (xs : List V) : Prop := ∀ b, V.ref b ∈ xs → b ≠ l
theorem NotIn.nil {l : Addr} : NotIn l [] := fun _ h => nomatch h
theorem RowsAt.updl {f : List V → HO} {H : Hp} {l : Addr} {o : HO} {xs : List V} {ns : List (List V)} (n : NotIn l xs) (h : RowsAt f H xs ns) : RowsAt f (upd H l o) xs ns := h.keepm fun b ys hb e => by rw [upd_ne (n b hb)]; exact e
theorem NotIn.of {f : List V → HO} {H : Hp} {D : Addr} {xs : List V} {ls : List (List V)} (r : RowsAt f H xs ls) (h : H D = none) : NotIn D xs := fun b hb => by
  obtain ⟨n, _, a, e, ha⟩ := r.mem hb
  cases e
  exact ne_of_none ha h
theorem same_ne {H H' : Hp} {l : Addr} {o : HO} (s : Same H H') (h : H l = none) : Same H (upd H' l o) := fun b u e => by rw [upd_ne (ne_of_none e h)]; exact s b u e
theorem cut_to {xs : List V} {n : Nat} {i : Int} (h : i = (n : Int)) : cutV xs none (some i) = xs.take n := by
  subst h
  unfold cutV
  rw [HT.sIx_none, HT.sIx_nat, List.drop_zero, Nat.sub_zero]
  apply List.ext_getElem?
  intro j
  simp only [List.getElem?_take]
  by_cases h1 : j < n
  · by_cases h2 : j < xs.length
    · rw [if_pos (by omega), if_pos h1]
    · rw [if_neg (by omega), if_pos h1]
      exact (List.getElem?_eq_none (by omega)).symm
  · rw [if_neg (by omega), if_neg h1]
end SH
namespace L2
open PySem PySem.Spec PyProof.Rows
theorem pe_either {X : Cx} {e : Expr} {t1 t2 : TE} (h1 : PE X e t1) (h2 : PE X e t2) : PE X e (fun σ H Q => t1 σ H Q ∨ t2 σ H Q) := fun pins s σ H Q I h => h.elim (h1 pins s σ H Q I) (h2 pins s σ H Q I)
end L2
namespace SH
open PySem L2
def placesOk : Int → Int → List Int → Prop
  | _, _, [] => True
  | lo, m, p :: r => lo ≤ p ∧ p < m ∧ placesOk (p + 1) m r
def GoodP (m : Int) (H : Hp) (v : V) : Prop := ∃ a ps, v = .ref a ∧ H a = some (.lst (ps.map V.int)) ∧ placesOk 0 m ps
theorem GoodP.back {m : Int} {H H' : Hp} {v : V} (t : Thg H v) (s : Same H H') (g : GoodP m H' v) : GoodP m H v := by
  obtain ⟨a, ps, e, h, r⟩ := g
  exact ⟨a, ps, e, t.back s e h, r⟩
end SH
namespace L2
open PySem PySem.Spec PyProof.Rows
section
variable {κ : Type} [DecidableEq κ]
def valV (kvs : List (κ × V)) (k : κ) : Option V := (kvs.find? fun kv => decide (kv.1 = k)).map (·.2)
def putK (kvs : List (κ × V)) (k : κ) (v : V) : List (κ × V) :=
  if (kvs.any fun kv => decide (kv.1 = k)) = true then kvs.map (fun kv => if kv.1 = k then (kv.1, v) else kv) else kvs ++ [(k, v)]
def dropK (kvs : List (κ × V)) (k : κ) : List (κ × V) := kvs.filter fun kv => decide (kv.1 ≠ k)
theorem valV_pos {p : κ × V} {r : List (κ × V)} {k : κ} (e : p.1 = k) : valV (p :: r) k = some p.2 := by simp [valV, List.find?_cons, e]
theorem valV_neg {p : κ × V} {r : List (κ × V)} {k : κ} (e : ¬ p.1 = k) : valV (p :: r) k = valV r k := by simp [valV, List.find?_cons, e]
theorem valV_any (k : κ) : ∀ kvs : List (κ × V), (kvs.any fun kv => decide (kv.1 = k)) = (valV kvs k).isSome
  | [] => rfl
  | p :: r => by
    rw [List.any_cons]
    by_cases e : p.1 = k
    · simp only [valV_pos e, decide_eq_true e, Bool.true_or, Option.isSome_some]
    · rw [valV_neg e, decide_eq_false e, Bool.false_or]; exact valV_any k r
theorem RelO.isSome_eq {o : Option V} {u : Option Value} (r : RelO o u) : o.isSome = u.isSome := by
  cases o with
  | none => cases u with
    | none => rfl
    | some _ => exact (show False from r).elim
  | some _ => cases u with
    | none => exact (show False from r).elim
    | some _ => rfl
theorem RelO.getD {o : Option V} {u : Option Value} {d : V} {d' : Value} (r : RelO o u) (rd : RelV d d') : RelV (o.getD d) (u.getD d') := by
  cases o with
  | none => cases u with
    | none => exact rd
    | some _ => exact (show False from r).elim
  | some _ => cases u with
    | none => exact (show False from r).elim
    | some _ => exact r
theorem KV.val {kvs : List (κ × V)} {vs : List (κ × Value)} (r : KV kvs vs) (k : κ) : RelO (valV kvs k) (valueAt vs k) := by
  unfold KV at r
  induction r with
  | nil => exact True.intro
  | @cons p q ps qs h t ih =>
    obtain ⟨h1, h2⟩ := h
    by_cases e : p.1 = k
    · have e' : q.1 = k := h1.symm.trans e
      have b : valueAt (q :: qs) k = some q.2 := by simp [valueAt, List.find?_cons, e']
      rw [valV_pos e, b]; exact h2
    · have e' : ¬ q.1 = k := fun z => e (h1.trans z)
      have b : valueAt (q :: qs) k = valueAt qs k := by simp [valueAt, List.find?_cons, e']
      rw [valV_neg e, b]; exact ih
theorem KV.any {kvs : List (κ × V)} {vs : List (κ × Value)} (r : KV kvs vs) (k : κ) : (kvs.any fun kv => decide (kv.1 = k)) = vs.any fun kv => decide (kv.1 = k) := by
  unfold KV at r
  induction r with
  | nil => rfl
  | cons h t ih => rw [List.any_cons, List.any_cons, ih, h.1]
theorem KV.repl {kvs : List (κ × V)} {vs : List (κ × Value)} (r : KV kvs vs) (k : κ) {y : V} {u : Value} (ry : RelV y u) :
    KV (kvs.map fun kv => if kv.1 = k then (kv.1, y) else kv) (vs.map fun kv => if kv.1 = k then (kv.1, u) else kv) := by
  unfold KV at r ⊢
  induction r with
  | nil => exact .nil
  | @cons p q ps qs h t ih =>
    rw [List.map_cons, List.map_cons]
    refine .cons ?_ ih
    obtain ⟨h1, h2⟩ := h
    by_cases e : p.1 = k
    · rw [if_pos e, if_pos (h1.symm.trans e)]; exact ⟨h1, ry⟩
    · rw [if_neg e, if_neg (fun z => e (h1.trans z))]; exact ⟨h1, h2⟩
theorem KV.put {kvs : List (κ × V)} {vs : List (κ × Value)} (r : KV kvs vs) (k : κ) {y : V} {u : Value} (ry : RelV y u) : KV (putK kvs k y) (stored vs k u) := by
  unfold putK stored
  rw [r.any k]
  by_cases e : (vs.any fun kv => decide (kv.1 = k)) = true
  · rw [if_pos e, if_pos e]; exact r.repl k ry
  · rw [if_neg e, if_neg e]; exact Paired.snoc r ⟨rfl, ry⟩
theorem KV.drop {kvs : List (κ × V)} {vs : List (κ × Value)} (r : KV kvs vs) (k : κ) : KV (dropK kvs k) (without vs k) := by
  unfold KV at r ⊢
  unfold dropK without
  induction r with
  | nil => exact .nil
  | @cons p q ps qs h t ih =>
    obtain ⟨h1, h2⟩ := h
    rw [List.filter_cons, List.filter_cons]
    by_cases e : p.1 = k
    · have a : ¬ decide (p.1 ≠ k) = true := by simp [e]
      have b : ¬ decide (q.1 ≠ k) = true := by simp [h1.symm.trans e]
      rw [if_neg a, if_neg b]; exact ih
    · have e' : ¬ q.1 = k := fun z => e (h1.trans z)
      have a : decide (p.1 ≠ k) = true := by simp [e]
      have b : decide (q.1 ≠ k) = true := by simp [e']
      rw [if_pos a, if_pos b]; exact .cons ⟨h1, h2⟩ ih
theorem KV.length {kvs : List (κ × V)} {vs : List (κ × Value)} (r : KV kvs vs) : kvs.length = vs.length := Paired.length r
end
abbrev KT (H : Hp) : List (List Key × V) → List (List Key × Addr × Value) → Prop := Paired fun p q => p.1 = q.1 ∧ H q.2.1 = some (.tup (p.1.map kV)) ∧ RelV p.2 q.2.2
theorem KT.val {H : Hp} {kvs : List (List Key × V)} {xs : List (List Key × Addr × Value)} (r : KT H kvs xs) (k : List Key) : RelO (valV kvs k) ((atKey xs k).map (·.2)) := by
  induction r with
  | nil => exact True.intro
  | @cons p q ps qs h t ih =>
    obtain ⟨h1, _, h2⟩ := h
    by_cases e : p.1 = k
    · have e' : q.1 = k := h1.symm.trans e
      have b : atKey (q :: qs) k = some q.2 := by simp [atKey, List.find?_cons, e']
      rw [valV_pos e, b]; exact h2
    · have e' : ¬ q.1 = k := fun z => e (h1.trans z)
      have b : atKey (q :: qs) k = atKey qs k := by simp [atKey, List.find?_cons, e']
      rw [valV_neg e, b]; exact ih
theorem KT.repl {H : Hp} {kvs : List (List Key × V)} {xs : List (List Key × Addr × Value)} (r : KT H kvs xs) (k : List Key) {y : V} {u : Value} (ry : RelV y u) :
    KT H (kvs.map fun kv => if kv.1 = k then (kv.1, y) else kv) (xs.map (putAt k u)) := by
  induction r with
  | nil => exact .nil
  | @cons p q ps qs h t ih =>
    rw [List.map_cons, List.map_cons]
    refine .cons ?_ ih
    obtain ⟨h1, h2, h3⟩ := h
    unfold putAt
    by_cases e : p.1 = k
    · rw [if_pos e, if_pos (h1.symm.trans e)]; exact ⟨h1, h2, ry⟩
    · rw [if_neg e, if_neg (fun z => e (h1.trans z))]; exact ⟨h1, h2, h3⟩
theorem KT.put {H : Hp} {kvs : List (List Key × V)} {xs : List (List Key × Addr × Value)} (r : KT H kvs xs) (k : List Key) {b : Addr} {y : V} {u : Value} (hb : H b = some (.tup (k.map kV))) (ry : RelV y u) :
    KT H (putK kvs k y) (storedH xs k b u) := by
  have e : (kvs.any fun kv => decide (kv.1 = k)) = (atKey xs k).isSome := by
    rw [valV_any, (r.val k).isSome_eq, Option.isSome_map]
  unfold putK storedH
  rw [e]
  by_cases q : (atKey xs k).isSome = true
  · rw [if_pos q, if_pos q]; exact r.repl k ry
  · rw [if_neg q, if_neg q]; exact Paired.snoc r ⟨rfl, hb, ry⟩
theorem KT.keeps {H H' : Hp} {kvs : List (List Key × V)} {xs : List (List Key × Addr × Value)} (r : KT H kvs xs) (ht : ∀ b ys, H b = some (.tup ys) → H' b = some (.tup ys)) : KT H' kvs xs :=
  Paired.mapP r fun _ _ z => ⟨z.1, ht _ _ z.2.1, z.2.2⟩
section
variable {P : Program} {w : World} {H : Hp} {h : Heap} {a : Addr}
end
def DGet (H : Hp) (a : Addr) (y : V) (r : Option V) : Prop :=
  (∃ kvs k, Rd H a (.dK kvs) ∧ y = kV k ∧ r = valV kvs k) ∨ ∃ kvs k b, Rd H a (.dT kvs) ∧ y = .ref b ∧ H b = some (.tup (k.map kV)) ∧ r = valV kvs k
def DPut (H : Hp) (a : Addr) (y v : V) (H' : Hp) : Prop :=
  (∃ kvs k, H a = some (.dK kvs) ∧ y = kV k ∧ kvs.length < sizeLine ∧ H' = upd H a (.dK (putK kvs k v))) ∨
  ∃ kvs k b, H a = some (.dT kvs) ∧ y = .ref b ∧ H b = some (.tup (k.map kV)) ∧ kvs.length < sizeLine ∧ H' = upd H a (.dT (putK kvs k v))
theorem DGet.k {H : Hp} {a : Addr} {kvs : List (Key × V)} {k : Key} (e : H a = some (.dK kvs)) : DGet H a (kV k) (valV kvs k) := .inl ⟨kvs, k, .inl e, rfl, rfl⟩
theorem DGet.t {H : Hp} {a b : Addr} {kvs : List (List Key × V)} {k : List Key} (e : H a = some (.dT kvs)) (eb : H b = some (.tup (k.map kV))) : DGet H a (.ref b) (valV kvs k) := .inr ⟨kvs, k, b, .inl e, rfl, eb, rfl⟩
theorem DPut.k {H : Hp} {a : Addr} {kvs : List (Key × V)} {k : Key} {v : V} (e : H a = some (.dK kvs)) (hl : kvs.length < sizeLine) : DPut H a (kV k) v (upd H a (.dK (putK kvs k v))) := .inl ⟨kvs, k, e, rfl, hl, rfl⟩
theorem DPut.t {H : Hp} {a b : Addr} {kvs : List (List Key × V)} {k : List Key} {v : V} (e : H a = some (.dT kvs)) (eb : H b = some (.tup (k.map kV))) (hl : kvs.length < sizeLine) :
    DPut H a (.ref b) v (upd H a (.dT (putK kvs k v))) := .inr ⟨kvs, k, b, e, rfl, eb, hl, rfl⟩
section
variable {X : Cx} {pins : List (Addr × Obj)} {σ : St} {H : Hp} {s : Shared} {a : Addr} {y v : V} {u r : Value} {o : Option V} {A : Around} {E : Value → Shared → Prop}
end
section
variable {X : Cx} {pins : List (Addr × Obj)} {σ : St} {H : Hp} {s : Shared} {a : Addr} {kvs : List (Key × V)} {k : Key} {u : Value} {A : Around} {E : Value → Shared → Prop}
end
def tDIn (ty td : TE) : TE := fun σ H Q => ty σ H fun y H1 => td σ H1 fun x H2 => ∃ a o, x = .ref a ∧ DGet H2 a y o ∧ Q (.bl o.isSome) H2
section
variable {X : Cx} {o i e value : Expr} {pos pos' tpos : Pos} {td ty tv : TE}
end
section
variable {X : Cx} {pos : Pos}
end
abbrev VV : List (V × V) → List (Value × Value) → Prop := Paired fun p q => RelV p.1 q.1 ∧ RelV p.2 q.2
structure M1 (X : Cx) (o : Expr) (m : Str) (apos : Pos) (e : Expr) (cpos : Pos) : Prop where
  base : attributeBase o m X.env (eval o X.env) = eval o X.env
  few : ((backTo cpos (starEach [e] X.env)).all (fun x => !x.1) && (backToKw cpos (keywordEach [] X.env)).all (fun x => x.1.isSome)
    && decide (([e] : List Expr).length + ([] : List Keyword).length + (if ([] : List Keyword).isEmpty then 0 else 1) < 30)) = true
  line : (apos.endLine == cpos.line) = true
  trees : backTo cpos (starEach [e] X.env) = [(false, eval e X.env)]
structure M2 (X : Cx) (o : Expr) (m : Str) (apos : Pos) (e f : Expr) (cpos : Pos) : Prop where
  base : attributeBase o m X.env (eval o X.env) = eval o X.env
  few : ((backTo cpos (starEach [e, f] X.env)).all (fun x => !x.1) && (backToKw cpos (keywordEach [] X.env)).all (fun x => x.1.isSome)
    && decide (([e, f] : List Expr).length + ([] : List Keyword).length + (if ([] : List Keyword).isEmpty then 0 else 1) < 30)) = true
  line : (apos.endLine == cpos.line) = true
  trees : backTo cpos (starEach [e, f] X.env) = [(false, eval e X.env), (false, eval f X.env)]
section
variable {X : Cx} {pins : List (Addr × Obj)} {σ : St} {H : Hp} {s : Shared} {a : Addr} {y d : V} {u r : Value} {o : Option V} {A : Around} {E : Value → Shared → Prop}
end
section
variable {X : Cx} {o e f : Expr} {apos cpos : Pos} {td ty tx : TE}
end
section
variable {X : Cx} {pins : List (Addr × Obj)} {σ : St} {H : Hp} {s : Shared} {a : Addr} {kvs : List (Key × V)} {A : Around} {E : Value → Shared → Prop}
end
section
variable {X : Cx} {pins : List (Addr × Obj)} {σ : St} {H : Hp} {s : Shared} {a : Addr} {y : V} {u : Value} {A : Around} {E : Value → Shared → Prop}
end
end L2
namespace PySem
open Sem (wp)
end PySem
namespace L2
open PySem PySem.Spec PyProof.Rows
section
variable {prog : Program} {w : World} {A : Around} {E : Value → Shared → Prop}
end
end L2
namespace L2
open PySem PySem.Spec PyProof.Rows
section
variable {X : Cx}
def rDictP (K : PySem.W.Frag) : List V → Hp → VK → Prop := fun xs H Q => ∃ (l : Addr) (ys : List V) (prs : List (Key × V)), xs = [.ref l] ∧ SqL K H l ys ∧ ys.length = prs.length ∧ prs.length ≤ 900 ∧
  (∀ (j : Nat) (y : V) (p : Key × V), ys[j]? = some y → prs[j]? = some p → ∃ t, y = .ref t ∧ H t = some (.tup [kV p.1, p.2])) ∧ ∀ d, H d = none → Q (.ref d) (upd H d (.dK (prs.foldl (fun a p => putK a p.1 p.2) [])))
end
end L2
namespace PySem
open Sem (wp)
section
variable {prog : Program} {w : World} {A : Around} {E : Value → Shared → Prop} {s : Shared}
theorem drawT_item {it t : Addr} {i : Nat} {items : Array Value} {x : Value} {Q : Value → Shared → Prop} (hI : s.heap.IsTupleIter it t i) (hT : s.heap.IsTuple t items) (hx : items[i]? = some x)
    (q : ∀ h', h'.IsTupleIter it t (i + 1) → Heap.SameBut it s.heap h' → Q x { s with heap := h' }) : wpAny (model prog w) A (Builtin.SmallTypes.nextOf (.ref it)) Q E s := by
  obtain ⟨oi, hoi, hci, hdi⟩ := id hI
  obtain ⟨ot, hot, _, nt, hdt⟩ := hT
  unfold Builtin.SmallTypes.nextOf
  refine wpAny_bind (wpAny_callSpecial?_slot (name := Str.ofString "__next__") hI.typeIs F.slot_tuple_iterator_next (wpAny_call_entry F.slot_tuple_iterator_next hI.typeIs F.entry_tuple_iterator_next ?_ (F.args_tuple_iterator_next_1 _)))
  refine wpAny_bind (m := field (.ref it) 0) (wpAny_field hoi hdi (x := .ref t) rfl ?_)
  dsimp only
  rw [if_neg (show ¬ ((Value.ref t == Value.none) = true) by exact Bool.false_ne_true)]
  refine wpAny_bind (m := field (.ref it) 1) (wpAny_field hoi hdi (x := .int i 0) rfl ?_)
  refine wpAny_bind (m := seqItems? (.ref t)) (wpAny_seqItems hot hdt ?_)
  simp only [Int.toNat_natCast, hx]
  refine wpAny_bind (wpAny_setField hoi hdi (by simp) (wpAny_pure ⟨x, rfl, wpAny_pure (q _ ⟨_, Heap.get?_update_self _ hoi (Obj.isFreed_of_fields (Obj.data_mapFields hdi _)), (Obj.cls_mapFields ..).trans hci, ?_⟩ (Heap.SameBut.update ..))⟩))
  rw [Obj.data_mapFields hdi]
  simp [rawInt]
theorem drawT_end {it t : Addr} {i : Nat} {items : Array Value} {Q : Value → Shared → Prop} (hh : A.handled = none) (hI : s.heap.IsTupleIter it t i) (hT : s.heap.IsTuple t items) (hx : items[i]? = none)
    (q : ∀ h' e, Heap.ExtBut it s.heap h' → (∃ o, h'.get? e = some o ∧ o.cls = .type "StopIteration") → E (.ref e) { s with heap := h' }) : wpAny (model prog w) A (Builtin.SmallTypes.nextOf (.ref it)) Q E s := by
  obtain ⟨oi, hoi, hci, hdi⟩ := id hI
  obtain ⟨ot, hot, _, nt, hdt⟩ := hT
  unfold Builtin.SmallTypes.nextOf
  refine wpAny_bind (wpAny_callSpecial?_slot (name := Str.ofString "__next__") hI.typeIs F.slot_tuple_iterator_next (wpAny_call_entry F.slot_tuple_iterator_next hI.typeIs F.entry_tuple_iterator_next ?_ (F.args_tuple_iterator_next_1 _)))
  refine wpAny_bind (m := field (.ref it) 0) (wpAny_field hoi hdi (x := .ref t) rfl ?_)
  dsimp only
  rw [if_neg (show ¬ ((Value.ref t == Value.none) = true) by exact Bool.false_ne_true)]
  refine wpAny_bind (m := field (.ref it) 1) (wpAny_field hoi hdi (x := .int i 0) rfl ?_)
  refine wpAny_bind (m := seqItems? (.ref t)) (wpAny_seqItems hot hdt ?_)
  simp only [Int.toNat_natCast, hx]
  refine wpAny_bind (wpAny_rule (wpAny_bind (wpAny_setField hoi hdi (by simp) (wpAny_bind (m := newExc (.type "StopIteration") []) ?_))))
  simp only [newExc, newTuple]
  refine wpAny_bind (wpAny_newObj_type (wpAny_bind (m := firstArgMember _ _) (wpAny_of_eq (a := Value.none) (by first | rfl | (simp only [firstArgMember]; rfl)) (wpAny_newObj_type ?_ (by size_fits)))) (by size_fits))
  simp only [raiseNew]
  refine wpAny_bind (wpAny_handled ?_)
  first | rw [show A.in1.handled = none by exact hh] | rw [hh]
  exact wpAny_bind (wpAny_pure (wpAny_throw (q _ _ (((Heap.SameBut.update ..).extBut.push _).push _) ⟨_, Heap.get?_push_size _ rfl, rfl⟩)))
theorem Draws.tup (hh : A.handled = none) (it t : Addr) (hne : t ≠ it) (items : Array Value) : Draws prog w A it [it, t] items.size (fun i v => items[i]? = some v) (fun i h => h.IsTupleIter it t i ∧ h.IsTuple t items) where
  live := fun _ _ st => let ⟨o, ho, _⟩ := st.1; ⟨o, ho⟩
  frame := fun _ _ _ st hk => ⟨st.1.at fun o e => hk it (by simp) o e, let ⟨o, ho, r⟩ := st.2; ⟨o, hk t (by simp) o ho, r⟩⟩
  item := fun i s Q E hi st hQ => by
    refine drawT_item st.1 st.2 (x := items[i]) (by simp [hi]) fun h' hit' hs' => hQ _ h' s.toks (by simp [hi]) ⟨hit', ?_⟩ hs'
    obtain ⟨o, ho, r⟩ := st.2
    exact ⟨o, (hs'.2 t hne).trans ho, r⟩
  done := fun s Q E st hE => drawT_end hh st.1 st.2 (by simp) hE
end
end PySem
namespace L2
open PySem PySem.Spec PyProof.Rows
def Itte (K : PySem.W.Frag) (a : Addr) : It :=
  ⟨fun i H => ∃ xs x, SqT K H a xs ∧ xs[i]? = some x, fun i H v H' => ∃ T x, H T = none ∧ v = .ref T ∧ (∀ xs, SqT K H a xs → xs[i]? = some x) ∧ H' = upd H T (.tup [.int i, x]), fun i H => ∃ xs, SqT K H a xs ∧ xs.length = i⟩
section
variable {X : Cx}
def iEnumT (K : PySem.W.Frag) (ta : TA) : TI := fun σ H R => ta σ H fun vs H1 => ∃ a, vs = [.ref a] ∧ (∃ xs, SqT K H1 a xs) ∧ R (Itte K a) H1
end
end L2
namespace SH
open PySem L2
def kept (ps W : List Int) : List Int := W.filter fun j => decide (j ∈ ps)
theorem Same.none {H H' : Hp} (s : Same H H') {b : Addr} (h : H' b = none) : H b = none := by
  cases e : H b with
  | none => rfl
  | some o => rw [s _ _ e] at h; cases h
def below (ps : List Int) (i : Nat) : List Int := ps.filter fun p => decide (p < (i : Int))
end SH
namespace L2
open PySem PySem.Spec PyProof.Rows
section
variable {X : Cx}
def rRange1 : List V → Hp → VK → Prop := fun xs H Q => ∃ n : Int, xs = [.int n] ∧ ∀ r, H r = none → Q (.ref r) (upd H r (.rng 0 n))
def rRange2 : List V → Hp → VK → Prop := fun xs H Q => ∃ lo hi : Int, xs = [.int lo, .int hi] ∧ ∀ r, H r = none → Q (.ref r) (upd H r (.rng lo hi))
def rListR : List V → Hp → VK → Prop := fun xs H Q => ∃ (r : Addr) (lo hi : Int), xs = [.ref r] ∧ H r = some (.rng lo hi) ∧ (-(2 ^ 62) ≤ lo ∧ lo < 2 ^ 62 ∧ -(2 ^ 62) ≤ hi ∧ hi < 2 ^ 62) ∧ (hi - lo).toNat ≤ 900 ∧ ∀ l, H l = none → Q (.ref l) (upd H l (.lst (((List.range (hi - lo).toNat).map fun i : Nat => lo + (i : Int)).map V.int)))
end
end L2
namespace SH
open PySem L2
end SH
namespace L2
open PySem PySem.Spec PyProof.Rows
section
variable {X : Cx}
end
def TupF (H : Hp) (t : Addr) (xs : List V) : Prop := ∃ o : Obj, H t = some (.frz o (.tup xs)) ∧ o.cls = .type "tuple" ∧ o.dict = none
theorem TupF.sq {K : PySem.W.Frag} {H : Hp} {t : Addr} {xs : List V} (h : TupF H t xs) : SqT K H t xs := let ⟨o, e, _⟩ := h; .inl (.inr ⟨o, e⟩)
theorem TupF.keep {H H' : Hp} {t : Addr} {xs : List V} (s : ∀ b o, (∀ zs, o ≠ HO.lst zs) → H b = some o → H' b = some o) (h : TupF H t xs) : TupF H' t xs := let ⟨o, e, r⟩ := h; ⟨o, s _ (.frz o _) (fun _ z => nomatch z) e, r⟩
theorem TupF.to {H H' : Hp} {t : Addr} {xs : List V} (h : TupF H t xs) (s : ∀ o, H t = some (.frz o (.tup xs)) → H' t = some (.frz o (.tup xs))) : TupF H' t xs := let ⟨o, e, r⟩ := h; ⟨o, s o e, r⟩
section
variable {X : Cx}
end
end L2
namespace L2
open PySem PySem.Spec PyProof.Rows
theorem comp_tup {K : PySem.W.Frag} {a : Addr} {xs : List V} {x0 : Str} {ix : List Nat} {ti : TT} {te : TE} {Q : VK} {σ : St} {H : Hp} (Pv : Nat → List V → Hp → Prop) (h0 : Pv 0 [] H) (hl : ∀ i ys H, i ≤ xs.length → Pv i ys H → SqT K H a xs)
    (hs : ∀ i x ys H (R : List V → Hp → Prop), xs[i]? = some x → Pv i ys H → (∀ ys' H', Pv (i + 1) ys' H' → R ys' H') → ti (some x :: ix.map fun j => (σ[j]?).join) H fun b H3 => if b = true then te (some x :: ix.map fun j => (σ[j]?).join) H3 fun y H4 => ys.length < sizeLine ∧ R (ys ++ [y]) H4 else R ys H3)
    (hd : ∀ ys H, Pv xs.length ys H → ys.length ≤ sizeLine ∧ ∀ D, H D = none → Q (.ref D) (upd H D (.lst ys))) :
    ∃ W : Nat → Nat → List V → St → Hp → Prop, (∃ m, W 0 m [] (capS σ [x0] ix) H) ∧ ∀ i m ys σ' H, W i m ys σ' H →
      ((Itt K a).stop i H ∧ ys.length ≤ sizeLine ∧ ∀ D, H D = none → Q (.ref D) (upd H D (.lst ys))) ∨
      ((Itt K a).go i H ∧ ∀ x H', (Itt K a).yld i H x H' → gName 0 x σ' H' fun σ2 H2 => ti σ2 H2 fun b H3 => if b = true then te σ2 H3 fun y H4 => ys.length < sizeLine ∧ ∃ m', m' < m ∧ W (i + 1) m' (ys ++ [y]) σ2 H4 else ∃ m', m' < m ∧ W (i + 1) m' ys σ2 H3) := by
  refine ⟨fun i m ys σ' H => m = xs.length - i ∧ i ≤ xs.length ∧ (∃ o, σ' = o :: ix.map fun j => (σ[j]?).join) ∧ Pv i ys H, ⟨xs.length, by simp, Nat.zero_le _, ⟨none, rfl⟩, h0⟩, ?_⟩
  rintro i m ys σ' H ⟨rfl, hi, ⟨o, rfl⟩, p⟩
  have q := hl i ys H hi p
  by_cases hlt : i < xs.length
  · refine .inr ⟨⟨xs, xs[i], q, by simp [hlt]⟩, fun x H' y => ?_⟩
    obtain ⟨e, y⟩ := y
    subst e
    exact hs i x ys _ (fun ys' H4 => ∃ m', m' < xs.length - i ∧ m' = xs.length - (i + 1) ∧ i + 1 ≤ xs.length ∧ (∃ o', some x :: (ix.map fun j => (σ[j]?).join) = o' :: ix.map fun j => (σ[j]?).join) ∧ Pv (i + 1) ys' H4) (y xs q) p
      fun ys' H4 z => ⟨xs.length - (i + 1), by omega, rfl, hlt, ⟨_, rfl⟩, z⟩
  · have e : i = xs.length := by omega
    subst e
    exact .inl ⟨⟨xs, q, Nat.le_refl _⟩, hd ys H p⟩
theorem tcomp_tup {K : PySem.W.Frag} {a : Addr} {xs : List V} {x0 : Str} {ix : List Nat} {wi : TI} {ti : TT} {te : TE} {Q : VK} {σ : St} {H H1 : Hp} (hi : ∀ R : It → Hp → Prop, R (Itt K a) H1 → wi σ H R) (Pv : Nat → List V → Hp → Prop) (h0 : Pv 0 [] H1) (hl : ∀ i ys H, i ≤ xs.length → Pv i ys H → SqT K H a xs)
    (hs : ∀ i x ys H (R : List V → Hp → Prop), xs[i]? = some x → Pv i ys H → (∀ ys' H', Pv (i + 1) ys' H' → R ys' H') → ti (some x :: ix.map fun j => (σ[j]?).join) H fun b H3 => if b = true then te (some x :: ix.map fun j => (σ[j]?).join) H3 fun y H4 => ys.length < sizeLine ∧ R (ys ++ [y]) H4 else R ys H3)
    (hd : ∀ ys H, Pv xs.length ys H → ys.length ≤ sizeLine ∧ ∀ D, H D = none → Q (.ref D) (upd H D (.lst ys))) : tComp [x0] ix wi (gName 0) ti te σ H Q := hi _ (comp_tup Pv h0 hl hs hd)
end L2
namespace SH
open PySem L2
theorem _root_.L2.TupF.same {H H' : Hp} {t : Addr} {xs : List V} (s : Same H H') (h : TupF H t xs) : TupF H' t xs := let ⟨o, e, r⟩ := h; ⟨o, s _ _ e, r⟩
end SH
namespace L2
open PySem PySem.Spec PyProof.Rows
section
variable {X : Cx}
theorem Vals.strs : ∀ {zs : List Str} {us : List Value}, Vals (zs.map V.str) us → StrsAre us zs
  | [], _, .nil => .nil
  | _ :: _, _, .cons ⟨_, rfl⟩ t => .cons _ _ (Vals.strs t)
theorem vals_values : ∀ l : List (Str × Tok), Vals ((l.map (·.1)).map V.str) (strValues l)
  | [] => .nil
  | _ :: r => .cons ⟨_, rfl⟩ (vals_values r)
def rJoin (K : PySem.W.Frag) : V → List V → Hp → VK → Prop := fun x vs H Q => ∃ sp p zs, x = .str sp ∧ vs = [.ref p] ∧ (SqL K H p (zs.map V.str) ∨ SqT K H p (zs.map V.str)) ∧ sp.length ≤ 16 ∧ (zs.map (·.length)).sum + zs.length ≤ 1048576 ∧ Q (.str (Str.join sp zs)) H
theorem mt_join : MtM X "str.join" (rJoin X.K) := by
  intro pins s σ H x vs v us Q I rx rv h
  obtain ⟨sp, p, zs, rfl, rfl, hq, h16, hw, q⟩ := h
  obtain ⟨t, rfl⟩ := rx
  obtain ⟨u, rfl, ru⟩ := rv.one
  cases ru
  have go : ∀ t' k, EP X pins σ Q (.str (Txt.join sp zs) t') { s with toks := k } := fun t' k => ⟨.str _, H, I.tok _, ⟨_, rfl⟩, by rw [show Txt.join sp zs = Str.join sp zs from StrLaws.glued_eq_join sp zs]; exact q⟩
  rcases hq with hq | hq
  · obtain ⟨its, r, pl, hz⟩ := I.list hq
    exact join_listW pl.isList (by simpa using r.strs) h16 hw go
  · obtain ⟨its, r, pl, hz⟩ := I.tuple hq
    exact join_tupleW pl (by simpa using r.strs) h16 hw go
def rSplit : V → List V → Hp → VK → Prop := fun x vs H Q => ∃ z y, x = .str z ∧ vs = [.str y] ∧ (y.length == 0) = false ∧ z.length + 2 ≤ sizeLine ∧ ∀ l, H l = none → Q (.ref l) (upd H l (.lst ((Txt.split z y).map V.str)))
theorem mt_split : MtM X "str.split" rSplit := by
  intro pins s σ H x vs v us Q I rx rv h
  obtain ⟨z, y, rfl, rfl, hy, hz, q⟩ := h
  obtain ⟨t, rfl⟩ := rx
  obtain ⟨u, rfl, ru⟩ := rv.one
  obtain ⟨tu, rfl⟩ := ru
  have hl := split_le z y
  have go : ∀ {its : List Value} {k : Nat}, Vals ((Txt.split z y).map V.str) its → EP X pins σ Q (.ref s.heap.objs.size) { s with heap := s.heap.push { cls := .type "list", data := .seq its.toArray }, toks := k } := fun hv =>
    ⟨.ref _, _, I.lnew hv (by rw [List.length_map]; omega), rfl, q _ I.fresh⟩
  cases h1 : (decide (z.length < y.length) || decide (Builtin.Str.strKind z < Builtin.Str.strKind y))
  · cases hf : (Builtin.Str.occurrences z y 0 z.length (z.length + 1)).isEmpty
    · have e : Txt.split z y = Builtin.Str.partsBetween z (Builtin.Str.occurrences z y 0 z.length (z.length + 1)) y.length := (if_neg (ne_true_of_eq_false h1)).trans (if_neg (ne_true_of_eq_false hf))
      rw [e] at hl go
      refine call_meets F.slot_str_split (typeIs_str _ _ _) F.entry_str_split (F.args_str_split_2 _ _) (meets_str_split_sep z y t tu h1 hy hf (by omega) (by omega)) ?_
      refine go ?_
      rw [strsFrom_eq]
      have := vals_values (numbered s.toks (Builtin.Str.partsBetween z (Builtin.Str.occurrences z y 0 z.length (z.length + 1)) y.length))
      rw [numbered_texts] at this
      exact this
    · have e : Txt.split z y = [z] := (if_neg (ne_true_of_eq_false h1)).trans (if_pos hf)
      rw [e] at go
      refine call_meets F.slot_str_split (typeIs_str _ _ _) F.entry_str_split (F.args_str_split_2 _ _) (meets_str_split_not_found z y t tu h1 hy hf) ?_
      exact go (its := [.str z t]) (k := s.toks) (.cons ⟨_, rfl⟩ .nil)
  · have e : Txt.split z y = [z] := if_pos h1
    rw [e] at go
    refine call_meets F.slot_str_split (typeIs_str _ _ _) F.entry_str_split (F.args_str_split_2 _ _) (meets_str_split_cannot_occur z y t tu h1) ?_
    exact go (its := [.str z t]) (k := s.toks) (.cons ⟨_, rfl⟩ .nil)
def rPartition : V → List V → Hp → VK → Prop := fun x vs H Q => ∃ z y, x = .str z ∧ vs = [.str y] ∧ (y.length == 0) = false ∧ z.length ≤ sizeLine ∧ ∀ l, H l = none → Q (.ref l) (upd H l (.tup [.str (Txt.partition z y).1, .str (Txt.partition z y).2.1, .str (Txt.partition z y).2.2]))
theorem mt_partition : MtM X "str.partition" rPartition := by
  intro pins s σ H x vs v us Q I rx rv h
  obtain ⟨z, y, rfl, rfl, hy, hz, q⟩ := h
  obtain ⟨t, rfl⟩ := rx
  obtain ⟨u, rfl, ru⟩ := rv.one
  obtain ⟨tu, rfl⟩ := ru
  have go : ∀ {a b c : Str} {ta tb tc : Tok} {k : Nat}, (∀ l, H l = none → Q (.ref l) (upd H l (.tup [.str a, .str b, .str c]))) → EP X pins σ Q (.ref s.heap.objs.size) { s with heap := s.heap.push { cls := .type "tuple", data := .seq [Value.str a ta, .str b tb, .str c tc].toArray }, toks := k } := fun {a b c ta tb tc k} q' => by
    refine ⟨.ref _, _, I.laid (a := s.heap.objs.size) (o := .tup [.str a, .str b, .str c]) (t' := k) (fun b u e => Heap.get?_push_of_some _ e) (Nat.le_refl _) ?_, rfl, q' _ I.fresh⟩
    exact ⟨(show 3 ≤ sizeLine by decide), _, .cons ⟨_, rfl⟩ (.cons ⟨_, rfl⟩ (.cons ⟨_, rfl⟩ .nil)), IsTup.new _ _⟩
  refine call_meets F.slot_str_partition (typeIs_str _ _ _) F.entry_str_partition (F.args_str_partition_2 _ _) (meets_str_partition z y t tu hy hz) ?_
  unfold Txt.partition at q
  revert q
  cases Builtin.Str.occurrences z y 0 z.length 1 with
  | nil => intro q; exact go q
  | cons i r => intro q; exact go q
def Cx.quiet (X : Cx) : Cx := { X with xe := fun _ _ => False }
variable {pins : List (Addr × Obj)} {σ : St} {H : Hp} {s : Shared}
end
end L2
namespace SH
open PySem PyProof.Rows L2
def splitC (c : Nat) : List Nat → List (List Nat)
  | [] => [[]]
  | d :: l => if d = c then [] :: splitC c l else match splitC c l with
    | [] => [[d]]
    | w :: ws => (d :: w) :: ws
theorem splitC_at (c : Nat) (l : List Nat) : splitC c (c :: l) = [] :: splitC c l := by
  rw [splitC, if_pos rfl]
theorem splitC_on {c d : Nat} {l : List Nat} (h : d ≠ c) : splitC c (d :: l) = match splitC c l with
    | [] => [[d]]
    | w :: ws => (d :: w) :: ws := by
  rw [splitC, if_neg h]
theorem ne_head {c d : Nat} {a : List Nat} (h : c ∉ d :: a) : d ≠ c := fun e => h (by rw [e]; exact List.mem_cons_self)
theorem splitC_cut {c : Nat} : ∀ {a : List Nat} (b : List Nat), c ∉ a → splitC c (a ++ c :: b) = a :: splitC c b
  | [], b, _ => splitC_at c b
  | d :: a, b, h => by
    have ih := splitC_cut (a := a) b fun m => h (List.mem_cons_of_mem _ m)
    show splitC c (d :: (a ++ c :: b)) = _
    rw [splitC_on (ne_head h), ih]
theorem splitC_free {c : Nat} : ∀ {a : List Nat}, c ∉ a → splitC c a = [a]
  | [], _ => rfl
  | d :: a, h => by
    have ih := splitC_free (a := a) fun m => h (List.mem_cons_of_mem _ m)
    rw [splitC_on (ne_head h), ih]
def repC (c : Nat) (z : List Nat) (l : List Nat) : List Nat := l.flatMap fun d => if d = c then z else [d]
theorem repC_app (c : Nat) (z a b : List Nat) : repC c z (a ++ b) = repC c z a ++ repC c z b := List.flatMap_append
theorem repC_free {c : Nat} {z : List Nat} : ∀ {a : List Nat}, c ∉ a → repC c z a = a
  | [], _ => rfl
  | d :: a, h => by
    show (if d = c then z else [d]) ++ repC c z a = d :: a
    rw [if_neg (ne_head h), repC_free fun m => h (List.mem_cons_of_mem _ m)]
    rfl
def sub3 (l : List Nat) : List Nat := repC 44 [32] (repC 41 [32, 41, 32] (repC 40 [32, 40, 32] l))
theorem sub3_app (a b : List Nat) : sub3 (a ++ b) = sub3 a ++ sub3 b := by unfold sub3; rw [repC_app, repC_app, repC_app]
def plainC (l : List Nat) : Prop := ∀ d ∈ l, d ≠ 32 ∧ d ≠ 40 ∧ d ≠ 41 ∧ d ≠ 44
theorem sub3_plain {l : List Nat} (h : plainC l) : sub3 l = l := by
  unfold sub3
  rw [repC_free fun m => (h _ m).2.1 rfl, repC_free fun m => (h _ m).2.2.1 rfl, repC_free fun m => (h _ m).2.2.2 rfl]
theorem sub3_open : sub3 [40] = [32, 40, 32] := by decide
theorem sub3_close : sub3 [41] = [32, 41, 32] := by decide
theorem sub3_comma : sub3 [44] = [32] := by decide
abbrev NdW := List Nat × Int
def stepW (st : List NdW × Int) (w : List Nat) : List NdW × Int := if w = [40] then (st.1, st.2 + 1) else if w = [41] then (st.1, st.2 - 1) else if w ≠ [] then (st.1 ++ [(w, st.2)], st.2) else st
def runW (st : List NdW × Int) (l : List Nat) : List NdW × Int := (splitC 32 l).foldl stepW st
theorem run_cut {st : List NdW × Int} {a b : List Nat} (h : 32 ∉ a) : runW st (a ++ 32 :: b) = runW (stepW st a) b := by
  unfold runW
  rw [splitC_cut b h]
  rfl
theorem run_blank (st : List NdW × Int) (b : List Nat) : runW st (32 :: b) = runW st b := run_cut (a := []) (by simp)
theorem run_close (st : List NdW × Int) (b : List Nat) : runW st (32 :: 41 :: 32 :: b) = runW (st.1, st.2 - 1) b := by
  rw [run_blank]
  have := run_cut (st := st) (a := [41]) (b := b) (by decide)
  rw [show ([41] : List Nat) ++ 32 :: b = 41 :: 32 :: b from rfl] at this
  rw [this]
  rfl
theorem run_open (st : List NdW × Int) (b : List Nat) : runW st (32 :: 40 :: 32 :: b) = runW (st.1, st.2 + 1) b := by
  rw [run_blank]
  have := run_cut (st := st) (a := [40]) (b := b) (by decide)
  rw [show ([40] : List Nat) ++ 32 :: b = 40 :: 32 :: b from rfl] at this
  rw [this]
  rfl
def closes (k : Nat) : List Nat := List.replicate k 41
theorem sub3_closes : ∀ k, sub3 (closes (k + 1)) = 32 :: 41 :: 32 :: sub3 (closes k) := fun k => by
  show sub3 ([41] ++ closes k) = _
  rw [sub3_app, sub3_close]
  rfl
theorem run_closes : ∀ (k : Nat) (st : List NdW × Int) (b : List Nat), runW st (sub3 (closes k) ++ b) = runW (st.1, st.2 - (k : Int)) b
  | 0, st, b => by
    show runW st b = _
    rw [show st.2 - ((0 : Nat) : Int) = st.2 by omega]
  | k + 1, st, b => by
    rw [sub3_closes]
    show runW st (32 :: 41 :: 32 :: (sub3 (closes k) ++ b)) = _
    rw [run_close, run_closes k]
    show runW (st.1, st.2 - 1 - (k : Int)) b = _
    rw [show st.2 - 1 - (k : Int) = st.2 - ((k + 1 : Nat) : Int) by omega]
def restF : Nat → List (List Nat × Nat) → List Nat
  | d, [] => closes d
  | d, (m, e) :: r => (if d < e then [40] else closes (d - e) ++ [44]) ++ m ++ restF e r
def okF : Nat → List (List Nat × Nat) → Prop
  | _, [] => True
  | d, (m, e) :: r => e ≤ d + 1 ∧ plainC m ∧ m ≠ [] ∧ okF e r
theorem rest_head : ∀ (d : Nat) (r : List (List Nat × Nat)), sub3 (restF d r) = [] ∨ ∃ t, sub3 (restF d r) = 32 :: t
  | 0, [] => .inl rfl
  | d + 1, [] => .inr ⟨_, sub3_closes d⟩
  | d, (m, e) :: r => by
    right
    unfold restF
    split
    · rw [sub3_app, sub3_app, sub3_open]; exact ⟨_, rfl⟩
    · rw [sub3_app, sub3_app, sub3_app, sub3_comma]
      cases d - e with
      | zero => exact ⟨_, rfl⟩
      | succ k => rw [sub3_closes]; exact ⟨_, rfl⟩
theorem step_mark {st : List NdW × Int} {m : List Nat} (h : plainC m) (hn : m ≠ []) : stepW st m = (st.1 ++ [(m, st.2)], st.2) := by
  unfold stepW
  rw [if_neg (fun e => (h 40 (by rw [e]; exact List.mem_cons_self)).2.1 rfl), if_neg (fun e => (h 41 (by rw [e]; exact List.mem_cons_self)).2.2.1 rfl), if_pos hn]
theorem run_mark {st : List NdW × Int} {m : List Nat} (h : plainC m) (hn : m ≠ []) (d : Nat) (r : List (List Nat × Nat)) : runW st (m ++ sub3 (restF d r)) = runW (st.1 ++ [(m, st.2)], st.2) (sub3 (restF d r)) := by
  have hf : 32 ∉ m := fun e => (h 32 e).1 rfl
  rcases rest_head d r with e | ⟨t, e⟩
  · rw [e, List.append_nil]
    unfold runW
    rw [splitC_free hf]
    show stepW st m = stepW (st.1 ++ [(m, st.2)], st.2) []
    rw [step_mark h hn]
    rfl
  · rw [e, run_cut hf, step_mark h hn, run_blank]
theorem run_rest : ∀ (r : List (List Nat × Nat)) (d : Nat) (ns : List NdW), okF d r → runW (ns, (d : Int)) (sub3 (restF d r)) = (ns ++ r.map fun n => (n.1, (n.2 : Int)), 0)
  | [], d, ns, _ => by
    have := run_closes d (ns, (d : Int)) []
    rw [List.append_nil] at this
    show runW _ (sub3 (closes d)) = _
    rw [this]
    show runW (ns, (d : Int) - (d : Int)) [] = _
    rw [show (d : Int) - (d : Int) = 0 by omega, List.map_nil, List.append_nil]
    rfl
  | (m, e) :: r, d, ns, h => by
    obtain ⟨h1, h2, h3, h4⟩ := h
    have go : runW (ns, (d : Int)) (sub3 (if d < e then [40] else closes (d - e) ++ [44]) ++ (m ++ sub3 (restF e r))) = runW (ns, (e : Int)) (m ++ sub3 (restF e r)) := by
      split
      · rw [sub3_open]
        show runW _ (32 :: 40 :: 32 :: (m ++ sub3 (restF e r))) = _
        rw [run_open]
        show runW (ns, (d : Int) + 1) _ = _
        rw [show (d : Int) + 1 = (e : Int) by omega]
      · rw [sub3_app, sub3_comma, List.append_assoc, run_closes]
        show runW (ns, (d : Int) - ((d - e : Nat) : Int)) (32 :: (m ++ sub3 (restF e r))) = _
        rw [run_blank, show (d : Int) - ((d - e : Nat) : Int) = (e : Int) by omega]
    unfold restF
    rw [sub3_app, sub3_app, sub3_plain h2, List.append_assoc, go, run_mark h2 h3, run_rest r e _ h4, List.append_assoc]
    rfl
theorem run_text {m : List Nat} {r : List (List Nat × Nat)} (h1 : plainC m) (h2 : m ≠ []) (h : okF 0 r) : (runW ([], 0) (sub3 (m ++ restF 0 r))).1 = (m, 0) :: r.map fun n => (n.1, (n.2 : Int)) := by
  rw [sub3_app, sub3_plain h1, run_mark h1 h2]
  have := run_rest r 0 [(m, 0)] h
  show (runW ([(m, 0)], ((0 : Nat) : Int)) (sub3 (restF 0 r))).1 = _
  rw [this]
  rfl
def freeC (c : Nat) (s : Str) : Prop := c ∉ s.cps.toList
theorem cut_first {c : Nat} : ∀ {a a' b b' : List Nat}, c ∉ a → c ∉ a' → a ++ c :: b = a' ++ c :: b' → a = a' ∧ b = b'
  | [], [], _, _, _, _, h => ⟨rfl, (List.cons.inj h).2⟩
  | [], x :: a', _, _, _, h2, h => absurd (show c ∈ x :: a' from (List.cons.inj h).1 ▸ List.mem_cons_self) h2
  | x :: a, [], _, _, h1, _, h => absurd (show c ∈ x :: a from (List.cons.inj h).1 ▸ List.mem_cons_self) h1
  | x :: a, y :: a', b, b', h1, h2, h => by
    have e := List.cons.inj h
    obtain ⟨i1, i2⟩ := cut_first (fun m => h1 (List.mem_cons_of_mem _ m)) (fun m => h2 (List.mem_cons_of_mem _ m)) e.2
    exact ⟨by rw [e.1, i1], i2⟩
theorem ext_l {a b : Str} (h : a.cps.toList = b.cps.toList) : a = b := Str.ext' (Array.toList_inj.mp h)
theorem app_l (a b : Str) : (a ++ b).cps.toList = a.cps.toList ++ b.cps.toList := by rw [Str.cps_append, Array.toList_append]
theorem one_l (c : Nat) (a b : Str) : (a ++ ⟨#[c]⟩ ++ b).cps.toList = a.cps.toList ++ c :: b.cps.toList := by
  rw [app_l, app_l, List.append_assoc]
  rfl
theorem join_inj {c : Nat} : ∀ {xs ys : List Str}, xs ≠ [] → ys ≠ [] → (∀ x ∈ xs, freeC c x) → (∀ y ∈ ys, freeC c y) → Str.join ⟨#[c]⟩ xs = Str.join ⟨#[c]⟩ ys → xs = ys
  | [], _, h, _, _, _, _ => absurd rfl h
  | _, [], _, h, _, _, _ => absurd rfl h
  | [x], [y], _, _, _, _, h => by rw [show x = y from h]
  | [x], y :: z :: r, _, _, hx, _, h => by
    refine absurd (show c ∈ x.cps.toList from ?_) (hx x List.mem_cons_self)
    rw [show x = y ++ ⟨#[c]⟩ ++ Str.join ⟨#[c]⟩ (z :: r) from h, one_l]
    exact List.mem_append_right _ List.mem_cons_self
  | x :: z :: r, [y], _, _, _, hy, h => by
    refine absurd (show c ∈ y.cps.toList from ?_) (hy y List.mem_cons_self)
    rw [show y = x ++ ⟨#[c]⟩ ++ Str.join ⟨#[c]⟩ (z :: r) from h.symm, one_l]
    exact List.mem_append_right _ List.mem_cons_self
  | x :: z :: r, y :: z' :: r', _, _, hx, hy, h => by
    have h' : x ++ ⟨#[c]⟩ ++ Str.join ⟨#[c]⟩ (z :: r) = y ++ ⟨#[c]⟩ ++ Str.join ⟨#[c]⟩ (z' :: r') := h
    have e := congrArg (fun s : Str => s.cps.toList) h'
    rw [one_l, one_l] at e
    obtain ⟨e1, e2⟩ := cut_first (hx x List.mem_cons_self) (hy y List.mem_cons_self) e
    rw [ext_l e1, join_inj (xs := z :: r) (ys := z' :: r') (List.cons_ne_nil _ _) (List.cons_ne_nil _ _) (fun a ha => hx a (List.mem_cons_of_mem _ ha)) (fun a ha => hy a (List.mem_cons_of_mem _ ha)) (ext_l e2)]
theorem join_cons (s w : Str) {r : List Str} (h : r ≠ []) : Str.join s (w :: r) = w ++ s ++ Str.join s r := by
  cases r with
  | nil => exact absurd rfl h
  | cons x r => rfl
theorem join_app (s : Str) : ∀ {a b : List Str}, a ≠ [] → b ≠ [] → Str.join s (a ++ b) = Str.join s a ++ s ++ Str.join s b
  | [], _, h, _ => absurd rfl h
  | [w], b, _, hb => join_cons s w hb
  | w :: x :: a, b, _, hb => by
    show w ++ s ++ Str.join s ((x :: a) ++ b) = w ++ s ++ Str.join s (x :: a) ++ s ++ Str.join s b
    rw [join_app s (List.cons_ne_nil x a) hb]
    simp only [Str.append_assoc]
def wordsL : List Str → List Str
  | [] => ["-"]
  | x :: l => x :: l
def wordsT : List (List Str) → List Str
  | [] => []
  | [l] => wordsL l
  | l :: r => wordsL l ++ ("/" : Str) :: wordsT r
theorem wordsL_ne (l : List Str) : wordsL l ≠ [] := by cases l <;> exact List.cons_ne_nil _ _
theorem wordsT_cons (l : List Str) {r : List (List Str)} (h : r ≠ []) : wordsT (l :: r) = wordsL l ++ ("/" : Str) :: wordsT r := by
  cases r with
  | nil => exact absurd rfl h
  | cons x r => rfl
theorem wordsT_ne : ∀ {ls : List (List Str)}, ls ≠ [] → wordsT ls ≠ []
  | [], h => absurd rfl h
  | [l], _ => wordsL_ne l
  | l :: x :: r, _ => by rw [wordsT_cons l (List.cons_ne_nil _ _)]; exact List.append_ne_nil_of_right_ne_nil _ (List.cons_ne_nil _ _)
def showL (l : List Str) : Str := Str.join " " (wordsL l)
theorem showT_join : ∀ {ls : List (List Str)}, ls ≠ [] → Str.join " / " (ls.map showL) = Str.join " " (wordsT ls)
  | [], h => absurd rfl h
  | [l], _ => rfl
  | l :: x :: r, _ => by
    show showL l ++ " / " ++ Str.join " / " ((x :: r).map showL) = _
    rw [showT_join (List.cons_ne_nil x r), wordsT_cons l (List.cons_ne_nil x r), join_app " " (wordsL_ne l) (List.cons_ne_nil _ _), join_cons " " "/" (wordsT_ne (List.cons_ne_nil x r))]
    show showL l ++ " / " ++ _ = showL l ++ " " ++ ("/" ++ " " ++ _)
    rw [← Str.append_assoc, ← Str.append_assoc]
    rw [show (" / " : Str) = (" " : Str) ++ "/" ++ " " by decide +kernel]
    simp only [Str.append_assoc]
def putW : List (List Str) → List Str → List (List Str)
  | ls, [] => ls
  | ls, w :: ws => putW (if w = "/" then ls ++ [[]] else if w = "-" then ls else ls.dropLast ++ [ls.getLastD [] ++ [w]]) ws
theorem putW_app : ∀ (a b : List Str) (ls : List (List Str)), putW ls (a ++ b) = putW (putW ls a) b
  | [], _, _ => rfl
  | w :: a, b, ls => putW_app a b _
theorem putW_line : ∀ (l : List Str) (ls : List (List Str)) (m : List Str), (∀ w ∈ l, w ≠ "/" ∧ w ≠ "-") → putW (ls ++ [m]) l = ls ++ [m ++ l]
  | [], ls, m, _ => by rw [List.append_nil]; rfl
  | w :: l, ls, m, h => by
    have hw := h w List.mem_cons_self
    unfold putW
    rw [if_neg hw.1, if_neg hw.2, List.dropLast_concat, show (ls ++ [m]).getLastD [] = m by simp, putW_line l ls (m ++ [w]) fun x hx => h x (List.mem_cons_of_mem _ hx), List.append_assoc]
    rfl
theorem putW_words (l : List Str) (ls : List (List Str)) (h : ∀ w ∈ l, w ≠ "/" ∧ w ≠ "-") : putW (ls ++ [[]]) (wordsL l) = ls ++ [l] := by
  cases l with
  | nil =>
    show putW (ls ++ [[]]) ["-"] = _
    unfold putW
    rw [if_neg (by decide +kernel), if_pos rfl]
    rfl
  | cons x l => exact putW_line (x :: l) ls [] h
theorem putW_all : ∀ {ls : List (List Str)} (ks : List (List Str)), ls ≠ [] → (∀ l ∈ ls, ∀ w ∈ l, w ≠ "/" ∧ w ≠ "-") → putW (ks ++ [[]]) (wordsT ls) = ks ++ ls
  | [], _, h, _ => absurd rfl h
  | [l], ks, _, hw => putW_words l ks (hw l List.mem_cons_self)
  | l :: x :: r, ks, _, hw => by
    rw [wordsT_cons l (List.cons_ne_nil x r), putW_app, putW_words l ks (hw l List.mem_cons_self)]
    unfold putW
    rw [if_pos rfl, putW_all (ls := x :: r) (ks ++ [l]) (List.cons_ne_nil x r) fun y hy => hw y (List.mem_cons_of_mem _ hy), List.append_assoc]
    rfl
theorem blank_eq : (" " : Str) = ⟨#[32]⟩ := by decide +kernel
theorem split_ne (x y : Str) : Txt.split x y ≠ [] := fun e => by
  have := split_pos x y
  rw [e] at this
  exact absurd this (by decide)
theorem split_join {ws : List Str} (h : ws ≠ []) (hf : ∀ w ∈ ws, freeC 32 w) : Txt.split (Str.join " " ws) " " = ws := by
  rw [blank_eq]
  exact join_inj (split_ne _ _) h (StrLaws.split_free _ 32) hf (StrLaws.join_split _ _)
theorem part_yes {a b : Str} (h : freeC 32 a) : Txt.partition (a ++ " " ++ b) " " = (a, (" " : Str), b) := by
  rw [blank_eq]
  have hs := StrLaws.partition_sum (a ++ ⟨#[32]⟩ ++ b) ⟨#[32]⟩
  have hh := partition_head (a ++ ⟨#[32]⟩ ++ b) ⟨#[32]⟩
  have hl := one_l 32 a b
  have hfound := StrLaws.found_one (a ++ ⟨#[32]⟩ ++ b) 32
  generalize a ++ ⟨#[32]⟩ ++ b = x at *
  rw [show decide (32 ∈ x.cps.toList) = true from decide_eq_true (by rw [hl]; exact List.mem_append_right _ List.mem_cons_self)] at hfound
  unfold Txt.partition at *
  cases ho : Builtin.Str.occurrences x ⟨#[32]⟩ 0 x.length 1 with
  | nil => rw [ho] at hfound; exact absurd hfound (by decide)
  | cons i r =>
    rw [ho] at hs hh
    dsimp only at hs hh ⊢
    have e := congrArg (fun s : Str => s.cps.toList) hs
    rw [one_l] at e
    have e' := e.trans hl
    have f1 : 32 ∉ (Builtin.Str.strSub x 0 i).cps.toList := by
      rcases hh with ⟨h1, h2⟩ | ⟨j, h1, h2, h3⟩
      · rw [h1]
        intro hm
        obtain ⟨k, hk⟩ := List.getElem?_of_mem hm
        exact h2 k ((StrLaws.subAt_one x 32 k).mpr hk)
      · rw [h1]
        exact StrLaws.part_free x 32 0 j (by have := h2.1; omega) fun k _ hk => h3 k hk
    obtain ⟨e1, e2⟩ := cut_first f1 h e'
    rw [ext_l e1, ext_l e2]
theorem part_no {a : Str} (h : freeC 32 a) : Txt.partition a " " = (a, Str.empty, Str.empty) := by
  rw [blank_eq]
  have hfound := StrLaws.found_one a 32
  rw [show decide (32 ∈ a.cps.toList) = false from decide_eq_false h] at hfound
  unfold Txt.partition
  cases ho : Builtin.Str.occurrences a ⟨#[32]⟩ 0 a.length 1 with
  | nil => rfl
  | cons i r => rw [ho] at hfound; exact nomatch (show true = false from hfound)
theorem join_l {c : Nat} : ∀ {ws : List Str} {x : Str}, (∀ w ∈ ws, freeC c w) → ws ≠ [] → x = Str.join ⟨#[c]⟩ ws → ∀ z : Str, (Str.join z ws).cps.toList = x.cps.toList.flatMap (fun d => if d = c then z.cps.toList else [d])
  | [], _, _, h, _, _ => absurd rfl h
  | [w], x, hf, _, e, z => by
    rw [show x = w from e]
    show w.cps.toList = _
    exact (repC_free (hf w List.mem_cons_self)).symm
  | w :: v :: r, x, hf, _, e, z => by
    rw [show x = w ++ ⟨#[c]⟩ ++ Str.join ⟨#[c]⟩ (v :: r) from e, one_l]
    show (w ++ z ++ Str.join z (v :: r)).cps.toList = _
    rw [app_l, app_l, join_l (x := Str.join ⟨#[c]⟩ (v :: r)) (fun y hy => hf y (List.mem_cons_of_mem _ hy)) (List.cons_ne_nil _ _) rfl z, List.flatMap_append, List.flatMap_cons, if_pos rfl, List.append_assoc]
    have := repC_free (z := z.cps.toList) (hf w List.mem_cons_self)
    rw [show w.cps.toList.flatMap (fun d => if d = c then z.cps.toList else [d]) = w.cps.toList from this]
theorem replace_l (x z : Str) (c : Nat) : (Txt.replace x ⟨#[c]⟩ z).cps.toList = repC c z.cps.toList x.cps.toList := by
  rw [StrLaws.replace_one]
  exact join_l (StrLaws.split_free x c) (split_ne _ _) (StrLaws.join_split x _).symm z
theorem split_l {c : Nat} : ∀ {ws : List Str} {x : Str}, (∀ w ∈ ws, freeC c w) → ws ≠ [] → x = Str.join ⟨#[c]⟩ ws → splitC c x.cps.toList = ws.map fun w => w.cps.toList
  | [], _, _, h, _ => absurd rfl h
  | [w], x, hf, _, e => by rw [show x = w from e]; exact splitC_free (hf w List.mem_cons_self)
  | w :: v :: r, x, hf, _, e => by
    rw [show x = w ++ ⟨#[c]⟩ ++ Str.join ⟨#[c]⟩ (v :: r) from e, one_l, splitC_cut _ (hf w List.mem_cons_self), split_l (fun y hy => hf y (List.mem_cons_of_mem _ hy)) (List.cons_ne_nil v r) rfl]
    rfl
theorem splitC_split (x : Str) (c : Nat) : splitC c x.cps.toList = (Txt.split x ⟨#[c]⟩).map fun w => w.cps.toList := split_l (StrLaws.split_free x c) (split_ne _ _) (StrLaws.join_split x _).symm
def sV : V → Str
  | .str z => z
  | _ => Str.empty
theorem sV_map {xs : List V} (h : xs.all markV = true) : (xs.map sV).map V.str = xs := by
  rw [List.map_map]
  conv => rhs; rw [← List.map_id xs]
  refine List.map_congr_left fun v hv => ?_
  have := List.all_eq_true.mp h v hv
  cases v with
  | str z => rfl
  | _ => exact nomatch (show false = true from this)
theorem sV_marks {xs : List V} (h : xs.all markV = true) : ∀ z ∈ xs.map sV, markS z = true := fun z hz => by
  obtain ⟨v, hv, rfl⟩ := List.mem_map.mp hz
  have := List.all_eq_true.mp h v hv
  cases v with
  | str z => exact this
  | _ => exact nomatch (show false = true from this)
theorem letC_not {c : Nat} (h : letC c = true) : c ≠ 32 ∧ c ≠ 40 ∧ c ≠ 41 ∧ c ≠ 44 ∧ c ≠ 45 ∧ c ≠ 47 := by
  refine ⟨?_, ?_, ?_, ?_, ?_, ?_⟩ <;> (rintro rfl; revert h; decide +kernel)
theorem mark_free {z : Str} (h : markS z = true) : freeC 32 z := fun m => (letC_not ((mark_all h).2.2 _ m)).1 rfl
theorem mark_plain {z : Str} (h : markS z = true) : plainC z.cps.toList := fun d m => have q := letC_not ((mark_all h).2.2 _ m); ⟨q.1, q.2.1, q.2.2.1, q.2.2.2.1⟩
theorem mark_no {z : Str} (h : markS z = true) : z ≠ "/" ∧ z ≠ "-" := by
  have q := (mark_all h).2.2
  refine ⟨fun e => ?_, fun e => ?_⟩
  · exact (letC_not (q 47 (by rw [e]; decide +kernel))).2.2.2.2.2 rfl
  · exact (letC_not (q 45 (by rw [e]; decide +kernel))).2.2.2.2.1 rfl
def wordS (w : Str) : Prop := markS w = true ∨ w = "/" ∨ w = "-"
theorem word_len {w : Str} (h : wordS w) : 1 ≤ w.length ∧ w.length ≤ 8 := by
  rcases h with h | rfl | rfl
  · exact ⟨(mark_all h).1, (mark_all h).2.1⟩
  · decide +kernel
  · decide +kernel
theorem word_free {w : Str} (h : wordS w) : freeC 32 w := by
  rcases h with h | rfl | rfl
  · exact mark_free h
  · unfold freeC; decide +kernel
  · unfold freeC; decide +kernel
theorem sum_len : ∀ {ws : List Str}, (∀ w ∈ ws, wordS w) → (ws.map (·.length)).sum ≤ 8 * ws.length
  | [], _ => Nat.le_refl _
  | w :: ws, h => by
    have := (word_len (h w List.mem_cons_self)).2
    have := sum_len fun v hv => h v (List.mem_cons_of_mem w hv)
    simp only [List.map_cons, List.sum_cons, List.length_cons]
    omega
theorem join_len {ws : List Str} (h : ∀ w ∈ ws, wordS w) : (Str.join " " ws).length ≤ 9 * ws.length := by
  have h1 := StrLaws.join_length_le " " ws
  have h2 := sum_len h
  rw [show (" " : Str).length = 1 by decide +kernel] at h1
  omega
theorem join_ne {ws : List Str} (h : ∀ w ∈ ws, wordS w) (hn : ws ≠ []) : 1 ≤ (Str.join " " ws).length := by
  cases ws with
  | nil => exact absurd rfl hn
  | cons w r =>
    have := (word_len (h w List.mem_cons_self)).1
    cases r with
    | nil => exact this
    | cons v r =>
      show 1 ≤ (w ++ " " ++ Str.join " " (v :: r)).length
      rw [Str.length_append, Str.length_append]
      omega
theorem words_line {l : List Str} (h : ∀ z ∈ l, markS z = true) : ∀ w ∈ wordsL l, wordS w := by
  cases l with
  | nil => intro w hw; rw [List.mem_singleton.mp hw]; exact .inr (.inr rfl)
  | cons x l => exact fun w hw => .inl (h w hw)
theorem words_lines : ∀ {ls : List (List Str)}, (∀ l ∈ ls, ∀ z ∈ l, markS z = true) → ∀ w ∈ wordsT ls, wordS w
  | [], _, w, hw => nomatch hw
  | [l], h, w, hw => words_line (h l List.mem_cons_self) w hw
  | l :: x :: r, h, w, hw => by
    rw [wordsT_cons l (List.cons_ne_nil x r)] at hw
    rcases List.mem_append.mp hw with hw | hw
    · exact words_line (h l List.mem_cons_self) w hw
    · rcases List.mem_cons.mp hw with rfl | hw
      · exact .inr (.inl rfl)
      · exact words_lines (ls := x :: r) (fun y hy => h y (List.mem_cons_of_mem _ hy)) w hw
theorem words_many {n : Nat} : ∀ {ls : List (List Str)}, (∀ l ∈ ls, l.length ≤ n) → (wordsT ls).length ≤ (n + 2) * ls.length
  | [], _ => Nat.zero_le _
  | [l], h => by
    have := h l List.mem_cons_self
    show (wordsL l).length ≤ (n + 2) * 1
    cases l with
    | nil => show 1 ≤ _; omega
    | cons x l => show (x :: l).length ≤ _; omega
  | l :: x :: r, h => by
    have h1 := h l List.mem_cons_self
    have ih := words_many (ls := x :: r) fun y hy => h y (List.mem_cons_of_mem _ hy)
    rw [wordsT_cons l (List.cons_ne_nil x r), List.length_append, List.length_cons]
    have h2 : (wordsL l).length ≤ n + 1 := by
      cases l with
      | nil => show 1 ≤ _; omega
      | cons x l => show (x :: l).length ≤ _; omega
    rw [show (l :: x :: r).length = (x :: r).length + 1 from rfl, Nat.mul_add]
    omega
theorem join_split' {ws : List Str} (h : ∀ w ∈ ws, wordS w) (hn : ws ≠ []) : Txt.split (Str.join " " ws) " " = ws := split_join hn fun w hw => word_free (h w hw)
end SH
namespace L2
open PySem PySem.Spec PyProof.Rows
def PE1 (X : Cx) (e : Expr) (t : TE) : Prop :=
  ∀ (pins : List (Addr × Obj)) (s : Shared) (σ : St) (H : Hp) (Q : VK), Inv X pins σ H s → 0 < s.toks → t σ H Q → wpAny (model X.prog X.w) X.A (eval e X.env) (fun u s' => 0 < s'.toks ∧ EP X pins σ Q u s') X.xe s
def PEp (X : Cx) (e : Expr) (t : TE) : Prop :=
  ∀ (pins : List (Addr × Obj)) (s : Shared) (σ : St) (H : Hp) (Q : VK), Inv X pins σ H s → 0 < s.toks → t σ H Q → wpAny (model X.prog X.w) X.A (eval e X.env) (EP X pins σ Q) X.xe s
def PI1 (X : Cx) (tg iter : Expr) (wi : TI) : Prop :=
  ∀ (pins : List (Addr × Obj)) (s : Shared) (σ : St) (H : Hp) (R : It → Hp → Prop), Inv X pins σ H s → 0 < s.toks → wi σ H R →
    wpAny (model X.prog X.w) X.A (eval iter X.env) (fun v s1 => wpAny (model X.prog X.w) X.A (pyIter v) (PIE X pins σ tg R) X.xe s1) X.xe s
def PS1 (X : Cx) (st : Stmt) (t : TS) : Prop :=
  ∀ (pins : List (Addr × Obj)) (s : Shared) (σ : St) (H : Hp) (D : Ends), Inv X pins σ H s → 0 < s.toks → t D σ H → wpAny (model X.prog X.w) X.A (exec st X.env) (SP X pins D) X.xe s
def PSs1 (X : Cx) (st : List Stmt) (t : TS) : Prop :=
  ∀ (pins : List (Addr × Obj)) (s : Shared) (σ : St) (H : Hp) (D : Ends), Inv X pins σ H s → 0 < s.toks → t D σ H → wpAny (model X.prog X.w) X.A (execs st X.env) (SP X pins D) X.xe s
section
variable {X : Cx} {pins : List (Addr × Obj)} {σ : St} {H : Hp} {s : Shared}
theorem store_ok3 {M : Model} {A : Around} {E : Value → Shared → Prop} {i : Nat} {x : Str} {v : V} {u : Value} {Q : Unit → Shared → Prop} (I : Inv X pins σ H s) (hN : X.N.Nodup) (hi : X.N[i]? = some x) (hx : Loc X.env.scope x) (r : RelV v u)
    (h : ∀ h' k, s.toks ≤ k → Inv X pins (σ.set i (some v)) H { s with heap := h', toks := k } → Q () { s with heap := h', toks := k }) (hf : X.fn x = true ∨ X.env.scope.names.lookup x = some .local := by first | exact .inl rfl | exact .inr rfl | assumption) : wpAny M A (storeName X.env x u) Q E s := by
  obtain ⟨m, hn, hl⟩ := id I.loc
  have hcls : (X.env.scope.kind == .class || (X.env.scope.kind == .module && X.env.locals != X.env.globals)) = false := by rw [I.ok.kind]; rfl
  have hiσ : i < σ.length := by rw [I.len]; exact (List.getElem?_eq_some_iff.mp hi).1
  have cne := I.cne
  have tracked : ∀ {a : Addr} {h' : Heap}, (∃ o, s.heap.get? a = some o ∧ H a = none) → Heap.SameBut a s.heap h' → HOk X.prog X.w H h' := fun {a h'} ha hs b ob e => by
    obtain ⟨_, _, hfree⟩ := ha
    refine (I.hok b ob e).stay (fun c w' hc q => (hs.2 c ?_).trans q) (fun _ q => q) fun _ _ q => q
    rintro rfl
    rcases hc with rfl | hc
    · rw [hfree] at e; cases e
    · rw [hfree] at hc; cases hc
  rcases hx with hk | hk
  · refine wpAny_storeName_local hk hn (fun h' hn' hs => ?_) hcls
    obtain ⟨oL, _, _, hoL, _⟩ := id hn
    refine h h' (s.toks + 1) (Nat.le_succ _) ⟨I.ok, I.os, I.bare, ⟨fun b o e n hb hx => ?_, fun b o e n hb hx => ?_, I.base.free, fun b o e hx => ?_, I.base.tups, I.base.frzs, I.base.tbls⟩, ⟨_, hn', fun j y v' e1 e2 e3 => ?_⟩, fun y c e => ?_, I.free, I.freeC, fun p hp => ?_, tracked ⟨oL, hoL, I.free⟩ hs, by simpa using I.len⟩
    · exact (hs.2 b (Nat.ne_of_lt (Nat.lt_of_lt_of_le (Heap.lt_size e) I.ok.above))).trans (I.base.keep b o e n hb hx)
    · obtain ⟨sl, e1⟩ := I.base.slot b o e n hb hx
      exact ⟨sl, (hs.2 b (Nat.ne_of_lt (Nat.lt_of_lt_of_le (Heap.lt_size e) I.ok.above))).trans e1⟩
    · obtain ⟨o', e1⟩ := I.base.there b o e hx
      exact ⟨o', (hs.2 b (Nat.ne_of_lt (Nat.lt_of_lt_of_le (Heap.lt_size e) I.ok.above))).trans e1⟩
    · by_cases hj : j = i
      · subst hj
        rw [hi] at e1; cases e1
        rw [List.getElem?_set_self hiσ] at e2
        cases e2
        exact ⟨u, r, .inl ⟨hk, by simp⟩⟩
      · rw [List.getElem?_set_ne (Ne.symm hj)] at e2
        obtain ⟨u', r', q⟩ := hl j y v' e1 e2 e3
        refine ⟨u', r', ?_⟩
        rcases q with ⟨k, e⟩ | ⟨k, c, e, z⟩
        · refine .inl ⟨k, ?_⟩
          have : y ≠ x := fun e => hj (nodup_ix hN e1 (e ▸ hi))
          simp [this, e]
        · exact .inr ⟨k, c, e, z.sameBut hs (cne y c e)⟩
    · obtain ⟨w', z⟩ := I.cell y c e
      exact ⟨w', z.sameBut hs (cne y c e)⟩
    · obtain ⟨e, n, ne, nf, d⟩ := I.pin p hp
      exact ⟨(hs.2 p.1 ne).trans e, n, ne, nf, d⟩
  · have hfn : X.fn x = true := by
      rcases hf with z | z
      · exact z
      · rw [z] at hk; cases hk
    obtain ⟨c, hc⟩ := I.ok.has x (.inl hk)
    obtain ⟨w', z⟩ := I.cell x c hc
    refine wpAny_storeName_cell I.ok.kind hk hc z (fun h' hc' hs => ?_)
    obtain ⟨oc, hoc, hocd⟩ := id z
    refine h h' s.toks (Nat.le_refl _) ⟨I.ok, I.os, I.bare, ⟨fun b o e n hb hx => ?_, fun b o e n hb hx => ?_, I.base.free, fun b o e hx => ?_, I.base.tups, I.base.frzs, I.base.tbls⟩, ⟨m, hn.sameBut hs (Ne.symm (cne x c hc)), fun j y v' e1 e2 e3 => ?_⟩, fun y c' e => ?_, I.free, I.freeC, fun p hp => ?_, tracked ⟨oc, hoc, I.freeC x c hc⟩ hs, by simpa using I.len⟩
    · exact (hs.2 b (Nat.ne_of_lt (Nat.lt_of_lt_of_le (Heap.lt_size e) (I.ok.cab x c hfn hc)))).trans (I.base.keep b o e n hb hx)
    · obtain ⟨sl, e1⟩ := I.base.slot b o e n hb hx
      exact ⟨sl, (hs.2 b (Nat.ne_of_lt (Nat.lt_of_lt_of_le (Heap.lt_size e) (I.ok.cab x c hfn hc)))).trans e1⟩
    · obtain ⟨o', e1⟩ := I.base.there b o e hx
      exact ⟨o', (hs.2 b (Nat.ne_of_lt (Nat.lt_of_lt_of_le (Heap.lt_size e) (I.ok.cab x c hfn hc)))).trans e1⟩
    · by_cases hj : j = i
      · subst hj
        rw [hi] at e1; cases e1
        rw [List.getElem?_set_self hiσ] at e2
        cases e2
        exact ⟨u, r, .inr ⟨.inl hk, c, hc, hc'⟩⟩
      · rw [List.getElem?_set_ne (Ne.symm hj)] at e2
        obtain ⟨u', r', q⟩ := hl j y v' e1 e2 e3
        refine ⟨u', r', ?_⟩
        rcases q with q | ⟨k, c', e, z'⟩
        · exact .inl q
        · refine .inr ⟨k, c', e, z'.sameBut hs ?_⟩
          rintro rfl
          exact hj (nodup_ix hN e1 (I.ok.inj _ _ _ e hc ▸ hi))
    · by_cases hcc : c' = c
      · subst hcc; exact ⟨_, hc'⟩
      · obtain ⟨w2, z2⟩ := I.cell y c' e
        exact ⟨w2, z2.sameBut hs hcc⟩
    · obtain ⟨e, n, ne, nf, d⟩ := I.pin p hp
      refine ⟨(hs.2 p.1 ?_).trans e, n, ne, nf, d⟩
      intro q
      rw [q, hoc] at e
      have q' : oc = p.2 := Option.some.inj e
      exact d w' (by rw [← q']; exact hocd)
end
section
variable {X : Cx} {tg : Expr}
theorem ps_for1 {iter : Expr} {body : List Stmt} {wi : TI} {g : TG} {tb : TS} {pos : Pos} (hp : PassesOwn (model X.prog X.w) X.A X.env X.xe) (hc : X.calm = true) (hi : PI1 X tg iter wi) (hg : PG X tg g) (hb : PSs X body tb)
    (hs : ∀ x, foldedSetIterable iter X.env x = pure x := by intro _; rfl) : PS1 X (.For tg iter body [] pos) (tFor wi g tb) := by
  intro pins s σ H D I ht h
  refine wpAny_For (thn (hi pins s σ H _ I ht h) fun v s1 h1 => thn h1 fun itv s2 h2 => ?_) hs
  obtain ⟨it, fp, tn, J, H2, e, I2, T, st2, f2, W, ⟨m0, w0⟩, turn⟩ := h2
  subst e
  have stat : ∀ {H' : Hp}, (∀ b ∈ fp, H' b = none) → ∀ b ∈ fp, FpOk X pins H' b := fun hn b hb => ⟨hn b hb, (f2 b hb).2⟩
  refine codeAny_forLoop_any (fun n s' => ∃ i σ' H', Inv X pins σ' H' s' ∧ tn i s'.heap ∧ (∀ b ∈ fp, H' b = none) ∧ W i n σ' H') ?_ m0 ⟨0, σ, H2, I2, st2, fun b hb => (f2 b hb).1, w0⟩
  rintro n s3 ⟨i, σ3, H3, I3, st3, fr3, w3⟩
  rcases turn i n σ3 H3 w3 with ⟨stop, qn⟩ | ⟨go, N, hN, step⟩
  · refine wpAny_passesOwn hp (thn (T.done X rfl rfl rfl hc i pins s3 σ3 H3 X.xe I3 (stat fr3) st3 stop) fun r s4 ⟨hr, I4⟩ => ?_)
    subst hr
    exact wpAny_execs_nil ⟨σ3, H3, I4, qn⟩
  · refine wpAny_passesOwn hp (thn (T.item X rfl rfl rfl hc i pins s3 σ3 H3 X.xe I3 (stat fr3) st3 go) fun r s4 ⟨u, hr, h4⟩ => ?_)
    subst hr
    refine wpAny_passesOwn hp (thn h4 fun _ s5 ⟨x, H5, I5, r5, y5, st5, fr5⟩ => ?_)
    have I5' := I5.pinned (stat fr5) (T.obj _ _ st5)
    refine wpAny_passesOwn hp (thn (hg _ s5 σ3 H5 x u _ I5' r5 (step x H5 y5)) fun _ s6 ⟨σ6, H6, I6, q6⟩ => ?_)
    refine wpAny_passesOwn hp (thn (hb _ s6 σ6 H6 _ I6 q6) fun f s7 q7 => ?_)
    have again : ∀ {σ7 : St} {H7 : Hp}, Inv X (pins ++ pinsAt fp s5.heap) σ7 H7 s7 → N σ7 H7 → ∃ m, m < n ∧ ∃ i σ' H', Inv X pins σ' H' s7 ∧ tn i s7.heap ∧ (∀ b ∈ fp, H' b = none) ∧ W i m σ' H' := fun {σ7 H7} I7 n7 => by
      obtain ⟨m', hm, w7⟩ := hN σ7 H7 n7
      refine ⟨m', hm, i + 1, σ7, H7, I7.unpinned, T.keep _ _ _ st5 fun b hb o e => (I7.pin (b, o) (List.mem_append_right _ (List.mem_append_right _ (mem_pinsAt hb e)))).1, fun b hb => ?_, w7⟩
      obtain ⟨o, e, d⟩ := T.obj _ _ st5 b hb
      exact (I7.pin (b, o) (List.mem_append_right _ (List.mem_append_right _ (mem_pinsAt hb e)))).2.1
    cases f with
    | next => obtain ⟨σ7, H7, I7, n7⟩ := q7; exact again I7 n7
    | cont => obtain ⟨σ7, H7, I7, n7⟩ := q7; exact again I7 n7
    | brk => obtain ⟨σ7, H7, I7, q7⟩ := q7; exact ⟨σ7, H7, I7.unpinned, q7⟩
    | ret v => obtain ⟨x7, σ7, H7, I7, r7, q7⟩ := q7; exact ⟨x7, σ7, H7, I7.unpinned, r7, q7⟩
theorem pi_list1 {l : Expr} {tl : TE} (hl : PEp X l tl) : PI1 X tg l (iList X.K tl) := by
  intro pins s σ H R I ht h
  refine thn (hl pins s σ H _ I ht h) fun v s1 ⟨x, H1, I1, r1, q1⟩ => ?_
  obtain ⟨a, e, ⟨xs, hq⟩, q⟩ := q1
  subst e
  cases r1
  obtain ⟨its, rv, p, hz⟩ := I1.list hq
  refine wpAny_pyIter_list p.isList ?_
  refine ⟨s1.heap.objs.size, [s1.heap.objs.size], _, _, H1, rfl, I1.kept (t' := s1.toks) fun b o e => Heap.get?_push_of_some _ e, turn_list a _, ⟨_, Heap.get?_push_size _ rfl, rfl, rfl⟩, fun b hb => ?_, q⟩
  have e : b = s1.heap.objs.size := by simpa using hb
  subst e
  exact I1.fpOk (Nat.le_refl _) (I1.hok.fresh (Nat.le_refl _))
end
section
variable {X : Cx}
theorem pe1_var {i : Nat} {x : Str} {pos : Pos} (hN : X.N[i]? = some x) (hv : Vis X.env.scope x) (hd : (x == ("__debug__" : Str)) = false := by decide) (hcd : (x == ("__classdict__" : Str)) = false := by decide) : PE1 X (.Name x pos) (tVar i) := by
  intro pins s σ H Q I ht h
  obtain ⟨v, e, h⟩ := h
  obtain ⟨m, hn, hl⟩ := I.loc
  obtain ⟨u, r, l⟩ := hl i x v hN e hv
  have fin : 0 < s.toks ∧ EP X pins σ Q u s := ⟨ht, v, H, I, r, h⟩
  rcases l with ⟨hk, hm⟩ | ⟨hk, c, hc, hcell⟩
  · exact wpAny_Name (wpAny_loadName_local I.ok.kind hk hn hm fin) hd
  · rcases hk with hk | hk
    · exact wpAny_Name (wpAny_loadName_cell I.ok.kind hk hc hcell fin) hd
    · exact wpAny_Name (wpAny_loadName_free I.ok.kind hk hc hcell fin hcd) hd
theorem replace1 {prog : Program} {w : World} {A : Around} {E : Value → Shared → Prop} {s : Shared} {x y z : Str} {t u v : Tok} {Q : Value → Shared → Prop} (hu : u ≠ 0) (hv : v ≠ 0) (huv : u ≠ v) (hyz : (y == z) = false) (hb : x.length + (x.length + 1) * z.length ≤ 16777216)
    (hq : ∀ t' k, s.toks ≤ k → Q (.str (Txt.replace x y z) t') { s with toks := k }) : wpAny (model prog w) A (call (.builtin "str.replace") [.str x t, .str y u, .str z v]) Q E s := by
  have few := Nat.mul_le_mul_right z.length (StrLaws.occ_length_le x y 0 x.length (x.length + 1))
  have fit : Builtin.Str.tooLong (x.length + (Builtin.Str.occurrences x y 0 x.length (x.length + 1)).length * z.length) = false :=
    decide_eq_false (show ¬ _ > 2 ^ 24 by omega)
  refine call_gives F.slot_str_replace (typeIs_str _ _ _) F.entry_str_replace (F.args_str_replace_3 _ _ _) (gives_str_replace x y z t u v fun _ => ⟨by simp [hu, hv], by simp [huv], hyz, fit⟩) ?_
  unfold Txt.replace at hq
  cases hc : ((Builtin.Str.occurrences x y 0 x.length (x.length + 1)).isEmpty || (y.length == 0 && z.length == 0)) with
  | true => rw [hc, if_pos rfl] at hq; rw [if_pos rfl]; exact hq t s.toks (Nat.le_refl _)
  | false => rw [hc, if_neg Bool.false_ne_true] at hq; rw [if_neg Bool.false_ne_true]; exact ⟨fits_replaced y hb, hq _ _ (Nat.le_succ _)⟩
def tRepl (y z : Str) (to : TE) : TE := fun σ H Q => to σ H fun x H1 => ∃ w, x = .str w ∧ w.length + (w.length + 1) * z.length ≤ 16777216 ∧ Q (.str (Txt.replace w y z)) H1
theorem pe1_repl {o : Expr} {to : TE} {y z : Str} {jy jz : Nat} {py pz apos cpos : Pos} (ho : PE1 X o to) (hyz : (y == z) = false := by decide +kernel)
    (hbase : attributeBase o "replace" X.env (eval o X.env) = eval o X.env := by rfl) (hline : (apos.endLine == cpos.line) = true := by rfl) :
    PE1 X (.Call (.Attribute o "replace" apos) [.Constant (.str y) jy py, .Constant (.str z) jz pz] [] cpos) (tRepl y z to) := by
  intro pins s σ H Q I ht h
  refine wpAny_Call_method_late hbase rfl hline rfl (thn (ho pins s σ H _ I ht h) fun v s1 ⟨t1, x, H1, I1, r1, w, ex, hw, q1⟩ => ?_)
  subst ex
  obtain ⟨tk, rfl⟩ := r1
  refine ⟨"str", "str.replace", PySem.F.plainAttrs_str, PySem.F.slot_str_replace, PySem.F.type_str_replace, typeIs_str _ _ _, (fun _ e => nomatch e), ?_⟩
  show wpAny _ _ (callWith cpos (Value.builtin "str.replace") _ [(false, eval (.Constant (.str y) jy py) X.env), (false, eval (.Constant (.str z) jz pz) X.env)] []) _ _ _
  refine Calls.callWith_builtin rfl (Calls.evalArgs_plain (Calls.spliced_cons (Calls.Constant_str (Calls.spliced_cons (Calls.Constant_str (Calls.spliced_nil ?_))))))
  refine replace1 (s := { s1 with toks := s1.toks + 1 + 1 }) (Nat.ne_of_gt t1) (Nat.succ_ne_zero _) (Nat.ne_of_lt (Nat.lt_succ_self _)) hyz hw fun t' k hk => ?_
  have hk' : s1.toks + 1 + 1 ≤ k := hk
  exact ⟨(show 0 < k by omega), .str _, H1, I1.tok k, ⟨_, rfl⟩, q1⟩
theorem pep_split {o : Expr} {to : TE} {y : Str} {jy : Nat} {py apos cpos : Pos} (ho : PE1 X o to)
    (hbase : attributeBase o "split" X.env (eval o X.env) = eval o X.env := by rfl) (hline : (apos.endLine == cpos.line) = true := by rfl) :
    PEp X (.Call (.Attribute o "split" apos) [.Constant (.str y) jy py] [] cpos) (tBM X.K "str" rSplit to (tCons (tC (.str y)) tNil)) := by
  intro pins s σ H Q I ht h
  refine wpAny_Call_method_late hbase rfl hline rfl (thn (ho pins s σ H _ I ht h) fun v s1 ⟨t1, x, H1, I1, r1, ty, q1⟩ => ?_)
  obtain ⟨h1, h2⟩ := tyV_is I1 r1 ty
  refine ⟨"str", "str.split", PySem.F.plainAttrs_str, PySem.F.slot_str_split, PySem.F.type_str_split, h1, h2, ?_⟩
  show wpAny _ _ (callWith cpos (Value.builtin "str.split") _ [(false, eval (.Constant (.str y) jy py) X.env)] []) _ _ _
  refine Calls.callWith_builtin rfl (Calls.evalArgs_plain (Calls.spliced_cons (Calls.Constant_str (Calls.spliced_nil ?_))))
  exact mt_split pins _ σ H1 x [.str y] v _ Q (I1.tok _) r1 (.cons ⟨_, rfl⟩ .nil) q1
theorem pss1_cons {st : Stmt} {rest : List Stmt} {t u : TS} (h1 : PS1 X st t) (h2 : PSs X rest u) : PSs1 X (st :: rest) (tSeq t u) := by
  intro pins s σ H D I ht h
  refine wpAny_execs_cons (thn (h1 pins s σ H { D with nx := u D } I ht h) fun f s1 q => ?_)
  cases f with
  | next =>
    obtain ⟨σ', H', I', q⟩ := q
    exact h2 pins s1 σ' H' D I' q
  | ret v => exact q
  | brk => exact q
  | cont => exact q
theorem pss_set1 {i : Nat} {x : Str} {k : Int} {j : Nat} {pos pos' pk : Pos} {rest : List Stmt} {u : TS} (hN : X.N.Nodup) (hi : X.N[i]? = some x) (hx : Loc X.env.scope x) (h2 : PSs1 X rest u) (hs : swapsWith (.Constant (.int k) j pk) (some (.Name x pos')) pos.line X.env = pure false := by rfl)
    (hf : X.fn x = true ∨ X.env.scope.names.lookup x = some .local := by first | exact .inl rfl | exact .inr rfl | assumption) : PSs X (.Assign [.Name x pos'] (.Constant (.int k) j pk) pos :: rest) (tSeq (tAsg (tC (.int k)) (gName i)) u) := by
  intro pins s σ H D I h
  refine wpAny_execs_cons (wpAny_Assign_Name (wpAny_Constant_int ?_) hs)
  exact store_ok3 (s := { s with toks := s.toks + 1 }) (v := .int k) (I.tok _) hN hi hx ⟨_, rfl⟩ (fun h' k hk I' => h2 pins _ _ _ D I' (Nat.lt_of_lt_of_le (Nat.succ_pos s.toks) hk) h) hf
def ipS : TIp := fun x y H Q => ∃ i j, x = .str i ∧ y = .str j ∧ i.length + j.length ≤ sizeLine ∧ Q (.str (i ++ j)) H
theorem ip_addS : PIp X .Add ipS := by
  intro pins s σ H x y v u Q I rx ry h
  obtain ⟨i, j, rfl, rfl, hz, q⟩ := h
  obtain ⟨t, rfl⟩ := rx
  obtain ⟨t', rfl⟩ := ry
  exact iadd_str (fun t' tk => ⟨.str _, H, I.tok _, ⟨_, rfl⟩, q⟩) hz
def rMulS : R2 := fun x y H Q => ∃ z n, x = .str z ∧ y = .int n ∧ z.length = 1 ∧ 0 ≤ n ∧ n ≤ 1000 ∧ Q (.str (Txt.mul z n)) H
theorem op_mulS : OpR X (binaryOp .Mult) rMulS := by
  intro pins s σ H x y v u Q I rx ry h
  obtain ⟨z, n, rfl, rfl, hz, h0, h1, q⟩ := h
  obtain ⟨t, rfl⟩ := rx
  obtain ⟨t', rfl⟩ := ry
  refine SB.mul ⟨?_, fun hn _ => ?_, fun hn _ => ?_⟩ fun t' k => ⟨.str _, H, I.tok _, ⟨_, rfl⟩, q⟩
  · rw [decide_eq_false (by omega), decide_eq_false (by omega)]
    rfl
  · have : 1 ≤ (2 ^ 63 - 1) / n := (Int.le_ediv_iff_mul_le (by omega)).mpr (by omega)
    omega
  · rw [hz]
    exact decide_eq_false (show ¬ _ > 2 ^ 24 by omega)
end
end L2
namespace SH
open PySem PyProof.Rows L2
theorem fold_reps (c : Nat) : ∀ (n : Nat) (acc : Array Nat), ((List.replicate n #[c]).foldl (· ++ ·) acc).toList = acc.toList ++ List.replicate n c
  | 0, acc => by rw [List.replicate_zero, List.replicate_zero, List.append_nil]; rfl
  | n + 1, acc => by
    rw [List.replicate_succ, List.foldl_cons, fold_reps c n, Array.toList_append, List.append_assoc]
    rfl
theorem mul_close (n : Nat) : Txt.mul (Str.ofString ")") (n : Int) = ⟨(closes n).toArray⟩ := by
  rw [show Str.ofString ")" = ⟨#[41]⟩ by decide +kernel]
  unfold Txt.mul
  by_cases h0 : (n : Int) < 1
  · rw [if_pos h0, show n = 0 by omega]
    rfl
  · rw [if_neg h0]
    by_cases h1 : n = 1
    · subst h1
      rfl
    · rw [if_neg (by rw [Bool.or_eq_true, not_or]; exact ⟨fun e => h1 (by have := eq_of_beq e; omega), by decide⟩)]
      refine congrArg Str.mk (Array.toList_inj.mp ?_)
      rw [Int.toNat_natCast]
      show ((List.replicate n #[41]).foldl (· ++ ·) #[]).toList = _
      rw [fold_reps]
      show [] ++ _ = closes n
      rfl
end SH
namespace PySem
section
variable {prog : Program} {w : World} {A : Around} {E : Value → Shared → Prop} {s : Shared}
theorem raise_in {α : Type} {e h : Addr} {oe oh : Obj} {ve vh : Array Value} {Q : α → Shared → Prop} (hA : A.handled = some (.ref h)) (ne : h ≠ e) (he : s.heap.get? e = some oe) (de : oe.data = .fields ve) (e2 : 2 < ve.size)
    (hh : s.heap.get? h = some oh) (dh : oh.data = .fields vh) (ch : vh[2]? = some .none) (k : E (.ref e) { s with heap := s.heap.update e (Obj.mapFields (·.setIfInBounds 2 (.ref h))) }) : wpAny (model prog w) A (raiseNew (.ref e) : Sem α) Q E s := by
  unfold raiseNew
  refine wpAny_bind (wpAny_handled ?_)
  rw [hA]
  dsimp only
  have nb : (Value.ref h != Value.ref e) = true := by
    rw [bne_iff_ne]
    intro z
    cases z
    exact ne rfl
  rw [if_pos nb]
  refine wpAny_bind (wpAny_holding (wpAny_runValue (codeAny_builtin (b := Builtin.«proto.unchain») (entryFor_of_tree (by kernel_rfl)) ?_)))
  unfold Builtin.«proto.unchain»
  dsimp only
  refine wpAny_bind (wpAny_field hh dh ch ?_)
  rw [if_pos (show (Value.none == Value.none) = true from rfl)]
  refine wpAny_pure ?_
  refine wpAny_bind ?_
  simp only [updateField]
  refine wpAny_bind (wpAny_load he ?_)
  rw [de]
  show wpAny _ A (if 2 < ve.size then _ else _) _ E s
  rw [if_pos e2]
  exact wpAny_update he (wpAny_throw k)
end
section
variable {prog : Program} {w : World} {A : Around} {E : Value → Shared → Prop} {env : Env}
variable {nm q : Str} {C N : Addr} {bs bm : List Value} {hdct : Bool} {sn : List Str} {sub : List Value} {ab : Bool} {col : Option Bool} {dd : Option Addr} {k0 k1 k2 k3 k5 : Option Value} {newId : String}
theorem raise_from {x c : Sem Value} {h : Addr} {Q : Flow → Shared → Prop} {s : Shared} (hbase : bm.contains (.type "BaseException") = true) (hA : A.handled = some (.ref h))
    (hx : wpAny (model prog w) A x (fun v s1 => ∃ e t oh vh, v = .ref e ∧ s1.heap.get? C = some (excClassObj nm q C N bs bm hdct sn sub ab col dd k0 k1 k2 k3 k5 newId) ∧ h ≠ e ∧ s1.heap.get? h = some oh ∧ oh.data = .fields vh ∧ vh[2]? = some .none ∧
      s1.heap.get? e = some { cls := .ref C, data := .fields #[.ref t, .none, .none, .none, .bool false, .none] } ∧ wpAny (model prog w) A c (fun cv s2 => cv = .none ∧ s2 = s1 ∧
        E (.ref e) { s1 with heap := ((s1.heap.update e (Obj.mapFields (·.setIfInBounds 3 .none))).update e (Obj.mapFields (·.setIfInBounds 4 (.bool true)))).update e (Obj.mapFields (·.setIfInBounds 2 (.ref h))) }) E s1) E s) :
    wpAny (model prog w) A (raiseStmt env (some x) (some c)) Q E s := by
  have hcB : (Value.ref C :: bm).contains (.type "BaseException") = true := by rw [List.contains_cons, hbase, Bool.or_true]
  unfold raiseStmt
  dsimp only
  refine wpAny_bind (wpAny_mono hx (fun v s1 h1 => ?_) fun _ _ z => z)
  obtain ⟨e, t, oh, vh, rfl, hC, ne, hh, dh, ch, he, hc⟩ := h1
  refine wpAny_bind (wpAny_holding (wpAny_mono hc (fun cv s2 h2 => ?_) fun _ _ z => z))
  obtain ⟨rfl, rfl, hE⟩ := h2
  refine wpAny_bind (wpAny_pure ?_)
  obtain ⟨hp, g, d, tk, os⟩ := s2
  repeat (first | with_reducible refine wpAny_loadPart_at he ?_ | with_reducible refine wpAny_loadPart_at hC ?_ | (with_reducible refine wpAny_isSubtype_exc hC ?_; rw [hcB]) | wp_step)
  have nC : C ≠ e := fun z => by
    rw [z, he] at hC
    cases (Option.some.inj hC)
  have he3 := Heap.get?_update_self (Obj.mapFields (·.setIfInBounds 3 Value.none)) he rfl
  have he4 := Heap.get?_update_self (Obj.mapFields (·.setIfInBounds 4 (Value.bool true))) he3 rfl
  have hC4 : ((hp.update e (Obj.mapFields (·.setIfInBounds 3 Value.none))).update e (Obj.mapFields (·.setIfInBounds 4 (Value.bool true)))).get? C = some (excClassObj nm q C N bs bm hdct sn sub ab col dd k0 k1 k2 k3 k5 newId) := (Heap.get?_update_other _ _ (Ne.symm nC)).trans ((Heap.get?_update_other _ _ (Ne.symm nC)).trans hC)
  have hh4 : ((hp.update e (Obj.mapFields (·.setIfInBounds 3 Value.none))).update e (Obj.mapFields (·.setIfInBounds 4 (Value.bool true)))).get? h = some oh := (Heap.get?_update_other _ _ (Ne.symm ne)).trans ((Heap.get?_update_other _ _ (Ne.symm ne)).trans hh)
  repeat (first | with_reducible refine wpAny_loadPart_at hC4 ?_ | with_reducible refine wpAny_loadPart_at he4 ?_ | wp_step)
  exact raise_in hA ne he4 rfl (by simp) hh4 dh ch hE
end
end PySem
namespace PySem
section
variable {prog : Program} {w : World} {A : Around} {E : Value → Shared → Prop} {s : Shared} {env : Env}
variable {nm q : Str} {C N : Addr} {bs bm bmB : List Value} {hdct : Bool} {sn : List Str} {sub : List Value} {ab : Bool} {col : Option Bool} {dd : Option Addr} {k0 k1 k2 k3 k5 : Option Value} {B newId initId : String}
theorem raise_call_from (F : ExcBaseFacts B newId initId bmB) {mN : Str → Option Value} {x : Str} {np cpos pos kp : Pos} {kk : Nat} {h : Addr} {args : List Expr} {Q : Flow → Shared → Prop} (hb : bm.contains (.type "BaseException") = true) (hA : A.handled = some (.ref h))
    (pl : (backTo cpos (starEach args env)).any (·.1) = false) (ni : mN "__init__" = none)
    (k : wpAny (model prog w) A (eval (.Name x np) env) (fun f s1 => f = .ref C ∧ wpAny (model prog w) A (evalArgs (.ref C) true (backTo cpos (starEach args env)) [])
      (fun a s2 => a.kw = [] ∧ a.pos.length ≤ sizeLine ∧ s2.heap.get? C = some (excClassObj nm q C N bs bm hdct sn sub ab col dd k0 k1 k2 k3 k5 newId) ∧ s2.heap.Ns N mN ∧ OwnTail s2.heap bmB bm ∧ (∃ oh vh, s2.heap.get? h = some oh ∧ oh.data = .fields vh ∧ vh[2]? = some .none) ∧
        ∀ h' e, Heap.MadeExcOf s2.heap h' e (.ref C) a.pos → E (.ref e) { s2 with heap := ((h'.update e (Obj.mapFields (·.setIfInBounds 3 .none))).update e (Obj.mapFields (·.setIfInBounds 4 (.bool true)))).update e (Obj.mapFields (·.setIfInBounds 2 (.ref h))) }) E s1) E s) :
    wpAny (model prog w) A (exec (.Raise (some (.Call (.Name x np) args [] cpos)) (some (.Constant .none kk kp)) pos) env) Q E s := by
  rw [arm_exec_Raise]
  refine wpAny_bind (wpAny_standAt (raise_from (C := C) (nm := nm) (q := q) (N := N) (bs := bs) (bm := bm) (hdct := hdct) (sn := sn) (sub := sub) (ab := ab) (col := col) (dd := dd) (k0 := k0) (k1 := k1) (k2 := k2) (k3 := k3) (k5 := k5) (newId := newId) (h := h) hb hA ?_))
  refine wpAny_bind (wpAny_mono (wpAny_Call_ofName (wpAny_mono k (fun f s1 q1 => ?_) fun _ _ z => z)) (fun v s3 q3 => wpAny_bind (wpAny_standAt (wpAny_pure q3))) fun _ _ z => z)
  obtain ⟨rfl, q1⟩ := q1
  unfold callWith
  refine wpAny_bind (wpAny_holding (wpAny_mono q1 (fun a s2 q2 => wpAny_bind (wpAny_standAt ?_)) fun _ _ z => z))
  obtain ⟨ap, aw⟩ := a
  obtain ⟨hw, hl, hC, hn, T, ⟨oh, vh, gh, dh, ch⟩, q2⟩ := q2
  obtain rfl : aw = [] := hw
  obtain ⟨hp, g, d, tk, os⟩ := s2
  simp only [pl]
  refine wpAny_bind (wpAny_keeperOf_exc hC ?_)
  refine wpAny_bind (wpAny_call_exc_subT (hrest := hl) F T hC hn ni fun h' e hm => wpAny_bind (wpAny_holding (wpAny_point (wpAny_pure ?_))))
  obtain ⟨t, ht, _, _⟩ := hm.there
  refine ⟨e, t, oh, vh, rfl, hm.keeps _ _ hC, fun z => ?_, hm.keeps _ _ gh, dh, ch, ht, ?_⟩
  · have := hm.new
    rw [← z] at this
    rw [show hp.get? h = none from this] at gh
    cases gh
  exact wpAny_bind (wpAny_Constant_none (wpAny_bind (wpAny_standAt (wpAny_pure ⟨rfl, rfl, q2 h' e hm⟩))))
end
end PySem
namespace L2
open PySem PySem.Spec PyProof.Rows
theorem CtxP.up {H : Hp} {e : Addr} {h : Heap} (c : CtxP (ctx1 H) e h) : CtxP (ctx3 H) e h := let ⟨o, fs, a, b, q⟩ := c; ⟨o, fs, a, b, .inl q⟩
theorem Fly.weak {P : Program} {w : World} {outer : List Env} {H H' : Hp} {s s' : Shared} {ea : Addr} {cls : Value} (f : Fly ctx1 P w outer H H' s ea cls s') : Fly ctx3 P w outer H H' s ea cls s' := ⟨f.os, f.bare, f.cx.up, f.un, f.fly⟩
section
variable {M : Model} {A : Around} {E : Value → Shared → Prop} {s : Shared} {φ : Option Value → Prop}
theorem fliesC {B : Heap} {l : List Env} {e L : Addr} {cls a0 : Value} {Q : Unit → Shared → Prop} (fl : Heap.FlyingW B l e cls a0 s.heap) (cx : CtxP φ e s.heap)
    (k : ∀ h', Heap.HeldW B l e cls a0 L h' → s.heap.UpToSlots h' → CtxP φ e h' → Q () { s with heap := h' }) : wpAny M A (setFlight (.ref e) (some L)) Q E s := by
  obtain ⟨st, ne, ff, o, fs, T, oT, ts, he, hc, od, f1, nT, Te, hT, dT, t3⟩ := fl
  obtain ⟨o2, fs2, he2, od2, f2⟩ := cx
  rw [he] at he2
  cases he2
  rw [od] at od2
  cases od2
  have t3s : 3 < ts.size := (Array.getElem?_eq_some_iff.mp t3).1
  have oth : ∀ b, b ≠ T → (s.heap.update T (Obj.mapFields (·.setIfInBounds 3 ((some L).elim Value.none fun f => rawInt f)))).get? b = s.heap.get? b := fun b q => Heap.get?_update_other _ _ (Ne.symm q)
  have noT : ∀ b u, s.heap.get? b = some u → (∀ vs, u.data ≠ .fields vs) → b ≠ T := fun b u z nf q => by
    rw [q, hT] at z
    cases z
    exact nf ts dT
  unfold setFlight
  refine wpAny_bind (wpAny_field he od f1 ?_)
  rw [if_pos (show (Value.ref T != Value.none) = true from by simp)]
  have ee := (oth e (Ne.symm Te)).trans he
  refine wpAny_setField hT dT t3s (k _ ⟨fun b u q => (oth b fun z => by rw [z, nT] at q; cases q).trans (st b u q), ne, ff.of_keeps fun b u z nf => ⟨u, (oth b (noT b u z nf)).trans z, rfl⟩, ?_⟩ (fun b u z nf => ⟨u.slots, (oth b (noT b u z nf)).trans z⟩) ⟨o, fs, ee, od, f2⟩)
  exact ⟨o, fs, T, _, _, ee, hc, od, f1, nT, Te, Heap.get?_update_self _ hT (Obj.isFreed_of_fields (Obj.data_mapFields dT _)), Obj.data_mapFields dT _, by simp [t3s]⟩
end
section
variable {P : Program} {w : World} {K : PySem.W.Frag} {mg : Str → Option Value} {base : Heap} {N : List Str} {qual : Str} {scope : Scope} {f : Addr} {cd : Value} {A : Around} {outer : List Env} {s₀ : Shared} {H₀ : Hp} {E : XK}
variable {X : Cx} {e : Expr} {c x y : Str} {C : Addr} {np xp ap cp dp hp rp kp pos : Pos} {kk : Nat} {a₀ : Expr} {as : List Expr} {te : TX} {ta : TA} {cv : Value} {i : Nat}
def exTryR (K : PySem.W.Frag) (cv : Value) (C : Addr) (E : XK) (ta : TA) (σ : St) : XK := fun cls _ H1 => (PySem.W.exmOne K cls cv = some true ∧ ∀ ea, H1 ea = none → ta σ (upd H1 ea (excN ea cls)) fun vs H2 => vs.length ≤ sizeLine ∧ H2 ea = some (excN ea cls) ∧ E (.ref C) none H2) ∨ PySem.W.exmOne K cls cv = some false ∧ E cls none H1
def tTryR (K : PySem.W.Frag) (cv : Value) (C : Addr) (E : XK) (te : TX) (ta : TA) (i : Nat) : TS := fun D σ H => te σ H (fun v H1 => D.nx (σ.set i (some v)) H1) (exTryR K cv C E ta σ)
theorem landsR {pins : List (Addr × Obj)} {σ : St} {D : Ends} {ev : Value} {s' : Shared} (hX : X = cxOf (CX3 P w) P w K mg base N qual scope f cd A outer s₀ H₀ E) (hg : Gl X c) (hcv : X.mg c = some cv) (hcd : (c == ("__debug__" : Str)) = false)
    (D' : ExcCls X.K X.mg y C) (hgy : Gl X y) (hyd : (y == ("__debug__" : Str)) = false) (ha : ∀ ea, PA (X.suite ea) (a₀ :: as) ta) (hst : starEach (a₀ :: as) X.env = (false, eval a₀ X.env) :: starEach as X.env) (hpl : (backTo cp (starEach as X.env)).any (·.1) = false)
    (h : XP ctx1 X pins σ (exTryR X.K cv C E ta σ) ev s') :
    wpAny (model X.prog X.w) X.A (noteFrame ev X.env) (fun _ s₂ => wpAny (model X.prog X.w) X.A (setFlight ev none) (fun _ s₃ => wpAny (model X.prog X.w) X.A (handleBy ev X.env [.ExceptHandler (some (.Name c np)) none [.Raise (some (.Call (.Name y dp) (a₀ :: as) [] cp)) (some (.Constant .none kk kp)) rp] hp]) (SP X pins D) X.xe s₃) X.xe s₂) X.xe s' := by
  have O : Own X := by subst hX; exact ⟨rfl, rfl, rfl⟩
  obtain ⟨H, s0, I, ea, cls, H1, rfl, fl, hx⟩ := h
  obtain ⟨B, a0, hfl, hok, h3, h4⟩ := id fl.fly
  have hst' := hfl
  rw [O.stack] at hst'
  have fr : X.A.frames = some (X.env :: X.outer) := by rw [← O.stack]; exact I.ok.frames
  have toI : ∀ {s1 : Shared}, Fly ctx1 X.prog X.w X.stack H H1 s0 ea cls s1 → Inv X pins σ H1 s1 := fun {s1} g => I.call' (ch := []) g.os g.un g.hok g.bare fun _ z => nomatch z
  refine looksC fr O.frame hst' fl.cx fun ga held sa ca => ?_
  refine landsC held.1 held.2.1 held.2.2.1 held.2.2.2 ca fun gb flb sb cb => ?_
  have flb' := flb
  rw [← O.stack] at flb
  have fB : Fly ctx1 X.prog X.w X.stack H H1 s0 ea cls { s' with heap := gb } := fl.turn hfl hok h3 h4 flb (sa.trans sb) cb
  have IB := toI fB
  obtain ⟨oe, vs, he, hc, hd⟩ := fB.at
  refine wpAny_handleBy_cons (codeAny_handlers_test (Calls.Name_function_global IB.ok.kind hg (Calls.loadGlobal_global (by rw [IB.ok.glob]; exact IB.mod.glob.keeps IB.bk) hcv ?_) hcd)) (by intro q; cases q)
  have look : PySem.W.Looks (model X.prog X.w) gb (typeOf (.ref ea)) cls := hc ▸ (PySem.W.Looks.ld he).andThen .now
  rcases hx with ⟨hm, hE⟩ | ⟨hm, hE⟩
  · refine (PySem.W.exm_one (M := model X.prog X.w) IB.kIn look hm).here ?_
    refine codeAny_handlers_suite ?_
    refine landsC (s := { s' with heap := gb }) flb.1 flb.2.1 flb.2.2.1 flb.2.2.2.at cb fun gg flg sg cg => ?_
    have fG : Fly ctx1 X.prog X.w X.stack H H1 s0 ea cls { s' with heap := gg } := fB.turn (s' := { s' with heap := gb }) flb hok h3 h4 flg sg cg
    have IG := toI fG
    obtain ⟨og, vg, eg, cg', dg⟩ := fG.at
    obtain ⟨og2, vg2, eg2, dg2, xg⟩ := cg
    rw [eg] at eg2
    cases eg2
    rw [dg] at dg2
    cases dg2
    have fresh : X.s₀.heap.get? ea = none := by
      cases q : X.s₀.heap.get? ea with
      | none => rfl
      | some o =>
        obtain ⟨o', z⟩ := I.base.there ea o q (by rw [O.ex]; simp)
        rw [fl.new] at z; cases z
    have IT : Inv X pins σ (upd H1 ea (excN ea cls)) { s' with heap := gg } := by
      refine IG.track fG.free (excN_ok eg cg' dg xg) fresh (fun z => ?_) (fun y cc q z => ?_) fun p hp z => ?_
      · obtain ⟨m, ⟨o, es, ep, ho, hdd, _⟩, _⟩ := IG.loc
        rw [← z, eg] at ho; cases ho
        rw [dg] at hdd; cases hdd
      · obtain ⟨v, o, ho, hdd⟩ := IG.cell y cc q
        rw [z, eg] at ho; cases ho
        rw [dg] at hdd; cases hdd
      · obtain ⟨q1, _⟩ := I.pin p hp
        rw [z, fl.new] at q1; cases q1
    have pass : PassesOwnAt (model X.prog X.w) (X.A.mark (some (.ref ea))) X.A X.env X.xe := by
      subst hX
      exact PassesOwnAt.leaving
    refine wpAny_passesOwnAt pass (wpAny_execs_cons ?_)
    have IS := IT.suite ea
    obtain ⟨tl, N', nm, q, bs, hdct, sn, sub, ab, col, dd, k0, k1, k2, k3, k5, mN, hC, hN, hni, T⟩ := exc_obj IS.ok.mod.kin D'.exc
    refine raise_call_from (C := C) (nm := nm) (q := q) (N := N') (bs := bs) (bm := tl) (hdct := hdct) (sn := sn) (sub := sub) (ab := ab) (col := col) (dd := dd) (k0 := k0) (k1 := k1) (k2 := k2) (k3 := k3) (k5 := k5) (h := ea)
      PySem.F.excBase_ValueError (mN := mN) (T.hasType PySem.F.excBase_ValueError.hasBase) rfl (by rw [hst]; show (false || (backTo cp (starEach as X.env)).any (·.1)) = false; rw [hpl]; rfl) hni (ld_glob (X := X.suite ea) IS hgy D'.mg ⟨rfl, ?_⟩ hyd)
    have h2 := ha ea cp pins _ σ _ _ IS (hE ea fG.free)
    have hst2 : starEach (a₀ :: as) (X.suite ea).env = (false, eval a₀ (X.suite ea).env) :: starEach as (X.suite ea).env := hst
    rw [hst2] at h2
    rw [hst]
    refine Calls.evalArgs_plain (wpAny_mono h2 (fun us s2 ⟨vs', H2, I2, r, hz, tr, hE2⟩ => ?_) fun _ _ z => z.elim)
    have at2 : ∃ oh vh, s2.heap.get? ea = some oh ∧ oh.data = .fields vh ∧ vh[2]? = some .none := by
      obtain ⟨⟨ob, vs, e1, _, d1, x1⟩, _⟩ := I2.hok ea _ tr
      exact ⟨ob, vs, e1, d1, x1⟩
    refine ⟨rfl, by rw [← r.length]; exact hz, I2.bk _ _ hC, hN.keeps I2.bk, T.keeps I2.bk, at2, fun h' en mk => ?_⟩
    have I3 : Inv X pins σ H2 s2 := I2.unsuite I.ok.hd
    obtain ⟨t, ht, _, _⟩ := mk.there
    have u3 := Heap.get?_update_self (Obj.mapFields (·.setIfInBounds 3 Value.none)) ht rfl
    have u4 := Heap.get?_update_self (Obj.mapFields (·.setIfInBounds 4 (Value.bool true))) u3 rfl
    have u2 := Heap.get?_update_self (Obj.mapFields (·.setIfInBounds 2 (Value.ref ea))) u4 rfl
    have kp' : ∀ b o, s2.heap.get? b = some o → (((h'.update en (Obj.mapFields (·.setIfInBounds 3 Value.none))).update en (Obj.mapFields (·.setIfInBounds 4 (Value.bool true)))).update en (Obj.mapFields (·.setIfInBounds 2 (Value.ref ea)))).get? b = some o := fun b o q => by
      have nb : en ≠ b := fun z => by
        rw [← z, mk.new] at q
        cases q
      rw [Heap.get?_update_other _ _ nb, Heap.get?_update_other _ _ nb, Heap.get?_update_other _ _ nb]
      exact mk.keeps b o q
    subst hX
    exact leftOf I3 kp' mk.new u2 rfl rfl rfl (.inr ⟨ea, cls, rfl, tr⟩) hE2
  · refine (PySem.W.exm_one (M := model X.prog X.w) IB.kIn look hm).here ?_
    refine wpAny_handleBy_nil ?_
    obtain ⟨_, _, _, o1, ws, T, oT, ts, e1, c1, d1, x1, _⟩ := id flb
    unfold PySem.passOn
    refine wpAny_bind (wpAny_field (s := { s' with heap := gb }) e1 d1 x1 ?_)
    rw [if_neg (show ¬ ((Value.ref T == Value.none) = true) from by simp)]
    have fin : ∀ g2, Heap.HeldW B (X.env :: X.outer) ea cls a0 X.env.locals g2 → gb.UpToSlots g2 → CtxP (ctx1 H1) ea g2 → X.xe (.ref ea) { s' with heap := g2 } := fun g2 hh sg2 cx2 => by
      subst hX
      show wpAny _ _ (leaving _ _) _ _ _
      unfold leaving
      refine wpAny_bind (wpAny_noteFrame_againW rfl hh.2.2.2 ?_)
      refine landsC hh.1 hh.2.1 hh.2.2.1 hh.2.2.2 cx2 fun g3 f3 sg3 cx3 => ?_
      obtain ⟨k1, k2, ⟨_, _, k3⟩, k4⟩ := f3
      exact ⟨ea, cls, H1, rfl, fB.weak.on O I B a0 flb hok h3 h4 ⟨k1, k2, k3, k4⟩ (sg2.trans sg3) cx3.up, hE⟩
    rw [O.frame]
    first
      | exact wpAny_bind (wpAny_pure (wpAny_bind (fliesC (s := { s' with heap := gb }) flb' fB.cx fun g2 hh sg2 cx2 => wpAny_throw (fin g2 hh sg2 cx2))))
      | exact wpAny_bind (fliesC (s := { s' with heap := gb }) flb' fB.cx fun g2 hh sg2 cx2 => wpAny_throw (fin g2 hh sg2 cx2))
theorem ps_tryR (hX : X = cxOf (CX3 P w) P w K mg base N qual scope f cd A outer s₀ H₀ E) (hN : X.N.Nodup) (hi : X.N[i]? = some x) (hx : Loc X.env.scope x) (hg : Gl X c) (hcv : X.mg c = some cv) (he : PEX ctx1 X e te) (D' : ExcCls X.K X.mg y C) (hgy : Gl X y) (ha : ∀ ea, PA (X.suite ea) (a₀ :: as) ta)
    (hcd : (c == ("__debug__" : Str)) = false := by decide) (hyd : (y == ("__debug__" : Str)) = false := by decide) (hst : starEach (a₀ :: as) X.env = (false, eval a₀ X.env) :: starEach as X.env := by rfl) (hpl : (backTo cp (starEach as X.env)).any (·.1) = false := by rfl)
    (hsw : swapsWith e (some (.Name x xp)) ap.line X.env = pure false := by rfl) (hf : X.fn x = true ∨ X.env.scope.names.lookup x = some .local := by first | exact .inl rfl | exact .inr rfl | assumption) :
    PS X (.Try [.Assign [.Name x xp] e ap] [.ExceptHandler (some (.Name c np)) none [.Raise (some (.Call (.Name y dp) (a₀ :: as) [] cp)) (some (.Constant .none kk kp)) rp] hp] [] [] pos) (tTryR X.K cv C E te ta i) := by
  intro pins s σ H D I h
  refine wpAny_Try_except ?_
  have hE := he pins s σ H _ _ I h
  refine wpAny_execs_cons (wpAny_Assign_Name (wpAny_mono hE (fun v s1 ⟨z, H1, I1, r1, q1⟩ => ?_) fun ev s1 hx' => ?_) hsw)
  · exact store_ok I1 hN hi hx r1 (fun s2 I2 => wpAny_execs_nil (wpAny_execs_nil ⟨_, H1, I2, q1⟩)) hf
  · exact landsR hX hg hcv hcd D' hgy hyd ha hst hpl hx'
end
end L2
namespace PySem
section
variable {prog : Program} {w : World} {A : Around} {E : Value → Shared → Prop} {s : Shared}
theorem raise_in2 {α : Type} {e h : Addr} {oe oh : Obj} {ve vh : Array Value} {v2 : Value} {Q : α → Shared → Prop} (hA : A.handled = some (.ref h)) (ne : h ≠ e) (he : s.heap.get? e = some oe) (de : oe.data = .fields ve) (e2 : 2 < ve.size)
    (hh : s.heap.get? h = some oh) (dh : oh.data = .fields vh) (ch : vh[2]? = some v2) (hv : v2 = .none ∨ ∃ b ob vb, v2 = .ref b ∧ b ≠ e ∧ s.heap.get? b = some ob ∧ ob.data = .fields vb ∧ vb[2]? = some .none)
    (k : E (.ref e) { s with heap := s.heap.update e (Obj.mapFields (·.setIfInBounds 2 (.ref h))) }) : wpAny (model prog w) A (raiseNew (.ref e) : Sem α) Q E s := by
  rcases hv with rfl | ⟨b, ob, vb, rfl, nb, hb, db, cb⟩
  · exact raise_in hA ne he de e2 hh dh ch k
  unfold raiseNew
  refine wpAny_bind (wpAny_handled ?_)
  rw [hA]
  dsimp only
  have nb1 : (Value.ref h != Value.ref e) = true := by
    rw [bne_iff_ne]
    intro z
    cases z
    exact ne rfl
  rw [if_pos nb1]
  have fin : wpAny (model prog w) A (do
      updateField e 2 (.ref h)
      throw (.ref e) : Sem α) Q E s := by
    refine wpAny_bind ?_
    simp only [updateField]
    refine wpAny_bind (wpAny_load he ?_)
    rw [de]
    show wpAny _ A (if 2 < ve.size then _ else _) _ E s
    rw [if_pos e2]
    exact wpAny_update he (wpAny_throw k)
  refine wpAny_bind (wpAny_holding (wpAny_runValue (codeAny_builtin (b := Builtin.«proto.unchain») (entryFor_of_tree (by kernel_rfl)) ?_)))
  unfold Builtin.«proto.unchain»
  dsimp only
  refine wpAny_bind (wpAny_field hh dh ch ?_)
  rw [if_neg (show ¬ (Value.ref b == Value.none) = true from by simp)]
  have n2 : ¬ (Value.ref b == Value.ref e) = true := fun z => nb (by have := eq_of_beq z; cases this; rfl)
  rw [if_neg n2]
  by_cases hbh : (Value.ref b == Value.ref h) = true
  · rw [if_pos hbh]
    refine wpAny_bind (wpAny_rule (wpAny_pure ?_))
    exact fin
  · rw [if_neg hbh]
    refine wpAny_bind (wpAny_pure (wpAny_pure ⟨Code.quiet_builtin _ (by decide +kernel), codeAny_builtin (b := Builtin.«proto.unchain») (entryFor_of_tree (by kernel_rfl)) ?_⟩))
    unfold Builtin.«proto.unchain»
    dsimp only
    refine wpAny_bind (wpAny_field hb db cb ?_)
    rw [if_pos (show (Value.none == Value.none) = true from rfl)]
    refine wpAny_pure ?_
    exact fin
end
open PyProof.Rows
theorem next_endK {prog : Program} {w : World} {A : Around} {E : Value → Shared → Prop} {s : Shared} {it l : Addr} {i : Nat} {items} {Q : Option Value → Shared → Prop} {x : Addr} {ox : Obj} {vx : Array Value} {v2 : Value} (hh : A.handled = some (.ref x)) (gx : s.heap.get? x = some ox) (dx : ox.data = .fields vx) (cx : vx[2]? = some v2) (hv : v2 = .none ∨ ∃ b ob vb, v2 = .ref b ∧ s.heap.get? b = some ob ∧ ob.data = .fields vb ∧ vb[2]? = some .none) (xi : x ≠ it) (bi : v2 ≠ .ref it)
    (hit : s.heap.IsListIter it l i) (hl : s.heap.IsList l items) (hx : items[i]? = none)
    (hQ : ∀ h', Heap.ExtBut it s.heap h' → Q none { s with heap := h' }) : wpAny (model prog w) A (pyNext (.ref it)) Q E s := by
  obtain ⟨o, ho, hc, hd⟩ := id hit
  obtain ⟨ol, hol, _, nl, hdl⟩ := hl
  unfold pyNext
  refine wpAny_bind (wpAny_attempt (wpAny_callSpecial?_slot (name := Str.ofString "__next__") hit.typeIs slot_listiter_next
    (wpAny_call_entry slot_listiter_next hit.typeIs entry_listiter_next ?_ (args_listiter_next _))))
  show wpAny _ _ (field (.ref it) 0 >>= _) _ _ s
  refine wpAny_bind (wpAny_field ho hd (x := .ref l) rfl ?_)
  show wpAny _ _ (if (Value.ref l == Value.none) = true then _ else _) _ _ s
  rw [if_neg (show ¬ ((Value.ref l == Value.none) = true) from Bool.false_ne_true)]
  show wpAny _ _ (field (.ref it) 1 >>= _) _ _ s
  refine wpAny_bind (wpAny_field ho hd (x := .int i 0) rfl ?_)
  show wpAny _ _ (seqItems? (.ref l) >>= _) _ _ s
  refine wpAny_bind (wpAny_seqItems hol hdl ?_)
  simp only [Int.toNat_natCast, hx]
  refine wpAny_bind (wpAny_rule (wpAny_bind (wpAny_setField ho hd (by simp) ?_)))
  show wpAny _ _ (newExc (.type "StopIteration") [] >>= _) _ _ _
  refine wpAny_bind ?_
  simp only [newExc, newTuple]
  refine wpAny_bind (wpAny_newObj_type ?_ (by size_fits))
  refine wpAny_bind (m := firstArgMember _ _) (wpAny_of_eq (a := Value.none) (by first | rfl | (simp only [firstArgMember]; rfl)) ?_)
  refine wpAny_newObj_type ?_ (by size_fits)
  dsimp only
  have gx' : (((s.heap.update it (Obj.mapFields fun x => x.setIfInBounds 0 Value.none)).push { cls := Value.type "tuple", data := Data.seq #[] }).get? x) = some ox := Heap.get?_push_of_some _ ((Heap.get?_update_other _ _ (Ne.symm xi)).trans gx)
  have eb : Heap.ExtBut it s.heap ((s.heap.update it (Obj.mapFields fun x => x.setIfInBounds 0 Value.none)).push { cls := Value.type "tuple", data := Data.seq #[] }) := (Heap.SameBut.update ..).extBut.push _
  have hv' : v2 = .none ∨ ∃ b ob vb, v2 = .ref b ∧ ((s.heap.update it (Obj.mapFields fun x => x.setIfInBounds 0 Value.none)).push { cls := Value.type "tuple", data := Data.seq #[] }).get? b = some ob ∧ ob.data = .fields vb ∧ vb[2]? = some .none := by
    rcases hv with hv | ⟨b, ob, vb, hv, g, d, c⟩
    · exact .inl hv
    · exact .inr ⟨b, ob, vb, hv, eb b ob (fun z => bi (by rw [hv, z])) g, d, c⟩
  generalize ((s.heap.update it (Obj.mapFields fun x => x.setIfInBounds 0 Value.none)).push { cls := Value.type "tuple", data := Data.seq #[] }) = g1 at gx' eb hv' ⊢
  have lx := Heap.lt_size gx'
  refine raise_in2 (show A.in1.handled = _ from hh) (Nat.ne_of_lt lx) (Heap.get?_push_size _ rfl) rfl (by simp; omega) (Heap.get?_push_of_some _ gx') dx cx ?_ ?_
  · rcases hv' with hv | ⟨b, ob, vb, hv, g, d, c⟩
    · exact .inl hv
    · exact .inr ⟨b, ob, vb, hv, Nat.ne_of_lt (Heap.lt_size g), Heap.get?_push_of_some _ g, d, c⟩
  refine wpAny_bind (wpAny_isInstance (T := "StopIteration") (b := true) ⟨_, Heap.get?_update_self _ (Heap.get?_push_size _ rfl) rfl, rfl⟩ isSubtype_stop ?_)
  refine wpAny_pure (hQ _ fun b o hb e => ?_)
  have := eb b o hb e
  exact (Heap.get?_update_other _ _ (Ne.symm (Nat.ne_of_lt (Heap.lt_size this)))).trans (Heap.get?_push_of_some _ this)
end PySem
namespace L2
open PySem PySem.Spec PyProof.Rows
def excK (a : Addr) (cls v2 : Value) : HO := .ext fun h => ∃ ob vs, h.get? a = some ob ∧ ob.cls = cls ∧ ob.data = .fields vs ∧ vs[2]? = some v2
theorem excK_ok {P : Program} {w : World} {H : Hp} {h : Heap} {a : Addr} {cls v2 : Value} {ob : Obj} {vs : Array Value} (e : h.get? a = some ob) (hc : ob.cls = cls) (hd : ob.data = .fields vs) (h2 : vs[2]? = some v2) : ObjOk P w H h a (excK a cls v2) :=
  ⟨⟨ob, vs, e, hc, hd, h2⟩, ⟨ob, e⟩, fun h1 h2 ⟨o1, v1, e1, c1, d1, x1⟩ k => ⟨o1, v1, k o1 e1, c1, d1, x1⟩⟩
section
variable {X : Cx} {e : Expr} {c n : Str} {b₀ : Stmt} {suite : List Stmt} {epos np hpos pos : Pos} {te : TX} {ts : Addr → TS} {cv : Value} {i : Nat}
def exTryK (K : PySem.W.Frag) (cv : Value) (ts : Addr → TS) (i : Nat) (D : Ends) (σ : St) : XK := fun cls _ H1 => PySem.W.exmOne K cls cv = some true ∧ ∀ ea v2, H1 ea = none → ctx3 H1 (some v2) → ts ea (ends0 D i) (σ.set i (some (.ref ea))) (upd H1 ea (excK ea cls v2))
def tTryK (K : PySem.W.Frag) (cv : Value) (te : TX) (ts : Addr → TS) (i : Nat) : TS := fun D σ H => te σ H (fun _ H1 => D.nx σ H1) (exTryK K cv ts i D σ)
theorem landsK {pins : List (Addr × Obj)} {σ : St} {D : Ends} {ev : Value} {s' : Shared} (O : Own X) (hN : X.N.Nodup) (hi : X.N[i]? = some n) (hloc : X.env.kindOf n = some .local) (hcl : ∀ (A : Around) (E : Value → Shared → Prop) (Q : Value → Shared → Prop) (pins : List (Addr × Obj)) (σ : St) (H : Hp) (s : Shared), Inv X pins σ H s → Q cv s → wpAny (model X.prog X.w) A (eval (.Name c np) X.env) Q E s)
    (hs : ∀ ea, PSs (X.suite ea) (b₀ :: suite) (ts ea)) (h : XP ctx3 X pins σ (exTryK X.K cv ts i D σ) ev s') :
    wpAny (model X.prog X.w) X.A (noteFrame ev X.env) (fun _ s₂ => wpAny (model X.prog X.w) X.A (setFlight ev none) (fun _ s₃ => wpAny (model X.prog X.w) X.A (handleBy ev X.env [.ExceptHandler (some (.Name c np)) (some n) (b₀ :: suite) hpos]) (SP X pins D) X.xe s₃) X.xe s₂) X.xe s' := by
  obtain ⟨H, s0, I, ea, cls, H1, rfl, fl, hx, hE⟩ := h
  obtain ⟨B, a0, hfl, hok, h3, h4⟩ := id fl.fly
  have hfl0 := hfl
  rw [O.stack] at hfl0
  have hfr : X.A.frames = some (X.env :: X.outer) := by rw [← O.stack]; exact I.ok.frames
  have mkI : ∀ {s1 : Shared}, Fly ctx3 X.prog X.w X.stack H H1 s0 ea cls s1 → Inv X pins σ H1 s1 := fun {s1} f1 => I.call' (ch := []) f1.os f1.un f1.hok f1.bare fun b z => nomatch z
  refine looksC hfr O.frame hfl0 fl.cx fun h₄ held sm₄ cx₄ => ?_
  refine landsC held.1 held.2.1 held.2.2.1 held.2.2.2 cx₄ fun h₅ hfl5 sm₅ cx₅ => ?_
  have sm45 := sm₄.trans sm₅
  rw [← O.stack] at hfl5
  have f5 : Fly ctx3 X.prog X.w X.stack H H1 s0 ea cls { s' with heap := h₅ } := fl.turn hfl hok h3 h4 hfl5 sm45 cx₅
  have I5 := mkI f5
  obtain ⟨oe, vs, he, hc, hd⟩ := f5.at
  refine wpAny_handleBy_cons (codeAny_handlers_test (hcl _ _ _ pins σ H1 _ I5 ?_)) (by intro q; cases q)
  have LT : PySem.W.Looks (model X.prog X.w) h₅ (typeOf (.ref ea)) cls := hc ▸ (PySem.W.Looks.ld he).andThen .now
  refine (PySem.W.exm_one (M := model X.prog X.w) I5.kIn LT hx).here ?_
  refine codeAny_handlers_suite_as ?_
  refine landsC (s := { s' with heap := h₅ }) hfl5.1 hfl5.2.1 hfl5.2.2.1 hfl5.2.2.2.at cx₅ fun h₆ hfl6 sm₆ cx₆ => ?_
  have f6 : Fly ctx3 X.prog X.w X.stack H H1 s0 ea cls { s' with heap := h₆ } := f5.turn (s' := { s' with heap := h₅ }) hfl5 hok h3 h4 hfl6 sm₆ cx₆
  have I6 := mkI f6
  obtain ⟨oe6, vs6, he6, hc6, hd6⟩ := f6.at
  obtain ⟨oq, vq, eq, dq, hq⟩ := f6.cx
  rw [show h₆.get? ea = some oe6 from he6] at eq
  cases eq
  rw [hd6] at dq
  cases dq
  obtain ⟨v2, hv2⟩ : ∃ v2, vs6[2]? = some v2 := by
    rcases hq with hq | ⟨_, _, hq, _⟩
    · exact ⟨_, hq⟩
    · exact ⟨_, hq⟩
  have new0 : X.s₀.heap.get? ea = none := by
    cases q : X.s₀.heap.get? ea with
    | none => rfl
    | some o =>
      obtain ⟨o', z⟩ := I.base.there ea o q (by rw [O.ex]; simp)
      rw [fl.new] at z; cases z
  have I7 : Inv X pins σ (upd H1 ea (excK ea cls v2)) { s' with heap := h₆ } := by
    refine I6.track f6.free (excK_ok he6 hc6 hd6 hv2) new0 (fun z => ?_) (fun y cc q z => ?_) fun p hp z => ?_
    · obtain ⟨m, ⟨o, es, ep, ho, hdd, _⟩, _⟩ := I6.loc
      rw [← z, he6] at ho; cases ho
      rw [hd6] at hdd; cases hdd
    · obtain ⟨v, o, ho, hdd⟩ := I6.cell y cc q
      rw [z, he6] at ho; cases ho
      rw [hd6] at hdd; cases hdd
    · obtain ⟨q1, _⟩ := I.pin p hp
      rw [z, fl.new] at q1; cases q1
  refine store_ok (X := X.suite ea) (I7.suite ea) hN hi (.inl hloc) (v := .ref ea) rfl (fun s8 I8 => ?_) (.inr hloc)
  refine wpAny_mono (hs ea pins s8 _ _ (ends0 D i) I8 (hE ea v2 f6.free (hv2 ▸ hq))) (fun fw s9 q9 => ?_) fun _ _ z => z.elim
  have hp : (X.env.scope.kind == .class || (X.env.scope.kind == .module && X.env.locals != X.env.globals)) = false := by rw [I.ok.kind]; rfl
  have go : ∀ {σ9 : St} {H9 : Hp} {Q : Unit → Shared → Prop}, Inv (X.suite ea) pins σ9 H9 s9 → (∀ s10, Inv X pins (σ9.set i none) H9 s10 → Q () s10) → wpAny (model X.prog X.w) X.A (do bindName X.env n .none; unbindBehindTheSuite X.env n hpos) Q X.xe s9 := fun {σ9 H9 Q} I9 hQ => by
    have I9' : Inv X pins σ9 H9 s9 := I9.unsuite I.ok.hd
    obtain ⟨m, hm, _⟩ := id I9'.loc
    exact wpAny_nameGoes_keeps hloc hm hp fun h' v hn hsb => hQ _ (I9'.unbind hN hi hm hn hsb)
  cases fw with
  | next => obtain ⟨σ9, H9, I9, q⟩ := q9; exact go I9 fun s10 I10 => ⟨_, _, I10, q⟩
  | brk => obtain ⟨σ9, H9, I9, q⟩ := q9; exact go I9 fun s10 I10 => ⟨_, _, I10, q⟩
  | cont => obtain ⟨σ9, H9, I9, q⟩ := q9; exact go I9 fun s10 I10 => ⟨_, _, I10, q⟩
  | ret u => obtain ⟨v, σ9, H9, I9, r, q⟩ := q9; exact go I9 fun s10 I10 => ⟨_, _, _, I10, r, q⟩
theorem ps_tryK (O : Own X) (hN : X.N.Nodup) (hi : X.N[i]? = some n) (hloc : X.env.kindOf n = some .local) (hg : Gl X c) (hcv : X.mg c = some cv) (he : PEX ctx3 X e te) (hs : ∀ ea, PSs (X.suite ea) (b₀ :: suite) (ts ea)) (hd : (c == ("__debug__" : Str)) = false := by decide)
    (hsw : swapsWith e none epos.line X.env = pure false := by rfl) : PS X (.Try [.Expr e epos] [.ExceptHandler (some (.Name c np)) (some n) (b₀ :: suite) hpos] [] [] pos) (tTryK X.K cv te ts i) := by
  intro pins s σ H D I h
  refine wpAny_Try_except ?_
  have hE := he pins s σ H _ _ I h
  refine wpAny_execs_cons (wpAny_Expr_any (wpAny_mono hE (fun v s1 ⟨x, H1, I1, r1, q1⟩ => ?_) fun ev s1 hx => ?_) I.quiet hsw)
  · exact wpAny_execs_nil (wpAny_execs_nil ⟨σ, H1, I1, q1⟩)
  · exact landsK O hN hi hloc (fun A E Q pins σ H s J q => Calls.Name_function_global J.ok.kind hg (Calls.loadGlobal_global (by rw [J.ok.glob]; exact J.mod.glob.keeps J.bk) hcv q) hd) hs hx
end
section
variable {X : Cx}
def rIsiK (K : PySem.W.Frag) : List V → Hp → VK → Prop := fun xs H Q => ∃ a D v2 c b, xs = [.ref a, c] ∧ H a = some (excK a (.ref D) v2) ∧ ExcLk K D ∧ (∃ cv, RelV c cv ∧ PySem.W.kitOne K (.ref D) cv = some b) ∧ Q (.bl b) H
theorem call_isiK : CallR X (.builtin "isinstance") (rIsiK X.K) := by
  intro pins s σ H xs us Q I r h
  obtain ⟨a, D, v2, c, b, rfl, ha, Z, ⟨cv, rc, e⟩, q⟩ := h
  obtain ⟨u, w', rfl, rx, rc'⟩ := vals2 r
  cases (show u = Value.ref a from rx)
  have ew : w' = cv := by
    cases c with
    | ref y => exact (show w' = Value.ref y from rc').trans (show cv = Value.ref y from rc).symm
    | ty n => exact (show w' = Value.type n from rc').trans (show cv = Value.type n from rc).symm
    | non => exact (show w' = Value.none from rc').trans (show cv = Value.none from rc).symm
    | bl y => exact (show w' = Value.bool y from rc').trans (show cv = Value.bool y from rc).symm
    | int i => obtain ⟨t, rfl⟩ := (show ∃ t, cv = Value.int i t from rc); exact absurd e (by simp [PySem.W.kitOne, PySem.W.kitCls])
    | str i => obtain ⟨t, rfl⟩ := (show ∃ t, cv = Value.str i t from rc); exact absurd e (by simp [PySem.W.kitOne, PySem.W.kitCls])
    | byt i => obtain ⟨t, rfl⟩ := (show ∃ t, cv = Value.bytes i t from rc); exact absurd e (by simp [PySem.W.kitOne, PySem.W.kitCls])
    | flt i => obtain ⟨t, rfl⟩ := (show ∃ t, cv = Value.float i t from rc); exact absurd e (by simp [PySem.W.kitOne, PySem.W.kitCls])
  subst ew
  obtain ⟨⟨ob, vs, e1, c1, _⟩, _⟩ := (show ObjOk X.prog X.w H s.heap a (excK a (.ref D) v2) from I.hok a _ ha)
  exact PySem.W.kia_one (kitx_exc Z) I.kIn ⟨ob, e1, c1⟩ e (fun z => nomatch z) fun tk => ⟨.bl b, H, I.tok tk, rfl, q⟩
end
def Itk (K : PySem.W.Frag) (a e : Addr) : It := ⟨(Itl K a).go, (Itl K a).yld, fun i H => (Itl K a).stop i H ∧ ∃ cls v2, H e = some (excK e cls v2) ∧ ctx3 H (some v2)⟩
structure TurnK (e : Addr) (P : Program) (w : World) (K : PySem.W.Frag) (tg : Expr) (J : It) (fp : List Addr) (it : Addr) (tn : Nat → Heap → Prop) : Prop where
  mem : it ∈ fp
  obj : ∀ i h, tn i h → ∀ b ∈ fp, ∃ o, h.get? b = some o ∧ ∀ v, o.data ≠ .cell v
  keep : ∀ i h h', tn i h → (∀ b ∈ fp, ∀ o, h.get? b = some o → h'.get? b = some o) → tn i h'
  item : ∀ (X : Cx), X.prog = P → X.w = w → X.K = K → X.A.handled = some (.ref e) → ∀ (i : Nat) (pins : List (Addr × Obj)) (s : Shared) (σ : St) (H : Hp) (E : Value → Shared → Prop), Inv X pins σ H s → (∀ b ∈ fp, FpOk X pins H b) → tn i s.heap → J.go i H →
    wpAny (model P w) X.A (pyNext (.ref it)) (fun r s1 => ∃ u, r = some u ∧
      wpAny (model P w) X.A (letOwnedTupleGo tg (.ref it) u) (fun _ s2 => ∃ x H', Inv X pins σ H' s2 ∧ RelV x u ∧ J.yld i H x H' ∧ tn (i + 1) s2.heap ∧ ∀ b ∈ fp, H' b = none) E s1) E s
  done : ∀ (X : Cx), X.prog = P → X.w = w → X.K = K → X.A.handled = some (.ref e) → ∀ (i : Nat) (pins : List (Addr × Obj)) (s : Shared) (σ : St) (H : Hp) (E : Value → Shared → Prop), Inv X pins σ H s → (∀ b ∈ fp, FpOk X pins H b) → tn i s.heap → J.stop i H →
    wpAny (model P w) X.A (pyNext (.ref it)) (fun r s1 => r = none ∧ Inv X pins σ H s1) E s
  self : ∀ (A : Around) (i : Nat) (s : Shared) (Q : Value → Shared → Prop) (E : Value → Shared → Prop), tn i s.heap → Q (.ref it) s → wpAny (model P w) A (pyIter (.ref it)) Q E s
def PIEK (e : Addr) (X : Cx) (pins : List (Addr × Obj)) (σ : St) (tg : Expr) (R : It → Hp → Prop) (itv : Value) (s2 : Shared) : Prop :=
  ∃ (it : Addr) (fp : List Addr) (tn : Nat → Heap → Prop) (J : It) (H' : Hp), itv = .ref it ∧ Inv X pins σ H' s2 ∧ TurnK e X.prog X.w X.K tg J fp it tn ∧ tn 0 s2.heap ∧ (∀ b ∈ fp, FpOk X pins H' b) ∧ R J H'
def PIK (e : Addr) (X : Cx) (tg iter : Expr) (wi : TI) : Prop :=
  ∀ (pins : List (Addr × Obj)) (s : Shared) (σ : St) (H : Hp) (R : It → Hp → Prop), Inv X pins σ H s → wi σ H R →
    wpAny (model X.prog X.w) X.A (eval iter X.env) (fun v s1 => wpAny (model X.prog X.w) X.A (pyIter v) (PIEK e X pins σ tg R) X.xe s1) X.xe s
theorem turn_listK {e : Addr} {P : Program} {w : World} {K : PySem.W.Frag} {tg : Expr} (a it : Addr) : TurnK e P w K tg (Itk K a e) [it] it (fun i h => h.IsListIter it a i) where
  mem := by simp
  obj := fun i h st b hb => by
    have e : b = it := by simpa using hb
    subst e
    obtain ⟨o, e, c, d⟩ := st
    exact ⟨o, e, fun v z => by rw [d] at z; cases z⟩
  keep := fun i h h' st k => st.at fun o e => k it (by simp) o e
  item := by
    intro X hP hw hK hc i pins s σ H E I hf st hg
    subst hP hw hK
    obtain ⟨xs, x, hq, hx⟩ := hg
    obtain ⟨its, rv, p, hz⟩ := I.list hq
    obtain ⟨u, hu, ru⟩ := rv.get hx
    obtain ⟨f0, f1, f2, f3, f4, f5⟩ := hf it (by simp)
    refine wpAny_pyNext_list_item st p.isList (x := u) (by simpa using hu) fun h' st' sb => ?_
    have I1 : Inv X pins σ H { s with heap := h' } := I.turned (t' := s.toks) (fun b o hb e => (sb.2 b hb).trans e) f0 f1 f3 f4 f5
    obtain ⟨o, e, c, d⟩ := id st'
    exact ⟨u, rfl, go_of (s := { s with heap := h' }) e c d (by decide) ⟨x, H, I1, ru, ⟨rfl, fun ys hy => by rw [I.list_inj hy hq]; exact hx⟩, st', fun b hb => (hf b hb).1⟩⟩
  done := by
    intro X hP hw hK hc i pins s σ H E I hf st hg
    subst hP hw hK
    obtain ⟨⟨xs, hq, hx⟩, cls, v2, he, hv⟩ := hg
    obtain ⟨its, rv, p, hz⟩ := I.list hq
    obtain ⟨f0, f1, f2, f3, f4, f5⟩ := hf it (by simp)
    have hl := rv.length
    obtain ⟨⟨ox, vx, gx, _, dx, cx⟩, _⟩ := (show ObjOk X.prog X.w H s.heap e (excK e cls v2) from I.hok e _ he)
    refine next_endK hc gx dx cx ?_ (fun z => by rw [z, f0] at he; cases he) ?_ st p.isList (by simp; omega) fun h' eb => ⟨rfl, I.turned (t' := s.toks) (fun b o hb e => eb b o hb e) f0 f1 f3 f4 f5⟩
    · rcases hv with hv | ⟨b, c, hv, hb⟩
      · exact .inl (Option.some.inj hv)
      · obtain ⟨⟨ob, vb, gb, _, db, cb⟩, _⟩ := (show ObjOk X.prog X.w H s.heap b (excN b c) from I.hok b _ hb)
        exact .inr ⟨b, ob, vb, Option.some.inj hv, gb, db, cb⟩
    · rintro rfl
      rcases hv with hv | ⟨b, c, hv, hb⟩
      · cases hv
      · cases hv
        rw [f0] at hb
        cases hb
  self := fun _ _ _ _ _ st h => wpAny_pyIter_listiter st h
section
variable {X : Cx} {tg : Expr}
def iListK (e : Addr) (K : PySem.W.Frag) (tl : TE) : TI := fun σ H R => tl σ H fun x H1 => ∃ a, x = .ref a ∧ (∃ xs, SqL K H1 a xs) ∧ R (Itk K a e) H1
theorem pi_listK {ea : Addr} {l : Expr} {tl : TE} (hl : PE X l tl) : PIK ea X tg l (iListK ea X.K tl) := by
  intro pins s σ H R I h
  refine thn (hl pins s σ H _ I h) fun v s1 ⟨x, H1, I1, r1, q1⟩ => ?_
  obtain ⟨a, e, ⟨xs, hq⟩, q⟩ := q1
  subst e
  cases r1
  obtain ⟨its, rv, p, hz⟩ := I1.list hq
  refine wpAny_pyIter_list p.isList ?_
  refine ⟨s1.heap.objs.size, [s1.heap.objs.size], _, _, H1, rfl, I1.kept (t' := s1.toks) fun b o e => Heap.get?_push_of_some _ e, turn_listK a _, ⟨_, Heap.get?_push_size _ rfl, rfl, rfl⟩, fun b hb => ?_, q⟩
  have e : b = s1.heap.objs.size := by simpa using hb
  subst e
  exact I1.fpOk (Nat.le_refl _) (I1.hok.fresh (Nat.le_refl _))
theorem ps_forK {ea : Addr} {iter : Expr} {body : List Stmt} {wi : TI} {g : TG} {tb : TS} {pos : Pos} (hp : PassesOwn (model X.prog X.w) X.A X.env X.xe) (hc : X.A.handled = some (.ref ea)) (hi : PIK ea X tg iter wi) (hg : PG X tg g) (hb : PSs X body tb)
    (hs : ∀ x, foldedSetIterable iter X.env x = pure x := by intro _; rfl) : PS X (.For tg iter body [] pos) (tFor wi g tb) := by
  intro pins s σ H D I h
  refine wpAny_For (thn (hi pins s σ H _ I h) fun v s1 h1 => thn h1 fun itv s2 h2 => ?_) hs
  obtain ⟨it, fp, tn, J, H2, e, I2, T, st2, f2, W, ⟨m0, w0⟩, turn⟩ := h2
  subst e
  have stat : ∀ {H' : Hp}, (∀ b ∈ fp, H' b = none) → ∀ b ∈ fp, FpOk X pins H' b := fun hn b hb => ⟨hn b hb, (f2 b hb).2⟩
  refine codeAny_forLoop_any (fun n s' => ∃ i σ' H', Inv X pins σ' H' s' ∧ tn i s'.heap ∧ (∀ b ∈ fp, H' b = none) ∧ W i n σ' H') ?_ m0 ⟨0, σ, H2, I2, st2, fun b hb => (f2 b hb).1, w0⟩
  rintro n s3 ⟨i, σ3, H3, I3, st3, fr3, w3⟩
  rcases turn i n σ3 H3 w3 with ⟨stop, qn⟩ | ⟨go, N, hN, step⟩
  · refine wpAny_passesOwn hp (thn (T.done X rfl rfl rfl hc i pins s3 σ3 H3 X.xe I3 (stat fr3) st3 stop) fun r s4 ⟨hr, I4⟩ => ?_)
    subst hr
    exact wpAny_execs_nil ⟨σ3, H3, I4, qn⟩
  · refine wpAny_passesOwn hp (thn (T.item X rfl rfl rfl hc i pins s3 σ3 H3 X.xe I3 (stat fr3) st3 go) fun r s4 ⟨u, hr, h4⟩ => ?_)
    subst hr
    refine wpAny_passesOwn hp (thn h4 fun _ s5 ⟨x, H5, I5, r5, y5, st5, fr5⟩ => ?_)
    have I5' := I5.pinned (stat fr5) (T.obj _ _ st5)
    refine wpAny_passesOwn hp (thn (hg _ s5 σ3 H5 x u _ I5' r5 (step x H5 y5)) fun _ s6 ⟨σ6, H6, I6, q6⟩ => ?_)
    refine wpAny_passesOwn hp (thn (hb _ s6 σ6 H6 _ I6 q6) fun f s7 q7 => ?_)
    have again : ∀ {σ7 : St} {H7 : Hp}, Inv X (pins ++ pinsAt fp s5.heap) σ7 H7 s7 → N σ7 H7 → ∃ m, m < n ∧ ∃ i σ' H', Inv X pins σ' H' s7 ∧ tn i s7.heap ∧ (∀ b ∈ fp, H' b = none) ∧ W i m σ' H' := fun {σ7 H7} I7 n7 => by
      obtain ⟨m', hm, w7⟩ := hN σ7 H7 n7
      refine ⟨m', hm, i + 1, σ7, H7, I7.unpinned, T.keep _ _ _ st5 fun b hb o e => (I7.pin (b, o) (List.mem_append_right _ (List.mem_append_right _ (mem_pinsAt hb e)))).1, fun b hb => ?_, w7⟩
      obtain ⟨o, e, d⟩ := T.obj _ _ st5 b hb
      exact (I7.pin (b, o) (List.mem_append_right _ (List.mem_append_right _ (mem_pinsAt hb e)))).2.1
    cases f with
    | next => obtain ⟨σ7, H7, I7, n7⟩ := q7; exact again I7 n7
    | cont => obtain ⟨σ7, H7, I7, n7⟩ := q7; exact again I7 n7
    | brk => obtain ⟨σ7, H7, I7, q7⟩ := q7; exact ⟨σ7, H7, I7.unpinned, q7⟩
    | ret v => obtain ⟨x7, σ7, H7, I7, r7, q7⟩ := q7; exact ⟨x7, σ7, H7, I7.unpinned, r7, q7⟩
end
end L2
namespace L2
open PySem PySem.Spec PyProof.Rows SH
def PEt (X : Cx) (e : Expr) (t : TE) : Prop :=
  ∀ (pins : List (Addr × Obj)) (s : Shared) (σ : St) (H : Hp) (Q : VK), Inv X pins σ H s → t σ H Q → wpAny (model X.prog X.w) X.A (eval e X.env) (fun u s' => 0 < s'.toks ∧ EP X pins σ Q u s') X.xe s
section
variable {X : Cx} {e e' : Expr} {es : List Expr} {te te' : TE} {t : TA}
def rAddS : R2 := fun x y H Q => ∃ i j, x = .str i ∧ y = .str j ∧ 0 < i.length ∧ 0 < j.length ∧ i.length + j.length ≤ sizeLine ∧ Q (.str (i ++ j)) H
theorem pet_add {a b : Expr} {ta tb : TE} {pos : Pos} (ha : PE X a ta) (hb : PE X b tb) : PEt X (.BinOp a .Add b pos) (tOp rAddS ta tb) := by
  intro pins s σ H Q I h
  refine wpAny_BinOp (binT ha hb I h fun v u s2 x y H2 I2 rx ry q => ?_)
  obtain ⟨i, j, rfl, rfl, h1, h2, hz, q⟩ := q
  obtain ⟨t, rfl⟩ := rx
  obtain ⟨t', rfl⟩ := ry
  have e1 : (i.length == 0) = false := beq_false_of_ne (Nat.ne_of_gt h1)
  have e2 : (j.length == 0) = false := beq_false_of_ne (Nat.ne_of_gt h2)
  refine P.add_str ?_
  rw [e1, e2, if_neg Bool.false_ne_true, if_neg Bool.false_ne_true]
  have fin : 0 < (s2.toks + 1) ∧ EP X pins σ Q (.str (i ++ j) s2.toks) { s2 with toks := s2.toks + 1 } := ⟨Nat.succ_pos _, .str _, H2, I2.tok _, ⟨_, rfl⟩, q⟩
  refine ⟨?_, fin⟩
  rw [Str.length_append]
  exact hz
theorem pa_consT (he : PEt X e te) (h' : PE1 X e' te') (hr : PA X es t) (hs : starEach (e :: e' :: es) X.env = (false, eval e X.env) :: (false, eval e' X.env) :: starEach es X.env := by rfl) :
    PA X (e :: e' :: es) (tCons te (tCons te' t)) := by
  intro pos pins s σ H Q I h
  rw [hs]
  show wpAny _ _ (spliced ((false, eval e X.env) :: (false, eval e' X.env) :: backTo pos (starEach es X.env))) _ _ s
  refine Calls.spliced_cons (thn (he pins s σ H _ I h) fun u s1 ⟨ht, x, H1, I1, r1, q1⟩ => ?_)
  refine Calls.spliced_cons (thn (h' pins s1 σ H1 _ I1 ht q1) fun u' s2 ⟨_, x', H2, I2, r2, q2⟩ => ?_)
  exact thn (hr pos pins s2 σ H2 _ I2 q2) fun us s3 ⟨xs, H3, I3, r3, q3⟩ => ⟨x :: x' :: xs, H3, I3, .cons r1 (.cons r2 r3), q3⟩
def rFind : V → List V → Hp → VK → Prop := fun x vs H Q => ∃ z y, x = .str z ∧ vs = [.str y] ∧ Q (.int (Txt.find z y)) H
theorem mt_find : MtM X "str.find" rFind := by
  intro pins s σ H x vs v us Q I rx rv h
  obtain ⟨z, y, rfl, rfl, q⟩ := h
  obtain ⟨t, rfl⟩ := rx
  obtain ⟨u, rfl, ru⟩ := rv.one
  obtain ⟨tu, rfl⟩ := ru
  exact SC.find ⟨.int _, H, I.tok _, ⟨_, rfl⟩, q⟩
theorem find_yes {a b : Str} (h : freeC 32 a) : Txt.find (a ++ " " ++ b) " " = (a.length : Int) := by
  rw [blank_eq]
  have hl := one_l 32 a b
  unfold Txt.find
  generalize hx : a ++ ⟨#[32]⟩ ++ b = x at *
  have lx : a.length < x.length := by
    have := congrArg List.length hl
    rw [List.length_append, List.length_cons] at this
    have e1 : x.length = x.cps.toList.length := rfl
    have e2 : a.length = a.cps.toList.length := rfl
    omega
  have at1 : x.cps.toList[a.length]? = some 32 := by
    rw [hl]
    show (a.cps.toList ++ 32 :: b.cps.toList)[a.cps.toList.length]? = some 32
    rw [List.getElem?_append_right (Nat.le_refl _), Nat.sub_self]
    rfl
  rcases StrLaws.occ_head x ⟨#[32]⟩ 1 (Nat.le_refl 1) with ⟨_, h2⟩ | ⟨i, r, h1, h2, h3⟩
  · exact absurd (show StrLaws.At x ⟨#[32]⟩ x.length a.length from (StrLaws.subAt_one x 32 _).mpr at1) (h2 a.length)
  · rw [h1]
    show ((i : Nat) : Int) = _
    have n1 : ¬ a.length < i := fun z => h3 _ z ((StrLaws.subAt_one x 32 _).mpr at1)
    have n2 : ¬ i < a.length := fun z => by
      have := (StrLaws.subAt_one x 32 i).mp h2
      rw [hl, List.getElem?_append_left z] at this
      exact h (List.mem_of_getElem? this)
    omega
theorem up_let : ∀ c ∈ LET.cps.toList, Unicode.upperOf c = [c - 32] := by decide +kernel
theorem upper_chs {z : Str} (h : markS z = true) : (Txt.upper z).cps.toList = z.cps.toList.map (· - 32) := by
  have hl : ∀ c ∈ z.cps.toList, c ∈ LET.cps.toList := fun c hc => letC_iff.mp ((mark_all h).2.2 c hc)
  show ((z.cps.mapIdx fun i c => (Unicode.upperOf c).toArray).flatten).toList = _
  have e : z.cps.mapIdx (fun i c => (Unicode.upperOf c).toArray) = z.cps.map fun c => #[c - 32] := by
    apply Array.ext
    · simp
    · intro i h1 h2
      simp only [Array.getElem_mapIdx, Array.getElem_map]
      rw [up_let _ (hl _ (Array.getElem_mem_toList ..))]
  rw [e]
  simp only [Array.toList_flatten, Array.toList_map, List.map_map]
  generalize z.cps.toList = l
  induction l with
  | nil => rfl
  | cons x r ih =>
    rw [List.map_cons, List.flatten_cons, ih]
    rfl
def rUpper : V → List V → Hp → VK → Prop := fun x vs H Q => ∃ z, x = .str z ∧ vs = [] ∧ markS z = true ∧ Q (.str (Txt.upper z)) H
theorem mt_upper : MtM X "str.upper" rUpper := by
  intro pins s σ H x vs v us Q I rx rv h
  obtain ⟨z, rfl, rfl, hm, q⟩ := h
  obtain ⟨t, rfl⟩ := rx
  cases rv
  have l : (Txt.upper z).length = z.length := by
    have := congrArg List.length (upper_chs hm)
    rw [List.length_map] at this
    simpa [Str.length] using this
  have := (mark_all hm).2.1
  exact SC.upper (by rw [l]; exact decide_eq_false (show ¬ z.length > 2 ^ 24 by omega)) ⟨.str _, H, I.tok _, ⟨_, rfl⟩, q⟩
end
end L2
namespace L2
open PySem PySem.Spec PyProof.Rows
section
variable {X : Cx}
end
end L2
namespace L2
open PySem PySem.Spec PyProof.Rows
theorem rsize3_all {j c : Int} {i : Nat} (hc : 1 ≤ c) (h : (i : Int) * c < j) : (i : Int) < Builtin.Range.rangeSize 0 j c := by
  have h0 : 0 ≤ (i : Int) * c := Int.mul_nonneg (by omega) (by omega)
  rw [rangeSize_pos hc (by omega)]
  have : (i : Int) + 1 ≤ (j + c - 1) / c := by
    rw [Int.le_ediv_iff_mul_le (by omega), Int.add_mul, Int.one_mul]
    omega
  omega
section
variable {X : Cx} {tg : Expr}
def iRng3e (ta : TA) : TI := fun σ H R => ta σ H fun vs H1 => ∃ j c : Int, vs = [.int 0, .int j, .int c] ∧ (-1000 ≤ j ∧ j ≤ 1000 ∧ 1 ≤ c ∧ c ≤ 1000) ∧ ∀ n : Nat, (∀ i : Nat, i < n ↔ (i : Int) * c < j) → R (Itr3 0 c n) H1
theorem pi_range3e {a b d : Expr} {ta : TA} {p pos : Pos} (hg : Gl X "range") (hm : X.mg "range" = none) (ha : PA X [a, b, d] ta) (hs : starEach [a, b, d] X.env = [(false, eval a X.env), (false, eval b X.env), (false, eval d X.env)] := by rfl) (hs2 : starEach [b, d] X.env = [(false, eval b X.env), (false, eval d X.env)] := by rfl) (hs3 : starEach [d] X.env = [(false, eval d X.env)] := by rfl) :
    PI X tg (.Call (.Name "range" p) [a, b, d] [] pos) (iRng3e ta) := by
  intro pins s σ H R I h
  refine Call_ (ld_blt I hg hm boot_range (PyProof.Rows.callWith_type1 (thn (ha pos pins s σ H _ I h) fun us s1 ⟨vs, H1, I1, r1, q1⟩ => ?_) (by rw [hs, hs2]) (by rw [hs2]; rfl)))
  obtain ⟨j, c, e, ⟨q1, q2, q3, q4⟩, q⟩ := q1
  subst e
  cases r1 with
  | cons r rr =>
    cases rr with
    | cons r' rr =>
      cases rr with
      | cons r'' rr =>
        cases rr
        obtain ⟨t, rfl⟩ := r
        obtain ⟨t', rfl⟩ := r'
        obtain ⟨t'', rfl⟩ := r''
        obtain ⟨h3, h4, h5⟩ := rsize3 (j := j) q3
        have I1' := I1.kept (t' := s1.toks) (fun b o e => Heap.get?_push_of_some { cls := .type "range", data := .fields #[.int 0 t, .int j t', .int c t''] } e)
        refine call_range_3 (by omega) ?_ (.inl (PyProof.noPylong_small (by omega)))
        refine wpAny_pyIter_range (IsRange.new ..) (small3 q1 q2 q3 q4) ?_
        refine ⟨_, [_], _, _, H1, rfl, I1'.kept (t' := s1.toks) fun b o e => Heap.get?_push_of_some _ e, turn_range3 _ 0 c (Builtin.Range.rangeSize 0 j c).toNat, ?_, fun b hb => ?_, q _ fun i => ⟨fun hi => h5 i (by omega), fun hi => by have := rsize3_all q3 hi; omega⟩⟩
        · have e1 : (0 : Int) + ((0 : Nat) : Int) * c = 0 := by simp
          have e2 : (((Builtin.Range.rangeSize 0 j c).toNat : Nat) : Int) - ((0 : Nat) : Int) = Builtin.Range.rangeSize 0 j c := by omega
          show IsRangeIter _ _ ((0 : Int) + ((0 : Nat) : Int) * c) ((((Builtin.Range.rangeSize 0 j c).toNat : Nat) : Int) - ((0 : Nat) : Int)) c
          rw [e1, e2]
          exact Heap.get?_push_size _ rfl
        · have e := List.mem_singleton.mp hb
          subst e
          exact I1'.fpOk (Nat.le_refl _) (I1'.hok.fresh (Nat.le_refl _))
end
theorem comp_range3 {lo c : Int} {n : Nat} {x0 : Str} {ix : List Nat} {ti : TT} {te : TE} {Q : VK} {σ : St} {H : Hp} (Pv : Nat → List V → Hp → Prop) (h0 : Pv 0 [] H)
    (hs : ∀ i ys H (R : List V → Hp → Prop), i < n → Pv i ys H → (∀ ys' H', Pv (i + 1) ys' H' → R ys' H') → ti (some (.int (lo + i * c)) :: ix.map fun j => (σ[j]?).join) H fun b H3 => if b = true then te (some (.int (lo + i * c)) :: ix.map fun j => (σ[j]?).join) H3 fun y H4 => ys.length < sizeLine ∧ R (ys ++ [y]) H4 else R ys H3)
    (hd : ∀ ys H, Pv n ys H → ys.length ≤ sizeLine ∧ ∀ D, H D = none → Q (.ref D) (upd H D (.lst ys))) :
    ∃ W : Nat → Nat → List V → St → Hp → Prop, (∃ m, W 0 m [] (capS σ [x0] ix) H) ∧ ∀ i m ys σ' H, W i m ys σ' H →
      ((Itr3 lo c n).stop i H ∧ ys.length ≤ sizeLine ∧ ∀ D, H D = none → Q (.ref D) (upd H D (.lst ys))) ∨
      ((Itr3 lo c n).go i H ∧ ∀ x H', (Itr3 lo c n).yld i H x H' → gName 0 x σ' H' fun σ2 H2 => ti σ2 H2 fun b H3 => if b = true then te σ2 H3 fun y H4 => ys.length < sizeLine ∧ ∃ m', m' < m ∧ W (i + 1) m' (ys ++ [y]) σ2 H4 else ∃ m', m' < m ∧ W (i + 1) m' ys σ2 H3) := by
  refine ⟨fun i m ys σ' H => m = n - i ∧ i ≤ n ∧ (∃ o, σ' = o :: ix.map fun j => (σ[j]?).join) ∧ Pv i ys H, ⟨n, by simp, Nat.zero_le _, ⟨none, rfl⟩, h0⟩, ?_⟩
  rintro i m ys σ' H ⟨rfl, hi, ⟨o, rfl⟩, p⟩
  by_cases hlt : i < n
  · refine .inr ⟨hlt, fun x H' y => ?_⟩
    obtain ⟨e, y⟩ := y
    subst e y
    exact hs i ys _ (fun ys' H4 => ∃ m', m' < n - i ∧ m' = n - (i + 1) ∧ i + 1 ≤ n ∧ (∃ o', some (V.int (lo + i * c)) :: (ix.map fun j => (σ[j]?).join) = o' :: ix.map fun j => (σ[j]?).join) ∧ Pv (i + 1) ys' H4) hlt p
      fun ys' H4 q => ⟨n - (i + 1), by omega, rfl, hlt, ⟨_, rfl⟩, q⟩
  · have e : i = n := by omega
    subst e
    exact .inl ⟨Nat.le_refl _, hd ys H p⟩
theorem tcomp_range3 {lo c : Int} {n : Nat} {x0 : Str} {ix : List Nat} {wi : TI} {ti : TT} {te : TE} {Q : VK} {σ : St} {H H1 : Hp} (hi : ∀ R : It → Hp → Prop, R (Itr3 lo c n) H1 → wi σ H R) (Pv : Nat → List V → Hp → Prop) (h0 : Pv 0 [] H1)
    (hs : ∀ i ys H (R : List V → Hp → Prop), i < n → Pv i ys H → (∀ ys' H', Pv (i + 1) ys' H' → R ys' H') → ti (some (.int (lo + i * c)) :: ix.map fun j => (σ[j]?).join) H fun b H3 => if b = true then te (some (.int (lo + i * c)) :: ix.map fun j => (σ[j]?).join) H3 fun y H4 => ys.length < sizeLine ∧ R (ys ++ [y]) H4 else R ys H3)
    (hd : ∀ ys H, Pv n ys H → ys.length ≤ sizeLine ∧ ∀ D, H D = none → Q (.ref D) (upd H D (.lst ys))) : tComp [x0] ix wi (gName 0) ti te σ H Q := hi _ (comp_range3 Pv h0 hs hd)
end L2
namespace SH
open PySem PyProof.Rows L2
theorem cut_natV {xs : List V} {a s : Nat} : cutV xs (some (a : Int)) (some ((a : Int) + (s : Int))) = (xs.drop a).take s := by
  have e : ((a : Int) + (s : Int)) = ((a + s : Nat) : Int) := by omega
  unfold cutV
  rw [e, HT.sIx_nat, HT.sIx_nat]
  by_cases h : a ≤ xs.length
  · rw [show min a xs.length = a by omega]
    rcases Nat.le_total (a + s) xs.length with h1 | h1
    · rw [show min (a + s) xs.length - a = s by omega]
    · rw [show min (a + s) xs.length - a = xs.length - a by omega, List.take_of_length_le (by rw [List.length_drop]; omega), List.take_of_length_le (by rw [List.length_drop]; omega)]
  · rw [List.drop_eq_nil_of_le (by omega), List.drop_eq_nil_of_le (by omega), List.take_nil, List.take_nil]
theorem cut_nat {ps : List Int} {a s : Nat} : cutV (ps.map V.int) (some (a : Int)) (some ((a : Int) + (s : Int))) = ((ps.drop a).take s).map V.int := by
  rw [cut_natV, List.map_take, List.map_drop]
end SH
namespace SH
open PySem PyProof.Rows L2
abbrev lt (c : Nat) : Prop := 97 ≤ c ∧ c ≤ 122
theorem letC_lt {c : Nat} (h : letC c = true) : lt c := of_decide_eq_true (List.all_eq_true.mp (show LET.cps.toList.all (fun c => decide (lt c)) = true by decide +kernel) c (letC_iff.mp h))
def sok (p c : Nat) : Prop := (lt c ∧ (lt p ∨ p = 32 ∨ p = 40 ∨ p = 44)) ∨ (c = 32 ∧ (lt p ∨ p = 47 ∨ p = 45)) ∨ ((c = 47 ∨ c = 45) ∧ p = 32) ∨ (c = 40 ∧ lt p) ∨ ((c = 41 ∨ c = 44) ∧ (lt p ∨ p = 41))
def acc : Nat → Nat → Bool → List Nat → Prop
  | _, _, _, [] => True
  | p, n, f, c :: l => sok p c ∧ (lt c → n < 8) ∧ (c = 47 → f = false) ∧ acc c (if lt c then n + 1 else 0) (if c = 47 then true else if c = 32 then f else false) l
def stP : Nat → List Nat → Nat
  | p, [] => p
  | _, c :: l => stP c l
def endOk (p : Nat) : Prop := lt p ∨ p = 45 ∨ p = 41
theorem stP_app : ∀ (x y : List Nat) (p : Nat), stP p (x ++ y) = stP (stP p x) y
  | [], _, _ => rfl
  | c :: x, y, _ => stP_app x y c
theorem acc_app : ∀ {x y : List Nat} {p n : Nat} {f : Bool}, acc p n f (x ++ y) → acc p n f x ∧ ∃ n' f', acc (stP p x) n' f' y
  | [], _, _, _, _, h => ⟨trivial, _, _, h⟩
  | c :: x, y, p, n, f, h => by
    obtain ⟨h1, h2, h3, h4⟩ := h
    obtain ⟨i1, i2⟩ := acc_app h4
    exact ⟨⟨h1, h2, h3, i1⟩, i2⟩
theorem acc_back {x y : List Nat} {p n : Nat} {f : Bool} (h : acc p n f (x ++ y)) : ∃ n' f', acc (stP p x) n' f' y := (acc_app h).2
theorem acc_mem : ∀ {l : List Nat} {p n : Nat} {f : Bool}, acc p n f l → ∀ c ∈ l, lt c ∨ c = 32 ∨ c = 47 ∨ c = 45 ∨ c = 40 ∨ c = 41 ∨ c = 44
  | c :: l, p, n, f, h, d, hd => by
    obtain ⟨h1, _, _, h4⟩ := h
    rcases List.mem_cons.mp hd with rfl | hd
    · unfold sok at h1
      omega
    · exact acc_mem h4 d hd
theorem acc_two {x y : List Nat} {a b p n : Nat} {f : Bool} (h : acc p n f (x ++ a :: b :: y)) : sok a b := by
  obtain ⟨_, _, h1⟩ := acc_back h
  exact h1.2.2.2.1
theorem acc_one {x y : List Nat} {b p n : Nat} {f : Bool} (h : acc p n f (x ++ b :: y)) : sok (stP p x) b := by
  obtain ⟨_, _, h1⟩ := acc_back h
  exact h1.1
theorem acc_slash {x y : List Nat} {p n : Nat} {f : Bool} (h : acc p n f (x ++ 47 :: 32 :: 47 :: y)) : False := by
  obtain ⟨_, _, h1⟩ := acc_back h
  have := h1.2.2.2.2.2.2.2.2.1 rfl
  simp at this
theorem acc_run : ∀ {m y : List Nat} {p n : Nat} {f : Bool}, acc p n f (m ++ y) → (∀ c ∈ m, lt c) → m ≠ [] → n + m.length ≤ 8
  | [c], y, p, n, f, h, hm, _ => by
    have := h.2.1 (hm c List.mem_cons_self)
    show n + 1 ≤ 8
    omega
  | c :: d :: m, y, p, n, f, h, hm, _ => by
    have h4 := h.2.2.2
    rw [if_pos (hm c List.mem_cons_self)] at h4
    have := acc_run (m := d :: m) h4 (fun e he => hm e (List.mem_cons_of_mem _ he)) (List.cons_ne_nil _ _)
    show n + ((d :: m).length + 1) ≤ 8
    omega
theorem acc_nine {x m y : List Nat} {p n : Nat} {f : Bool} (h : acc p n f (x ++ (m ++ y))) (hm : ∀ c ∈ m, lt c) (h9 : 9 ≤ m.length) : False := by
  obtain ⟨n', f', h1⟩ := acc_back h
  have := acc_run h1 hm (fun e => by rw [e] at h9; exact absurd h9 (by decide))
  omega
theorem acc_dash {x y : List Nat} {f : Bool} (h0 : acc 32 0 f (x ++ y)) (he : endOk (stP 32 (x ++ y))) (h : acc 32 0 f (x ++ 45 :: y)) : False := by
  obtain ⟨_, _, h1⟩ := acc_back h
  have p32 : stP 32 x = 32 := by
    have := h1.1
    unfold sok lt at this
    omega
  cases y with
  | nil =>
    rw [List.append_nil, p32] at he
    unfold endOk lt at he
    omega
  | cons c y =>
    have hc := h1.2.2.2.1
    have := acc_one h0
    rw [p32] at this
    unfold sok lt at this hc
    omega
theorem acc_mark : ∀ {m t : List Nat} {p n : Nat} {f : Bool}, (∀ c ∈ m, lt c) → m ≠ [] → n + m.length ≤ 8 → (lt p ∨ p = 32 ∨ p = 40 ∨ p = 44) → (∀ p' n', lt p' → acc p' n' false t) → acc p n f (m ++ t)
  | [], _, _, _, _, _, h, _, _, _ => absurd rfl h
  | c :: m, t, p, n, f, hm, _, hl, hp, ht => by
    have hc := hm c List.mem_cons_self
    have hc' : 97 ≤ c ∧ c ≤ 122 := hc
    have l1 : n + (m.length + 1) ≤ 8 := hl
    refine ⟨.inl ⟨hc, hp⟩, fun _ => by omega, fun e => absurd e (by omega), ?_⟩
    rw [if_pos hc, if_neg (by omega), if_neg (by omega)]
    cases m with
    | nil => exact ht c _ hc
    | cons d m => exact acc_mark (fun e he => hm e (List.mem_cons_of_mem _ he)) (List.cons_ne_nil _ _) (by show n + 1 + (m.length + 1) ≤ 8; rw [List.length_cons] at l1; omega) (.inl hc) ht
theorem stP_mark : ∀ {m : List Nat} {p : Nat}, (∀ c ∈ m, lt c) → m ≠ [] → lt (stP p m)
  | [], _, _, h => absurd rfl h
  | [c], _, h, _ => h c List.mem_cons_self
  | c :: d :: m, _, h, _ => stP_mark (m := d :: m) (p := c) (fun e he => h e (List.mem_cons_of_mem _ he)) (List.cons_ne_nil _ _)
theorem mark_lt {z : Str} (h : markS z = true) : (∀ c ∈ z.cps.toList, lt c) ∧ z.cps.toList ≠ [] ∧ z.cps.toList.length ≤ 8 :=
  ⟨fun c hc => letC_lt ((mark_all h).2.2 c hc), fun e => by have h1 := (mark_all h).1; have l0 : z.length = z.cps.toList.length := rfl; rw [l0, e] at h1; exact absurd h1 (by decide), (mark_all h).2.1⟩
def tailW (ws : List Str) : List Nat := ws.flatMap fun v => 32 :: v.cps.toList
theorem join_signs : ∀ (w : Str) (ws : List Str), (Str.join " " (w :: ws)).cps.toList = w.cps.toList ++ tailW ws
  | w, [] => by rw [show tailW [] = [] from rfl, List.append_nil]; rfl
  | w, v :: ws => by
    show (w ++ " " ++ Str.join " " (v :: ws)).cps.toList = _
    rw [blank_eq, one_l, ← blank_eq, join_signs v ws]
    rfl
def wsOk : Bool → List Str → Prop
  | f, [] => f = false
  | f, w :: r => ((markS w = true ∨ w = "-") ∧ wsOk false r) ∨ (w = "/" ∧ f = false ∧ wsOk true r)
theorem dash_l : (Str.ofString "-").cps.toList = [45] := by decide +kernel
theorem slash_l : (Str.ofString "/").cps.toList = [47] := by decide +kernel
theorem words_acc : ∀ (r : List Str) (w : Str) (f : Bool), wsOk f (w :: r) → acc 32 0 f (w.cps.toList ++ tailW r) ∧ endOk (stP 32 (w.cps.toList ++ tailW r)) := fun r => by
  induction r with
  | nil =>
    intro w f h
    rw [show tailW [] = [] from rfl, List.append_nil]
    rcases h with ⟨h | h, _⟩ | ⟨_, _, h⟩
    · have q := mark_lt h
      have := acc_mark (t := []) (p := 32) (n := 0) (f := f) q.1 q.2.1 (by have := q.2.2; omega) (.inr (.inl rfl)) fun _ _ _ => trivial
      rw [List.append_nil] at this
      exact ⟨this, .inl (stP_mark q.1 q.2.1)⟩
    · subst h
      rw [dash_l]
      exact ⟨⟨.inr (.inr (.inl ⟨.inr rfl, rfl⟩)), fun h => absurd h.1 (by decide), fun h => absurd h (by decide), trivial⟩, .inr (.inl rfl)⟩
    · exact nomatch (show true = false from h)
  | cons v r ih =>
    intro w f h
    show acc 32 0 f (w.cps.toList ++ (32 :: v.cps.toList ++ tailW r)) ∧ endOk (stP 32 (w.cps.toList ++ (32 :: v.cps.toList ++ tailW r)))
    rw [stP_app]
    rcases h with ⟨h, h2⟩ | ⟨rfl, rfl, h⟩
    · have i := ih v false h2
      refine ⟨?_, i.2⟩
      have go : ∀ p' n', (lt p' ∨ p' = 45) → acc p' n' false (32 :: v.cps.toList ++ tailW r) := fun p' n' hp => by
        refine ⟨.inr (.inl ⟨rfl, hp.elim .inl fun e => .inr (.inr e)⟩), fun h => absurd h.1 (by decide), fun h => absurd h (by decide), ?_⟩
        rw [if_neg (fun h : lt 32 => absurd h.1 (by decide)), if_neg (by decide), if_pos rfl]
        exact i.1
      rcases h with h | rfl
      · have q := mark_lt h
        exact acc_mark q.1 q.2.1 (by have := q.2.2; omega) (.inr (.inl rfl)) fun p' n' hp => go p' n' (.inl hp)
      · rw [dash_l]
        refine ⟨.inr (.inr (.inl ⟨.inr rfl, rfl⟩)), fun h => absurd h.1 (by decide), fun h => absurd h (by decide), ?_⟩
        rw [if_neg (fun h : lt 45 => absurd h.1 (by decide)), if_neg (by decide), if_neg (by decide)]
        exact go 45 0 (.inr rfl)
    · have i := ih v true h
      refine ⟨?_, i.2⟩
      rw [slash_l]
      refine ⟨.inr (.inr (.inl ⟨.inl rfl, rfl⟩)), fun h => absurd h.1 (by decide), fun _ => rfl, ?_⟩
      rw [if_neg (fun h : lt 47 => absurd h.1 (by decide)), if_pos rfl]
      refine ⟨.inr (.inl ⟨rfl, .inr (.inl rfl)⟩), fun h => absurd h.1 (by decide), fun h => absurd h (by decide), ?_⟩
      rw [if_neg (fun h : lt 32 => absurd h.1 (by decide)), if_neg (by decide), if_pos rfl]
      exact i.1
theorem marks_ws : ∀ {ws : List Str} {f : Bool}, (∀ z ∈ ws, markS z = true) → (ws = [] → f = false) → wsOk f ws
  | [], f, _, h => h rfl
  | w :: r, f, hm, _ => .inl ⟨.inl (hm w List.mem_cons_self), marks_ws (fun z hz => hm z (List.mem_cons_of_mem _ hz)) fun _ => rfl⟩
theorem ws_line : ∀ {l : List Str} {f : Bool} {r : List Str}, (∀ z ∈ l, markS z = true) → wsOk false r → l ≠ [] → wsOk f (l ++ r)
  | [], _, _, _, _, h => absurd rfl h
  | [w], f, r, hm, hr, _ => .inl ⟨.inl (hm w List.mem_cons_self), hr⟩
  | w :: v :: l, f, r, hm, hr, _ => .inl ⟨.inl (hm w List.mem_cons_self), ws_line (l := v :: l) (fun z hz => hm z (List.mem_cons_of_mem _ hz)) hr (List.cons_ne_nil _ _)⟩
theorem ws_wordsL {l : List Str} {f : Bool} {r : List Str} (hm : ∀ z ∈ l, markS z = true) (hr : wsOk false r) : wsOk f (wordsL l ++ r) := by
  cases l with
  | nil => exact .inl ⟨.inr rfl, hr⟩
  | cons w l => exact ws_line (l := w :: l) hm hr (List.cons_ne_nil _ _)
theorem lines_ws : ∀ {ls : List (List Str)} {f : Bool}, (∀ l ∈ ls, ∀ z ∈ l, markS z = true) → ls ≠ [] → wsOk f (wordsT ls)
  | [], _, _, h => absurd rfl h
  | [l], f, hm, _ => by
    have := ws_wordsL (f := f) (r := []) (hm l List.mem_cons_self) rfl
    rw [List.append_nil] at this
    exact this
  | l :: x :: r, f, hm, _ => by
    rw [wordsT_cons l (List.cons_ne_nil x r)]
    exact ws_wordsL (hm l List.mem_cons_self) (.inr ⟨rfl, rfl, lines_ws (ls := x :: r) (fun y hy => hm y (List.mem_cons_of_mem _ hy)) (List.cons_ne_nil _ _)⟩)
theorem cnt_mark {m : List Nat} {d : Nat} (h : ∀ c ∈ m, lt c) (hd : ¬ lt d) : m.count d = 0 := List.count_eq_zero.mpr fun e => hd (h d e)
theorem tailW_app (a b : List Str) : tailW (a ++ b) = tailW a ++ tailW b := List.flatMap_append
theorem tailW_cons (w : Str) (r : List Str) : tailW (w :: r) = 32 :: (w.cps.toList ++ tailW r) := rfl
theorem marks_cnt : ∀ {ws : List Str}, (∀ z ∈ ws, markS z = true) → (tailW ws).count 32 = ws.length ∧ (tailW ws).count 47 = 0 ∧ (tailW ws).count 45 = 0
  | [], _ => ⟨rfl, rfl, rfl⟩
  | w :: r, h => by
    have q := (mark_lt (h w List.mem_cons_self)).1
    obtain ⟨i1, i2, i3⟩ := marks_cnt fun z hz => h z (List.mem_cons_of_mem _ hz)
    rw [tailW_cons]
    simp only [List.count_cons, List.count_append, cnt_mark q (show ¬ lt 32 from fun h => absurd h.1 (by decide)), cnt_mark q (show ¬ lt 47 from fun h => absurd h.1 (by decide)), cnt_mark q (show ¬ lt 45 from fun h => absurd h.1 (by decide)), i1, i2, i3, List.length_cons]
    simp
theorem line_cnt {l : List Str} (h : ∀ z ∈ l, markS z = true) : (tailW (wordsL l)).count 32 = max 1 l.length ∧ (tailW (wordsL l)).count 47 = 0 ∧ (tailW (wordsL l)).count 45 = 1 - l.length := by
  cases l with
  | nil => decide +kernel
  | cons w r =>
    obtain ⟨i1, i2, i3⟩ := marks_cnt h
    refine ⟨i1.trans ?_, i2, i3.trans ?_⟩
    · rw [List.length_cons]
      omega
    · rw [List.length_cons]
      omega
theorem table_cnt {w : Nat} : ∀ {ls : List (List Str)}, ls ≠ [] → (∀ l ∈ ls, ∀ z ∈ l, markS z = true) → (∀ l ∈ ls, l.length = w) → (tailW (wordsT ls)).count 32 + 1 = ls.length * (max 1 w + 1) ∧ (tailW (wordsT ls)).count 47 + 1 = ls.length ∧ (tailW (wordsT ls)).count 45 = ls.length * (1 - w)
  | [], h, _, _ => absurd rfl h
  | [l], _, hm, hw => by
    obtain ⟨i1, i2, i3⟩ := line_cnt (hm l List.mem_cons_self)
    rw [hw l List.mem_cons_self] at i1 i3
    show (tailW (wordsL l)).count 32 + 1 = 1 * _ ∧ (tailW (wordsL l)).count 47 + 1 = 1 ∧ (tailW (wordsL l)).count 45 = 1 * _
    omega
  | l :: x :: r, _, hm, hw => by
    obtain ⟨i1, i2, i3⟩ := line_cnt (hm l List.mem_cons_self)
    rw [hw l List.mem_cons_self] at i1 i3
    obtain ⟨j1, j2, j3⟩ := table_cnt (ls := x :: r) (List.cons_ne_nil _ _) (fun y hy => hm y (List.mem_cons_of_mem _ hy)) (fun y hy => hw y (List.mem_cons_of_mem _ hy))
    rw [wordsT_cons l (List.cons_ne_nil x r), tailW_app, tailW_cons, slash_l, show (l :: x :: r).length = (x :: r).length + 1 from rfl, Nat.add_mul, Nat.add_mul]
    generalize (x :: r).length = L at j1 j2 j3 ⊢
    simp only [List.count_append, List.count_cons, List.count_nil]
    simp
    omega
theorem closes_cnt (k : Nat) : (closes k).count 40 = 0 ∧ (closes k).count 41 = k ∧ (closes k).count 44 = 0 ∧ (closes k).count 32 = 0 := by
  unfold closes
  simp only [List.count_replicate]
  exact ⟨rfl, rfl, rfl, rfl⟩
def mkL (r : List (List Nat × Nat)) : Prop := ∀ n ∈ r, (∀ c ∈ n.1, lt c) ∧ n.1 ≠ [] ∧ n.1.length ≤ 8
theorem rest_cnt : ∀ (r : List (List Nat × Nat)) (d : Nat), okF d r → mkL r → (restF d r).count 40 + d = (restF d r).count 41 ∧ (restF d r).count 40 + (restF d r).count 44 = r.length ∧ (restF d r).count 32 = 0
  | [], d, _, _ => by
    obtain ⟨h1, h2, h3, h4⟩ := closes_cnt d
    show (closes d).count 40 + d = (closes d).count 41 ∧ (closes d).count 40 + (closes d).count 44 = 0 ∧ (closes d).count 32 = 0
    omega
  | (m, e) :: r, d, h, hm => by
    obtain ⟨h1, _, _, h4⟩ := h
    have q := (hm (m, e) List.mem_cons_self).1
    obtain ⟨i1, i2, i3⟩ := rest_cnt r e h4 fun n hn => hm n (List.mem_cons_of_mem _ hn)
    obtain ⟨k1, k2, k3, k4⟩ := closes_cnt (d - e)
    have n1 := cnt_mark q (show ¬ lt 40 from fun h => absurd h.1 (by decide))
    have n2 := cnt_mark q (show ¬ lt 41 from fun h => absurd h.1 (by decide))
    have n3 := cnt_mark q (show ¬ lt 44 from fun h => absurd h.1 (by decide))
    have n4 := cnt_mark q (show ¬ lt 32 from fun h => absurd h.1 (by decide))
    unfold restF
    rw [List.length_cons]
    split
    · simp only [List.count_append, n1, n2, n3, n4, List.count_cons, List.count_nil]
      simp
      omega
    · simp only [List.count_append, n1, n2, n3, n4, k1, k2, k3, k4, List.count_cons, List.count_nil]
      simp
      omega
theorem rest_deep : ∀ (r : List (List Nat × Nat)) (d : Nat), okF d r → (∀ n ∈ r, n.2 ≤ 12) → (restF d r).count 44 = 0 → d ≤ 12 → d + r.length ≤ 12
  | [], d, _, _, _, h => h
  | (m, e) :: r, d, h, hd, hc, h12 => by
    obtain ⟨h1, _, _, h4⟩ := h
    have he : e ≤ 12 := hd (m, e) List.mem_cons_self
    unfold restF at hc
    rw [List.length_cons]
    split at hc
    · rw [List.count_append, List.count_append] at hc
      have := rest_deep r e h4 (fun n hn => hd n (List.mem_cons_of_mem _ hn)) (by omega) he
      omega
    · rw [List.count_append, List.count_append, List.count_append, List.count_cons, List.count_nil] at hc
      simp at hc
theorem acc_closes : ∀ (k : Nat) {p n : Nat} {f : Bool} {t : List Nat}, (lt p ∨ p = 41) → (∀ p' n' f', (lt p' ∨ p' = 41) → acc p' n' f' t) → acc p n f (closes k ++ t)
  | 0, p, n, f, t, hp, ht => ht p n f hp
  | k + 1, p, n, f, t, hp, ht => by
    show acc p n f (41 :: (closes k ++ t))
    refine ⟨.inr (.inr (.inr (.inr ⟨.inl rfl, hp⟩))), fun h => absurd h.1 (by decide), fun h => absurd h (by decide), ?_⟩
    exact acc_closes k (.inr rfl) ht
theorem stP_closes : ∀ (k : Nat) {p : Nat}, (lt p ∨ p = 41) → lt (stP p (closes k)) ∨ stP p (closes k) = 41
  | 0, _, h => h
  | k + 1, p, _ => stP_closes k (p := 41) (.inr rfl)
theorem rest_acc : ∀ (r : List (List Nat × Nat)) (d p n : Nat), mkL r → lt p → acc p n false (restF d r) ∧ endOk (stP p (restF d r))
  | [], d, p, n, _, hp => by
    have := acc_closes d (p := p) (n := n) (f := false) (t := []) (.inl hp) fun _ _ _ _ => trivial
    rw [List.append_nil] at this
    exact ⟨this, (stP_closes d (.inl hp)).elim .inl fun e => .inr (.inr e)⟩
  | (m, e) :: r, d, p, n, hm, hp => by
    obtain ⟨q1, q2, q3⟩ := hm (m, e) List.mem_cons_self
    have ih := fun p n => rest_acc r e p n fun n hn => hm n (List.mem_cons_of_mem _ hn)
    have q3' : m.length ≤ 8 := q3
    unfold restF
    constructor
    · rw [List.append_assoc]
      split
      · show acc p n false (40 :: (m ++ restF e r))
        refine ⟨.inr (.inr (.inr (.inl ⟨rfl, hp⟩))), fun h => absurd h.1 (by decide), fun h => absurd h (by decide), ?_⟩
        rw [if_neg (fun h : lt 40 => absurd h.1 (by decide))]
        exact acc_mark q1 q2 (by omega) (.inr (.inr (.inl rfl))) fun p' n' h => (ih p' n' h).1
      · rw [List.append_assoc]
        refine acc_closes _ (.inl hp) fun p' n' f' hp' => ?_
        show acc p' n' f' (44 :: (m ++ restF e r))
        refine ⟨.inr (.inr (.inr (.inr ⟨.inr rfl, hp'⟩))), fun h => absurd h.1 (by decide), fun h => absurd h (by decide), ?_⟩
        rw [if_neg (fun h : lt 44 => absurd h.1 (by decide))]
        exact acc_mark q1 q2 (by omega) (.inr (.inr (.inr rfl))) fun p' n' h => (ih p' n' h).1
    · rw [stP_app, stP_app]
      exact (ih _ 0 (stP_mark q1 q2)).2
end SH
namespace K36
open PySem L2 SH
local macro_rules | `(tactic| and_intros) => `(tactic| simp only [rExtend, rSetL, gSub, iRng3, tSeq, tNext, tRet, tRetN, tAsg, tIfS, tDrop, tVar, tC, tOp, tUn, rI0, rI, rU, rEq, rNe, tTest, tB, tCB, tCons, tNil, tLst, tTup, tSl, tNoPart, tPart, rSlS, rSlL, rIxL, rIxT, rIxS, tCall, tMeth, tMake, tAnd, tOr, tNot, tAndV, tOrV, tNotV, tIf, tChain, gName, tFld, sFld, tBM, tBM0, rAppend, rInsert, tRaise, tNever, CDiv, CMul, L2.start, scal_ii, scal_ss, scal_bb, cxOf, cxOfN, Cx.suite, Cx.comp, rLenL, rLenT, rListL, rListT, rTupL, rTupT, rIsiT, iRng1, iRng2, iList, iTup, iStr, gTup, gCons, gNil, iEnumT, tDIn, rDictP, rRange1, rRange2, rListR, rJoin, rSplit, rPartition, tAug, ipI, ipS, rMulS, tRepl, rUpper, rFind, rAddS, tTryR, exTryR, tCallX, iListK, iRng3e, List.set_cons_zero, List.set_cons_succ, List.getElem?_cons_zero, List.getElem?_cons_succ, List.map_cons, List.map_nil, List.length_cons, List.length_nil, List.replicate_succ, List.replicate_zero, Nat.reduceSub, Nat.reduceAdd, List.cons_append, List.nil_append, List.append_nil, V.int.injEq, V.str.injEq, V.bl.injEq, V.ref.injEq, V.ty.injEq, Option.some.injEq, List.cons.injEq, exists_eq_left', exists_eq_left, exists_eq_right, exists_eq_right', exists_and_left, exists_and_right, and_true, true_and, and_assoc, decide_eq_true_eq, Bool.not_eq_true', decide_eq_false_iff_not, Bool.not_true, Bool.not_false, Bool.false_eq_true, if_false, if_true, eq_self, Bool.not_eq_true, Bool.true_eq_false, reduceCtorEq, false_and, exists_false, exists_const, List.reduceReplicate, Int.reduceLT, Int.reduceLE, Nat.reduceLT, Nat.reduceLeDiff, Int.reduceNeg, List.getElem?_nil, Option.join_some, Option.join_none, List.set_nil, ite_self, not_true_eq_false, not_false_eq_true])
def top (i : Nat) : Stmt := PySem.Challenge.pw_shrinkhouse_k36_no_things_texts.main.body.getD i (.Pass ⟨0, 0, 0, 0⟩)
abbrev s_is_whole : Stmt := top 14
abbrev s_is_mark : Stmt := top 15
abbrev s_check_list : Stmt := top 22
abbrev s_check_marks : Stmt := top 23
abbrev s_check_node : Stmt := top 24
abbrev s_check_nodes : Stmt := top 25
abbrev s_check_lines : Stmt := top 26
abbrev s_Thing_init : Stmt := inClass (top 27) 0
abbrev s_Row_init : Stmt := inClass (top 28) 0
abbrev s_Row_form : Stmt := inClass (top 28) 3
abbrev s_Forest_init : Stmt := inClass (top 29) 0
abbrev s_Forest_form : Stmt := inClass (top 29) 3
abbrev s_Table_init : Stmt := inClass (top 30) 0
abbrev s_Table_form : Stmt := inClass (top 30) 3
abbrev s_show_line : Stmt := top 32
abbrev s_signs_between : Stmt := top 33
abbrev s_show_nodes : Stmt := top 34
abbrev s_show_thing : Stmt := top 35
abbrev s_nodes_in : Stmt := top 36
abbrev s_lines_in : Stmt := top 37
abbrev s_marks_in : Stmt := top 38
abbrev s_made_of : Stmt := top 39
abbrev s_read_thing : Stmt := top 40
abbrev s__law_cell_at : Stmt := top 42
abbrev s__law_how_many : Stmt := top 44
abbrev s__law_marks : Stmt := top 45
abbrev s__law_pick : Stmt := top 46
abbrev s__law_nodes : Stmt := top 47
abbrev s__law_forest_text : Stmt := top 48
abbrev s__law_refused : Stmt := top 49
abbrev s__law_wrong_by_any : Stmt := top 50
abbrev s__law_wrong_table : Stmt := top 51
abbrev s__law_lines_text : Stmt := top 52
abbrev s__law_wrong_forest : Stmt := top 53
abbrev s_law : Stmt := top 54
theorem sc_is_whole : FnScope ["thing"] ["thing"] (defScope s_is_whole) := ⟨rfl, rfl, rfl, by decide +kernel, rfl, by decide +kernel, by decide +kernel⟩
theorem sc_is_mark : FnScope ["thing"] ["thing"] (defScope s_is_mark) := ⟨rfl, rfl, rfl, by decide +kernel, rfl, by decide +kernel, by decide +kernel⟩
theorem sc_check_list : FnScope ["thing", "most"] ["thing", "most"] (defScope s_check_list) := ⟨rfl, rfl, rfl, by decide +kernel, rfl, by decide +kernel, by decide +kernel⟩
theorem sc_check_marks : FnScope ["marks", "most", "mark"] ["marks", "most"] (defScope s_check_marks) := ⟨rfl, rfl, rfl, by decide +kernel, rfl, by decide +kernel, by decide +kernel⟩
theorem sc_check_node : FnScope ["node", "deepest"] ["node", "deepest"] (defScope s_check_node) := ⟨rfl, rfl, rfl, by decide +kernel, rfl, by decide +kernel, by decide +kernel⟩
theorem sc_check_nodes : FnScope ["nodes", "deepest", "node"] ["nodes"] (defScope s_check_nodes) := ⟨rfl, rfl, rfl, by decide +kernel, rfl, by decide +kernel, by decide +kernel⟩
theorem sc_check_lines : FnScope ["lines", "line"] ["lines"] (defScope s_check_lines) := ⟨rfl, rfl, rfl, by decide +kernel, rfl, by decide +kernel, by decide +kernel⟩
theorem sc_Thing_init : FnScope ["self", "spot_marks"] ["self", "spot_marks"] (defScope s_Thing_init) := ⟨rfl, rfl, rfl, by decide +kernel, rfl, by decide +kernel, by decide +kernel⟩
theorem sc_Row_init : FnScope ["self", "marks"] ["self", "marks"] (defScope s_Row_init) := ⟨rfl, rfl, rfl, by decide +kernel, rfl, by decide +kernel, by decide +kernel⟩
theorem sc_Row_form : FnScope ["self"] ["self"] (defScope s_Row_form) := ⟨rfl, rfl, rfl, by decide +kernel, rfl, by decide +kernel, by decide +kernel⟩
theorem sc_Forest_init : FnScope ["self", "nodes"] ["self", "nodes"] (defScope s_Forest_init) := ⟨rfl, rfl, rfl, by decide +kernel, rfl, by decide +kernel, by decide +kernel⟩
theorem sc_Forest_form : FnScope ["self"] ["self"] (defScope s_Forest_form) := ⟨rfl, rfl, rfl, by decide +kernel, rfl, by decide +kernel, by decide +kernel⟩
theorem sc_Table_init : FnScope ["self", "lines", "spot_marks", "line"] ["self", "lines"] (defScope s_Table_init) := ⟨rfl, rfl, rfl, by decide +kernel, rfl, by decide +kernel, by decide +kernel⟩
theorem sc_Table_form : FnScope ["self"] ["self"] (defScope s_Table_form) := ⟨rfl, rfl, rfl, by decide +kernel, rfl, by decide +kernel, by decide +kernel⟩
theorem sc_show_line : FnScope ["line"] ["line"] (defScope s_show_line) := ⟨rfl, rfl, rfl, by decide +kernel, rfl, by decide +kernel, by decide +kernel⟩
theorem sc_signs_between : FnScope ["last", "depth"] ["last", "depth"] (defScope s_signs_between) := ⟨rfl, rfl, rfl, by decide +kernel, rfl, by decide +kernel, by decide +kernel⟩
theorem sc_show_nodes : FnScope ["nodes", "shown", "last", "mark", "depth"] ["nodes"] (defScope s_show_nodes) := ⟨rfl, rfl, rfl, by decide +kernel, rfl, by decide +kernel, by decide +kernel⟩
theorem sc_show_thing : FnScope ["thing", "form", "kind", "inside"] ["thing"] (defScope s_show_thing) := ⟨rfl, rfl, rfl, by decide +kernel, rfl, by decide +kernel, by decide +kernel⟩
theorem sc_nodes_in : FnScope ["text", "nodes", "depth", "word"] ["text"] (defScope s_nodes_in) := ⟨rfl, rfl, rfl, by decide +kernel, rfl, by decide +kernel, by decide +kernel⟩
theorem sc_lines_in : FnScope ["text", "lines", "word"] ["text"] (defScope s_lines_in) := ⟨rfl, rfl, rfl, by decide +kernel, rfl, by decide +kernel, by decide +kernel⟩
theorem sc_marks_in : FnScope ["text"] ["text"] (defScope s_marks_in) := ⟨rfl, rfl, rfl, by decide +kernel, rfl, by decide +kernel, by decide +kernel⟩
theorem sc_made_of : FnScope ["kind", "inside"] ["kind", "inside"] (defScope s_made_of) := ⟨rfl, rfl, rfl, by decide +kernel, rfl, by decide +kernel, by decide +kernel⟩
theorem sc_read_thing : FnScope ["text", "parts", "thing"] ["text"] (defScope s_read_thing) := ⟨rfl, rfl, rfl, by decide +kernel, rfl, by decide +kernel, by decide +kernel⟩
theorem sc__law_cell_at : FnScope ["_law_script", "_law_k"] ["_law_script", "_law_k"] (defScope s__law_cell_at) := ⟨rfl, rfl, rfl, by decide +kernel, rfl, by decide +kernel, by decide +kernel⟩
theorem sc__law_how_many : FnScope ["_law_number"] ["_law_number"] (defScope s__law_how_many) := ⟨rfl, rfl, rfl, by decide +kernel, rfl, by decide +kernel, by decide +kernel⟩
theorem sc__law_marks : FnScope ["_law_cell", "_law_many", "_law_letters", "_law_base", "_law_at", "_law_first", "_law_step"] ["_law_cell", "_law_many"] (defScope s__law_marks) := ⟨rfl, rfl, rfl, by decide +kernel, rfl, by decide +kernel, by decide +kernel⟩
theorem sc__law_pick : FnScope ["_law_cell", "_law_marks_here"] ["_law_cell", "_law_marks_here"] (defScope s__law_pick) := ⟨rfl, rfl, rfl, by decide +kernel, rfl, by decide +kernel, by decide +kernel⟩
theorem sc__law_nodes : FnScope ["_law_cells", "_law_marks_here", "_law_nodes_here", "_law_deepest", "_law_chain", "_law_cell", "_law_depth"] ["_law_cells", "_law_marks_here"] (defScope s__law_nodes) := ⟨rfl, rfl, rfl, by decide +kernel, rfl, by decide +kernel, by decide +kernel⟩
theorem sc__law_forest_text : FnScope ["_law_nodes_here", "_law_text", "_law_k", "_law_step"] ["_law_nodes_here"] (defScope s__law_forest_text) := ⟨rfl, rfl, rfl, by decide +kernel, rfl, by decide +kernel, by decide +kernel⟩
theorem sc__law_refused : FnScope ["_law_text", "e", "_law_other"] ["_law_text"] (defScope s__law_refused) := ⟨rfl, rfl, rfl, by decide +kernel, rfl, by decide +kernel, by decide +kernel⟩
theorem sc__law_wrong_by_any : FnScope ["_law_text", "_law_cell", "_law_mark", "_law_way", "_law_some", "_law_at", "_law_spot", "_law_odd"] ["_law_text", "_law_cell", "_law_mark"] (defScope s__law_wrong_by_any) := ⟨rfl, rfl, rfl, by decide +kernel, rfl, by decide +kernel, by decide +kernel⟩
theorem sc__law_wrong_table : FnScope ["_law_lines", "_law_cell", "_law_mark", "_law_text", "_law_way"] ["_law_lines", "_law_cell", "_law_mark"] (defScope s__law_wrong_table) := ⟨rfl, rfl, rfl, by decide +kernel, rfl, by decide +kernel, by decide +kernel⟩
theorem sc__law_lines_text : FnScope ["_law_lines"] ["_law_lines"] (defScope s__law_lines_text) := ⟨rfl, rfl, rfl, by decide +kernel, rfl, by decide +kernel, by decide +kernel⟩
theorem sc__law_wrong_forest : FnScope ["_law_nodes_here", "_law_cell", "_law_mark", "_law_text", "_law_at", "_law_way"] ["_law_nodes_here", "_law_cell", "_law_mark"] (defScope s__law_wrong_forest) := ⟨rfl, rfl, rfl, by decide +kernel, rfl, by decide +kernel, by decide +kernel⟩
theorem sc_law : FnScope ["_law_script", "_law_seed", "_law_marks_here", "_law_cells", "_law_row", "_law_text", "_law_form", "_law_cell", "_law_wrong", "_law_wide", "_law_lines", "_law_nodes_here"] ["_law_script"] (defScope s_law) := ⟨rfl, rfl, rfl, by decide +kernel, rfl, by decide +kernel, by decide +kernel⟩
structure Adr where
  ShrinkError : Addr
  NoThing : Addr
  NoPlace : Addr
  NoFault : Addr
  NoRule : Addr
  Spent : Addr
  Healthy : Addr
  NoText : Addr
  NoRow : Addr
  Thing : Addr
  Row : Addr
  Forest : Addr
  Table : Addr
structure Txt (K : PySem.W.Frag) (mg : Str → Option Value) (ad : Adr) : Prop where
  ValueError : mg "ValueError" = none
  all : mg "all" = none
  bool : mg "bool" = none
  int : mg "int" = none
  isinstance : mg "isinstance" = none
  len : mg "len" = none
  list : mg "list" = none
  min : mg "min" = none
  range : mg "range" = none
  str : mg "str" = none
  tuple : mg "tuple" = none
  c_ShrinkError : mg "ShrinkError" = some (.ref ad.ShrinkError)
  c_NoThing : mg "NoThing" = some (.ref ad.NoThing)
  c_NoPlace : mg "NoPlace" = some (.ref ad.NoPlace)
  c_NoFault : mg "NoFault" = some (.ref ad.NoFault)
  c_NoRule : mg "NoRule" = some (.ref ad.NoRule)
  c_Spent : mg "Spent" = some (.ref ad.Spent)
  c_Healthy : mg "Healthy" = some (.ref ad.Healthy)
  c_NoText : mg "NoText" = some (.ref ad.NoText)
  c_NoRow : mg "NoRow" = some (.ref ad.NoRow)
  c_Thing : mg "Thing" = some (.ref ad.Thing)
  c_Row : mg "Row" = some (.ref ad.Row)
  c_Forest : mg "Forest" = some (.ref ad.Forest)
  c_Table : mg "Table" = some (.ref ad.Table)
  g_LETTERS : ∃ t, mg "LETTERS" = some (.str LET t)
  g_LONGEST_MARK : ∃ t, mg "LONGEST_MARK" = some (.int 8 t)
  g_MOST_IN_ROW : ∃ t, mg "MOST_IN_ROW" = some (.int 40 t)
  g_MOST_NODES : ∃ t, mg "MOST_NODES" = some (.int 40 t)
  g_DEEPEST : ∃ t, mg "DEEPEST" = some (.int 12 t)
  g_MOST_LINES : ∃ t, mg "MOST_LINES" = some (.int 12 t)
  g_MOST_COLUMNS : ∃ t, mg "MOST_COLUMNS" = some (.int 12 t)
  e_NoText : ExcCls K mg "NoText" ad.NoText
  lk_NoText : ExcLk K ad.NoText
  exm_NoText_NoThing : PySem.W.exmOne K (.ref ad.NoText) (.ref ad.NoThing) = some false
  exm_NoText_ShrinkError : PySem.W.exmOne K (.ref ad.NoText) (.ref ad.ShrinkError) = some true
  kx_NoText_Healthy : PySem.W.kitOne K (.ref ad.NoText) (.ref ad.Healthy) = some false
  kx_NoText_NoFault : PySem.W.kitOne K (.ref ad.NoText) (.ref ad.NoFault) = some false
  kx_NoText_NoPlace : PySem.W.kitOne K (.ref ad.NoText) (.ref ad.NoPlace) = some false
  kx_NoText_NoRow : PySem.W.kitOne K (.ref ad.NoText) (.ref ad.NoRow) = some false
  kx_NoText_NoRule : PySem.W.kitOne K (.ref ad.NoText) (.ref ad.NoRule) = some false
  kx_NoText_NoText : PySem.W.kitOne K (.ref ad.NoText) (.ref ad.NoText) = some true
  kx_NoText_NoThing : PySem.W.kitOne K (.ref ad.NoText) (.ref ad.NoThing) = some false
  kx_NoText_Spent : PySem.W.kitOne K (.ref ad.NoText) (.ref ad.Spent) = some false
  kx_NoText_ValueError : PySem.W.kitOne K (.ref ad.NoText) (.type "ValueError") = some true
  e_NoThing : ExcCls K mg "NoThing" ad.NoThing
  lk_NoThing : ExcLk K ad.NoThing
  exm_NoThing_NoThing : PySem.W.exmOne K (.ref ad.NoThing) (.ref ad.NoThing) = some true
  exm_NoThing_ShrinkError : PySem.W.exmOne K (.ref ad.NoThing) (.ref ad.ShrinkError) = some true
  kx_NoThing_Healthy : PySem.W.kitOne K (.ref ad.NoThing) (.ref ad.Healthy) = some false
  kx_NoThing_NoFault : PySem.W.kitOne K (.ref ad.NoThing) (.ref ad.NoFault) = some false
  kx_NoThing_NoPlace : PySem.W.kitOne K (.ref ad.NoThing) (.ref ad.NoPlace) = some false
  kx_NoThing_NoRow : PySem.W.kitOne K (.ref ad.NoThing) (.ref ad.NoRow) = some false
  kx_NoThing_NoRule : PySem.W.kitOne K (.ref ad.NoThing) (.ref ad.NoRule) = some false
  kx_NoThing_NoText : PySem.W.kitOne K (.ref ad.NoThing) (.ref ad.NoText) = some false
  kx_NoThing_NoThing : PySem.W.kitOne K (.ref ad.NoThing) (.ref ad.NoThing) = some true
  kx_NoThing_Spent : PySem.W.kitOne K (.ref ad.NoThing) (.ref ad.Spent) = some false
  kx_NoThing_ValueError : PySem.W.kitOne K (.ref ad.NoThing) (.type "ValueError") = some true
  cl_Forest : Cls K ad.Forest
  na_Forest_nodes : NoAttr K ad.Forest "nodes"
  na_Forest_spot_marks : NoAttr K ad.Forest "spot_marks"
  ha_Forest : PySem.W.findIn K (.ref ad.Forest) "__class__" = some (some (.builtin "object.__class__"))
  hm_Forest : PySem.W.mroIn K ad.Forest (.type "object") = some true
  cl_Row : Cls K ad.Row
  na_Row_spot_marks : NoAttr K ad.Row "spot_marks"
  ha_Row : PySem.W.findIn K (.ref ad.Row) "__class__" = some (some (.builtin "object.__class__"))
  hm_Row : PySem.W.mroIn K ad.Row (.type "object") = some true
  cl_Table : Cls K ad.Table
  na_Table_columns : NoAttr K ad.Table "columns"
  na_Table_lines : NoAttr K ad.Table "lines"
  na_Table_spot_marks : NoAttr K ad.Table "spot_marks"
  ha_Table : PySem.W.findIn K (.ref ad.Table) "__class__" = some (some (.builtin "object.__class__"))
  hm_Table : PySem.W.mroIn K ad.Table (.type "object") = some true
  hn : PySem.W.specialIn K (.builtin "object.__class__") "__get__" = some (some (.builtin "getset_descriptor.__get__"))
  htk : PySem.W.takesIn K (.builtin "object.__class__") = some true
def SameBut (p : Addr) (H H' : Hp) : Prop := ∀ b o, b ≠ p → H b = some o → H' b = some o
def RowObj (ad : Adr) (H : Hp) (p : Addr) (xs : List V) : Prop := ∃ dx t, H p = some (.ins ad.Row dx [("spot_marks", .ref t)]) ∧ H t = some (.tup xs) ∧ xs.all markV = true ∧ xs.length ≤ 40
def TabObj (ad : Adr) (H : Hp) (p : Addr) (ls : List (List V)) (w : Nat) : Prop := ∃ dx t1 t2 ts, H p = some (.ins ad.Table dx [("spot_marks", .ref t1), ("lines", .ref t2), ("columns", .int w)]) ∧ H t1 = some (.tup ls.flatten) ∧ H t2 = some (.tup ts) ∧ RowsAt .tup H ts ls ∧ w ≤ 12 ∧ ls.length ≤ 12 ∧ ∀ l ∈ ls, lineOk w l
theorem RowObj.same {ad : Adr} {H H' : Hp} {p : Addr} {xs : List V} (s : Same H H') (r : RowObj ad H p xs) : RowObj ad H' p xs := by
  obtain ⟨dx, t, h1, h2, h3⟩ := r
  exact ⟨dx, t, s _ _ h1, s _ _ h2, h3⟩
theorem RowObj.keep {ad : Adr} {H H' : Hp} {p : Addr} {xs : List V} (s : ∀ b o, (∀ zs, o ≠ HO.lst zs) → H b = some o → H' b = some o) (r : RowObj ad H p xs) : RowObj ad H' p xs := by
  obtain ⟨dx, t, h1, h2, h3⟩ := r
  exact ⟨dx, t, s _ (.ins _ _ _) (fun _ z => nomatch z) h1, s _ (.tup _) (fun _ z => nomatch z) h2, h3⟩
theorem TabObj.keep {ad : Adr} {H H' : Hp} {p : Addr} {ls : List (List V)} {w : Nat} (s : ∀ b o, (∀ zs, o ≠ HO.lst zs) → H b = some o → H' b = some o) (r : TabObj ad H p ls w) : TabObj ad H' p ls w := by
  obtain ⟨dx, t1, t2, ts, h1, h2, h3, h4, h5⟩ := r
  exact ⟨dx, t1, t2, ts, s _ (.ins _ _ _) (fun _ z => nomatch z) h1, s _ (.tup _) (fun _ z => nomatch z) h2, s _ (.tup _) (fun _ z => nomatch z) h3, h4.keep (f := .tup) fun b ys e => s b (.tup ys) (fun _ z => nomatch z) e, h5⟩
theorem TabObj.same {ad : Adr} {H H' : Hp} {p : Addr} {ls : List (List V)} {w : Nat} (s : Same H H') (r : TabObj ad H p ls w) : TabObj ad H' p ls w := by
  obtain ⟨dx, t1, t2, ts, h1, h2, h3, h4, h5⟩ := r
  exact ⟨dx, t1, t2, ts, s _ _ h1, s _ _ h2, s _ _ h3, h4.same s, h5⟩
def sp_Thing_init (ad : Adr) : Sp := fun vs H Q _ => ∃ p dx a xs c, vs = [.ref p, .ref a] ∧ (c = ad.Row ∨ c = ad.Table ∨ c = ad.Forest) ∧ H p = some (.ins c dx []) ∧ H a = some (.lst xs) ∧ ∀ t, H t = none → Q .non (upd (upd H t (.tup xs)) p (.ins c dx [("spot_marks", .ref t)]))
def ForestAt (ad : Adr) (H : Hp) (p : Addr) (ns : List Nd) : Prop := ∃ dx t1 t2 xs, H p = some (.ins ad.Forest dx [("spot_marks", .ref t1), ("nodes", .ref t2)]) ∧ H t1 = some (.tup (ns.map fun n => V.str n.1)) ∧ H t2 = some (.tup xs) ∧ NodesAt H xs ns
theorem ForestAt.same {ad : Adr} {H H' : Hp} {p : Addr} {ns : List Nd} (s : Same H H') (r : ForestAt ad H p ns) : ForestAt ad H' p ns := by
  obtain ⟨dx, t1, t2, xs, h1, h2, h3, h4⟩ := r
  exact ⟨dx, t1, t2, xs, s _ _ h1, s _ _ h2, s _ _ h3, h4.same s⟩
def sp_Forest_init (ad : Adr) : Sp := fun vs H Q E => ∃ p dx v, vs = [.ref p, v] ∧ H p = some (.ins ad.Forest dx []) ∧ Thg4 H v ∧
  (∀ a xs ns, v = .ref a → H a = some (.lst xs) → xs.length ≤ 40 → NodesAt H xs ns → depthOk 0 ns → ∀ H', ForestAt ad H' p ns → SameBut p H H' → Q .non H') ∧ (¬ GoodN H v → ∀ H', SameBut p H H' → E (.ref ad.NoThing) none H')
def sp_is_whole : Sp := fun vs H Q _ => ∃ v, vs = [v] ∧ Thg H v ∧ Q (.bl (wholeV v)) H
def sp_is_mark : Sp := fun vs H Q _ => ∃ v, vs = [v] ∧ Thg H v ∧ ∀ H', Same H H' → Q (.bl (markV v)) H'
def sp_check_list (ad : Adr) : Sp := fun vs H Q E => ∃ v n, vs = [v, .int (n : Nat)] ∧ Thg H v ∧ (GoodL n H v → Q .non H) ∧ (¬ GoodL n H v → E (.ref ad.NoThing) none H)
def sp_check_marks (ad : Adr) : Sp := fun vs H Q E => ∃ v n, vs = [v, .int (n : Nat)] ∧ Thg2 H v ∧ (GoodM n H v → ∀ H', Same H H' → Q .non H') ∧ (¬ GoodM n H v → ∀ H', Same H H' → E (.ref ad.NoThing) none H')
def sp_check_node (ad : Adr) : Sp := fun vs H Q E => ∃ v d, vs = [v, .int d] ∧ Thg3 H v ∧ (∀ n, NodeAt H v n → markS n.1 = true → 0 ≤ n.2 → n.2 ≤ d → ∀ H', Same H H' → Q .non H') ∧ ((∀ n, NodeAt H v n → ¬ (markS n.1 = true ∧ 0 ≤ n.2 ∧ n.2 ≤ d)) → ∀ H', Same H H' → E (.ref ad.NoThing) none H')
def sp_check_nodes (ad : Adr) : Sp := fun vs H Q E => ∃ v, vs = [v] ∧ Thg4 H v ∧ (GoodN H v → ∀ H', Same H H' → Q .non H') ∧ (¬ GoodN H v → ∀ H', Same H H' → E (.ref ad.NoThing) none H')
def sp_check_lines (ad : Adr) : Sp := fun vs H Q E => ∃ v, vs = [v] ∧ Thg5 H v ∧ (GoodT H v → ∀ H', Same H H' → Q .non H') ∧ (¬ GoodT H v → ∀ H', Same H H' → E (.ref ad.NoThing) none H')
def sp_Row_init (ad : Adr) : Sp := fun vs H Q E => ∃ p dx v, vs = [.ref p, v] ∧ H p = some (.ins ad.Row dx []) ∧ Thg2 H v ∧
  (∀ a xs, v = .ref a → H a = some (.lst xs) → xs.length ≤ 40 → xs.all markV = true → ∀ H', RowObj ad H' p xs → SameBut p H H' → Q .non H') ∧ (¬ GoodM 40 H v → ∀ H', SameBut p H H' → E (.ref ad.NoThing) none H')
def sp_Row_form (ad : Adr) : Sp := fun vs H Q _ => ∃ p xs, vs = [.ref p] ∧ RowObj ad H p xs ∧ ∀ t l, H t = some (.tup xs) → H l = none → Q (.ref l) (upd H l (.tup [.str "row", .ref t]))
def sp_form (ad : Adr) : Sp := fun vs H Q _ => ∃ p ns, vs = [.ref p] ∧ ForestAt ad H p ns ∧ ∀ t xs l, H t = some (.tup xs) → NodesAt H xs ns → H l = none → Q (.ref l) (upd H l (.tup [.str "forest", .ref t]))
def sp_Table_init (ad : Adr) : Sp := fun vs H Q E => ∃ p dx v, vs = [.ref p, v] ∧ H p = some (.ins ad.Table dx []) ∧ Thg5 H v ∧
  (∀ a xs ls, v = .ref a → H a = some (.lst xs) → xs.length ≤ 12 → RowsAt .lst H xs ls → tabOk ls → ∀ H', TabObj ad H' p ls (wideT ls) → SameBut p H H' → Q .non H') ∧ (¬ GoodT H v → ∀ H', SameBut p H H' → E (.ref ad.NoThing) none H')
def sp_Table_form (ad : Adr) : Sp := fun vs H Q _ => ∃ p ls w, vs = [.ref p] ∧ TabObj ad H p ls w ∧ ∀ t xs l, H t = some (.tup xs) → RowsAt .tup H xs ls → H l = none → Q (.ref l) (upd H l (.tup [.str "table", .int w, .ref t]))
def sp__law_cell_at (K : PySem.W.Frag) : Sp := fun vs H Q _ => ∃ (a : Addr) (ns : List Int) (k : Nat), vs = [.ref a, .int k] ∧ SqL K H a (ns.map V.int) ∧ Q (.int (cellF ns k)) H
def sp__law_how_many : Sp := fun vs H Q _ => ∃ n : Int, vs = [.int n] ∧ ∀ m : Int, 1 ≤ m → m ≤ 25 → Q (.int m) H
def sp__law_marks : Sp := fun vs H Q _ => ∃ (c n : Int), vs = [.int c, .int n] ∧ 0 ≤ n ∧ n ≤ 25 ∧ ∀ (zs : List Str) l H', zs.length = n.toNat → (∀ z ∈ zs, markS z = true) → Same H H' → H' l = some (.lst (zs.map V.str)) → Q (.ref l) H'
def sp__law_pick : Sp := fun vs H Q _ => ∃ (c : Int) (a : Addr) (zs : List Str), vs = [.int c, .ref a] ∧ H a = some (.lst (zs.map V.str)) ∧ 0 < zs.length ∧ ∀ z ∈ zs, Q (.str z) H
def sp__law_nodes : Sp := fun vs H Q _ => ∃ (c m : Addr) (ms : List Int) (zs : List Str), vs = [.ref c, .ref m] ∧ H c = some (.lst (ms.map V.int)) ∧ H m = some (.lst (zs.map V.str)) ∧ ms.length ≤ 40 ∧ 0 < zs.length ∧ (∀ z ∈ zs, markS z = true) ∧ ∀ ns xs l H', Same H H' → H' l = some (.lst xs) → NodesAt H' xs ns → depthOk 0 ns → ns.length = ms.length → Q (.ref l) H'
inductive Dsc where
  | row (xs : List V)
  | forest (ns : List Nd)
  | table (ls : List (List V)) (w : Nat)
def ThObj (ad : Adr) (H : Hp) (p : Addr) : Dsc → Prop
  | .row xs => RowObj ad H p xs
  | .forest ns => ForestAt ad H p ns ∧ depthOk 0 ns ∧ ns.length ≤ 40
  | .table ls w => TabObj ad H p ls w
theorem ThObj.same {ad : Adr} {H H' : Hp} {p : Addr} {d : Dsc} (s : Same H H') (h : ThObj ad H p d) : ThObj ad H' p d := by
  cases d with
  | row xs => exact RowObj.same s h
  | forest ns => exact ⟨h.1.same s, h.2⟩
  | table ls w => exact TabObj.same s h
def DOk : Dsc → Prop
  | .row xs => xs.all markV = true ∧ xs.length ≤ 40
  | .forest ns => depthOk 0 ns ∧ ns.length ≤ 40
  | .table ls w => w ≤ 12 ∧ ls.length ≤ 12 ∧ ∀ l ∈ ls, lineOk w l
theorem ThObj.ok {ad : Adr} {H : Hp} {p : Addr} {d : Dsc} (h : ThObj ad H p d) : DOk d := by
  cases d with
  | row xs => obtain ⟨_, _, _, _, h3⟩ := h; exact h3
  | forest ns => exact h.2
  | table ls w => obtain ⟨_, _, _, _, _, _, _, _, h5⟩ := h; exact h5
def FormAt (H : Hp) (f : Addr) : Dsc → Prop
  | .row xs => ∃ t, H f = some (.tup [.str "row", .ref t]) ∧ H t = some (.tup xs)
  | .forest ns => ∃ t ys, H f = some (.tup [.str "forest", .ref t]) ∧ H t = some (.tup ys) ∧ NodesAt H ys ns
  | .table ls w => ∃ t ts, H f = some (.tup [.str "table", .int w, .ref t]) ∧ H t = some (.tup ts) ∧ RowsAt .tup H ts ls
theorem FormAt.same {H H' : Hp} {f : Addr} {d : Dsc} (s : Same H H') (h : FormAt H f d) : FormAt H' f d := by
  cases d with
  | row xs => obtain ⟨t, h1, h2⟩ := h; exact ⟨t, s _ _ h1, s _ _ h2⟩
  | forest ns => obtain ⟨t, ys, h1, h2, h3⟩ := h; exact ⟨t, ys, s _ _ h1, s _ _ h2, h3.same s⟩
  | table ls w => obtain ⟨t, ts, h1, h2, h3⟩ := h; exact ⟨t, ts, s _ _ h1, s _ _ h2, h3.same s⟩
def datD : Dsc → PyData
  | .row xs => .tuple [.str "row", .tuple (xs.map datM)]
  | .forest ns => .tuple [.str "forest", .tuple (datN ns)]
  | .table ls w => .tuple [.str "table", .int w, .tuple (ls.map fun l => PyData.tuple (l.map datM))]
theorem FormAt.dat {K : PySem.W.Frag} {H : Hp} {f : Addr} {d : Dsc} (o : DOk d) (h : FormAt H f d) : DatV K H (.ref f) (datD d) := by
  cases d with
  | row xs => obtain ⟨t, h1, h2⟩ := h; exact .tup (SqT.of h1) (.cons (.str _) (.cons (.tup (SqT.of h2) (datVs_marks o.1)) .nil))
  | forest ns => obtain ⟨t, ys, h1, h2, h3⟩ := h; exact .tup (SqT.of h1) (.cons (.str _) (.cons (.tup (SqT.of h2) h3.dat) .nil))
  | table ls w => obtain ⟨t, ts, h1, h2, h3⟩ := h; exact .tup (SqT.of h1) (.cons (.str _) (.cons (.int _) (.cons (.tup (SqT.of h2) (h3.datT fun l hl => (o.2.2 l hl).2)) .nil)))
theorem lay_dat {d : Dsc} (o : DOk d) : PyData.canLay0 (datD d) = true := by
  cases d with
  | row xs =>
    have cF := canLay_marks o.1
    unfold datD
    simp only [PyData.canLay0, PyData.canLayAll0, cF]
    decide +kernel
  | forest ns =>
    have cN := canLay_nodes (ns := ns) fun n h => mark_strOk (depthOk_all o.1 n h).1
    unfold datD
    simp only [PyData.canLay0, PyData.canLayAll0, cN]
    decide +kernel
  | table ls w =>
    have cT := canLay_tups (ls := ls) fun l hl => (o.2.2 l hl).2
    unfold datD
    simp only [PyData.canLay0, PyData.canLayAll0, cT]
    decide +kernel
theorem shaped_dat {d : Dsc} (o : DOk d) : SeqAt.shaped (datD d) = true := by
  unfold SeqAt.shaped
  rw [Bool.and_eq_true]
  refine ⟨lay_dat o, decide_eq_true ?_⟩
  cases d with
  | row xs => have := depth_marks xs; simp only [datD, PyData.depth, PyData.depthAll]; omega
  | forest ns => have := depth_nodes ns; simp only [datD, PyData.depth, PyData.depthAll]; omega
  | table ls w => have := depth_tups ls; simp only [datD, PyData.depth, PyData.depthAll]; omega
theorem eqv_dat {d : Dsc} (o : DOk d) : PyData.eqv (datD d) (datD d) = true := SeqAt.eqv_refl _ (lay_dat o)
theorem any_form {ad : Adr} {H : Hp} {p : Addr} {d : Dsc} {Q : VK} {E : XK} (h : ThObj ad H p d) (k : ∀ f H', Same H H' → FormAt H' f d → Q (.ref f) H') :
    ((∃ x y, H p = some (.ins ad.Row x y) ∧ List.lookup (Str.ofString "form") y = none ∧ sp_Row_form ad [.ref p] H Q E) ∨ ∃ x y, H p = some (.ins ad.Forest x y) ∧ List.lookup (Str.ofString "form") y = none ∧ sp_form ad [.ref p] H Q E) ∨ ∃ x y, H p = some (.ins ad.Table x y) ∧ List.lookup (Str.ofString "form") y = none ∧ sp_Table_form ad [.ref p] H Q E := by
  cases d with
  | row xs => obtain ⟨dx, t, h1, _⟩ := id h; exact .inl (.inl ⟨dx, _, h1, rfl, p, xs, rfl, h, fun t l ht hl => k l _ (Same.put hl) ⟨t, upd_same, (Same.put hl) _ _ ht⟩⟩)
  | forest ns => obtain ⟨⟨dx, t1, t2, xs, h1, _⟩, _⟩ := id h; exact .inl (.inr ⟨dx, _, h1, lookup_no (by decide +kernel) (by decide +kernel), p, ns, rfl, h.1, fun t xs l ht hx hl => k l _ (Same.put hl) ⟨t, xs, upd_same, (Same.put hl) _ _ ht, hx.same (Same.put hl)⟩⟩)
  | table ls w => obtain ⟨dx, t1, t2, ts, h1, _⟩ := id h; exact .inr ⟨dx, _, h1, lookup_no3 (by decide +kernel) (by decide +kernel) (by decide +kernel), p, ls, w, rfl, h, fun t xs l ht hx hl => k l _ (Same.put hl) ⟨t, xs, upd_same, (Same.put hl) _ _ ht, hx.same (Same.put hl)⟩⟩
def kindS : Dsc → Str
  | .row _ => "row"
  | .forest _ => "forest"
  | .table _ _ => "table"
def normD : Dsc → Dsc
  | .table [] _ => .table [] 0
  | d => d
theorem lines_marks {ls : List (List V)} {w : Nat} (h : ∀ l ∈ ls, lineOk w l) : ∀ l ∈ ls.map (fun l => l.map sV), ∀ z ∈ l, markS z = true := fun l hl => by
  obtain ⟨x, hx, rfl⟩ := List.mem_map.mp hl
  exact sV_marks (h x hx).2
theorem kind_len (d : Dsc) : (kindS d).length ≤ 10 := by
  cases d with
  | row _ => exact (show (Str.ofString "row").length ≤ 10 by decide +kernel)
  | forest _ => exact (show (Str.ofString "forest").length ≤ 10 by decide +kernel)
  | table _ _ => exact (show (Str.ofString "table").length ≤ 10 by decide +kernel)
theorem kind_free (d : Dsc) : freeC 32 (kindS d) := by
  cases d with
  | row _ => exact (show 32 ∉ (Str.ofString "row").cps.toList by decide +kernel)
  | forest _ => exact (show 32 ∉ (Str.ofString "forest").cps.toList by decide +kernel)
  | table _ _ => exact (show 32 ∉ (Str.ofString "table").cps.toList by decide +kernel)
def mkS (l : List Nat) : Str := ⟨l.toArray⟩
def toW (n : Nd) : List Nat × Nat := (n.1.cps.toList, n.2.toNat)
def sgL (d e : Nat) : List Nat := if d < e then [40] else closes (d - e) ++ [44]
def insL : List Nd → List Nat
  | [] => []
  | n :: r => n.1.cps.toList ++ restF 0 (r.map toW)
def insS (ns : List Nd) : Str := mkS (insL ns)
theorem mkS_app (a b : List Nat) : mkS a ++ mkS b = mkS (a ++ b) := ext_l (by rw [app_l]; rfl)
theorem mkS_of (z : Str) : mkS z.cps.toList = z := ext_l rfl
theorem mkS_len (l : List Nat) : (mkS l).length = l.length := rfl
theorem mkS_inj {a b : List Nat} (h : mkS a = mkS b) : a = b := congrArg (fun s : Str => s.cps.toList) h
theorem nodes_okF : ∀ {ns : List Nd} {d : Int} {e : Nat}, depthOk d ns → d ≤ (e : Int) + 1 → okF e (ns.map toW)
  | [], _, _, _, _ => trivial
  | n :: r, d, e, h, hd => by
    obtain ⟨h1, h2, h3, h4⟩ := h
    have hp := mark_plain h1
    have hne : n.1.cps.toList ≠ [] := fun z => by
      have := (mark_all h1).1
      have l0 : n.1.length = n.1.cps.toList.length := rfl
      rw [l0, z] at this
      exact absurd this (by decide)
    refine ⟨?_, hp, hne, nodes_okF h4 ?_⟩
    · show n.2.toNat ≤ e + 1
      omega
    · show deep1 n ≤ ((n.2.toNat : Nat) : Int) + 1
      unfold deep1
      omega
theorem split_it {wi : TI} {σ : St} {H : Hp} {G : It → Hp → Prop} (S : It → Hp → Prop) (h : ∀ G' : It → Hp → Prop, (∀ J H1, S J H1 → G' J H1) → wi σ H G') (g : ∀ J H1, S J H1 → G J H1) : wi σ H G := h _ g
theorem Same.none {H H' : Hp} (s : Same H H') {l : Addr} (h : H' l = none) : H l = none := by
  cases e : H l with
  | none => rfl
  | some o => rw [s _ _ e] at h; cases h
theorem big9000 {n : Nat} (h : n ≤ 20000) : n < sizeLine := Nat.lt_of_le_of_lt h (by decide)
theorem big9 {n : Nat} (h : n ≤ 20000) : n ≤ sizeLine := Nat.le_of_lt (big9000 h)
theorem deepF12 : ∀ {ns : List Nd} {d : Int}, depthOk d ns → d ≤ 12 → ∀ n ∈ ns, n.2 ≤ 12
  | m :: r, d, h, hd, n, hn => by
    obtain ⟨h1, h2, h3, h4⟩ := h
    rcases List.mem_cons.mp hn with rfl | hn
    · omega
    · exact deepF12 h4 (by unfold deep1; omega) n hn
theorem rest_len : ∀ (r : List (List Nat × Nat)) (d : Nat), okF d r → (∀ n ∈ r, n.1.length ≤ 8) → (restF d r).length ≤ d + 10 * r.length
  | [], d, _, _ => by
    show (closes d).length ≤ _
    unfold closes
    rw [List.length_replicate]
    omega
  | (m, e) :: r, d, h, hm => by
    obtain ⟨h1, h2, h3, h4⟩ := h
    have ih := rest_len r e h4 fun n hn => hm n (List.mem_cons_of_mem _ hn)
    have l8 := hm (m, e) List.mem_cons_self
    have l8' : m.length ≤ 8 := l8
    unfold restF
    rw [List.length_append, List.length_append, List.length_cons]
    split
    · have : ([40] : List Nat).length = 1 := rfl
      omega
    · have : (closes (d - e) ++ [44]).length = d - e + 1 := by unfold closes; rw [List.length_append, List.length_replicate]; rfl
      omega
theorem ins_len {ns : List Nd} (hd : depthOk 0 ns) (hl : ns.length ≤ 40) : (insL ns).length ≤ 420 := by
  cases ns with
  | nil => exact Nat.zero_le _
  | cons n r =>
    obtain ⟨h1, h2, h3, h4⟩ := hd
    have z : n.2 = 0 := by omega
    have ok := nodes_okF (e := 0) h4 (by unfold deep1; omega)
    have := rest_len _ 0 ok fun x hx => by
      obtain ⟨y, hy, rfl⟩ := List.mem_map.mp hx
      exact (mark_all (depthOk_all h4 y hy).1).2.1
    have l8 := (mark_all h1).2.1
    have l8' : n.1.cps.toList.length ≤ 8 := l8
    rw [List.length_map] at this
    rw [List.length_cons] at hl
    show (n.1.cps.toList ++ restF 0 (r.map toW)).length ≤ 420
    rw [List.length_append]
    omega
theorem rep_len {c : Nat} {z : List Nat} (hz : z.length ≤ 3) : ∀ l : List Nat, (repC c z l).length ≤ 3 * l.length
  | [] => Nat.zero_le _
  | d :: l => by
    have ih := rep_len (c := c) hz l
    show ((if d = c then z else [d]) ++ repC c z l).length ≤ _
    rw [List.length_append, List.length_cons]
    split
    · omega
    · have : ([d] : List Nat).length = 1 := rfl
      omega
theorem repl_S {c : Nat} {y z : Str} {l : List Nat} (hy : y = ⟨#[c]⟩) : Txt.replace (mkS l) y z = mkS (repC c z.cps.toList l) := by
  subst hy
  exact ext_l (replace_l (mkS l) z c)
theorem split_S (l : List Nat) : Txt.split (mkS l) (Str.ofString " ") = (splitC 32 l).map mkS := by
  have := splitC_split (mkS l) 32
  rw [show (mkS l).cps.toList = l from rfl] at this
  rw [this, List.map_map, show Str.ofString " " = ⟨#[32]⟩ from blank_eq]
  conv => lhs; rw [← List.map_id (Txt.split (mkS l) ⟨#[32]⟩)]
  exact List.map_congr_left fun w _ => (mkS_of w).symm
theorem run_ins {ns : List Nd} (hd : depthOk 0 ns) : (runW ([], 0) (sub3 (insL ns))).1 = ns.map fun n => (n.1.cps.toList, n.2) := by
  cases ns with
  | nil => decide
  | cons n r =>
    obtain ⟨h1, h2, h3, h4⟩ := hd
    have z : n.2 = 0 := by omega
    have hne : n.1.cps.toList ≠ [] := fun z => by
      have := (mark_all h1).1
      have l0 : n.1.length = n.1.cps.toList.length := rfl
      rw [l0, z] at this
      exact absurd this (by decide)
    have := run_text (mark_plain h1) hne (nodes_okF (e := 0) h4 (by unfold deep1; omega))
    show (runW ([], 0) (sub3 (n.1.cps.toList ++ restF 0 (r.map toW)))).1 = _
    rw [this, List.map_cons, z, List.map_map]
    refine congrArg _ (List.map_congr_left fun x hx => ?_)
    have := (depthOk_all h4 x hx).2
    show (x.1.cps.toList, ((x.2.toNat : Nat) : Int)) = _
    rw [Int.toNat_of_nonneg this]
theorem lst_tups {H : Hp} {p : Addr} {xs : List V} {o : HO} (h : H p = some (.lst xs)) : ∀ b ys, H b = some (.tup ys) → upd H p o b = some (.tup ys) := fun b ys e => by
  rw [upd_ne fun q => by rw [q, h] at e; cases e]
  exact e
theorem ends_gen {B : TS} {D : Ends} {σ : St} {H : Hp} (h : ∀ D0 : Ends, D0.nx = D.nx → B D0 σ H) : B D σ H := h D rfl
theorem drop_cons {ns : List Nd} {i : Nat} {n : Nd} (h : ns[i]? = some n) : (ns.drop i).map toW = toW n :: (ns.drop (i + 1)).map toW := by
  have hi := (List.getElem?_eq_some_iff.mp h).1
  rw [List.drop_eq_getElem_cons hi, (List.getElem?_eq_some_iff.mp h).2]
  rfl
theorem lines_back {ls : List (List V)} (h : ∀ l ∈ ls, l.all markV = true) : (ls.map fun l => l.map sV).map (fun l => l.map V.str) = ls := by
  rw [List.map_map]
  conv => rhs; rw [← List.map_id ls]
  exact List.map_congr_left fun l hl => sV_map (h l hl)
theorem put_one {ws : List Str} {w : Str} {i : Nat} {rA : List (List Str)} {m : List Str} (h : ws[i]? = some w) (e : putW [[]] (ws.take i) = rA ++ [m]) :
    putW [[]] (ws.take (i + 1)) = if w = "/" then (rA ++ [m]) ++ [[]] else if w = "-" then rA ++ [m] else rA ++ [m ++ [w]] := by
  rw [List.take_add_one, h]
  show putW [[]] (ws.take i ++ [w]) = _
  rw [putW_app, e]
  show (if w = "/" then (rA ++ [m]) ++ [[]] else if w = "-" then rA ++ [m] else (rA ++ [m]).dropLast ++ [(rA ++ [m]).getLastD [] ++ [w]]) = _
  rw [List.dropLast_concat, show (rA ++ [m]).getLastD [] = m by simp]
theorem sum_le {n : Nat} : ∀ {ws : List Str}, (∀ w ∈ ws, w.length ≤ n) → (ws.map (·.length)).sum ≤ n * ws.length
  | [], _ => Nat.zero_le _
  | w :: ws, h => by
    have := h w List.mem_cons_self
    have := sum_le fun v hv => h v (List.mem_cons_of_mem w hv)
    simp only [List.map_cons, List.sum_cons, List.length_cons, Nat.mul_add]
    omega
theorem form_head {H : Hp} {f : Addr} {d : Dsc} (h : FormAt H f d) : ∃ xs, H f = some (.tup (.str (kindS d) :: xs)) := by
  cases d with
  | row xs => obtain ⟨t, h1, _⟩ := h; exact ⟨_, h1⟩
  | forest ns => obtain ⟨t, ys, h1, _⟩ := h; exact ⟨_, h1⟩
  | table ls w => obtain ⟨t, ts, h1, _⟩ := h; exact ⟨_, h1⟩
theorem row_strs {H : Hp} {x : V} {l : List V} (h : RowAt .tup H x l) (hm : l.all markV = true) : ∃ t, x = .ref t ∧ H t = some (.tup ((l.map sV).map V.str)) := by
  obtain ⟨t, e, ht⟩ := h
  exact ⟨t, e, by rw [sV_map hm]; exact ht⟩
theorem big3 {n : Nat} (h : n ≤ 30000) : n < sizeLine := Nat.lt_of_le_of_lt h (by decide)
def insD : Dsc → Str
  | .row xs => Str.join " " (xs.map sV)
  | .forest ns => insS ns
  | .table ls _ => Str.join " " (wordsT (ls.map fun l => l.map sV))
def textK (k z : Str) : Str := if z.length = 0 then k else k ++ " " ++ z
def textD (d : Dsc) : Str := textK (kindS d) (insD d)
def Ref (z : Str) : Prop := ∀ d, DOk d → textD d ≠ z
theorem len0 {z : Str} (h : z.length = 0) : z = Str.empty := ext_l (List.length_eq_zero_iff.mp (show z.cps.toList.length = 0 from h))
theorem ins_lenD {d : Dsc} (o : DOk d) : (insD d).length ≤ 1600 := by
  cases d with
  | row xs =>
    have h := join_len (ws := xs.map sV) fun w hw => .inl (sV_marks o.1 w hw)
    have := o.2
    rw [List.length_map] at h
    show (Str.join " " (xs.map sV)).length ≤ 1600
    omega
  | forest ns =>
    have := ins_len o.1 o.2
    show (insL ns).length ≤ 1600
    omega
  | table ls w =>
    have h := words_many (n := 12) (ls := ls.map fun l => l.map sV) fun l hl => by
      obtain ⟨x, hx, rfl⟩ := List.mem_map.mp hl
      have := (o.2.2 x hx).1
      have := o.1
      rw [List.length_map]
      omega
    have h2 := join_len (words_lines (lines_marks o.2.2))
    have := o.2.1
    rw [List.length_map] at h
    show (Str.join " " (wordsT (ls.map fun l => l.map sV))).length ≤ 1600
    omega
theorem part_text (k z : Str) (hk : freeC 32 k) : (Txt.partition (textK k z) " ").1 = k ∧ (Txt.partition (textK k z) " ").2.2 = z := by
  unfold textK
  split
  · rename_i h
    rw [part_no hk]
    exact ⟨rfl, (len0 h).symm⟩
  · rw [part_yes hk]
    exact ⟨rfl, rfl⟩
def marksZ (z : Str) : List Str := if z.length = 0 then [] else Txt.split z " "
def linesZ (z : Str) : List (List Str) := if z = "" then [] else putW [[]] (Txt.split z " ")
def nodesZ (z : Str) : List Nd := (runW ([], 0) (sub3 z.cps.toList)).1.map fun n => (mkS n.1, n.2)
def cand (k z : Str) : Option Dsc :=
  if k = "row" then some (.row ((marksZ z).map V.str)) else if k = "forest" then some (.forest (nodesZ z)) else if k = "table" then some (.table ((linesZ z).map fun l => l.map V.str) (wideT ((linesZ z).map fun l => l.map V.str))) else none
theorem cand_row {xs : List V} (o : DOk (.row xs)) : (marksZ (insD (.row xs))).map V.str = xs := by
  have wk : ∀ w ∈ xs.map sV, wordS w := fun w hw => .inl (sV_marks o.1 w hw)
  unfold marksZ
  by_cases h : xs = []
  · subst h
    rfl
  · have hne : xs.map sV ≠ [] := fun e => h (List.map_eq_nil_iff.mp e)
    have l1 := join_ne wk hne
    rw [if_neg (show ¬ (insD (.row xs)).length = 0 from (show ¬ (Str.join " " (xs.map sV)).length = 0 by omega))]
    show (Txt.split (Str.join " " (xs.map sV)) " ").map V.str = xs
    rw [join_split' wk hne, sV_map o.1]
theorem cand_forest {ns : List Nd} (o : DOk (.forest ns)) : nodesZ (insD (.forest ns)) = ns := by
  unfold nodesZ
  show (runW ([], 0) (sub3 (insL ns))).1.map _ = ns
  rw [run_ins o.1, List.map_map]
  conv => rhs; rw [← List.map_id ns]
  exact List.map_congr_left fun n _ => by show (mkS n.1.cps.toList, n.2) = n; rw [mkS_of]
theorem cand_table {ls : List (List V)} {w : Nat} (o : DOk (.table ls w)) : (linesZ (insD (.table ls w))).map (fun l => l.map V.str) = ls := by
  unfold linesZ
  by_cases h : ls = []
  · subst h
    rw [if_pos (by show Str.join " " (wordsT []) = _; decide +kernel)]
    rfl
  · have hm0 : ls.map (fun l => l.map sV) ≠ [] := fun e => h (List.map_eq_nil_iff.mp e)
    have wk := words_lines (lines_marks o.2.2)
    have hw0 := wordsT_ne hm0
    have nw : ∀ l ∈ ls.map (fun l => l.map sV), ∀ w ∈ l, w ≠ ("/" : Str) ∧ w ≠ ("-" : Str) := fun l hl w hw => mark_no (lines_marks o.2.2 l hl w hw)
    have pa0 : putW ([] ++ [[]]) _ = _ := putW_all [] hm0 nw
    rw [List.nil_append, List.nil_append] at pa0
    have l1 := join_ne wk hw0
    rw [if_neg (fun e => by rw [show insD (.table ls w) = Str.join " " (wordsT (ls.map fun l => l.map sV)) from rfl] at e; rw [e] at l1; exact absurd l1 (by decide +kernel))]
    show (putW [[]] (Txt.split (Str.join " " (wordsT (ls.map fun l => l.map sV))) " ")).map _ = ls
    rw [join_split' wk hw0, pa0]
    exact lines_back fun l h => (o.2.2 l h).2
theorem cand_good {d : Dsc} (o : DOk d) : cand (kindS d) (insD d) = some (normD d) := by
  unfold cand
  cases d with
  | row xs => rw [if_pos (show kindS (.row xs) = Str.ofString "row" from rfl), cand_row o]; rfl
  | forest ns => rw [if_neg (show ¬ kindS (.forest ns) = Str.ofString "row" from (by decide +kernel : ¬ Str.ofString "forest" = Str.ofString "row")), if_pos (show kindS (.forest ns) = Str.ofString "forest" from rfl), cand_forest o]; rfl
  | table ls w =>
    rw [if_neg (show ¬ kindS (.table ls w) = Str.ofString "row" from (by decide +kernel : ¬ Str.ofString "table" = Str.ofString "row")), if_neg (show ¬ kindS (.table ls w) = Str.ofString "forest" from (by decide +kernel : ¬ Str.ofString "table" = Str.ofString "forest")), if_pos (show kindS (.table ls w) = Str.ofString "table" from rfl), cand_table o]
    cases ls with
    | nil => rfl
    | cons l r =>
      have : wideT (l :: r) = w := (o.2.2 l List.mem_cons_self).1
      rw [this]
      rfl
theorem norm_ok {d : Dsc} (o : DOk d) : DOk (normD d) := by
  cases d with
  | table ls w =>
    cases ls with
    | nil => exact ⟨Nat.zero_le _, Nat.zero_le _, fun _ z => nomatch z⟩
    | cons l r => exact o
  | row xs => exact o
  | forest ns => exact o
theorem norm_text (d : Dsc) : textD (normD d) = textD d := by
  cases d with
  | table ls w => cases ls <;> rfl
  | _ => rfl
theorem word_join : ∀ {ws : List Str} {w : Str}, w ∈ ws → w.length ≤ (Str.join " " ws).length
  | [v], w, h => by rw [List.mem_singleton.mp h]; exact Nat.le_refl _
  | v :: x :: r, w, h => by
    show w.length ≤ (v ++ " " ++ Str.join " " (x :: r)).length
    rw [Str.length_append, Str.length_append]
    rcases List.mem_cons.mp h with rfl | h
    · omega
    · have := word_join h
      omega
theorem word_split {z w : Str} (h : w ∈ Txt.split z " ") : w.length ≤ z.length := by
  have := word_join h
  rw [blank_eq, StrLaws.join_split] at this
  exact this
theorem put_mem : ∀ (ws : List Str) (ls : List (List Str)), ∀ l ∈ putW ls ws, ∀ w ∈ l, w ∈ ws ∨ ∃ m ∈ ls, w ∈ m
  | [], ls, l, hl, w, hw => .inr ⟨l, hl, hw⟩
  | v :: ws, ls, l, hl, w, hw => by
    unfold putW at hl
    rcases put_mem ws _ l hl w hw with h | ⟨m, hm, h⟩
    · exact .inl (List.mem_cons_of_mem _ h)
    · split at hm
      · rcases List.mem_append.mp hm with hm | hm
        · exact .inr ⟨m, hm, h⟩
        · rw [List.mem_singleton.mp hm] at h
          exact nomatch h
      · split at hm
        · exact .inr ⟨m, hm, h⟩
        · rcases List.mem_append.mp hm with hm | hm
          · exact .inr ⟨m, List.dropLast_subset _ hm, h⟩
          · rw [List.mem_singleton.mp hm] at h
            rcases List.mem_append.mp h with h | h
            · cases ls with
              | nil => exact nomatch h
              | cons a r =>
                rw [List.getLastD_cons] at h
                exact .inr ⟨_, List.getLastD_mem_cons .., h⟩
            · rw [List.mem_singleton.mp h]
              exact .inl List.mem_cons_self
theorem lines_words {z : Str} : ∀ l ∈ linesZ z, ∀ w ∈ l, w.length ≤ z.length := fun l hl w hw => by
  unfold linesZ at hl
  split at hl
  · exact nomatch hl
  · rcases put_mem _ _ l hl w hw with h | ⟨m, hm, h⟩
    · exact word_split h
    · rw [List.mem_singleton.mp hm] at h
      exact nomatch h
def nb (l : List Nat) : Nat := l.countP fun d => d != 32
theorem nb_rep {c : Nat} {z : List Nat} (hc : c ≠ 32) (hz : nb z ≤ 1) : ∀ l : List Nat, nb (repC c z l) ≤ nb l
  | [] => Nat.le_refl _
  | d :: l => by
    have ih := nb_rep hc hz l
    unfold nb at ih hz ⊢
    show List.countP _ ((if d = c then z else [d]) ++ repC c z l) ≤ _
    rw [List.countP_append, List.countP_cons]
    split
    · rename_i h
      rw [if_pos (by rw [h]; exact bne_iff_ne.mpr hc)]
      omega
    · rw [List.countP_cons, List.countP_nil]
      omega
theorem nb_sub3 (l : List Nat) : nb (sub3 l) ≤ nb l :=
  Nat.le_trans (nb_rep (by decide) (by decide) _) (Nat.le_trans (nb_rep (by decide) (by decide) _) (nb_rep (by decide) (by decide) _))
theorem nb_len (l : List Nat) : nb l ≤ l.length := List.countP_le_length
theorem splitC_nb : ∀ (l w : List Nat), w ∈ splitC 32 l → w.length ≤ nb l
  | [], w, h => by rw [List.mem_singleton.mp h]; exact Nat.le_refl _
  | d :: l, w, h => by
    unfold nb
    rw [List.countP_cons]
    by_cases hd : d = 32
    · subst hd
      rw [splitC_at] at h
      rcases List.mem_cons.mp h with rfl | h
      · exact Nat.zero_le _
      · have := splitC_nb l w h
        unfold nb at this
        omega
    · rw [splitC_on hd] at h
      rw [if_pos (bne_iff_ne.mpr hd)]
      cases e : splitC 32 l with
      | nil =>
        rw [e] at h
        rw [List.mem_singleton.mp h]
        show 1 ≤ _
        omega
      | cons v r =>
        rw [e] at h
        rcases List.mem_cons.mp h with rfl | h
        · have := splitC_nb l v (by rw [e]; exact List.mem_cons_self)
          unfold nb at this
          rw [List.length_cons]
          omega
        · have := splitC_nb l w (by rw [e]; exact List.mem_cons_of_mem _ h)
          unfold nb at this
          omega
theorem step_mem : ∀ (W : List (List Nat)) (st : List NdW × Int), ∀ n ∈ (W.foldl stepW st).1, n.1 ∈ W ∨ n ∈ st.1
  | [], st, n, h => .inr h
  | w :: W, st, n, h => by
    rcases step_mem W _ n h with h | h
    · exact .inl (List.mem_cons_of_mem _ h)
    · unfold stepW at h
      split at h
      · exact .inr h
      · split at h
        · exact .inr h
        · split at h
          · rcases List.mem_append.mp h with h | h
            · exact .inr h
            · rw [List.mem_singleton.mp h]
              exact .inl List.mem_cons_self
          · exact .inr h
theorem nodes_words {z : Str} : ∀ n ∈ nodesZ z, n.1.length ≤ z.length := fun n hn => by
  unfold nodesZ runW at hn
  obtain ⟨m, hm, rfl⟩ := List.mem_map.mp hn
  rcases step_mem _ _ m hm with h | h
  · have h1 := splitC_nb _ _ h
    have h2 := nb_sub3 z.cps.toList
    have h3 := nb_len z.cps.toList
    show m.1.length ≤ z.cps.toList.length
    omega
  · exact nomatch h
def NoTx (K : PySem.W.Frag) (H : Hp) (v : V) : Prop := ∃ (ty : Value) (b : Bool), (∀ H', Same H H' → TyOf K H' v ty) ∧ PySem.W.kitOne K ty (.type "str") = some b ∧ (b = true → ∃ z : Str, v = .str z ∧ z.length ≤ 1000 ∧ Ref z)
theorem NoTx.same {K : PySem.W.Frag} {H H' : Hp} {v : V} (s : Same H H') (h : NoTx K H v) : NoTx K H' v := let ⟨ty, b, h1, h2⟩ := h; ⟨ty, b, fun H2 s2 => h1 H2 (s.trans s2), h2⟩
def FOk (ns : List Nd) : Prop := ns.length ≤ 41 ∧ (∀ n ∈ ns, markS n.1 = true ∧ 0 ≤ n.2 ∧ n.2 ≤ 13) ∧ ∀ n r, ns = n :: r → n.2 = 0 ∧ okF 0 (r.map toW)
theorem FOk.of {ns : List Nd} (hd : depthOk 0 ns) (hl : ns.length ≤ 40) : FOk ns := ⟨by omega, fun n h => ⟨(depthOk_all hd n h).1, (depthOk_all hd n h).2, by have := deepF12 hd (by decide) n h; omega⟩, fun n r e => by
  subst e
  obtain ⟨h1, h2, h3, h4⟩ := hd
  exact ⟨by omega, nodes_okF h4 (by unfold deep1; omega)⟩⟩
theorem ins_lenF {ns : List Nd} (h : FOk ns) : (insL ns).length ≤ 440 := by
  cases ns with
  | nil => exact Nat.zero_le _
  | cons n r =>
    obtain ⟨hl, hm, hf⟩ := h
    obtain ⟨h0, ok⟩ := hf n r rfl
    have := rest_len _ 0 ok fun x hx => by
      obtain ⟨y, hy, rfl⟩ := List.mem_map.mp hx
      exact (mark_all (hm y (List.mem_cons_of_mem _ hy)).1).2.1
    have l8 := (mark_all (hm n List.mem_cons_self).1).2.1
    have l8' : n.1.cps.toList.length ≤ 8 := l8
    rw [List.length_map] at this
    rw [List.length_cons] at hl
    show (n.1.cps.toList ++ restF 0 (r.map toW)).length ≤ 440
    rw [List.length_append]
    omega
def InG (l : List Nat) : Prop := acc 32 0 true l ∧ endOk (stP 32 l)
def TabF (l : List Nat) : Prop := ∃ L w, 1 ≤ L ∧ L ≤ 12 ∧ 1 ≤ w ∧ w ≤ 12 ∧ l.count 47 + 1 = L ∧ l.count 32 + 2 = L * (w + 1) ∧ (l.count 45 = 0 ∨ l.count 45 = L ∧ w = 1)
def ForF (l : List Nat) : Prop := l.count 32 = 0 ∧ l.count 40 = l.count 41 ∧ l.count 40 + l.count 44 ≤ 39 ∧ (l.count 44 = 0 → l.count 40 ≤ 12)
def InF : Dsc → List Nat → Prop
  | .row _, l => l.count 32 ≤ 39
  | .forest _, l => ForF l
  | .table _ _, l => TabF l
theorem nlt {c : Nat} (h : c < 97 := by decide) : ¬ lt c := fun q => absurd q.1 (Nat.not_le_of_lt h)
theorem kind_lt (d : Dsc) : ∀ c ∈ (kindS d).cps.toList, lt c := by
  cases d with
  | row _ => exact fun c hc => of_decide_eq_true (List.all_eq_true.mp (show (Str.ofString "row").cps.toList.all (fun c => decide (lt c)) = true by decide +kernel) c hc)
  | forest _ => exact fun c hc => of_decide_eq_true (List.all_eq_true.mp (show (Str.ofString "forest").cps.toList.all (fun c => decide (lt c)) = true by decide +kernel) c hc)
  | table _ _ => exact fun c hc => of_decide_eq_true (List.all_eq_true.mp (show (Str.ofString "table").cps.toList.all (fun c => decide (lt c)) = true by decide +kernel) c hc)
theorem toW_mk {r : List Nd} (h : ∀ n ∈ r, markS n.1 = true) : mkL (r.map toW) := fun n hn => by
  obtain ⟨y, hy, rfl⟩ := List.mem_map.mp hn
  exact mark_lt (h y hy)
theorem ins_cnt {n : Nd} {r : List Nd} (h : FOk (n :: r)) : (insL (n :: r)).count 32 = 0 ∧ (insL (n :: r)).count 40 = (insL (n :: r)).count 41 ∧ (insL (n :: r)).count 40 + (insL (n :: r)).count 44 = r.length := by
  obtain ⟨_, hm, hf⟩ := h
  have q := (mark_lt (hm n List.mem_cons_self).1).1
  obtain ⟨i1, i2, i3⟩ := rest_cnt (r.map toW) 0 (hf n r rfl).2 (toW_mk fun n hn => (hm n (List.mem_cons_of_mem _ hn)).1)
  rw [List.length_map] at i2
  show (n.1.cps.toList ++ restF 0 (r.map toW)).count 32 = 0 ∧ (n.1.cps.toList ++ restF 0 (r.map toW)).count 40 = (n.1.cps.toList ++ restF 0 (r.map toW)).count 41 ∧ (n.1.cps.toList ++ restF 0 (r.map toW)).count 40 + (n.1.cps.toList ++ restF 0 (r.map toW)).count 44 = r.length
  simp only [List.count_append, cnt_mark q (nlt (c := 32)), cnt_mark q (nlt (c := 40)), cnt_mark q (nlt (c := 41)), cnt_mark q (nlt (c := 44))]
  omega
theorem ins_in {d : Dsc} (o : DOk d) (h : (insD d).length ≠ 0) : InG (insD d).cps.toList ∧ InF d (insD d).cps.toList := by
  cases d with
  | row xs =>
    have hm := sV_marks o.1
    have l40 := o.2
    have lx : (xs.map sV).length = xs.length := List.length_map _
    have ej : insD (.row xs) = Str.join " " (xs.map sV) := rfl
    rw [ej] at h ⊢
    generalize xs.map sV = ws at *
    cases ws with
    | nil => exact absurd rfl h
    | cons w r =>
      have c32 := (marks_cnt hm).1
      rw [join_signs]
      refine ⟨words_acc r w true (marks_ws hm fun e => nomatch e), ?_⟩
      rw [tailW_cons, List.count_cons, if_pos (by decide)] at c32
      show (w.cps.toList ++ tailW r).count 32 ≤ 39
      rw [lx] at c32
      omega
  | forest ns =>
    cases ns with
    | nil => exact absurd rfl h
    | cons n r =>
      have fo := FOk.of o.1 o.2
      obtain ⟨c1, c2, c3⟩ := ins_cnt fo
      obtain ⟨_, hm, hf⟩ := fo
      have q := mark_lt (hm n List.mem_cons_self).1
      have mk := toW_mk (r := r) fun n hn => (hm n (List.mem_cons_of_mem _ hn)).1
      have ra := rest_acc (r.map toW) 0
      have l40 := o.2
      rw [List.length_cons] at l40
      show InG (n.1.cps.toList ++ restF 0 (r.map toW)) ∧ ForF (insL (n :: r))
      refine ⟨⟨acc_mark q.1 q.2.1 (by have := q.2.2; omega) (.inr (.inl rfl)) fun p' n' hp => (ra p' n' mk hp).1, ?_⟩, c1, c2, by omega, fun h44 => ?_⟩
      · rw [stP_app]
        exact (ra _ 0 mk (stP_mark q.1 q.2.1)).2
      · have h44' : (n.1.cps.toList ++ restF 0 (r.map toW)).count 44 = 0 := h44
        rw [List.count_append] at h44'
        have := rest_deep (r.map toW) 0 (hf n r rfl).2 (fun x hx => by
          obtain ⟨y, hy, rfl⟩ := List.mem_map.mp hx
          have := deepF12 o.1 (by decide) y (List.mem_cons_of_mem _ hy)
          show y.2.toNat ≤ 12
          omega) (by omega) (by decide)
        rw [List.length_map] at this
        omega
  | table ls w =>
    have hm := lines_marks o.2.2
    have hw : ∀ l ∈ ls.map (fun l => l.map sV), l.length = w := fun l hl => by
      obtain ⟨x, hx, rfl⟩ := List.mem_map.mp hl
      rw [List.length_map]
      exact (o.2.2 x hx).1
    have l12 := o.2.1
    have w12 := o.1
    have ll : (ls.map fun l => l.map sV).length = ls.length := List.length_map _
    have ej : insD (.table ls w) = Str.join " " (wordsT (ls.map fun l => l.map sV)) := rfl
    rw [ej] at h ⊢
    generalize ls.map (fun l => l.map sV) = ms at *
    have h0 : ms ≠ [] := fun e => h (by rw [e]; rfl)
    have lw := lines_ws (f := true) hm h0
    obtain ⟨c1, c2, c3⟩ := table_cnt h0 hm hw
    have hp := List.length_pos_iff.mpr h0
    cases ew : wordsT ms with
    | nil => exact absurd ew (wordsT_ne h0)
    | cons v r =>
      rw [ew] at lw c1 c2 c3
      rw [join_signs]
      refine ⟨words_acc r v true lw, ?_⟩
      rw [tailW_cons] at c1 c2 c3
      simp only [List.count_cons] at c1 c2 c3
      refine ⟨ms.length, max 1 w, hp, by omega, by omega, by omega, ?_, ?_, ?_⟩
      · simpa using c2
      · have : (v.cps.toList ++ tailW r).count 32 + 1 + 1 = ms.length * (max 1 w + 1) := by simpa using c1
        omega
      · have c3' : (v.cps.toList ++ tailW r).count 45 = ms.length * (1 - w) := by simpa using c3
        by_cases w0 : w = 0
        · subst w0
          exact .inr ⟨by simpa using c3', rfl⟩
        · rw [show 1 - w = 0 by omega, Nat.mul_zero] at c3'
          exact .inl c3'
theorem ref_in {k : Str} {l : List Nat} {z : Str} (hk : freeC 32 k) (hl : l ≠ []) (ez : z.cps.toList = k.cps.toList ++ 32 :: l) (h : ∀ d, DOk d → kindS d = k → InG l → InF d l → False) : Ref z := fun d o e => by
  have pt := part_text (kindS d) (insD d) (kind_free d)
  have ez' : z = k ++ " " ++ mkS l := ext_l (by rw [ez, blank_eq, one_l]; rfl)
  rw [show textK (kindS d) (insD d) = k ++ " " ++ mkS l from e.trans ez', part_yes hk] at pt
  have e2 : mkS l = insD d := pt.2
  have hi := ins_in o (by rw [← e2]; exact fun q => hl (List.length_eq_zero_iff.mp (show l.length = 0 from q)))
  rw [← e2] at hi
  exact h d o pt.1.symm hi.1 hi.2
theorem ref_kind {z k : Str} (hz : (Txt.partition z " ").1 = k) (h1 : k ≠ "row") (h2 : k ≠ "forest") (h3 : k ≠ "table") : Ref z := fun d o e => by
  have pt := (part_text (kindS d) (insD d) (kind_free d)).1
  rw [show textK (kindS d) (insD d) = z from e, hz] at pt
  cases d with
  | row _ => exact h1 pt
  | forest _ => exact h2 pt
  | table _ _ => exact h3 pt
theorem text_signs (d : Dsc) : (textD d).cps.toList = (kindS d).cps.toList ∨ (textD d).cps.toList = (kindS d).cps.toList ++ 32 :: (insD d).cps.toList := by
  unfold textD textK
  split
  · exact .inl rfl
  · right
    rw [blank_eq, one_l]
theorem ref_head {z : Str} {c : Nat} {t : List Nat} (ez : z.cps.toList = c :: t) (hc : c < 97) : Ref z := fun d _ e => by
  have hd : ∃ b r, (kindS d).cps.toList = b :: r ∧ lt b := by
    have := kind_lt d
    cases d with
    | row _ => exact ⟨114, [111, 119], (show (Str.ofString "row").cps.toList = _ by decide +kernel), by decide⟩
    | forest _ => exact ⟨102, [111, 114, 101, 115, 116], (show (Str.ofString "forest").cps.toList = _ by decide +kernel), by decide⟩
    | table _ _ => exact ⟨116, [97, 98, 108, 101], (show (Str.ofString "table").cps.toList = _ by decide +kernel), by decide⟩
  obtain ⟨b, r, hb, hlt⟩ := hd
  have := text_signs d
  rw [e, ez, hb] at this
  have hlt' : 97 ≤ b ∧ b ≤ 122 := hlt
  rcases this with h | h
  · have := (List.cons.inj h).1
    omega
  · have := (List.cons.inj (show c :: t = b :: (r ++ 32 :: (insD d).cps.toList) from h)).1
    omega
theorem ref_nil {z : Str} (ez : z.cps.toList = []) : Ref z := fun d _ e => by
  have := text_signs d
  rw [e, ez] at this
  cases d with
  | row _ => rcases this with h | h <;> exact absurd h (by simp [show (kindS (.row ‹_›)).cps.toList = [114, 111, 119] from (show (Str.ofString "row").cps.toList = _ by decide +kernel)])
  | forest _ => rcases this with h | h <;> exact absurd h (by simp [show (kindS (.forest ‹_›)).cps.toList = [102, 111, 114, 101, 115, 116] from (show (Str.ofString "forest").cps.toList = _ by decide +kernel)])
  | table _ _ => rcases this with h | h <;> exact absurd h (by simp [show (kindS (.table ‹_› ‹_›)).cps.toList = [116, 97, 98, 108, 101] from (show (Str.ofString "table").cps.toList = _ by decide +kernel)])
theorem ref_sign {z : Str} {c : Nat} (hz : c ∈ z.cps.toList) (hc : c < 32) : Ref z := fun d o e => by
  have hk : c ∉ (kindS d).cps.toList := fun m => by
    have h : 97 ≤ c ∧ c ≤ 122 := kind_lt d c m
    omega
  have ts := text_signs d
  by_cases h0 : (insD d).length = 0
  · have e0 : (textD d) = kindS d := if_pos h0
    rw [← e, e0] at hz
    exact hk hz
  · rw [e] at ts
    rcases ts with h | h
    · rw [h] at hz
      exact hk hz
    · rw [h] at hz
      rcases List.mem_append.mp hz with hz | hz
      · exact hk hz
      · rcases List.mem_cons.mp hz with hz | hz
        · omega
        · have := acc_mem (ins_in o h0).1.1 c hz
          unfold lt at this
          omega
theorem slice_to {z : Str} {n : Nat} (h : n ≤ z.length) : (Txt.slice z none (some (n : Int))).cps.toList = z.cps.toList.take n := by
  have e := eq_of_beq (PyProof.Rows.slice_closes_to (x := z) (j := (n : Int)) ⟨by omega, by show (n : Int) ≤ (z.length : Int); omega⟩)
  rw [e]
  show List.take ((n : Int) - 0).toNat (List.drop (Int.toNat 0) z.cps.toList) = _
  rw [show ((n : Int) - 0).toNat = n by omega]
  rfl
theorem slice_from {z : Str} {n : Nat} (h : n ≤ z.length) : (Txt.slice z (some (n : Int)) none).cps.toList = z.cps.toList.drop n := by
  have e := eq_of_beq (PyProof.Rows.slice_closes_from (x := z) (i := (n : Int)) ⟨by omega, by show (n : Int) ≤ (z.length : Int); omega⟩)
  rw [e]
  show List.take _ (List.drop _ z.cps.toList) = _
  rw [List.take_of_length_le]
  · rw [show Int.toNat (n : Int) = n by omega]
  · rw [List.length_drop]
    omega
theorem lines_text {ls : List (List V)} {w : Nat} (h0 : ls ≠ []) (w1 : 1 ≤ w) (hw : ∀ x ∈ ls, lineOk w x) : Str.ofString "table " ++ Str.join " / " ((ls.map fun l => l.map sV).map (Str.join " ")) = textD (.table ls w) := by
  have hm0 : ls.map (fun l => l.map sV) ≠ [] := fun e => h0 (List.map_eq_nil_iff.mp e)
  have e1 : (ls.map fun l => l.map sV).map (Str.join " ") = (ls.map fun l => l.map sV).map showL := List.map_congr_left fun l hl => by
    obtain ⟨x, hx, rfl⟩ := List.mem_map.mp hl
    have lx := (hw x hx).1
    cases x with
    | nil => rw [← lx] at w1; exact absurd w1 (by decide)
    | cons y r => rfl
  rw [e1, showT_join hm0]
  have l1 := join_ne (words_lines (lines_marks hw)) (wordsT_ne hm0)
  show _ = textK "table" (Str.join " " (wordsT (ls.map fun l => l.map sV)))
  unfold textK
  rw [if_neg (by omega)]
  rw [show Str.ofString "table " = Str.ofString "table" ++ Str.ofString " " by decide +kernel]
theorem tab_len {ls : List (List V)} {w : Nat} (h11 : ls.length ≤ 13) (w3 : w ≤ 3) (hw : ∀ x ∈ ls, lineOk w x) : (insD (.table ls w)).length ≤ 585 := by
  have h := words_many (n := 3) (ls := ls.map fun l => l.map sV) fun l hl => by
    obtain ⟨x, hx, rfl⟩ := List.mem_map.mp hl
    have := (hw x hx).1
    rw [List.length_map]
    omega
  have h2 := join_len (words_lines (lines_marks hw))
  rw [List.length_map] at h
  show (Str.join " " (wordsT (ls.map fun l => l.map sV))).length ≤ 585
  omega
theorem tab_ne {ls : List (List V)} {w : Nat} (h0 : ls ≠ []) (hw : ∀ x ∈ ls, lineOk w x) : (insD (.table ls w)).length ≠ 0 := by
  have hm0 : ls.map (fun l => l.map sV) ≠ [] := fun e => h0 (List.map_eq_nil_iff.mp e)
  have l1 := join_ne (words_lines (lines_marks hw)) (wordsT_ne hm0)
  show (Str.join " " (wordsT (ls.map fun l => l.map sV))).length ≠ 0
  omega
theorem text_l {d : Dsc} (h : (insD d).length ≠ 0) : (textD d).cps.toList = (kindS d).cps.toList ++ 32 :: (insD d).cps.toList := by
  unfold textD textK
  rw [if_neg h, blank_eq, one_l]
theorem tab_cnt {ls : List (List V)} {w : Nat} (h0 : ls ≠ []) (w1 : 1 ≤ w) (hw : ∀ x ∈ ls, lineOk w x) : (insD (.table ls w)).cps.toList.count 47 + 1 = ls.length ∧ (insD (.table ls w)).cps.toList.count 32 + 2 = ls.length * (w + 1) ∧ (insD (.table ls w)).cps.toList.count 45 = 0 := by
  have hm0 : ls.map (fun l => l.map sV) ≠ [] := fun e => h0 (List.map_eq_nil_iff.mp e)
  have hm := lines_marks hw
  have hw' : ∀ l ∈ ls.map (fun l => l.map sV), l.length = w := fun l hl => by
    obtain ⟨x, hx, rfl⟩ := List.mem_map.mp hl
    rw [List.length_map]
    exact (hw x hx).1
  obtain ⟨c1, c2, c3⟩ := table_cnt hm0 hm hw'
  rw [List.length_map] at c1 c2 c3
  rw [show insD (.table ls w) = Str.join " " (wordsT (ls.map fun l => l.map sV)) from rfl]
  cases ew : wordsT (ls.map fun l => l.map sV) with
  | nil => exact absurd ew (wordsT_ne hm0)
  | cons v r =>
    rw [ew] at c1 c2 c3
    rw [tailW_cons] at c1 c2 c3
    rw [join_signs]
    have c1' : (v.cps.toList ++ tailW r).count 32 + 1 + 1 = ls.length * (max 1 w + 1) := by simpa [List.count_cons] using c1
    have c2' : (v.cps.toList ++ tailW r).count 47 + 1 = ls.length := by simpa [List.count_cons] using c2
    have c3' : (v.cps.toList ++ tailW r).count 45 = ls.length * (1 - w) := by simpa [List.count_cons] using c3
    rw [show max 1 w = w by omega] at c1'
    rw [show 1 - w = 0 by omega, Nat.mul_zero] at c3'
    exact ⟨c2', c1', c3'⟩
theorem ref_tab {l : List Nat} {z : Str} (hl : l ≠ []) (ez : z.cps.toList = (Str.ofString "table").cps.toList ++ 32 :: l) (h : InG l → TabF l → False) : Ref z :=
  ref_in (k := "table") (show 32 ∉ (Str.ofString "table").cps.toList by decide +kernel) hl ez fun d o ek hg hf => by
    cases d with
    | row _ => exact absurd ek (show ¬ Str.ofString "row" = Str.ofString "table" by decide +kernel)
    | forest _ => exact absurd ek (show ¬ Str.ofString "forest" = Str.ofString "table" by decide +kernel)
    | table ls w => exact h hg hf
theorem ref_for {l : List Nat} {z : Str} (hl : l ≠ []) (ez : z.cps.toList = (Str.ofString "forest").cps.toList ++ 32 :: l) (h : InG l → ForF l → False) : Ref z :=
  ref_in (k := "forest") (show 32 ∉ (Str.ofString "forest").cps.toList by decide +kernel) hl ez fun d o ek hg hf => by
    cases d with
    | row _ => exact absurd ek (show ¬ Str.ofString "row" = Str.ofString "forest" by decide +kernel)
    | forest _ => exact h hg hf
    | table ls w => exact absurd ek (show ¬ Str.ofString "table" = Str.ofString "forest" by decide +kernel)
theorem app_ne2 {a b : List Nat} (h : a ≠ []) : a ++ b ≠ [] := fun e => h (List.append_eq_nil_iff.mp e).1
theorem app_ne {a b : List Nat} (h : b ≠ []) : a ++ b ≠ [] := fun e => h (List.append_eq_nil_iff.mp e).2
theorem same_cnt {m : Str} (hm : markS m = true) (n : Nat) : (Str.join " " (List.replicate (n + 1) m)).cps.toList.count 32 = n ∧ (Str.join " " (List.replicate (n + 1) m)).cps.toList.count 47 = 0 ∧ (Str.join " " (List.replicate (n + 1) m)).cps.toList.count 45 = 0 := by
  have q := (mark_lt hm).1
  obtain ⟨c1, c2, c3⟩ := marks_cnt (ws := List.replicate n m) fun z hz => by rw [(List.mem_replicate.mp hz).2]; exact hm
  rw [List.length_replicate] at c1
  rw [List.replicate_succ, join_signs]
  rw [List.count_append, List.count_append, List.count_append, cnt_mark q (nlt (c := 32)), cnt_mark q (nlt (c := 47)), cnt_mark q (nlt (c := 45)), c1, c2, c3]
  exact ⟨Nat.zero_add _, rfl, rfl⟩
theorem same_len {m : Str} (hm : markS m = true) (n : Nat) : (Str.join " " (List.replicate n m)).length ≤ 9 * n := by
  have := join_len (ws := List.replicate n m) fun w hw => by rw [(List.mem_replicate.mp hw).2]; exact .inl hm
  rw [List.length_replicate] at this
  exact this
theorem same_pos {m : Str} (hm : markS m = true) (n : Nat) : 1 ≤ (Str.join " " (List.replicate (n + 1) m)).length := join_ne (fun w hw => by rw [(List.mem_replicate.mp hw).2]; exact .inl hm) (by simp)
theorem same_sum {m : Str} (hm : markS m = true) (n : Nat) : ((List.replicate n m).map (·.length)).sum ≤ 8 * n := by
  have := sum_len (ws := List.replicate n m) fun w hw => by rw [(List.mem_replicate.mp hw).2]; exact .inl hm
  rw [List.length_replicate] at this
  exact this
theorem tcomp_same {x : V} {n : Nat} {x0 : Str} {ix : List Nat} {wi : TI} {te : TE} {Q : VK} {σ : St} {H : Hp} (hn : n ≤ 1000) (hi : ∀ R : It → Hp → Prop, R (Itr 0 n) H → wi σ H R) (he : ∀ (j : Int) (Q' : VK), Q' x H → te (some (.int j) :: ix.map fun j => (σ[j]?).join) H Q') (k : ∀ L, H L = none → Q (.ref L) (upd H L (.lst (List.replicate n x)))) : tComp [x0] ix wi (gName 0) tYes te σ H Q := by
  refine tcomp_range hi (fun i ys H' => H' = H ∧ ys = List.replicate i x) ⟨rfl, rfl⟩ (fun i ys H' R hi' hp hR => ?_) fun ys H' hp => ?_
  · obtain ⟨rfl, rfl⟩ := hp
    simp only [tYes]
    rw [if_pos trivial]
    refine he _ _ ⟨small1000 (by rw [List.length_replicate]; omega), hR _ _ ⟨rfl, ?_⟩⟩
    rw [List.replicate_succ']
  · obtain ⟨rfl, rfl⟩ := hp
    exact ⟨Nat.le_of_lt (small1000 (by rw [List.length_replicate]; exact hn)), k⟩
theorem tbl_app (y : Str) : (Str.ofString "table " ++ y).cps.toList = (Str.ofString "table").cps.toList ++ 32 :: y.cps.toList := by
  rw [app_l, show (Str.ofString "table ").cps.toList = (Str.ofString "table").cps.toList ++ [32] by decide +kernel, List.append_assoc]
  rfl
theorem for_app (y : Str) : (Str.ofString "forest " ++ y).cps.toList = (Str.ofString "forest").cps.toList ++ 32 :: y.cps.toList := by
  rw [app_l, show (Str.ofString "forest ").cps.toList = (Str.ofString "forest").cps.toList ++ [32] by decide +kernel, List.append_assoc]
  rfl
theorem more_l {z k : Str} {l : List Nat} (ez : z.cps.toList = k.cps.toList ++ 32 :: l) (y : Str) : (z ++ y).cps.toList = k.cps.toList ++ 32 :: (l ++ y.cps.toList) := by
  rw [app_l, ez, List.append_assoc]
  rfl
theorem str_ne {y : Str} (h : 1 ≤ y.length) : y.cps.toList ≠ [] := fun e => by
  have l0 : y.length = y.cps.toList.length := rfl
  rw [l0, e] at h
  exact absurd h (by decide)
theorem map_rep (n : Nat) (m : Str) : List.replicate n (V.str m) = (List.replicate n m).map V.str := by rw [List.map_replicate]
theorem mul_no {a b c : Nat} (h : 2 ≤ a) (e : a * b = a * c + 1) : False := by
  have := congrArg (· % a) e
  simp only [Nat.mul_mod_right, Nat.mul_add_mod] at this
  rw [Nat.mod_eq_of_lt (by omega)] at this
  omega
theorem pick_mod {xs : List V} {j : Int} (n : Nat) (hl : xs.length = n) (hn : 0 < n) : ∃ x ∈ xs, atI xs (j % (n : Int)) = some x := by
  have h1 := Int.emod_nonneg j (show (n : Int) ≠ 0 by omega)
  have h2 := Int.emod_lt_of_pos j (show (0 : Int) < n by omega)
  obtain ⟨i, hi⟩ : ∃ i : Nat, j % (n : Int) = (i : Int) := ⟨(j % (n : Int)).toNat, by omega⟩
  have hx : i < xs.length := by omega
  exact ⟨xs[i], List.getElem_mem _, by rw [hi]; exact atI_nat (List.getElem?_eq_getElem hx)⟩
theorem NoTx.txt {K : PySem.W.Frag} {H : Hp} {z : Str} (lz : z.length ≤ 1000) (hr : Ref z) : NoTx K H (.str z) := ⟨.type "str", true, fun _ _ => .str z, rfl, fun _ => ⟨z, rfl, lz, hr⟩⟩
theorem ref_any {d : Dsc} {l : List Nat} {z : Str} (hl : l ≠ []) (ez : z.cps.toList = (kindS d).cps.toList ++ 32 :: l) (h : InG l → False) : Ref z := ref_in (kind_free d) hl ez fun _ _ _ hg _ => h hg
theorem bad_mem {l : List Nat} {c : Nat} (hc : c ∈ l) (h : ¬ (lt c ∨ c = 32 ∨ c = 47 ∨ c = 45 ∨ c = 40 ∨ c = 41 ∨ c = 44)) : InG l → False := fun hg => h (acc_mem hg.1 c hc)
theorem nine_lt : ∀ c ∈ (Str.ofString "abcdefghi").cps.toList, lt c := fun c hc => of_decide_eq_true (List.all_eq_true.mp (show (Str.ofString "abcdefghi").cps.toList.all (fun c => decide (lt c)) = true by decide +kernel) c hc)
theorem bad_nine {a b : List Nat} : InG (a ++ ((Str.ofString "abcdefghi").cps.toList ++ b)) → False := fun hg => acc_nine hg.1 nine_lt (by decide +kernel)
theorem head1 (d : Dsc) : ∃ c t, (textD d).cps.toList = c :: t ∧ (c = 102 ∧ kindS d = Str.ofString "forest" ∨ (c = 114 ∨ c = 116) ∧ kindS d ≠ Str.ofString "forest") := by
  have ts := text_signs d
  cases d with
  | row xs =>
    rw [show (kindS (.row xs)).cps.toList = [114, 111, 119] from (show (Str.ofString "row").cps.toList = _ by decide +kernel)] at ts
    exact ts.elim (fun e => ⟨_, _, e, .inr ⟨.inl rfl, (show ¬ Str.ofString "row" = Str.ofString "forest" by decide +kernel)⟩⟩) fun e => ⟨_, _, e, .inr ⟨.inl rfl, (show ¬ Str.ofString "row" = Str.ofString "forest" by decide +kernel)⟩⟩
  | forest ns =>
    rw [show (kindS (.forest ns)).cps.toList = [102, 111, 114, 101, 115, 116] from (show (Str.ofString "forest").cps.toList = _ by decide +kernel)] at ts
    exact ts.elim (fun e => ⟨_, _, e, .inl ⟨rfl, rfl⟩⟩) fun e => ⟨_, _, e, .inl ⟨rfl, rfl⟩⟩
  | table ls w =>
    rw [show (kindS (.table ls w)).cps.toList = [116, 97, 98, 108, 101] from (show (Str.ofString "table").cps.toList = _ by decide +kernel)] at ts
    exact ts.elim (fun e => ⟨_, _, e, .inr ⟨.inr rfl, (show ¬ Str.ofString "table" = Str.ofString "forest" by decide +kernel)⟩⟩) fun e => ⟨_, _, e, .inr ⟨.inr rfl, (show ¬ Str.ofString "table" = Str.ofString "forest" by decide +kernel)⟩⟩
theorem put_l {k : Str} {l : List Nat} {z : Str} (ez : z.cps.toList = k.cps.toList ++ 32 :: l) {s : Nat} (hs : s ≤ l.length) (y : Str) : (Txt.slice z none (some ((k.length + 1 + s : Nat) : Int)) ++ y ++ Txt.slice z (some ((k.length + 1 + s : Nat) : Int)) none).cps.toList = k.cps.toList ++ 32 :: (l.take s ++ (y.cps.toList ++ l.drop s)) := by
  have lz : z.length = k.length + 1 + l.length := by
    have : z.length = z.cps.toList.length := rfl
    rw [this, ez, List.length_append, List.length_cons]
    show k.cps.toList.length + _ = k.cps.toList.length + _ + _
    omega
  have ek : z.cps.toList = (k.cps.toList ++ [32]) ++ l := by rw [ez, List.append_assoc]; rfl
  have lk : k.length + 1 + s = (k.cps.toList ++ [32]).length + s := by rw [List.length_append]; rfl
  rw [app_l, app_l, slice_to (by omega), slice_from (by omega), ek, lk, List.take_length_add_append, List.drop_length_add_append]
  simp only [List.append_assoc]
  rfl
theorem rep_two : ∀ l : List Nat, (repC 32 [32, 32] l).length = l.length + l.count 32
  | [] => rfl
  | d :: l => by
    have ih := rep_two l
    show ((if d = 32 then [32, 32] else [d]) ++ repC 32 [32, 32] l).length = _
    rw [List.length_append, List.length_cons, List.count_cons, ih]
    by_cases h : d = 32
    · subst h
      simp
      omega
    · rw [if_neg h, if_neg (by simpa using h)]
      simp
      omega
theorem few_blanks {d : Dsc} {l : List Nat} (h : InF d l) : l.count 32 ≤ 156 := by
  cases d with
  | row _ => have h : l.count 32 ≤ 39 := h; omega
  | forest _ => have := h.1; omega
  | table _ _ =>
    obtain ⟨L, w, _, h2, _, h4, _, h6, _⟩ := h
    have := Nat.mul_le_mul h2 (show w + 1 ≤ 13 by omega)
    omega
def ndsL (m : Str) (g : Nat → Nat) (n : Nat) : List Nd := (List.range' 0 n).map fun k => (m, ((g k : Nat) : Int))
theorem nds_succ (m : Str) (g : Nat → Nat) (n : Nat) : ndsL m g (n + 1) = ndsL m g n ++ [(m, ((g n : Nat) : Int))] := by
  unfold ndsL
  rw [List.range'_1_concat, List.map_append, Nat.zero_add]
  rfl
theorem okF_steps {m : Str} (hm : markS m = true) {g : Nat → Nat} (hg : ∀ k, g (k + 1) ≤ g k + 1) : ∀ n a, okF (g a) (((List.range' (a + 1) n).map fun k => ((m, ((g k : Nat) : Int)) : Nd)).map toW)
  | 0, a => trivial
  | n + 1, a => by
    rw [List.range'_succ]
    refine ⟨?_, mark_plain hm, (mark_lt hm).2.1, okF_steps hm hg n (a + 1)⟩
    show Int.toNat ((g (a + 1) : Nat) : Int) ≤ g a + 1
    rw [Int.toNat_natCast]
    exact hg a
theorem nds_ok {m : Str} (hm : markS m = true) {g : Nat → Nat} (hg : ∀ k, g (k + 1) ≤ g k + 1) (g0 : g 0 = 0) {n : Nat} (hn : n ≤ 41) (h13 : ∀ k < n, g k ≤ 13) : FOk (ndsL m g n) := by
  refine ⟨by unfold ndsL; rw [List.length_map, List.length_range']; exact hn, fun x hx => ?_, fun x r e => ?_⟩
  · obtain ⟨k, hk, rfl⟩ := List.mem_map.mp hx
    have := List.mem_range'_1.mp hk
    have := h13 k (by omega)
    exact ⟨hm, by show (0 : Int) ≤ ((g k : Nat) : Int); omega, by show ((g k : Nat) : Int) ≤ 13; omega⟩
  · cases n with
    | zero => cases e
    | succ n =>
      unfold ndsL at e
      rw [List.range'_succ, List.map_cons] at e
      have e1 := (List.cons.inj e).1
      have e2 := (List.cons.inj e).2
      subst e1 e2
      refine ⟨by show ((g 0 : Nat) : Int) = 0; rw [g0]; rfl, ?_⟩
      have := okF_steps hm hg n 0
      rw [g0] at this
      exact this
theorem chain_cnt {m : Str} (hm : markS m = true) : ∀ n a, (restF a (((List.range' (a + 1) n).map fun k => ((m, ((k : Nat) : Int)) : Nd)).map toW)).count 44 = 0
  | 0, a => (closes_cnt a).2.2.1
  | n + 1, a => by
    rw [List.range'_succ]
    show (restF a ((m.cps.toList, Int.toNat ((a + 1 : Nat) : Int)) :: _)).count 44 = 0
    rw [Int.toNat_natCast]
    unfold restF
    rw [if_pos (Nat.lt_succ_self a), List.count_append, List.count_append, chain_cnt hm n (a + 1), cnt_mark (mark_lt hm).1 (nlt (c := 44))]
    rfl
theorem tcomp_nodes {m : Str} {g : Nat → Nat} {n : Nat} {x0 : Str} {ix : List Nat} {wi : TI} {te : TE} {Q : VK} {σ : St} {H : Hp} (hn : n ≤ 1000) (hi : ∀ R : It → Hp → Prop, R (Itr 0 n) H → wi σ H R) (he : ∀ (j : Nat) (H' : Hp) (Q' : VK), (∀ p, H' p = none → Q' (.ref p) (upd H' p (.tup [.str m, .int ((g j : Nat) : Int)]))) → te (some (.int (0 + (j : Int))) :: ix.map fun j => (σ[j]?).join) H' Q')
    (k : ∀ L ys H', Same H H' → H' L = some (.lst ys) → NodesAt H' ys (ndsL m g n) → Q (.ref L) H') : tComp [x0] ix wi (gName 0) tYes te σ H Q := by
  refine tcomp_range hi (fun i ys H' => Same H H' ∧ NodesAt H' ys (ndsL m g i) ∧ ys.length = i) ⟨Same.refl _, trivial, rfl⟩ (fun i ys H' R hi' hp hR => ?_) fun ys H' hp => ?_
  · obtain ⟨s, hN, hl⟩ := hp
    simp only [tYes]
    rw [if_pos trivial]
    refine he _ _ _ fun p hp => ⟨small1000 (by omega), hR _ _ ⟨s.upd hp, ?_, by rw [List.length_append, hl]; rfl⟩⟩
    rw [nds_succ]
    exact (hN.same (Same.put hp)).append (ys := [.ref p]) (ms := [(m, ((g i : Nat) : Int))]) ⟨⟨p, rfl, upd_same⟩, trivial⟩
  · obtain ⟨s, hN, hl⟩ := hp
    exact ⟨Nat.le_of_lt (small1000 (by omega)), fun L hL => k L ys _ (s.upd hL) upd_same (hN.same (Same.put hL))⟩
theorem pair_bad {a b : List Nat} {p q : Nat} (hp : p = 40 ∨ p = 41 ∨ p = 44) (hq : q = 40 ∨ q = 41 ∨ q = 44) (h0 : (a ++ b).count 40 = (a ++ b).count 41) (hg : InG (a ++ p :: q :: b)) (hf : ForF (a ++ p :: q :: b)) : False := by
  have hs := acc_two hg.1
  have hc := hf.2.1
  rw [List.count_append, List.count_append] at h0
  rw [List.count_append, List.count_append, List.count_cons, List.count_cons, List.count_cons, List.count_cons] at hc
  unfold sok lt at hs
  rcases hp with rfl | rfl | rfl <;> rcases hq with rfl | rfl | rfl <;> simp at hc <;> omega
theorem first_bad {c : Nat} {l : List Nat} (hc : c = 40 ∨ c = 41 ∨ c = 44) : InG (c :: l) → False := fun hg => by
  have h1 := hg.1.1
  unfold sok lt at h1
  omega
theorem pick3 {j : Int} (h0 : 0 ≤ j) (h3 : j < 3) : ∃ x, atI (Str.ofString "(),").cps.toList j = some x ∧ (x = 40 ∨ x = 41 ∨ x = 44) := by
  rw [show (Str.ofString "(),").cps.toList = [40, 41, 44] by decide +kernel]
  have : j = ((0 : Nat) : Int) ∨ j = ((1 : Nat) : Int) ∨ j = ((2 : Nat) : Int) := by omega
  rcases this with rfl | rfl | rfl
  · exact ⟨40, atI_nat rfl, .inl rfl⟩
  · exact ⟨41, atI_nat rfl, .inr (.inl rfl)⟩
  · exact ⟨44, atI_nat rfl, .inr (.inr rfl)⟩
theorem tIfS_open {c : TT} {t u : TS} {D : Ends} {σ : St} {H : Hp} (P : Bool → Hp → Prop) (hc : ∀ G : Bool → Hp → Prop, (∀ b H1, P b H1 → G b H1) → c σ H G) (ht : ∀ H1, P true H1 → t D σ H1) (hu : ∀ H1, P false H1 → u D σ H1) : tIfS c t u D σ H := hc _ fun b H1 p => by
  cases b with
  | true => rw [if_pos rfl]; exact ht H1 p
  | false => rw [if_neg (by decide)]; exact hu H1 p
def cutsN (s n : Nat) : Nat := (n + s - 1) / s
theorem cuts_iff {s n i : Nat} (hs : 1 ≤ s) : i < cutsN s n ↔ i * s < n := by
  unfold cutsN
  rw [Nat.lt_iff_add_one_le, Nat.le_div_iff_mul_le (by omega), Nat.add_mul, Nat.one_mul]
  omega
theorem n_uniq {n m : Nat} {P : Nat → Prop} (h1 : ∀ i, i < n ↔ P i) (h2 : ∀ i, i < m ↔ P i) : n = m := by
  rcases Nat.lt_trichotomy n m with h | h | h
  · exact absurd ((h1 n).mpr ((h2 n).mp h)) (Nat.lt_irrefl _)
  · exact h
  · exact absurd ((h2 m).mpr ((h1 m).mp h)) (Nat.lt_irrefl _)
theorem cuts_int {wd len : Nat} (hw : 1 ≤ wd) (i : Nat) : i < cutsN wd (len + 1 - wd) ↔ (i : Int) * (wd : Int) < (len : Int) - (wd : Int) + 1 := by
  rw [cuts_iff hw, ← Int.natCast_mul]
  generalize i * wd = q
  omega
theorem norm_tab {ls : List (List V)} {w : Nat} (h : ls ≠ []) : normD (.table ls w) = .table ls w := by
  cases ls with
  | nil => exact absurd rfl h
  | cons _ _ => rfl
theorem split_seq {B t r : TS} (h : B = tSeq t r) : ∃ B', B = tSeq t B' ∧ B' = r := ⟨r, h, rfl⟩
theorem row_text {ys : List V} (hm : ys.all markV = true) (h0 : ys ≠ []) : Str.join " " (Str.ofString "row" :: ys.map sV) = textD (.row ys) := by
  have hne : ys.map sV ≠ [] := fun e => h0 (List.map_eq_nil_iff.mp e)
  have l1 := join_ne (ws := ys.map sV) (fun w hw => .inl (sV_marks hm w hw)) hne
  rw [join_cons " " _ hne]
  show _ = textK "row" (Str.join " " (ys.map sV))
  unfold textK
  rw [if_neg (by omega)]
theorem row_ne {ys : List V} (hm : ys.all markV = true) (h0 : ys ≠ []) : insD (.row ys) ≠ Str.empty := fun e => by
  have l1 := join_ne (ws := ys.map sV) (fun w hw => .inl (sV_marks hm w hw)) (fun e => h0 (List.map_eq_nil_iff.mp e))
  rw [show Str.join " " (ys.map sV) = Str.empty from e] at l1
  exact absurd l1 (by decide)
theorem row_wrong {ws : List Str} (hm : ∀ z ∈ ws, markS z = true) (hl : ws.length = 41) : Ref (Str.join " " (Str.ofString "row" :: ws)) := by
  cases ws with
  | nil => cases hl
  | cons w r =>
    have c := (marks_cnt hm).1
    have mw := (mark_lt (hm w List.mem_cons_self)).2.1
    refine ref_in (k := "row") (l := w.cps.toList ++ tailW r) (show 32 ∉ (Str.ofString "row").cps.toList by decide +kernel) (app_ne2 mw) (by rw [join_signs, tailW_cons]) fun d o ek hg hf => ?_
    rw [tailW_cons, List.count_cons, if_pos (by decide)] at c
    cases d with
    | row _ =>
      have hf : (w.cps.toList ++ tailW r).count 32 ≤ 39 := hf
      omega
    | forest _ => exact absurd ek (show ¬ Str.ofString "forest" = Str.ofString "row" by decide +kernel)
    | table _ _ => exact absurd ek (show ¬ Str.ofString "table" = Str.ofString "row" by decide +kernel)
theorem row_len {ws : List Str} (hm : ∀ z ∈ ws, markS z = true) : (Str.join " " (Str.ofString "row" :: ws)).length ≤ 9 * ws.length + 9 ∧ ((Str.ofString "row" :: ws).map (·.length)).sum ≤ 8 * ws.length + 8 := by
  have wk : ∀ w ∈ Str.ofString "row" :: ws, wordS w := fun w hw => by
    rcases List.mem_cons.mp hw with rfl | hw
    · exact .inl (by decide +kernel)
    · exact .inl (hm w hw)
  have h1 := join_len wk
  have h2 := sum_len wk
  rw [List.length_cons] at h1 h2
  exact ⟨by omega, by omega⟩
theorem for_text {ns : List Nd} (h : FOk ns) (h0 : ns ≠ []) : Str.ofString "forest " ++ insS ns = textD (.forest ns) ∧ insD (.forest ns) ≠ Str.empty := by
  obtain ⟨n0, r0, ens⟩ := List.exists_cons_of_ne_nil h0
  have l1 : 1 ≤ (insS ns).length := by
    have m1 := (mark_all (h.2.1 n0 (by rw [ens]; exact List.mem_cons_self)).1).1
    have m1' : 1 ≤ n0.1.cps.toList.length := m1
    rw [ens]
    show 1 ≤ (n0.1.cps.toList ++ restF 0 (r0.map toW)).length
    rw [List.length_append]
    omega
  refine ⟨?_, fun e => ?_⟩
  · show _ = textK "forest" (insS ns)
    unfold textK
    rw [if_neg (by omega), show Str.ofString "forest " = Str.ofString "forest" ++ Str.ofString " " by decide +kernel]
  · rw [show insS ns = Str.empty from e] at l1
    exact absurd l1 (by decide)
def chunk (ys : List V) (wd j : Nat) : List V := (ys.drop (j * wd)).take wd
def linesN (ys : List V) (wd n : Nat) : List (List V) := (List.range' 0 n).map (chunk ys wd)
theorem linesN_succ (ys : List V) (wd n : Nat) : linesN ys wd (n + 1) = linesN ys wd n ++ [chunk ys wd n] := by
  unfold linesN
  rw [List.range'_1_concat, List.map_append, Nat.zero_add]
  rfl
theorem linesN_ok {ys : List V} {wd n : Nat} (hm : ys.all markV = true) (h : ∀ i < n, i * wd + wd ≤ ys.length) : ∀ l ∈ linesN ys wd n, lineOk wd l := fun l hl => by
  obtain ⟨j, hj, rfl⟩ := List.mem_map.mp hl
  have := h j (by have := List.mem_range'_1.mp hj; omega)
  refine ⟨by unfold chunk; rw [List.length_take, List.length_drop]; omega, List.all_eq_true.mpr fun x hx => List.all_eq_true.mp hm x (List.mem_of_mem_drop (List.mem_of_mem_take hx))⟩
theorem any_formR {ad : Adr} {H : Hp} {d : Dsc} {Q : VK} {E : XK} (A : (V → Hp → Prop) → Prop) (hA : ∀ F : V → Hp → Prop, (∀ p H1, Same H H1 → ThObj ad H1 p d → F (.ref p) H1) → A F) (k : ∀ f H', Same H H' → FormAt H' f d → Q (.ref f) H') :
    ((A fun v H1 => ∃ p, v = .ref p ∧ ∃ x y, H1 p = some (.ins ad.Row x y) ∧ List.lookup (Str.ofString "form") y = none ∧ sp_Row_form ad [v] H1 Q E) ∨ A fun v H1 => ∃ p, v = .ref p ∧ ∃ x y, H1 p = some (.ins ad.Forest x y) ∧ List.lookup (Str.ofString "form") y = none ∧ sp_form ad [v] H1 Q E) ∨ A fun v H1 => ∃ p, v = .ref p ∧ ∃ x y, H1 p = some (.ins ad.Table x y) ∧ List.lookup (Str.ofString "form") y = none ∧ sp_Table_form ad [v] H1 Q E := by
  cases d with
  | row xs => exact .inl (.inl (hA _ fun p H1 s h => by obtain ⟨dx, t, h1, _⟩ := id h; exact ⟨p, rfl, dx, _, h1, rfl, p, xs, rfl, h, fun t l ht hl => k l _ (s.trans (Same.put hl)) ⟨t, upd_same, (Same.put hl) _ _ ht⟩⟩))
  | forest ns => exact .inl (.inr (hA _ fun p H1 s h => by obtain ⟨⟨dx, t1, t2, xs, h1, _⟩, _⟩ := id h; exact ⟨p, rfl, dx, _, h1, lookup_no (by decide +kernel) (by decide +kernel), p, ns, rfl, h.1, fun t xs l ht hx hl => k l _ (s.trans (Same.put hl)) ⟨t, xs, upd_same, (Same.put hl) _ _ ht, hx.same (Same.put hl)⟩⟩))
  | table ls w => exact .inr (hA _ fun p H1 s h => by obtain ⟨dx, t1, t2, ts, h1, _⟩ := id h; exact ⟨p, rfl, dx, _, h1, lookup_no3 (by decide +kernel) (by decide +kernel) (by decide +kernel), p, ls, w, rfl, h, fun t xs l ht hx hl => k l _ (s.trans (Same.put hl)) ⟨t, xs, upd_same, (Same.put hl) _ _ ht, hx.same (Same.put hl)⟩⟩)
def sp_show_line (K : PySem.W.Frag) : Sp := fun vs H Q _ => ∃ (t : Addr) (zs : List Str), vs = [.ref t] ∧ SqT K H t (zs.map V.str) ∧ (∀ z ∈ zs, markS z = true) ∧ zs.length ≤ 12 ∧ Q (.str (showL zs)) H
def sp_signs_between : Sp := fun vs H Q _ => ∃ d e : Nat, vs = [.int d, .int e] ∧ d ≤ 40 ∧ Q (.str (mkS (sgL d e))) H
def sp_show_nodes (K : PySem.W.Frag) : Sp := fun vs H Q _ => ∃ (t : Addr) (ys : List V) (ns : List Nd), vs = [.ref t] ∧ SqT K H t ys ∧ NodesAt H ys ns ∧ depthOk 0 ns ∧ ns.length ≤ 40 ∧ ∀ H', Same H H' → Q (.str (insS ns)) H'
def sp_show_thing (ad : Adr) : Sp := fun vs H Q _ => ∃ (p : Addr) (d : Dsc), vs = [.ref p] ∧ ThObj ad H p d ∧ ∀ H', Same H H' → Q (.str (textD d)) H'
def sp_nodes_in : Sp := fun vs H Q _ => ∃ z : Str, vs = [.str z] ∧ z.length ≤ 1000 ∧ ∀ a ys H', Same H H' → H' a = some (.lst ys) → NodesAt H' ys (nodesZ z) → Q (.ref a) H'
def sp_lines_in : Sp := fun vs H Q _ => ∃ z : Str, vs = [.str z] ∧ z.length ≤ 1000 ∧ ∀ a ys H', Same H H' → H' a = some (.lst ys) → RowsAt .lst H' ys ((linesZ z).map fun l => l.map V.str) → Q (.ref a) H'
def sp_marks_in : Sp := fun vs H Q _ => ∃ z : Str, vs = [.str z] ∧ z.length ≤ 1000 ∧ ∀ a H', Same H H' → H' a = some (.lst ((marksZ z).map V.str)) → Q (.ref a) H'
def sp_made_of (ad : Adr) : Sp := fun vs H Q E => ∃ k z : Str, vs = [.str k, .str z] ∧ z.length ≤ 1000 ∧ (∀ d, cand k z = some d → DOk d → ∀ p H', Same H H' → ThObj ad H' p d → Q (.ref p) H') ∧ ((∀ d, cand k z = some d → ¬ DOk d) → ∀ H', Same H H' → E (.ref ad.NoThing) none H' ∧ E (.ref ad.NoText) none H')
def sp_read_thing (K : PySem.W.Frag) (ad : Adr) : Sp := fun vs H Q E => ∃ v : V, vs = [v] ∧ ((∃ d, v = .str (textD d) ∧ DOk d ∧ (textD d).length ≤ 1000 ∧ ∀ p H', Same H H' → ThObj ad H' p (normD d) → Q (.ref p) H') ∨ (NoTx K H v ∧ ∀ H', Same H H' → E (.ref ad.NoText) none H'))
def sp__law_forest_text : Sp := fun vs H Q _ => ∃ (t : Addr) (ys : List V) (ns : List Nd), vs = [.ref t] ∧ H t = some (.lst ys) ∧ NodesAt H ys ns ∧ FOk ns ∧ ns ≠ [] ∧ Q (.str (insS ns)) H
def sp__law_refused (K : PySem.W.Frag) : Sp := fun vs H Q _ => ∃ v : V, vs = [v] ∧ NoTx K H v ∧ ∀ H', Same H H' → Q (.bl true) H'
def sp__law_wrong_by_any (K : PySem.W.Frag) : Sp := fun vs H Q _ => ∃ (d : Dsc) (c : Int) (m : Str), vs = [.str (textD d), .int c, .str m] ∧ DOk d ∧ insD d ≠ Str.empty ∧ (textD d).length ≤ 600 ∧ markS m = true ∧ ∀ v H', Same H H' → NoTx K H' v → Q v H'
def sp__law_wrong_table : Sp := fun vs H Q _ => ∃ (l : Addr) (xs : List V) (ls : List (List V)) (w : Nat) (c : Int) (m : Str), vs = [.ref l, .int c, .str m] ∧ H l = some (.lst xs) ∧ RowsAt .lst H xs ls ∧ ls ≠ [] ∧ ls.length ≤ 11 ∧ 1 ≤ w ∧ w ≤ 3 ∧ (∀ x ∈ ls, lineOk w x) ∧ markS m = true ∧ ∀ z H', Same H H' → z.length ≤ 1000 → Ref z → Q (.str z) H'
def sp__law_lines_text : Sp := fun vs H Q _ => ∃ (l : Addr) (xs : List V) (ls : List (List V)) (w : Nat), vs = [.ref l] ∧ H l = some (.lst xs) ∧ RowsAt .lst H xs ls ∧ ls ≠ [] ∧ ls.length ≤ 11 ∧ 1 ≤ w ∧ w ≤ 3 ∧ (∀ x ∈ ls, lineOk w x) ∧ ∀ H', Same H H' → Q (.str (textD (.table ls w))) H'
def sp__law_wrong_forest : Sp := fun vs H Q _ => ∃ (l : Addr) (ys : List V) (ns : List Nd) (c : Int) (m : Str), vs = [.ref l, .int c, .str m] ∧ H l = some (.lst ys) ∧ NodesAt H ys ns ∧ depthOk 0 ns ∧ ns.length ≤ 40 ∧ ns ≠ [] ∧ markS m = true ∧ ∀ z H', Same H H' → z.length ≤ 1000 → Ref z → Q (.str z) H'
def sp_law (K : PySem.W.Frag) : Sp := fun vs H Q _ => ∃ (a : Addr) (ns : List Int), vs = [.ref a] ∧ SqL K H a (ns.map V.int) ∧ ns.length ≤ 63 ∧ ∀ H', Q (.bl true) H'
section
variable {P : Program} {w : World} {K : PySem.W.Frag} {mg : Str → Option Value} {base : Heap} {ad : Adr}
theorem ok_is_whole {f : Addr} {fd : FuncData} (D : Def K mg "is_whole" s_is_whole ["thing"] f fd) (T : Txt K mg ad) : FnOk P w K mg base CX0 1 f fd ["thing"] sp_is_whole := by
  refine D.F.ok sc_is_whole (fun vs H Q E h => ?_) (fun cdv A outer s H vs Q E hr h => ?_)
  · obtain ⟨v, rfl, _⟩ := h
    rfl
  · obtain ⟨v, rfl, t, k⟩ := h
    obtain ⟨y, ty, _, e2, e3⟩ := t.ty (K := K)
    refine ⟨_, (@pss_one _ _ _ (ps_ret (pe_and (pe_callB call_isiT rfl T.isinstance PyProof.Rows.boot_isinstance (pa_cons (pv 0) (pa_cons (pe_ty rfl T.int PyProof.Rows.boot_int) pa_nil))) (pe_one (pe_not (pe_callB call_isiT rfl T.isinstance PyProof.Rows.boot_isinstance (pa_cons (pv 0) (pa_cons (pe_ty rfl T.bool PyProof.Rows.boot_bool) pa_nil)))))))), ?_⟩
    and_intros
    refine ⟨y, ty, _, e2, ?_⟩
    cases t with
    | non => exact iteF k
    | str x h => exact iteF k
    | lst h => exact iteF k
    | tup h => exact iteF k
    | bl b => exact iteT ⟨y, ty, _, e3, k⟩
    | int i => exact iteT ⟨y, ty, _, e3, k⟩
theorem ok_is_mark {f : Addr} {fd : FuncData} (D : Def K mg "is_mark" s_is_mark ["thing"] f fd) (T : Txt K mg ad) : FnOk P w K mg base CX0 1 f fd ["thing"] sp_is_mark := by
  refine D.F.ok sc_is_mark (fun vs H Q E h => ?_) (fun cdv A outer s H vs Q E hr h => ?_)
  · obtain ⟨v, rfl, _⟩ := h
    rfl
  · obtain ⟨v, rfl, t, k⟩ := h
    obtain ⟨tk_LETTERS, h_LETTERS⟩ := T.g_LETTERS
    obtain ⟨tk_LONGEST_MARK, h_LONGEST_MARK⟩ := T.g_LONGEST_MARK
    obtain ⟨y, ty, e1, _, _⟩ := t.ty (K := K)
    refine ⟨_, (@pss_cons _ _ _ _ _ (ps_if (pt_not (pt_val (pe_callB call_isiT rfl T.isinstance PyProof.Rows.boot_isinstance (pa_cons (pv 0) (pa_cons (pe_ty rfl T.str PyProof.Rows.boot_str) pa_nil)))))
      (@pss_one _ _ _ (ps_ret pe_bl))
      pss_nil)
      (@pss_cons _ _ _ _ _ (ps_if (pt_not (pt_chain op_le op_le pe_int (pe_callB call_len_str rfl T.len PySem.boot_len (pa_cons (pv 0) pa_nil)) (pe_glob (v := .int 8) rfl h_LONGEST_MARK ⟨_, rfl⟩)))
      (@pss_one _ _ _ (ps_ret pe_bl))
      pss_nil)
      (@pss_one _ _ _ (ps_ret (pe_callB (call_all rfl) rfl T.all (by decide +kernel) (pa_cons (pe_comp (own := ["sign"]) (cap := []) (ix := []) rfl (show CompScope ["thing"] (defScope s_is_mark) _ ["sign"] [] [] from ⟨rfl, by decide +kernel, by decide +kernel, by decide +kernel, by decide +kernel, by decide +kernel, by decide +kernel, rfl, by decide +kernel⟩) (pi_str (pv 0)) (fun C s₀ H₀ ex pn => ⟨pg_name (i := 0) (show (["sign"] : List Str).Nodup by decide +kernel) rfl (Or.inl rfl), pifs_nil, (pe_cmpR op_in_str (pv 0) (pe_glob (v := .str LET) rfl h_LETTERS ⟨_, rfl⟩) rfl)⟩)) pa_nil)))))), ?_⟩
    refine ⟨_, rfl, v, "str", y, _, rfl, ty, e1, _, rfl, ?_⟩
    cases t with
    | non => exact iteT (k H (Same.refl H))
    | int i => exact iteT (k H (Same.refl H))
    | bl b => exact iteT (k H (Same.refl H))
    | lst h => exact iteT (k H (Same.refl H))
    | tup h => exact iteT (k H (Same.refl H))
    | str x hx =>
      refine iteF ?_
      have hz : x.length ≤ sizeLine := Nat.le_of_lt (small1000 hx)
      refine ⟨_, rfl, x, rfl, hz, _, _, rfl, rfl, _, rfl, ?_⟩
      have km : ∀ H', Same H H' → Q (.bl (markS x)) H' := k
      refine ite2 (fun h1 => ?_) (fun h1 => ?_)
      · have h1 : 1 ≤ x.length := by have := of_decide_eq_true h1; omega
        refine ⟨_, _, rfl, rfl, _, rfl, ?_⟩
        refine ite2 (fun h2 => ?_) (fun h2 => ?_)
        · have h2 : ¬ x.length ≤ 8 := by simp at h2; omega
          have e : markS x = false := by unfold markS; rw [decide_eq_false h2]; simp
          rw [e] at km
          exact km H (Same.refl H)
        · have h2 : x.length ≤ 8 := by simp at h2; omega
          dsimp only [tNext, tRet, tCB, tCons]
          refine tcomp_str (z := x) (fun R r => ⟨_, rfl, x, rfl, r⟩) (fun i ys H' => H' = H ∧ ∃ bs : List Bool, ys = bs.map V.bl ∧ bs.length = i ∧ bs.all id = (x.cps.toList.take i).all letC) ⟨rfl, [], rfl, rfl, by simp⟩ ?_ ?_
          · rintro i c ys H' R hc ⟨rfl, bs, rfl, hb1, hb2⟩ hR
            refine ⟨_, rfl, _, _, rfl, rfl, ?_, hR _ _ ⟨rfl, bs ++ [letC c], by simp [letC], by simp [hb1], ?_⟩⟩
            · rw [List.length_map, hb1]
              have : i < x.cps.size := (Array.getElem?_eq_some_iff.mp hc).1
              have hx' : x.cps.size = x.length := rfl
              omega
            · rw [all_take_succ (by simpa using hc), ← hb2]
              simp
          · rintro ys H' ⟨rfl, bs, rfl, hb1, hb2⟩
            refine ⟨?_, fun Dd hD => ⟨Dd, bs, rfl, SqL.of upd_same, ?_⟩⟩
            · rw [List.length_map, hb1]; exact hz
            · have e : bs.all id = markS x := by
                rw [hb2, List.take_of_length_le (by simp)]
                unfold markS
                rw [decide_eq_true h1, decide_eq_true h2]
                simp
              rw [e]
              exact km _ fun b o q => by rw [upd_ne (ne_of_none q hD)]; exact q
      · have h1 : ¬ 1 ≤ x.length := by
          have q : (x.length : Int) < 1 := by simpa using h1
          omega
        have e : markS x = false := by unfold markS; rw [decide_eq_false h1]; simp
        rw [e] at km
        exact ⟨_, rfl, iteT (km H (Same.refl H))⟩
theorem ok_check_list {f : Addr} {fd : FuncData} (D : Def K mg "check_list" s_check_list ["thing", "most"] f fd) (T : Txt K mg ad) : FnOk P w K mg base (CX1 P w) 1 f fd ["thing", "most"] (sp_check_list ad) := by
  refine D.F.okX sc_check_list (fun vs H Q E h => ?_) (fun cdv A outer s H vs Q E hr h => ?_)
  · obtain ⟨v, n, rfl, _⟩ := h
    rfl
  · obtain ⟨v, n, rfl, t, kg, kb⟩ := h
    obtain ⟨y, b, ty, e, hb⟩ := t.isList (K := K)
    refine ⟨_, (@pss_cons _ _ _ _ _ (ps_if (pt_not (pt_val (pe_callB call_isiT rfl T.isinstance PyProof.Rows.boot_isinstance (pa_cons (pv 0) (pa_cons (pe_ty rfl T.list PyProof.Rows.boot_list) pa_nil)))))
      (@pss_one _ _ _ (ps_raise T.e_NoThing rfl raises1 rfl (pa_cons pe_str pa_nil)))
      pss_nil)
      (@pss_one _ _ _ (ps_if (pt_cmpR op_gt (pe_callB call_lenL rfl T.len PySem.boot_len (pa_cons (pv 0) pa_nil)) (pv 1) (nomark _))
      (@pss_one _ _ _ (ps_raise T.e_NoThing rfl raises1 rfl (pa_cons pe_str pa_nil)))
      pss_nil))), ?_⟩
    and_intros
    refine ⟨y, ty, b, e, ?_⟩
    have h1 : 1 ≤ sizeLine := by decide
    rcases hb with ⟨rfl, a, xs, rfl, ha⟩ | ⟨rfl, hb⟩
    · refine ite2 (fun z => nomatch z) fun _ => ⟨a, rfl, xs, SqL.of ha, ite2 (fun h => ⟨h1, kb ?_⟩) fun h => kg ⟨a, xs, rfl, ha, by omega⟩⟩
      rintro ⟨a', xs', e', h', l'⟩
      cases e'
      rw [ha] at h'
      cases h'
      omega
    · refine ite2 (fun _ => ⟨h1, kb ?_⟩) fun z => absurd rfl z
      rintro ⟨a', xs', e', h', l'⟩
      exact hb a' xs' e' h'
theorem ok_check_marks {f : Addr} {fd : FuncData} (D : Def K mg "check_marks" s_check_marks ["marks", "most"] f fd) (T : Txt K mg ad) {f_check_list : Addr} {fd_check_list : FuncData} (G_check_list : FnOk P w K mg base (CX1 P w) 1 f_check_list fd_check_list ["thing", "most"] (sp_check_list ad)) {f_is_mark : Addr} {fd_is_mark : FuncData} (G_is_mark : FnOk P w K mg base CX0 1 f_is_mark fd_is_mark ["thing"] sp_is_mark) (D_check_list : Def K mg "check_list" s_check_list ["thing", "most"] f_check_list fd_check_list) (D_is_mark : Def K mg "is_mark" s_is_mark ["thing"] f_is_mark fd_is_mark) : FnOk P w K mg base (CX1 P w) 2 f fd ["marks", "most"] (sp_check_marks ad) := by
  refine D.F.okX sc_check_marks (fun vs H Q E h => ?_) (fun cdv A outer s H vs Q E hr h => ?_)
  · obtain ⟨v, n, rfl, _⟩ := h
    rfl
  · obtain ⟨v, n, rfl, t, kg, kb⟩ := h
    refine ⟨_, (@pss_cons _ _ _ _ _ (ps_expr (pe_call G_check_list (hr.mono (by decide)) rfl D_check_list.mg D_check_list.F.kp D_check_list.b .nil pass1 (pa_cons (pv 0) (pa_cons (pv 1) pa_nil))))
      (@pss_one _ _ _ (ps_for PassesOwn.leaving rfl (pi_list (pv 0)) (pg_name (i := 2) sc_check_marks.nd rfl (Or.inl rfl))
      (@pss_one _ _ _ (ps_if (pt_not (pt_val (pe_call G_is_mark (hr.mono (by decide)) rfl D_is_mark.mg D_is_mark.F.kp D_is_mark.b .nil pass0 (pa_cons (pv 2) pa_nil))))
      (@pss_one _ _ _ (ps_raise T.e_NoThing rfl raises1 rfl (pa_cons pe_str pa_nil)))
      pss_nil))))), ?_⟩
    and_intros
    refine ⟨v, n, rfl, t.1, fun hg => ?_, fun hb => kb (fun ⟨a, xs, e, h, l, _⟩ => hb ⟨a, xs, e, h, l⟩) H (Same.refl H)⟩
    obtain ⟨a, xs, rfl, ha, hl⟩ := hg
    refine ⟨_, rfl, a, rfl, ⟨_, SqL.of ha⟩, for_list (xs := xs) (fun i σ H' => Same H H' ∧ (xs.take i).all markV = true ∧ ∃ o, σ = [some (.ref a), some (.int n), o]) ⟨Same.refl H, by simp, _, rfl⟩ ?_ ?_ ?_⟩
    · rintro i σ H' _ ⟨s1, _, _⟩
      exact SqL.of (s1 _ _ ha)
    · rintro i x σ H' hx ⟨s1, h1, o, rfl⟩
      and_intros
      refine ⟨x, rfl, (t.2 a xs rfl ha x (List.mem_of_getElem? hx)).same s1, fun H2 s2 => ?_⟩
      and_intros
      have h3 : (xs.take (i + 1)).all markV = ((xs.take i).all markV && markV x) := by rw [List.take_add_one, hx]; simp
      refine ite2 (fun h2 => ⟨by decide, kb ?_ H2 (s1.trans s2)⟩) fun h2 => ⟨s1.trans s2, ?_, _, rfl⟩
      · rintro ⟨a', xs', e', h', l', m'⟩
        cases e'
        rw [ha] at h'
        cases h'
        have := List.all_eq_true.mp m' x (List.mem_of_getElem? hx)
        rw [h2] at this
        cases this
      · rw [h3, h1]
        cases hm : markV x
        · exact absurd hm h2
        · rfl
    · rintro σ H' ⟨s1, h1, o, rfl⟩
      rw [List.take_length] at h1
      exact kg ⟨a, xs, rfl, ha, hl, h1⟩ H' s1
theorem ok_check_node {f : Addr} {fd : FuncData} (D : Def K mg "check_node" s_check_node ["node", "deepest"] f fd) (T : Txt K mg ad) {f_is_mark : Addr} {fd_is_mark : FuncData} (G_is_mark : FnOk P w K mg base CX0 1 f_is_mark fd_is_mark ["thing"] sp_is_mark) {f_is_whole : Addr} {fd_is_whole : FuncData} (G_is_whole : FnOk P w K mg base CX0 1 f_is_whole fd_is_whole ["thing"] sp_is_whole) (D_is_mark : Def K mg "is_mark" s_is_mark ["thing"] f_is_mark fd_is_mark) (D_is_whole : Def K mg "is_whole" s_is_whole ["thing"] f_is_whole fd_is_whole) : FnOk P w K mg base (CX1 P w) 2 f fd ["node", "deepest"] (sp_check_node ad) := by
  refine D.F.okX sc_check_node (fun vs H Q E h => ?_) (fun cdv A outer s H vs Q E hr h => ?_)
  · obtain ⟨v, d, rfl, _⟩ := h
    rfl
  · obtain ⟨v, d, rfl, t, kg, kb⟩ := h
    obtain ⟨y, b, ty, e, hb⟩ := t.1.isTup (K := K)
    refine ⟨_, (@pss_cons _ _ _ _ _ (ps_if (PW.pt (pw_or (pt_not (pt_val (pe_callB call_isiT rfl T.isinstance PyProof.Rows.boot_isinstance (pa_cons (pv 0) (pa_cons (pe_ty rfl T.tuple PyProof.Rows.boot_tuple) pa_nil))))) (pw_or1 (pt_cmpR op_ne (pe_callB call_lenT rfl T.len PySem.boot_len (pa_cons (pv 0) pa_nil)) pe_int (nomark _)))))
      (@pss_one _ _ _ (ps_raise T.e_NoThing rfl raises1 rfl (pa_cons pe_str pa_nil)))
      pss_nil)
      (@pss_cons _ _ _ _ _ (ps_if (pt_not (pt_val (pe_call G_is_mark (hr.mono (by decide)) rfl D_is_mark.mg D_is_mark.F.kp D_is_mark.b .nil pass0 (pa_cons (pe_ix ix_tup (pv 0) pe_int (fun _ _ => rfl)) pa_nil))))
      (@pss_one _ _ _ (ps_raise T.e_NoThing rfl raises1 rfl (pa_cons pe_str pa_nil)))
      pss_nil)
      (@pss_one _ _ _ (ps_if (PW.pt (pw_or (pt_not (pt_val (pe_call G_is_whole (hr.mono (by decide)) rfl D_is_whole.mg D_is_whole.F.kp D_is_whole.b .nil pass0 (pa_cons (pe_ix ix_tup (pv 0) pe_int (fun _ _ => rfl)) pa_nil)))) (pw_or1 (pt_not (pt_chain op_le op_le pe_int (pe_ix ix_tup (pv 0) pe_int (fun _ _ => rfl)) (pv 1))))))
      (@pss_one _ _ _ (ps_raise T.e_NoThing rfl raises1 rfl (pa_cons pe_str pa_nil)))
      pss_nil)))), ?_⟩
    and_intros
    refine ⟨y, ty, b, e, ?_⟩
    have h1 : 1 ≤ sizeLine := by decide
    rcases hb with ⟨rfl, a, xs, rfl, ha⟩ | ⟨rfl, hb⟩
    · and_intros
      have no : xs.length ≠ 2 → ∀ n, ¬ NodeAt H (.ref a) n := fun h n ⟨a', e', h'⟩ => by
        cases e'
        rw [ha] at h'
        cases h'
        exact h rfl
      refine ⟨xs, SqT.of ha, ite2 (fun h2 => ⟨h1, kb (fun n hn => absurd hn (no (by omega) n)) H (Same.refl H)⟩) fun h2 => ?_⟩
      obtain ⟨x0, x1, rfl⟩ : ∃ x0 x1, xs = [x0, x1] := by
        match xs, h2 with
        | [], h => simp at h
        | [_], h => simp at h
        | [x0, x1], _ => exact ⟨x0, x1, rfl⟩
        | _ :: _ :: _ :: r, h => simp at h; omega
      have tx : ∀ n, NodeAt H (.ref a) n → x0 = .str n.1 ∧ x1 = .int n.2 := fun n ⟨a', e', h'⟩ => by
        cases e'
        rw [ha] at h'
        simp at h'
        exact h'
      refine ⟨_, SqT.of ha, x0, rfl, x0, rfl, t.2 a _ rfl ha x0 (by simp), fun H1 s1 => ⟨_, rfl, ite2 (fun hm => ⟨h1, kb (fun n hn => ?_) H1 s1⟩) fun hm => ?_⟩⟩
      · obtain ⟨e0, _⟩ := tx n hn
        subst e0
        rintro ⟨m1, _⟩
        exact absurd m1 (by rw [show markS n.1 = false from hm]; decide)
      · refine ⟨_, SqT.of (s1 _ _ ha), x1, rfl, x1, rfl, (t.2 a _ rfl ha x1 (by simp)).same s1, _, rfl, ite2 (fun hw => ⟨h1, kb (fun n hn => ?_) H1 s1⟩) fun hw => ?_⟩
        · obtain ⟨_, e1⟩ := tx n hn
          subst e1
          cases hw
        · obtain ⟨m, e0⟩ : ∃ m, x0 = .str m := by
            cases x0 with
            | str m => exact ⟨m, rfl⟩
            | _ => exact absurd rfl hm
          obtain ⟨k, e1⟩ : ∃ k, x1 = .int k := by
            cases x1 with
            | int k => exact ⟨k, rfl⟩
            | _ => exact absurd rfl hw
          subst e0 e1
          have hm' : markS m = true := by
            cases q : markS m
            · exact absurd q hm
            · rfl
          refine ⟨_, SqT.of (s1 _ _ ha), .int k, rfl, k, rfl, ite2 (fun h0 => ⟨k, rfl, ite2 (fun h3 => ⟨h1, kb (fun n hn => ?_) H1 s1⟩) fun h3 => ?_⟩) fun h0 => ⟨h1, kb (fun n hn => ?_) H1 s1⟩⟩
          · obtain ⟨_, e1⟩ := tx n hn
            cases e1
            rintro ⟨_, _, z⟩
            exact h3 z
          · exact kg (m, k) ⟨a, rfl, ha⟩ hm' h0 (by omega) H1 s1
          · obtain ⟨_, e1⟩ := tx n hn
            cases e1
            rintro ⟨_, z, _⟩
            exact h0 z
    · refine ite2 (fun _ => ⟨h1, kb (fun n hn => ?_) H (Same.refl H)⟩) fun z => absurd rfl z
      obtain ⟨a, e, h⟩ := hn
      exact absurd h (hb a _ e)
theorem ok_check_nodes {f : Addr} {fd : FuncData} (D : Def K mg "check_nodes" s_check_nodes ["nodes"] f fd) (T : Txt K mg ad) {f_check_list : Addr} {fd_check_list : FuncData} (G_check_list : FnOk P w K mg base (CX1 P w) 1 f_check_list fd_check_list ["thing", "most"] (sp_check_list ad)) {f_check_node : Addr} {fd_check_node : FuncData} (G_check_node : FnOk P w K mg base (CX1 P w) 2 f_check_node fd_check_node ["node", "deepest"] (sp_check_node ad)) (D_check_list : Def K mg "check_list" s_check_list ["thing", "most"] f_check_list fd_check_list) (D_check_node : Def K mg "check_node" s_check_node ["node", "deepest"] f_check_node fd_check_node) : FnOk P w K mg base (CX1 P w) 3 f fd ["nodes"] (sp_check_nodes ad) := by
  refine D.F.okX sc_check_nodes (fun vs H Q E h => ?_) (fun cdv A outer s H vs Q E hr h => ?_)
  · obtain ⟨v, rfl, _⟩ := h
    rfl
  · obtain ⟨v, rfl, t, kg, kb⟩ := h
    obtain ⟨tk_MOST_NODES, h_MOST_NODES⟩ := T.g_MOST_NODES
    obtain ⟨tk_DEEPEST, h_DEEPEST⟩ := T.g_DEEPEST
    refine ⟨_, (@pss_cons _ _ _ _ _ (ps_expr (pe_call G_check_list (hr.mono (by decide)) rfl D_check_list.mg D_check_list.F.kp D_check_list.b .nil pass1 (pa_cons (pv 0) (pa_cons (pe_glob (v := .int 40) rfl h_MOST_NODES ⟨_, rfl⟩) pa_nil))))
      (@pss_cons _ _ _ _ _ (ps_set (i := 1) sc_check_nodes.nd rfl (Or.inl rfl) pe_int)
      (@pss_one _ _ _ (ps_for PassesOwn.leaving rfl (pi_list (pv 0)) (pg_name (i := 2) sc_check_nodes.nd rfl (Or.inl rfl))
      (@pss_cons _ _ _ _ _ (ps_expr (pe_call G_check_node (hr.mono (by decide)) rfl D_check_node.mg D_check_node.F.kp D_check_node.b .nil pass1 (pa_cons (pv 2) (pa_cons (pv 1) pa_nil))))
      (@pss_one _ _ _ (ps_set (i := 1) sc_check_nodes.nd rfl (Or.inl rfl) (pe_callB (call_min2 rfl) rfl T.min (by decide +kernel) (pa_cons (pe_op op_add (pe_ix ix_tup (pv 2) pe_int (fun _ _ => rfl)) pe_int) (pa_cons (pe_glob (v := .int 12) rfl h_DEEPEST ⟨_, rfl⟩) pa_nil)))))))))), ?_⟩
    and_intros
    refine ⟨v, 40, rfl, t.1, fun hg => ?_, fun hb => kb (fun ⟨a, xs, ns, e, h, l, _⟩ => hb ⟨a, xs, e, h, l⟩) H (Same.refl H)⟩
    obtain ⟨a, xs, rfl, ha, hl⟩ := hg
    refine ⟨_, rfl, a, rfl, ⟨_, SqL.of ha⟩, for_list (xs := xs) (fun i σ H' => Same H H' ∧ ∃ (ns : List Nd) (o : Option V), NodesAt H (xs.take i) ns ∧ depthOk 0 ns ∧ StIs σ [some (.ref a), some (.int (deepAfter 0 ns)), o]) ⟨Same.refl H, [], none, by simp [NodesAt], trivial, StIs.rfl⟩ ?_ ?_ ?_⟩
    · rintro i σ H' _ ⟨s1, _⟩
      exact SqL.of (s1 _ _ ha)
    · rintro i x σ H' hx ⟨s1, ns, o, hn, hd, rfl⟩
      and_intros
      have tx := t.2 a xs rfl ha x (List.mem_of_getElem? hx)
      have ex : xs.take (i + 1) = xs.take i ++ [x] := by rw [List.take_add_one, hx]; rfl
      refine ⟨x, _, rfl, tx.same s1, fun n hn1 m1 m2 m3 H2 s2 => ?_, fun hb H2 s2 => kb ?_ H2 (s1.trans s2)⟩
      · have hn0 := hn1.back tx.1 s1
        obtain ⟨tt, e, h2⟩ := hn1
        subst e
        and_intros
        refine ⟨_, SqT.of (s2 _ _ h2), _, rfl, _, rfl, s1.trans s2, ns ++ [n], ?_, ?_, some (.ref tt), ?_⟩
        · rw [ex]; exact hn.append ⟨hn0, trivial⟩
        · exact depthOk_append.mpr ⟨hd, m1, m2, m3, trivial⟩
        · have e : deepAfter 0 (ns ++ [n]) = if 12 < n.2 + 1 then 12 else n.2 + 1 := by
            rw [deepAfter_append]
            show min (n.2 + 1) 12 = _
            split <;> omega
          rw [e]
          exact StIs.rfl
      · have e : xs = xs.take i ++ x :: xs.drop (i + 1) := by
          have h := List.take_append_drop (i + 1) xs
          rw [ex, List.append_assoc] at h
          exact h.symm
        rw [e] at ha
        exact notN_mid ha hn fun n hn' => hb n (hn'.same s1)
    · rintro σ H' ⟨s1, ns, o, hn, hd, rfl⟩
      rw [List.take_length] at hn
      exact kg ⟨a, xs, ns, rfl, ha, hl, hn, hd⟩ H' s1
theorem ok_check_lines {f : Addr} {fd : FuncData} (D : Def K mg "check_lines" s_check_lines ["lines"] f fd) (T : Txt K mg ad) {f_check_list : Addr} {fd_check_list : FuncData} (G_check_list : FnOk P w K mg base (CX1 P w) 1 f_check_list fd_check_list ["thing", "most"] (sp_check_list ad)) {f_check_marks : Addr} {fd_check_marks : FuncData} (G_check_marks : FnOk P w K mg base (CX1 P w) 2 f_check_marks fd_check_marks ["marks", "most"] (sp_check_marks ad)) (D_check_list : Def K mg "check_list" s_check_list ["thing", "most"] f_check_list fd_check_list) (D_check_marks : Def K mg "check_marks" s_check_marks ["marks", "most"] f_check_marks fd_check_marks) : FnOk P w K mg base (CX1 P w) 3 f fd ["lines"] (sp_check_lines ad) := by
  refine D.F.okX sc_check_lines (fun vs H Q E h => ?_) (fun cdv A outer s H vs Q E hr h => ?_)
  · obtain ⟨v, rfl, _⟩ := h
    rfl
  · obtain ⟨v, rfl, t, kg, kb⟩ := h
    obtain ⟨tk_MOST_LINES, h_MOST_LINES⟩ := T.g_MOST_LINES
    obtain ⟨tk_MOST_COLUMNS, h_MOST_COLUMNS⟩ := T.g_MOST_COLUMNS
    refine ⟨_, (@pss_cons _ _ _ _ _ (ps_expr (pe_call G_check_list (hr.mono (by decide)) rfl D_check_list.mg D_check_list.F.kp D_check_list.b .nil pass1 (pa_cons (pv 0) (pa_cons (pe_glob (v := .int 12) rfl h_MOST_LINES ⟨_, rfl⟩) pa_nil))))
      (@pss_one _ _ _ (ps_for PassesOwn.leaving rfl (pi_list (pv 0)) (pg_name (i := 1) sc_check_lines.nd rfl (Or.inl rfl))
      (@pss_cons _ _ _ _ _ (ps_expr (pe_call G_check_marks (hr.mono (by decide)) rfl D_check_marks.mg D_check_marks.F.kp D_check_marks.b .nil pass1 (pa_cons (pv 1) (pa_cons (pe_glob (v := .int 12) rfl h_MOST_COLUMNS ⟨_, rfl⟩) pa_nil))))
      (@pss_one _ _ _ (ps_if (pt_cmpR op_ne (pe_callB call_lenL rfl T.len PySem.boot_len (pa_cons (pv 1) pa_nil)) (pe_callB call_lenL rfl T.len PySem.boot_len (pa_cons (pe_ix ix_list (pv 0) pe_int (fun _ _ => rfl)) pa_nil)) (nomark _))
      (@pss_one _ _ _ (ps_raise T.e_NoThing rfl raises1 rfl (pa_cons pe_str pa_nil)))
      pss_nil)))))), ?_⟩
    and_intros
    refine ⟨v, 12, rfl, t.1, fun hg => ?_, fun hb => kb (fun ⟨a, xs, ns, e, h, l, _⟩ => hb ⟨a, xs, e, h, l⟩) H (Same.refl H)⟩
    obtain ⟨a, xs, rfl, ha, hl⟩ := hg
    refine ⟨_, rfl, a, rfl, ⟨_, SqL.of ha⟩, for_list (xs := xs) (fun i σ H' => Same H H' ∧ ∃ (ls : List (List V)) (o : Option V), RowsAt .lst H (xs.take i) ls ∧ tabOk ls ∧ StIs σ [some (.ref a), o]) ⟨Same.refl H, [], none, by simp [RowsAt], ⟨0, Nat.zero_le _, fun _ z => nomatch z⟩, StIs.rfl⟩ ?_ ?_ ?_⟩
    · rintro i σ H' _ ⟨s1, _⟩
      exact SqL.of (s1 _ _ ha)
    · rintro i x σ H' hx ⟨s1, ls, o, hn, hd, rfl⟩
      and_intros
      have xm := List.mem_of_getElem? hx
      have tx := t.2 a xs rfl ha x xm
      have ex : xs.take (i + 1) = xs.take i ++ [x] := by rw [List.take_add_one, hx]; rfl
      refine ⟨x, 12, rfl, tx.same s1, fun hg H2 s2 => ?_, fun hb H2 s2 => kb ?_ H2 (s1.trans s2)⟩
      · obtain ⟨c, ys, rfl, hc, hl2, hm2⟩ := hg
        have hc0 := tx.1.back s1 rfl hc
        have s12 := s1.trans s2
        have hn' : RowsAt .lst H (xs.take (i + 1)) (ls ++ [ys]) := by rw [ex]; exact hn.append ⟨⟨c, rfl, hc0⟩, trivial⟩
        have hi : i < xs.length := (List.getElem?_eq_some_iff.mp hx).1
        have h0 : (xs.take (i + 1))[0]? = some xs[0] := by rw [List.getElem?_take_of_lt (by omega)]; exact List.getElem?_eq_getElem (by omega)
        obtain ⟨y0, ey0, c0, ec0, hc00⟩ := hn'.get h0
        and_intros
        refine ⟨_, SqL.of (s12 _ _ hc0), _, SqL.of (s12 _ _ ha), xs[0], atI_nat (j := 0) (List.getElem?_eq_getElem (by omega)), c0, ec0, _, SqL.of (s12 _ _ hc00), ite2 (fun hne => ?_) fun heq => ?_⟩
        · refine ⟨by decide, kb (notT_two ha (b := xs[0]) (c := .ref c) (List.getElem_mem _) xm ⟨c0, ec0, hc00⟩ ⟨c, rfl, hc0⟩ ?_) H2 s12⟩
          intro z
          exact hne (by rw [z])
        · refine ⟨s12, ls ++ [ys], hn', ?_, some (.ref c), StIs.rfl⟩
          have heq' : ys.length = y0.length := by
            by_cases z : ys.length = y0.length
            · exact z
            · exact absurd (fun q => z (by omega)) heq
          cases ls with
          | nil => exact ⟨ys.length, hl2, fun l h => by rw [List.mem_singleton.mp h]; exact ⟨rfl, hm2⟩⟩
          | cons l0 r =>
            have e0 : l0 = y0 := by simpa using ey0
            subst e0
            obtain ⟨w, hw, hall⟩ := hd
            refine ⟨w, hw, fun l h => ?_⟩
            rcases List.mem_append.mp h with h | h
            · exact hall l h
            · rw [List.mem_singleton.mp h]
              exact ⟨heq'.trans (hall l0 List.mem_cons_self).1, hm2⟩
      · exact notT_mem ha xm fun g => hb (GoodM.same s1 g)
    · rintro σ H' ⟨s1, ls, o, hn, hd, rfl⟩
      rw [List.take_length] at hn
      exact kg ⟨a, xs, ls, rfl, ha, hl, hn, hd⟩ H' s1
theorem ok_Thing_init {f : Addr} {fd : FuncData} (F : Fun K "__init__" "Thing.__init__" s_Thing_init f fd) (T : Txt K mg ad) : FnOk P w K mg base CX0 1 f fd ["self", "spot_marks"] (sp_Thing_init ad) := by
  refine F.ok sc_Thing_init (fun vs H Q E h => ?_) (fun cdv A outer s H vs Q E hr h => ?_)
  · obtain ⟨p, dx, a, xs, c, rfl, _⟩ := h
    rfl
  · obtain ⟨p, dx, a, xs, c, rfl, hc, hp, ha, k⟩ := h
    refine ⟨_, (@pss_one _ _ _ (ps_fld (pv 0) (pe_callTy call_tupL rfl T.tuple PyProof.Rows.boot_tuple (pa_cons (pv 1) pa_nil)) rfl)), ?_⟩
    and_intros
    refine ⟨_, SqL.of ha, fun t ht => ?_⟩
    rcases hc with rfl | rfl | rfl
    · refine ⟨ad.Row, dx, [], ?_, T.cl_Row, T.na_Row_spot_marks, by decide, ?_⟩
      · rw [upd_ne (ne_of_none hp ht)]; exact hp
      · exact k t ht
    · refine ⟨ad.Table, dx, [], ?_, T.cl_Table, T.na_Table_spot_marks, by decide, ?_⟩
      · rw [upd_ne (ne_of_none hp ht)]; exact hp
      · exact k t ht
    · refine ⟨ad.Forest, dx, [], ?_, T.cl_Forest, T.na_Forest_spot_marks, by decide, ?_⟩
      · rw [upd_ne (ne_of_none hp ht)]; exact hp
      · exact k t ht
theorem ok_Row_init {f : Addr} {fd : FuncData} (F : Fun K "__init__" "Row.__init__" s_Row_init f fd) (T : Txt K mg ad) {f_check_marks : Addr} {fd_check_marks : FuncData} (G_check_marks : FnOk P w K mg base (CX1 P w) 2 f_check_marks fd_check_marks ["marks", "most"] (sp_check_marks ad)) {f_Thing_init : Addr} {fd_Thing_init : FuncData} (G_Thing_init : FnOk P w K mg base CX0 1 f_Thing_init fd_Thing_init ["self", "spot_marks"] (sp_Thing_init ad)) (D_check_marks : Def K mg "check_marks" s_check_marks ["marks", "most"] f_check_marks fd_check_marks) (B_Thing_init : Binds K fd_Thing_init ["self", "spot_marks"] []) (CM_Thing_init : ClsM K ad.Thing "__init__" f_Thing_init) : FnOk P w K mg base (CX1 P w) 3 f fd ["self", "marks"] (sp_Row_init ad) := by
  refine F.okX sc_Row_init (fun vs H Q E h => ?_) (fun cdv A outer s H vs Q E hr h => ?_)
  · obtain ⟨p, dx, v, rfl, _⟩ := h
    rfl
  · obtain ⟨p, dx, v, rfl, hp, t, kg, kb⟩ := h
    obtain ⟨tk_MOST_IN_ROW, h_MOST_IN_ROW⟩ := T.g_MOST_IN_ROW
    refine ⟨_, (@pss_cons _ _ _ _ _ (ps_expr (pe_call G_check_marks (hr.mono (by decide)) rfl D_check_marks.mg D_check_marks.F.kp D_check_marks.b .nil pass1 (pa_cons (pv 1) (pa_cons (pe_glob (v := .int 40) rfl h_MOST_IN_ROW ⟨_, rfl⟩) pa_nil))))
      (@pss_one _ _ _ (ps_expr (pe_clsm rfl T.c_Thing CM_Thing_init G_Thing_init (hr.mono (by decide)) B_Thing_init .nil pass0 (pa_cons (pv 0) (pa_cons (pv 1) pa_nil)))))), ?_⟩
    and_intros
    refine ⟨v, 40, rfl, t, fun hg H1 s1 => ?_, fun hb H1 s1 => kb hb H1 fun b o _ e => s1 b o e⟩
    obtain ⟨a, xs, rfl, ha, hl, hm⟩ := hg
    refine ⟨p, dx, a, xs, ad.Row, rfl, .inl rfl, s1 _ _ hp, s1 _ _ ha, fun t1 ht => ?_⟩
    refine kg a xs rfl ha hl hm _ ⟨dx, t1, upd_same, ?_, hm, hl⟩ fun b o hb e => ?_
    · rw [upd_ne (Ne.symm (ne_of_none (s1 _ _ hp) ht)), upd_same]
    · rw [upd_ne hb, upd_ne (ne_of_none (s1 _ _ e) ht)]
      exact s1 _ _ e
theorem ok_Row_form {f : Addr} {fd : FuncData} (F : Fun K "form" "Row.form" s_Row_form f fd) (T : Txt K mg ad) : FnOk P w K mg base CX0 1 f fd ["self"] (sp_Row_form ad) := by
  refine F.ok sc_Row_form (fun vs H Q E h => ?_) (fun cdv A outer s H vs Q E hr h => ?_)
  · obtain ⟨p, xs, rfl, _⟩ := h
    rfl
  · obtain ⟨p, xs, rfl, ⟨dx, t, h1, h2, _⟩, k⟩ := h
    refine ⟨_, (@pss_one _ _ _ (ps_ret (pe_tup (pa_cons pe_str (pa_cons (pe_fld (pv 0) rfl) pa_nil))))), ?_⟩
    and_intros
    exact ⟨ad.Row, dx, _, h1, T.cl_Row, T.na_Row_spot_marks, .ref t, rfl, by decide, fun l hl => k t l h2 hl⟩
theorem ok_Forest_init {f : Addr} {fd : FuncData} (F : Fun K "__init__" "Forest.__init__" s_Forest_init f fd) (T : Txt K mg ad) {f_check_nodes : Addr} {fd_check_nodes : FuncData} (G_check_nodes : FnOk P w K mg base (CX1 P w) 3 f_check_nodes fd_check_nodes ["nodes"] (sp_check_nodes ad)) {f_Thing_init : Addr} {fd_Thing_init : FuncData} (G_Thing_init : FnOk P w K mg base CX0 1 f_Thing_init fd_Thing_init ["self", "spot_marks"] (sp_Thing_init ad)) (D_check_nodes : Def K mg "check_nodes" s_check_nodes ["nodes"] f_check_nodes fd_check_nodes) (B_Thing_init : Binds K fd_Thing_init ["self", "spot_marks"] []) (CM_Thing_init : ClsM K ad.Thing "__init__" f_Thing_init) : FnOk P w K mg base (CX1 P w) 4 f fd ["self", "nodes"] (sp_Forest_init ad) := by
  refine F.okX sc_Forest_init (fun vs H Q E h => ?_) (fun cdv A outer s H vs Q E hr h => ?_)
  · obtain ⟨p, dx, v, rfl, _⟩ := h
    rfl
  · obtain ⟨p, dx, v, rfl, hp, t, kg, kb⟩ := h
    refine ⟨_, (@pss_cons _ _ _ _ _ (ps_expr (pe_call G_check_nodes (hr.mono (by decide)) rfl D_check_nodes.mg D_check_nodes.F.kp D_check_nodes.b .nil pass1 (pa_cons (pv 1) pa_nil)))
      (@pss_cons _ _ _ _ _ (ps_expr (pe_clsm rfl T.c_Thing CM_Thing_init G_Thing_init (hr.mono (by decide)) B_Thing_init .nil pass0 (pa_cons (pv 0) (pa_cons (pe_comp (own := ["node"]) (cap := []) (ix := []) rfl (show CompScope ["self", "nodes"] (defScope s_Forest_init) _ ["node"] [] [] from ⟨rfl, by decide +kernel, by decide +kernel, by decide +kernel, by decide +kernel, by decide +kernel, by decide +kernel, rfl, by decide +kernel⟩) (pi_list (pv 1)) (fun C s₀ H₀ ex pn => ⟨pg_name (i := 0) (show (["node"] : List Str).Nodup by decide +kernel) rfl (Or.inl rfl), pifs_nil, (pe_ix (show IxR _ (rIxT K) from ix_tup) (pv 0) pe_int (fun _ _ => rfl))⟩)) pa_nil))))
      (@pss_one _ _ _ (ps_fld (pv 0) (pe_callTy call_tupL rfl T.tuple PyProof.Rows.boot_tuple (pa_cons (pv 1) pa_nil)) rfl)))), ?_⟩
    and_intros
    refine ⟨v, rfl, t, fun hg H1 s1 => ?_, fun hb H1 s1 => kb hb H1 fun b o _ e => s1 b o e⟩
    obtain ⟨a, xs, ns, rfl, ha, hl, hn, hd⟩ := hg
    and_intros
    refine tcomp_list (a := a) (xs := xs) (H1 := H1) (fun R r => ⟨_, rfl, a, rfl, ⟨_, SqL.of (s1 _ _ ha)⟩, r⟩) (fun i ys H' => H' = H1 ∧ ys = (ns.take i).map fun n => V.str n.1) ⟨rfl, rfl⟩ (fun i ys H' _ ⟨e, _⟩ => e ▸ SqL.of (s1 _ _ ha)) ?_ ?_
    · rintro i x ys H' R hx ⟨rfl, rfl⟩ hR
      obtain ⟨n, en, hx'⟩ := hn.get hx
      obtain ⟨tt, e, h2⟩ := hx'
      subst e
      simp only [tYes]
      and_intros
      refine ⟨_, SqT.of (s1 _ _ h2), _, rfl, ?_, hR _ _ ⟨rfl, ?_⟩⟩
      · rw [List.length_map, List.length_take]; exact small1000 (by have := hn.length; omega)
      · rw [List.take_add_one, en, List.map_append]; rfl
    · rintro ys H' ⟨rfl, rfl⟩
      have hlen := hn.length
      rw [hlen, List.take_length]
      refine ⟨by rw [List.length_map]; exact Nat.le_of_lt (small1000 (by omega)), fun l hl' => ?_⟩
      have s2 := s1.upd (o := .lst (ns.map fun n => V.str n.1)) hl'
      refine ⟨p, dx, l, _, ad.Forest, rfl, .inr (.inr rfl), s2 _ _ hp, upd_same, fun t1 ht1 => ?_⟩
      have s3 := s2.upd (o := .tup (ns.map fun n => V.str n.1)) ht1
      have sb : ∀ o, SameBut p H (upd (upd (upd H' l (.lst (ns.map fun n => V.str n.1))) t1 (.tup (ns.map fun n => V.str n.1))) p o) := fun o b u hb e => by rw [upd_ne hb]; exact s3 _ _ e
      have nap : a ≠ p := ne_of ha hp (fun z => nomatch z)
      refine ⟨xs, SqL.of (sb _ a _ nap ha), fun t2 ht2 => ⟨ad.Forest, dx, [("spot_marks", .ref t1)], ?_, T.cl_Forest, T.na_Forest_nodes, by show 1 < 1000; decide, ?_⟩⟩
      · rw [upd_ne (ne_of_none upd_same ht2)]; exact upd_same
      · rw [putF2 (by decide +kernel)]
        have n2p : t2 ≠ p := Ne.symm (ne_of_none upd_same ht2)
        have n1p : t1 ≠ p := Ne.symm (ne_of_none (s2 _ _ hp) ht1)
        have t1a : ∀ o, (upd (upd (upd H' l (.lst (ns.map fun n => V.str n.1))) t1 (.tup (ns.map fun n => V.str n.1))) p o) t1 = some (.tup (ns.map fun n => V.str n.1)) := fun o => by rw [upd_ne n1p]; exact upd_same
        have sF : ∀ o, SameBut p H (upd (upd (upd (upd (upd H' l (.lst (ns.map fun n => V.str n.1))) t1 (.tup (ns.map fun n => V.str n.1))) p (.ins ad.Forest dx [("spot_marks", .ref t1)])) t2 (.tup xs)) p o) := fun o b u hb e => by
          rw [upd_ne hb, upd_ne (ne_of_none (sb _ b u hb e) ht2)]
          exact sb _ b u hb e
        refine kg a xs ns rfl ha hl hn hd _ ⟨dx, t1, t2, xs, upd_same, ?_, ?_, ?_⟩ (sF _)
        · rw [upd_ne n1p, upd_ne (ne_of_none (t1a _) ht2)]; exact t1a _
        · rw [upd_ne n2p]; exact upd_same
        · exact hn.tups fun b ys e => sF _ b _ (ne_of e hp (fun z => nomatch z)) e
theorem ok_Forest_form {f : Addr} {fd : FuncData} (F : Fun K "form" "Forest.form" s_Forest_form f fd) (T : Txt K mg ad) : FnOk P w K mg base CX0 1 f fd ["self"] (sp_form ad) := by
  refine F.ok sc_Forest_form (fun vs H Q E h => ?_) (fun cdv A outer s H vs Q E hr h => ?_)
  · obtain ⟨p, ns, rfl, _⟩ := h
    rfl
  · obtain ⟨p, ns, rfl, ⟨dx, t1, t2, xs, h1, h2, h3, h4⟩, k⟩ := h
    refine ⟨_, (@pss_one _ _ _ (ps_ret (pe_tup (pa_cons pe_str (pa_cons (pe_fld (pv 0) rfl) pa_nil))))), ?_⟩
    and_intros
    refine ⟨ad.Forest, dx, _, h1, T.cl_Forest, T.na_Forest_nodes, .ref t2, lookup2 (by decide +kernel), by decide, fun l hl => k t2 xs l h3 h4 hl⟩
theorem ok_Table_init {f : Addr} {fd : FuncData} (F : Fun K "__init__" "Table.__init__" s_Table_init f fd) (T : Txt K mg ad) {f_check_lines : Addr} {fd_check_lines : FuncData} (G_check_lines : FnOk P w K mg base (CX1 P w) 3 f_check_lines fd_check_lines ["lines"] (sp_check_lines ad)) {f_Thing_init : Addr} {fd_Thing_init : FuncData} (G_Thing_init : FnOk P w K mg base CX0 1 f_Thing_init fd_Thing_init ["self", "spot_marks"] (sp_Thing_init ad)) (D_check_lines : Def K mg "check_lines" s_check_lines ["lines"] f_check_lines fd_check_lines) (B_Thing_init : Binds K fd_Thing_init ["self", "spot_marks"] []) (CM_Thing_init : ClsM K ad.Thing "__init__" f_Thing_init) : FnOk P w K mg base (CX1 P w) 4 f fd ["self", "lines"] (sp_Table_init ad) := by
  refine F.okX sc_Table_init (fun vs H Q E h => ?_) (fun cdv A outer s H vs Q E hr h => ?_)
  · obtain ⟨p, dx, v, rfl, _⟩ := h
    rfl
  · obtain ⟨p, dx, v, rfl, hp, t, kg, kb⟩ := h
    refine ⟨_, (@pss_cons _ _ _ _ _ (ps_expr (pe_call G_check_lines (hr.mono (by decide)) rfl D_check_lines.mg D_check_lines.F.kp D_check_lines.b .nil pass1 (pa_cons (pv 1) pa_nil)))
      (@pss_cons _ _ _ _ _ (ps_set (i := 2) sc_Table_init.nd rfl (Or.inl rfl) (pe_lst pa_nil))
      (@pss_cons _ _ _ _ _ (ps_for PassesOwn.leaving rfl (pi_list (pv 1)) (pg_name (i := 3) sc_Table_init.nd rfl (Or.inl rfl))
      (@pss_one _ _ _ (ps_expr (pe_bm PySem.F.plainAttrs_list PySem.F.slot_list_extend PySem.F.type_list_extend mt_extend (pv 2) (pa_cons (pv 3) pa_nil)))))
      (@pss_cons _ _ _ _ _ (ps_expr (pe_clsm rfl T.c_Thing CM_Thing_init G_Thing_init (hr.mono (by decide)) B_Thing_init .nil pass0 (pa_cons (pv 0) (pa_cons (pv 2) pa_nil))))
      (@pss_cons _ _ _ _ _ (ps_fld (pv 0) (pe_callTy call_tupL rfl T.tuple PyProof.Rows.boot_tuple (pa_cons (pe_comp (own := ["line"]) (cap := []) (ix := []) rfl (show CompScope ["self", "lines", "spot_marks", "line"] (defScope s_Table_init) _ ["line"] [] [] from ⟨rfl, by decide +kernel, by decide +kernel, by decide +kernel, by decide +kernel, by decide +kernel, by decide +kernel, rfl, by decide +kernel⟩) (pi_list (pv 1)) (fun C s₀ H₀ ex pn => ⟨pg_name (i := 0) (show (["line"] : List Str).Nodup by decide +kernel) rfl (Or.inl rfl), pifs_nil, (pe_callTy (show CallR _ (.type "tuple") (rTupL K) from call_tupL) rfl T.tuple PyProof.Rows.boot_tuple (pa_cons (pv 0) pa_nil))⟩)) pa_nil)) rfl)
      (@pss_one _ _ _ (ps_fld (pv 0) (pe_ifExp (pt_truth (pv 1) (fun _ => rfl)) (pe_callB call_lenL rfl T.len PySem.boot_len (pa_cons (pe_ix ix_list (pv 1) pe_int (fun _ _ => rfl)) pa_nil)) pe_int) rfl))))))), ?_⟩
    and_intros
    refine ⟨v, rfl, t, fun hg H1 s1 => ?_, fun hb H1 s1 => kb hb H1 fun b o _ e => s1 b o e⟩
    obtain ⟨a, xs, ls, rfl, ha, hl, hn, hd⟩ := hg
    have hlen := hn.length
    have hmk := tab_marks hd
    have hl12 : ∀ l ∈ ls, l.length ≤ 12 := fun l h => by have := (wideT_all hd l h).1; have := wideT_le hd; omega
    have hfl : ∀ i, (ls.take i).flatten.length ≤ 144 := fun i => by
      have h1 := flat_len (ls := ls.take i) fun l h => hl12 l (List.mem_of_mem_take h)
      have h2 : (ls.take i).length ≤ 12 := by rw [List.length_take]; omega
      omega
    refine ⟨by decide, fun sm hsm => ?_⟩
    have ss := Same.put (o := .lst []) hsm
    refine ⟨_, rfl, a, rfl, ⟨_, SqL.of (ss _ _ (s1 _ _ ha))⟩, for_list (xs := xs) (fun i σ H' => Same H1 H' ∧ H' sm = some (.lst (ls.take i).flatten) ∧ ∃ o, StIs σ [some (.ref p), some (.ref a), some (.ref sm), o]) ⟨ss, upd_same, none, StIs.rfl⟩ ?_ ?_ ?_⟩
    · rintro i σ H' _ ⟨s2, _⟩
      exact SqL.of (s2 _ _ (s1 _ _ ha))
    · rintro i x σ H' hx ⟨s2, hsm2, o, rfl⟩
      obtain ⟨l, el, c, ec, hc⟩ := hn.get hx
      subst ec
      and_intros
      have hl1 := hl12 l (List.mem_of_getElem? el)
      have hl2 := hfl i
      refine ⟨.inl ⟨rfl, _, SqL.of hsm2⟩, _, hsm2, l, s2 _ _ (s1 _ _ hc), Nat.le_of_lt (small1000 (by omega)), fun b o e => ?_, ?_, _, StIs.rfl⟩
      · rw [upd_ne (ne_of_none e hsm)]; exact s2 b o e
      · rw [upd_same, List.take_add_one, el, List.flatten_append]; simp
    · rintro σ H' ⟨s2, hsm2, o, rfl⟩
      rw [hlen, List.take_length] at hsm2
      and_intros
      have s12 := s1.trans s2
      refine ⟨p, dx, sm, _, ad.Table, rfl, .inr (.inl rfl), s12 _ _ hp, hsm2, fun t1 ht1 => ?_⟩
      have n1p : t1 ≠ p := Ne.symm (ne_of_none (s12 _ _ hp) ht1)
      have hp2 : (upd (upd H' t1 (.tup ls.flatten)) p (.ins ad.Table dx [("spot_marks", .ref t1)])) p = some (.ins ad.Table dx [("spot_marks", .ref t1)]) := upd_same
      have h1t : (upd (upd H' t1 (.tup ls.flatten)) p (.ins ad.Table dx [("spot_marks", .ref t1)])) t1 = some (.tup ls.flatten) := by rw [upd_ne n1p]; exact upd_same
      have sb2 : SameBut p H (upd (upd H' t1 (.tup ls.flatten)) p (.ins ad.Table dx [("spot_marks", .ref t1)])) := fun b o hb e => by rw [upd_ne hb]; exact (s12.upd ht1) b o e
      generalize (upd (upd H' t1 (.tup ls.flatten)) p (.ins ad.Table dx [("spot_marks", .ref t1)])) = H2 at hp2 h1t sb2 ⊢
      have ha2 := sb2 a _ (ne_of ha hp (fun z => nomatch z)) ha
      have hn2 : RowsAt .lst H2 xs ls := RowsAt.keep (f := .lst) (fun b ys (e : H b = some (.lst ys)) => sb2 b _ (ne_of e hp (fun z => nomatch z)) e) hn
      refine tcomp_list (a := a) (xs := xs) (H1 := H2) (fun R r => ⟨_, rfl, a, rfl, ⟨_, SqL.of ha2⟩, r⟩) (fun i ys H' => Same H2 H' ∧ RowsAt .tup H' ys (ls.take i)) ⟨Same.refl _, trivial⟩ (fun i ys H' _ ⟨s, _⟩ => SqL.of (s _ _ ha2)) ?_ ?_
      · rintro i x ys H' R hx ⟨s3, hr⟩ hR
        obtain ⟨l, el, c, ec, hc⟩ := hn2.get hx
        subst ec
        simp only [tYes]
        and_intros
        refine ⟨_, SqL.of (s3 _ _ hc), fun q hq => ⟨?_, hR _ _ ⟨s3.upd hq, ?_⟩⟩⟩
        · rw [hr.length, List.length_take]; exact small1000 (by omega)
        · rw [List.take_add_one, el]
          exact (hr.same (Same.put hq)).append ⟨⟨q, rfl, upd_same⟩, trivial⟩
      · rintro ys H' ⟨s3, hr⟩
        rw [hlen, List.take_length] at hr
        refine ⟨?_, fun D hD => ?_⟩
        · rw [hr.length]; exact Nat.le_of_lt (small1000 (by omega))
        and_intros
        refine ⟨_, SqL.of upd_same, fun t2 ht2 => ?_⟩
        have s4 := (s3.upd (o := .lst ys) hD).upd (o := .tup ys) ht2
        have h2t : (upd (upd H' D (.lst ys)) t2 (.tup ys)) t2 = some (.tup ys) := upd_same
        have hr4 := hr.same ((Same.put (o := .lst ys) hD).upd (o := .tup ys) ht2)
        generalize (upd (upd H' D (.lst ys)) t2 (.tup ys)) = H4 at s4 h2t hr4 ⊢
        have hp4 := s4 _ _ hp2
        refine ⟨ad.Table, dx, _, hp4, T.cl_Table, T.na_Table_lines, by show 1 < 1000; decide, ?_⟩
        rw [putF2 (by decide +kernel)]
        have t1p := s4 _ _ h1t
        have n2p : t2 ≠ p := ne_of h2t hp4 (fun z => nomatch z)
        have sx : ∀ o, SameBut p H4 (upd H4 p o) := fun o b u hb e => by rw [upd_ne hb]; exact e
        have ha5 := fun o => sx o a _ (ne_of ha hp (fun z => nomatch z)) (s4 _ _ ha2)
        have hn5 : ∀ o, RowsAt .lst (upd H4 p o) xs ls := fun o => RowsAt.keep (f := .lst) (fun b ys (e : H4 b = some (.lst ys)) => sx o b _ (ne_of e hp4 (fun z => nomatch z)) e) (hn2.same s4)
        have fin : ∀ cw : Int, cw = (wideT ls : Int) → Q .non (upd (upd H4 p (.ins ad.Table dx [("spot_marks", .ref t1), ("lines", .ref t2)])) p (.ins ad.Table dx (putF "columns" (.int cw) [("spot_marks", .ref t1), ("lines", .ref t2)]))) := fun cw e => by
          rw [putF3 (by decide +kernel) (by decide +kernel), upd_upd, e]
          refine kg a xs ls rfl ha hl hn hd _ ⟨dx, t1, t2, ys, upd_same, ?_, ?_, ?_, wideT_le hd, by omega, wideT_all hd⟩ fun b o hb e => ?_
          · rw [upd_ne n1p]; exact t1p
          · rw [upd_ne n2p]; exact h2t
          · exact RowsAt.keep (f := .tup) (fun b zs (e : H4 b = some (.tup zs)) => sx _ b _ (ne_of e hp4 (fun z => nomatch z)) e) hr4
          · rw [upd_ne hb]; exact s4 _ _ (sb2 b o hb e)
        refine ⟨!xs.isEmpty, .inl ⟨xs, SqL.of (ha5 _), rfl⟩, ite2 (fun hne => ?_) fun hne => ?_⟩
        · cases xs with
          | nil => cases hne
          | cons x0 xr =>
            cases ls with
            | nil => exact hn.elim
            | cons l0 lr =>
              obtain ⟨c0, ec0, hc0⟩ := (hn5 (.ins ad.Table dx [("spot_marks", .ref t1), ("lines", .ref t2)])).1
              refine ⟨_, SqL.of (ha5 _), x0, atI_nat (j := 0) rfl, c0, ec0, _, SqL.of hc0, _, _, _, upd_same, T.cl_Table, T.na_Table_columns, by show 2 < 1000; decide, fin _ rfl⟩
        · refine ⟨_, _, _, upd_same, T.cl_Table, T.na_Table_columns, by show 2 < 1000; decide, fin _ ?_⟩
          cases xs with
          | nil =>
            cases ls with
            | nil => rfl
            | cons l0 lr => exact hn.elim
          | cons x0 xr => exact absurd rfl hne
theorem ok_Table_form {f : Addr} {fd : FuncData} (F : Fun K "form" "Table.form" s_Table_form f fd) (T : Txt K mg ad) : FnOk P w K mg base CX0 1 f fd ["self"] (sp_Table_form ad) := by
  refine F.ok sc_Table_form (fun vs H Q E h => ?_) (fun cdv A outer s H vs Q E hr h => ?_)
  · obtain ⟨p, ls, w, rfl, _⟩ := h
    rfl
  · obtain ⟨p, ls, w, rfl, ⟨dx, t1, t2, xs, h1, h2, h3, h4, _⟩, k⟩ := h
    refine ⟨_, (@pss_one _ _ _ (ps_ret (pe_tup (pa_cons pe_str (pa_cons (pe_fld (pv 0) rfl) (pa_cons (pe_fld (pv 0) rfl) pa_nil)))))), ?_⟩
    and_intros
    refine ⟨ad.Table, dx, _, h1, T.cl_Table, T.na_Table_columns, .int w, lookup3 (by decide +kernel) (by decide +kernel), ?_⟩
    exact ⟨ad.Table, dx, _, h1, T.cl_Table, T.na_Table_lines, .ref t2, lookup3b (by decide +kernel), by decide, fun l hl => k t2 xs l h3 h4 hl⟩
theorem ok_show_line {f : Addr} {fd : FuncData} (D : Def K mg "show_line" s_show_line ["line"] f fd) (T : Txt K mg ad) : FnOk P w K mg base CX0 1 f fd ["line"] (sp_show_line K) := by
  refine D.F.ok sc_show_line (fun vs H Q E h => ?_) (fun cdv A outer s H vs Q E hr h => ?_)
  · obtain ⟨t, zs, rfl, _⟩ := h
    rfl
  · obtain ⟨t, zs, rfl, ht, hz, hl, k⟩ := h
    refine ⟨_, (@pss_one _ _ _ (ps_ret (pe_ifExp (pt_truth (pv 0) (fun _ => rfl)) (pe_bm PySem.F.plainAttrs_str PySem.F.slot_str_join PySem.F.type_str_join mt_join pe_str (pa_cons (pv 0) pa_nil)) pe_str))), ?_⟩
    and_intros
    refine ⟨!(zs.map V.str).isEmpty, .inr (.inl ⟨_, ht, rfl⟩), ?_⟩
    cases zs with
    | nil => exact k
    | cons z r =>
      rw [if_pos (show (!(List.map V.str (z :: r)).isEmpty) = true from rfl)]
      have wk : ∀ w ∈ z :: r, wordS w := fun w hw => .inl (hz w hw)
      have := sum_len wk
      exact ⟨rfl, z :: r, .inr ht, by decide +kernel, by omega, k⟩
theorem ok_signs_between {f : Addr} {fd : FuncData} (D : Def K mg "signs_between" s_signs_between ["last", "depth"] f fd) (T : Txt K mg ad) : FnOk P w K mg base CX0 1 f fd ["last", "depth"] sp_signs_between := by
  refine D.F.ok sc_signs_between (fun vs H Q E h => ?_) (fun cdv A outer s H vs Q E hr h => ?_)
  · obtain ⟨d, e, rfl, _⟩ := h
    rfl
  · obtain ⟨d, e, rfl, hd, k⟩ := h
    refine ⟨_, (@pss_cons _ _ _ _ _ (ps_if (pt_cmpR op_gt (pv 1) (pv 0) (nomark _))
      (@pss_one _ _ _ (ps_ret pe_str))
      pss_nil)
      (@pss_one _ _ _ (ps_ret (pe_op op_add_str (pe_op op_mulS pe_str (pe_op op_sub (pv 0) (pv 1))) pe_str)))), ?_⟩
    refine tseq_open fun B hB => ?_
    and_intros
    refine ite2 (fun h => ?_) fun h => ?_
    · have q := k
      unfold sgL at q
      rw [if_pos (by omega)] at q
      exact q
    subst hB
    and_intros
    have q := k
    unfold sgL at q
    rw [if_neg (by omega), ← mkS_app] at q
    refine ⟨by decide +kernel, by omega, by omega, ?_⟩
    rw [show (d : Int) - (e : Int) = ((d - e : Nat) : Int) by omega, mul_close]
    refine ⟨?_, q⟩
    have : (mkS (closes (d - e))).length = d - e := List.length_replicate
    have c1 : (Str.ofString ",").length = 1 := by decide +kernel
    exact Nat.le_of_lt (small1000 (by show (mkS (closes (d - e))).length + _ ≤ 1000; omega))
theorem ok_show_nodes {f : Addr} {fd : FuncData} (D : Def K mg "show_nodes" s_show_nodes ["nodes"] f fd) (T : Txt K mg ad) {f_signs_between : Addr} {fd_signs_between : FuncData} (G_signs_between : FnOk P w K mg base CX0 1 f_signs_between fd_signs_between ["last", "depth"] sp_signs_between) (D_signs_between : Def K mg "signs_between" s_signs_between ["last", "depth"] f_signs_between fd_signs_between) : FnOk P w K mg base CX0 2 f fd ["nodes"] (sp_show_nodes K) := by
  refine D.F.ok sc_show_nodes (fun vs H Q E h => ?_) (fun cdv A outer s H vs Q E hr h => ?_)
  · obtain ⟨t, ys, ns, rfl, _⟩ := h
    rfl
  · obtain ⟨t, ys, ns, rfl, ht, hn, hd, hl, k⟩ := h
    refine ⟨_, (@pss_cons _ _ _ _ _ (ps_set (i := 1) sc_show_nodes.nd rfl (Or.inl rfl) pe_str)
      (@pss_cons _ _ _ _ _ (ps_set (i := 2) sc_show_nodes.nd rfl (Or.inl rfl) pe_int)
      (@pss_cons _ _ _ _ _ (ps_for PassesOwn.never rfl (pi_tup (pv 0)) (pg_tup (n := 2) rfl (pgs_cons (pg_name (i := 3) sc_show_nodes.nd rfl (Or.inl rfl)) (pgs_cons (pg_name (i := 4) sc_show_nodes.nd rfl (Or.inl rfl)) pgs_nil)))
      (@pss_cons _ _ _ _ _ (ps_if (pt_truth (pv 1) (fun _ => rfl))
      (@pss_one _ _ _ (ps_aug (i := 1) sc_show_nodes.nd rfl (Or.inl rfl) (pe_call G_signs_between (hr.mono (by decide)) rfl D_signs_between.mg D_signs_between.F.kp D_signs_between.b .nil pass0 (pa_cons (pv 2) (pa_cons (pv 4) pa_nil))) ip_addS))
      pss_nil)
      (@pss_cons _ _ _ _ _ (ps_aug (i := 1) sc_show_nodes.nd rfl (Or.inl rfl) (pv 3) ip_addS)
      (@pss_one _ _ _ (ps_set (i := 2) sc_show_nodes.nd rfl (Or.inl rfl) (pv 4))))))
      (@pss_one _ _ _ (ps_ret (pe_op op_add_str (pv 1) (pe_op op_mulS pe_str (pv 2)))))))), ?_⟩
    have il := ins_len hd hl
    refine tseq_open fun B hB => ?_
    and_intros
    subst hB
    refine tseq_open fun B hB => ?_
    and_intros
    subst hB
    refine tseq_open fun B hB => ?_
    refine ⟨_, rfl, t, rfl, ⟨_, ht⟩, for_tup (xs := ys) (fun i σ H' => H' = H ∧ ∃ (L : List Nat) (e : Nat), ((i = 0 ∧ L = [] ∧ e = 0) ∨ (0 < i ∧ L ≠ [] ∧ L ++ restF e ((ns.drop i).map toW) = insL ns)) ∧ e ≤ 12 ∧ ∃ o3 o4 : Option V, StIs σ [some (.ref t), some (.str (mkS L)), some (.int (e : Nat)), o3, o4]) ⟨rfl, [], 0, .inl ⟨rfl, rfl, rfl⟩, by decide, none, none, StIs.rfl⟩ (fun i σ H' _ ⟨e, _⟩ => e ▸ ht) ?_ ?_⟩
    · rintro i x σ H' hx ⟨rfl, L, e, hL, he, o3, o4, rfl⟩
      obtain ⟨n, en, tn, ex, htn⟩ := hn.get hx
      subst ex
      have hm := List.mem_of_getElem? en
      have hda := depthOk_all hd n hm
      have h12 := deepF12 hd (by omega) n hm
      obtain ⟨m, d⟩ := n
      obtain ⟨dn, edn⟩ := Int.eq_ofNat_of_zero_le (show 0 ≤ d from hda.2)
      subst edn
      have h12' : (dn : Int) ≤ 12 := h12
      have l8 := mark_all (show markS m = true from hda.1)
      have l8' : m.cps.toList.length ≤ 8 := l8.2.1
      have l1' : 1 ≤ m.cps.toList.length := l8.1
      have edr : (ns.drop i).map toW = (m.cps.toList, dn) :: (ns.drop (i + 1)).map toW := by
        have hi := (List.getElem?_eq_some_iff.mp en).1
        rw [List.drop_eq_getElem_cons hi, (List.getElem?_eq_some_iff.mp en).2]
        rfl
      and_intros
      rcases hL with ⟨rfl, rfl, rfl⟩ | ⟨hi0, hne, hL⟩
      · refine ⟨_, SqT.of htn, rfl, _, _, rfl, _, _, rfl, rfl, false, ⟨by decide, rfl⟩, ?_⟩
        rw [if_neg (by decide)]
        have em : mkS [] ++ m = mkS m.cps.toList := by rw [mkS_of]; exact Str.empty_append m
        have e0 : ns = (m, (dn : Int)) :: ns.drop 1 := by
          have hi := (List.getElem?_eq_some_iff.mp en).1
          conv => lhs; rw [← List.drop_zero (l := ns), List.drop_eq_getElem_cons hi, (List.getElem?_eq_some_iff.mp en).2]
        have d0 : dn = 0 := by
          rw [e0] at hd
          have := hd.2.2.1
          have : (dn : Int) ≤ 0 := this
          omega
        subst d0
        refine ⟨m, rfl, big9 (by show 0 + m.length ≤ _; have := l8.2.1; omega), m.cps.toList, 0, .inr ⟨Nat.succ_pos _, fun z => by rw [z] at l1'; exact absurd l1' (by decide), ?_⟩, by decide, some (.str m), some (.int ((0 : Nat) : Int)), by rw [em]; exact StIs.rfl⟩
        conv => rhs; rw [e0]
        rfl
      · rw [edr] at hL
        have hL' : L ++ sgL e dn ++ m.cps.toList ++ restF dn ((ns.drop (i + 1)).map toW) = insL ns := by
          rw [← hL, List.append_assoc, List.append_assoc]
          show _ = L ++ ((sgL e dn ++ m.cps.toList) ++ restF dn _)
          rw [List.append_assoc]
        have ll := congrArg List.length hL'
        rw [List.length_append, List.length_append, List.length_append] at ll
        have lL : (mkS L).length = L.length := rfl
        have lp := List.length_pos_iff.mpr hne
        have em : mkS L ++ mkS (sgL e dn) ++ m = mkS (L ++ sgL e dn ++ m.cps.toList) := by
          rw [mkS_app]
          conv => lhs; rw [← mkS_of m]
          rw [mkS_app]
        have ls : (mkS (sgL e dn)).length = (sgL e dn).length := rfl
        have lm : m.length = m.cps.toList.length := rfl
        refine ⟨_, SqT.of htn, rfl, _, _, rfl, _, _, rfl, rfl, true, ⟨big9 (by omega), (bne_iff_ne.mpr (by omega)).symm⟩, ?_⟩
        rw [if_pos rfl]
        refine ⟨e, dn, rfl, by omega, ?_⟩
        refine ⟨_, rfl, big9 (by omega), m, rfl, big9 (by rw [Str.length_append]; omega), rfl, L ++ sgL e dn ++ m.cps.toList, dn, .inr ⟨Nat.succ_pos _, fun z => ?_, hL'⟩, by omega, some (.str m), some (.int (dn : Int)), by rw [em]; exact StIs.rfl⟩
        have := congrArg List.length z
        rw [List.length_append, List.length_append, List.length_nil] at this
        omega
    · rintro σ H' ⟨rfl, L, e, hL, he, o3, o4, rfl⟩
      dsimp only
      subst hB
      and_intros
      have le : L ++ closes e = insL ns := by
        rcases hL with ⟨h0, rfl, rfl⟩ | ⟨h0, _, h⟩
        · have : ns = [] := List.length_eq_zero_iff.mp (by rw [← hn.length]; exact h0)
          rw [this]
          rfl
        · rw [hn.length, List.drop_length] at h
          exact h
      have ll := congrArg List.length le
      rw [List.length_append] at ll
      rw [mul_close]
      have lc : (Str.mk (closes e).toArray).length = (closes e).length := rfl
      have lL : (mkS L).length = L.length := rfl
      refine ⟨by decide +kernel, by omega, by omega, big9 (by omega), ?_⟩
      have q := k H' (Same.refl _)
      unfold insS at q
      rw [← le, ← mkS_app] at q
      exact q
theorem ok_show_thing {f : Addr} {fd : FuncData} (D : Def K mg "show_thing" s_show_thing ["thing"] f fd) (T : Txt K mg ad) {f_Row_form : Addr} {fd_Row_form : FuncData} (G_Row_form : FnOk P w K mg base CX0 1 f_Row_form fd_Row_form ["self"] (sp_Row_form ad)) {f_Forest_form : Addr} {fd_Forest_form : FuncData} (G_Forest_form : FnOk P w K mg base CX0 1 f_Forest_form fd_Forest_form ["self"] (sp_form ad)) {f_Table_form : Addr} {fd_Table_form : FuncData} (G_Table_form : FnOk P w K mg base CX0 1 f_Table_form fd_Table_form ["self"] (sp_Table_form ad)) {f_show_nodes : Addr} {fd_show_nodes : FuncData} (G_show_nodes : FnOk P w K mg base CX0 2 f_show_nodes fd_show_nodes ["nodes"] (sp_show_nodes K)) {f_show_line : Addr} {fd_show_line : FuncData} (G_show_line : FnOk P w K mg base CX0 1 f_show_line fd_show_line ["line"] (sp_show_line K)) (D_show_nodes : Def K mg "show_nodes" s_show_nodes ["nodes"] f_show_nodes fd_show_nodes) (D_show_line : Def K mg "show_line" s_show_line ["line"] f_show_line fd_show_line) (B_Row_form : Binds K fd_Row_form ["self"] []) (B_Forest_form : Binds K fd_Forest_form ["self"] []) (B_Table_form : Binds K fd_Table_form ["self"] []) (ME_Row_form : Meth K ad.Row "form" f_Row_form) (ME_Forest_form : Meth K ad.Forest "form" f_Forest_form) (ME_Table_form : Meth K ad.Table "form" f_Table_form) : FnOk P w K mg base CX0 3 f fd ["thing"] (sp_show_thing ad) := by
  refine D.F.ok sc_show_thing (fun vs H Q E h => ?_) (fun cdv A outer s H vs Q E hr h => ?_)
  · obtain ⟨p, d, rfl, _⟩ := h
    rfl
  · obtain ⟨p, d, rfl, hT, k⟩ := h
    refine ⟨_, (@pss_cons _ _ _ _ _ (ps_set (i := 1) sc_show_thing.nd rfl (Or.inl rfl) (pe_either (pe_either (pe_meth0 (pv 0) T.cl_Row ME_Row_form G_Row_form (hr.mono (by decide)) B_Row_form .nil pass0) (pe_meth0 (pv 0) T.cl_Forest ME_Forest_form G_Forest_form (hr.mono (by decide)) B_Forest_form .nil pass0)) (pe_meth0 (pv 0) T.cl_Table ME_Table_form G_Table_form (hr.mono (by decide)) B_Table_form .nil pass0)))
      (@pss_cons _ _ _ _ _ (ps_set (i := 2) sc_show_thing.nd rfl (Or.inl rfl) (pe_ix ix_tup (pv 1) pe_int (fun _ _ => rfl)))
      (@pss_cons _ _ _ _ _ (ps_if (pt_cmpR op_eq (pv 2) pe_str (nomark _))
      (@pss_one _ _ _ (ps_set (i := 3) sc_show_thing.nd rfl (Or.inl rfl) (pe_bm PySem.F.plainAttrs_str PySem.F.slot_str_join PySem.F.type_str_join mt_join pe_str (pa_cons (pe_ix ix_tup (pv 1) pe_int (fun _ _ => rfl)) pa_nil))))
      (@pss_one _ _ _ (ps_if (pt_cmpR op_eq (pv 2) pe_str (nomark _))
      (@pss_one _ _ _ (ps_set (i := 3) sc_show_thing.nd rfl (Or.inl rfl) (pe_call G_show_nodes (hr.mono (by decide)) rfl D_show_nodes.mg D_show_nodes.F.kp D_show_nodes.b .nil pass0 (pa_cons (pe_ix ix_tup (pv 1) pe_int (fun _ _ => rfl)) pa_nil))))
      (@pss_one _ _ _ (ps_set (i := 3) sc_show_thing.nd rfl (Or.inl rfl) (pe_bm PySem.F.plainAttrs_str PySem.F.slot_str_join PySem.F.type_str_join mt_join pe_str (pa_cons (pe_comp (own := ["line"]) (cap := []) (ix := []) rfl (show CompScope ["thing", "form", "kind", "inside"] (defScope s_show_thing) _ ["line"] [] [] from ⟨rfl, by decide +kernel, by decide +kernel, by decide +kernel, by decide +kernel, by decide +kernel, by decide +kernel, rfl, by decide +kernel⟩) (pi_tup (pe_ix ix_tup (pv 1) pe_int (fun _ _ => rfl))) (fun C s₀ H₀ ex pn => ⟨pg_name (i := 0) (show (["line"] : List Str).Nodup by decide +kernel) rfl (Or.inl rfl), pifs_nil, (pe_call G_show_line (hr.mono (by decide)) rfl D_show_line.mg D_show_line.F.kp D_show_line.b .nil pass0 (pa_cons (pv 0) pa_nil))⟩)) pa_nil)))))))
      (@pss_one _ _ _ (ps_ret (pe_ifExp (pt_truth (pv 3) (fun _ => rfl)) (pe_op op_add_str (pe_op op_add_str (pv 2) pe_str) (pv 3)) (pv 2))))))), ?_⟩
    have dO := hT.ok
    have il := ins_lenD dO
    have lk := kind_len d
    refine tseq_open fun B hB => ?_
    and_intros
    refine any_form hT fun f H1 s1 hf => ?_
    subst hB
    refine tseq_open fun B hB => ?_
    and_intros
    obtain ⟨xs0, hx0⟩ := form_head hf
    refine ⟨_, SqT.of hx0, _, (show atI _ ((0 : Nat) : Int) = _ from atI_nat rfl), ?_⟩
    clear hx0
    subst hB
    refine tseq_open fun B hB => ?_
    have fin : ∀ H2, Same H H2 → B ({ nx := fun _ H' => Q .non H', rt := Q } : Ends) [some (.ref p), some (.ref f), some (.str (kindS d)), some (.str (insD d))] H2 := fun H2 s2 => by
      subst hB
      and_intros
      have q := k H2 s2
      unfold textD textK at q
      by_cases hw : (insD d).length = 0
      · rw [if_pos hw] at q
        refine ⟨false, ⟨big9 (by omega), by rw [hw]; rfl⟩, ?_⟩
        rw [if_neg (by decide)]
        exact q
      · rw [if_neg hw] at q
        refine ⟨true, ⟨big9 (by omega), (bne_iff_ne.mpr (by omega)).symm⟩, ?_⟩
        rw [if_pos rfl]
        have b1 : (Str.ofString " ").length = 1 := by decide +kernel
        exact ⟨big9 (by omega), big9 (by rw [Str.length_append]; omega), q⟩
    and_intros
    cases d with
    | row xs =>
      rw [if_pos (show kindS (.row xs) = Str.ofString "row" from rfl)]
      obtain ⟨t, h1, h2⟩ := hf
      have sl := sum_len (ws := xs.map sV) fun w hw => .inl (sV_marks dO.1 w hw)
      have l40 := dO.2
      refine ⟨rfl, _, SqT.of h1, _, rfl, t, rfl, xs.map sV, .inr ?_, by decide +kernel, ?_, fin H1 s1⟩
      · rw [sV_map dO.1]
        exact SqT.of h2
      · rw [List.length_map] at sl ⊢
        omega
    | forest ns =>
      rw [if_neg (show ¬ kindS (.forest ns) = Str.ofString "row" from (by decide +kernel : ¬ Str.ofString "forest" = Str.ofString "row")), if_pos (show kindS (.forest ns) = Str.ofString "forest" from rfl)]
      obtain ⟨t, ys, h1, h2, h3⟩ := hf
      exact ⟨_, SqT.of h1, _, rfl, t, ys, ns, rfl, SqT.of h2, h3, dO.1, dO.2, fun H2 s2 => fin H2 (s1.trans s2)⟩
    | table ls w =>
      rw [if_neg (show ¬ kindS (.table ls w) = Str.ofString "row" from (by decide +kernel : ¬ Str.ofString "table" = Str.ofString "row")), if_neg (show ¬ kindS (.table ls w) = Str.ofString "forest" from (by decide +kernel : ¬ Str.ofString "table" = Str.ofString "forest"))]
      obtain ⟨t, ts, h1, h2, h3⟩ := hf
      have lts := h3.length
      have l12 := dO.2.1
      refine ⟨rfl, ?_⟩
      refine tcomp_tup (K := K) (a := t) (xs := ts) (H1 := H1) (fun R r => by and_intros; exact ⟨_, SqT.of h1, _, rfl, t, rfl, ⟨_, SqT.of h2⟩, r⟩) (fun i ys H' => H' = H1 ∧ ys = (((ls.map fun l => l.map sV).take i).map showL).map V.str) ⟨rfl, rfl⟩ (fun i ys H' _ ⟨e, _⟩ => e ▸ SqT.of h2) ?_ ?_
      · rintro i x ys H' R hx ⟨rfl, rfl⟩ hR
        have hi := (List.getElem?_eq_some_iff.mp hx).1
        obtain ⟨l, hl, hrow⟩ := h3.get hx
        have lo := dO.2.2 l (List.mem_of_getElem? hl)
        obtain ⟨t', rfl, ht'⟩ := row_strs hrow lo.2
        have w12 := dO.1
        simp only [tYes]
        and_intros
        refine ⟨t', l.map sV, rfl, SqT.of ht', sV_marks lo.2, by rw [List.length_map]; have := lo.1; omega, small1000 (by rw [List.length_map, List.length_map, List.length_take]; omega), hR _ _ ⟨rfl, ?_⟩⟩
        rw [List.take_add_one, List.getElem?_map, hl, List.map_append, List.map_append]
        rfl
      · rintro ys H' ⟨rfl, rfl⟩
        rw [show ts.length = (ls.map fun l => l.map sV).length by rw [List.length_map]; exact lts, List.take_length]
        have lm : (ls.map fun l => l.map sV).length = ls.length := List.length_map _
        have hm := lines_marks dO.2.2
        have bnd := sum_le (n := 200) (ws := (ls.map fun l => l.map sV).map showL) fun w hw => by
          obtain ⟨l, hl, rfl⟩ := List.mem_map.mp hw
          have h1 := join_len (words_line (hm l hl))
          obtain ⟨x, hx, rfl⟩ := List.mem_map.mp hl
          have h2 : (wordsL (x.map sV)).length ≤ 13 := by
            have := (dO.2.2 x hx).1
            have := dO.1
            cases x with
            | nil => exact (show 1 ≤ 13 by decide)
            | cons y r => show ((y :: r).map sV).length ≤ 13; rw [List.length_map]; omega
          show (Str.join " " (wordsL (x.map sV))).length ≤ 200
          omega
        rw [List.length_map, lm] at bnd
        refine ⟨Nat.le_of_lt (small1000 (by rw [List.length_map, List.length_map]; omega)), fun L hL => ?_⟩
        have e : Str.join " / " ((ls.map fun l => l.map sV).map showL) = Str.join " " (wordsT (ls.map fun l => l.map sV)) := by
          by_cases h0 : ls = []
          · subst h0; rfl
          · exact showT_join fun z => h0 (List.map_eq_nil_iff.mp z)
        refine ⟨L, rfl, _, .inl (SqL.of upd_same), by decide +kernel, by rw [List.length_map, lm]; omega, ?_⟩
        rw [e]
        exact fin _ (s1.upd hL)
theorem ok_nodes_in {f : Addr} {fd : FuncData} (D : Def K mg "nodes_in" s_nodes_in ["text"] f fd) (T : Txt K mg ad) : FnOk P w K mg base CX0 1 f fd ["text"] sp_nodes_in := by
  refine D.F.ok sc_nodes_in (fun vs H Q E h => ?_) (fun cdv A outer s H vs Q E hr h => ?_)
  · obtain ⟨z, rfl, _⟩ := h
    rfl
  · obtain ⟨z, rfl, hz, k⟩ := h
    refine ⟨_, (@pss_cons _ _ _ _ _ (ps_set (i := 1) sc_nodes_in.nd rfl (Or.inl rfl) (pe_lst pa_nil))
      (pss_set1 (i := 2) sc_nodes_in.nd rfl (Or.inl rfl) (pss1_cons (ps_for1 PassesOwn.never rfl (pi_list1 (pep_split (pe1_repl (pe1_repl (pe1_repl (pe1_var (i := 0) rfl (by first | exact Or.inl rfl | exact Or.inr (Or.inl rfl) | exact Or.inr (Or.inr rfl)))))))) (pg_name (i := 3) sc_nodes_in.nd rfl (Or.inl rfl))
      (@pss_one _ _ _ (ps_if (pt_cmpR op_eq (pv 3) pe_str (nomark _))
      (@pss_one _ _ _ (ps_aug (i := 2) sc_nodes_in.nd rfl (Or.inl rfl) pe_int ip_add))
      (@pss_one _ _ _ (ps_if (pt_cmpR op_eq (pv 3) pe_str (nomark _))
      (@pss_one _ _ _ (ps_aug (i := 2) sc_nodes_in.nd rfl (Or.inl rfl) pe_int ip_sub))
      (@pss_one _ _ _ (ps_if (pt_cmpR op_ne (pv 3) pe_str (nomark _))
      (@pss_one _ _ _ (ps_expr (pe_bm PySem.F.plainAttrs_list PySem.F.slot_list_append PySem.F.type_list_append mt_append (pv 1) (pa_cons (pe_tup (pa_cons (pv 3) (pa_cons (pv 2) pa_nil))) pa_nil))))
      pss_nil)))))))
      (@pss_one _ _ _ (ps_ret (pv 1)))))), ?_⟩
    have r1 : Txt.replace z (Str.ofString "(") (Str.ofString " ( ") = mkS (repC 40 [32, 40, 32] z.cps.toList) := (repl_S (c := 40) (by decide +kernel)).trans (by rw [show (Str.ofString " ( ").cps.toList = [32, 40, 32] by decide +kernel])
    have r2 : Txt.replace (mkS (repC 40 [32, 40, 32] z.cps.toList)) (Str.ofString ")") (Str.ofString " ) ") = mkS (repC 41 [32, 41, 32] (repC 40 [32, 40, 32] z.cps.toList)) := (repl_S (c := 41) (by decide +kernel)).trans (by rw [show (Str.ofString " ) ").cps.toList = [32, 41, 32] by decide +kernel])
    have r3 : Txt.replace (mkS (repC 41 [32, 41, 32] (repC 40 [32, 40, 32] z.cps.toList))) (Str.ofString ",") (Str.ofString " ") = mkS (sub3 z.cps.toList) := (repl_S (c := 44) (by decide +kernel)).trans (by rw [show (Str.ofString " ").cps.toList = [32] by decide +kernel]; rfl)
    have b1 : (Str.ofString " ").length = 1 := by decide +kernel
    have b3 : (Str.ofString " ( ").length = 3 := by decide +kernel
    have b4 : (Str.ofString " ) ").length = 3 := by decide +kernel
    have l0 : z.length = z.cps.toList.length := rfl
    have l1 := rep_len (c := 40) (z := [32, 40, 32]) (by decide) z.cps.toList
    have l2 := rep_len (c := 41) (z := [32, 41, 32]) (by decide) (repC 40 [32, 40, 32] z.cps.toList)
    have l3 : (sub3 z.cps.toList).length ≤ 3 * (repC 41 [32, 41, 32] (repC 40 [32, 40, 32] z.cps.toList)).length := rep_len (c := 44) (z := [32]) (by decide) _
    have m1 := mkS_len (repC 40 [32, 40, 32] z.cps.toList)
    have m2 := mkS_len (repC 41 [32, 41, 32] (repC 40 [32, 40, 32] z.cps.toList))
    have m3 := mkS_len (sub3 z.cps.toList)
    have sle : (splitC 32 (sub3 z.cps.toList)).length ≤ (sub3 z.cps.toList).length + 2 := by
      have := PyProof.Rows.split_le (mkS (sub3 z.cps.toList)) (Str.ofString " ")
      rw [split_S, List.length_map] at this
      exact this
    refine tseq_open fun B hB => ?_
    and_intros
    refine ⟨by decide, fun l0' hl0 => ?_⟩
    have s0 := Same.put (o := .lst []) hl0
    have f0 : (upd H l0' (.lst [])) l0' = some (.lst []) := upd_same
    generalize (upd H l0' (.lst [])) = H1 at s0 f0 ⊢
    subst hB
    refine tseq_open fun B hB => ?_
    and_intros
    subst hB
    refine tseq_open fun B hB => ?_
    refine (show tFor _ _ _ _ _ _ from ?_)
    refine (show iList _ _ _ _ _ from ?_)
    refine split_it (fun J H3 => ∃ lw, J = Itl K lw ∧ H1 lw = none ∧ Same H1 H3 ∧ H3 lw = some (.lst (((splitC 32 (sub3 z.cps.toList)).map mkS).map V.str))) (fun G hG => ?_) ?_
    · and_intros
      rw [r1, r2, r3, split_S, b3, b4, b1]
      exact ⟨by omega, by omega, by omega, rfl, by decide, Nat.le_of_lt (big3 (by omega)), fun lw hlw => ⟨⟨_, SqL.of upd_same⟩, hG _ _ ⟨lw, rfl, hlw, Same.put hlw, upd_same⟩⟩⟩
    rintro _ H3 ⟨lw, rfl, nlw, s3, hlw⟩
    generalize hW : splitC 32 (sub3 z.cps.toList) = W at *
    have lwl : lw ≠ l0' := fun e => by rw [e, f0] at nlw; cases nlw
    refine for_list (xs := (W.map mkS).map V.str) (fun i σ H' => Same H H' ∧ H' lw = some (.lst ((W.map mkS).map V.str)) ∧ ∃ (ys : List V) (st : List NdW × Int), st = (W.take i).foldl stepW ([], 0) ∧ H' l0' = some (.lst ys) ∧ NodesAt H' ys (st.1.map fun n => (mkS n.1, n.2)) ∧ st.1.length ≤ i ∧ ∃ o3 : Option V, StIs σ [some (.str z), some (.ref l0'), some (.int st.2), o3]) ⟨s0.trans s3, hlw, [], ([], 0), rfl, s3 _ _ f0, trivial, Nat.le_refl _, none, StIs.rfl⟩ (fun i σ H' _ ⟨_, e, _⟩ => SqL.of e) ?_ ?_
    · rintro i x σ H' hx ⟨s4, hw4, ys, st, est, h4, hr, l5, o3, rfl⟩
      obtain ⟨w, hwi, rfl⟩ : ∃ w, W[i]? = some w ∧ V.str (mkS w) = x := by
        rw [List.getElem?_map, List.getElem?_map] at hx
        obtain ⟨y, hy, e⟩ := Option.map_eq_some_iff.mp hx
        obtain ⟨w, hw, e2⟩ := Option.map_eq_some_iff.mp hy
        exact ⟨w, hw, by rw [e2]; exact e⟩
      have hi := (List.getElem?_eq_some_iff.mp hwi).1
      have est' : (W.take (i + 1)).foldl stepW ([], 0) = stepW st w := by
        rw [List.take_add_one, hwi, List.foldl_append, ← est]
        rfl
      have lr := hr.length
      rw [List.length_map] at lr
      and_intros
      rw [est']
      have k40 : Str.ofString "(" = mkS [40] := by decide +kernel
      have k41 : Str.ofString ")" = mkS [41] := by decide +kernel
      have k0 : Str.ofString "" = mkS [] := by decide +kernel
      refine ite2 (fun e => ?_) fun n1 => ite2 (fun e => ?_) fun n2 => ite2 (fun n3 => ?_) fun n3 => ?_
      · have ew := mkS_inj (e.trans k40)
        have es : stepW st w = (st.1, st.2 + 1) := by unfold stepW; rw [if_pos ew]
        rw [es]
        exact ⟨s4, hw4, ys, h4, hr, Nat.le_succ_of_le l5, _, StIs.rfl⟩
      · have ew := mkS_inj (e.trans k41)
        have es : stepW st w = (st.1, st.2 - 1) := by unfold stepW; rw [if_neg (by rw [ew]; decide), if_pos ew]
        rw [es]
        exact ⟨s4, hw4, ys, h4, hr, Nat.le_succ_of_le l5, _, StIs.rfl⟩
      · have es : stepW st w = (st.1 ++ [(w, st.2)], st.2) := by
          unfold stepW
          rw [if_neg (fun z => n1 (by rw [z, k40])), if_neg (fun z => n2 (by rw [z, k41])), if_pos (fun z => n3 (by rw [z, k0]))]
        rw [es]
        refine ⟨.inl ⟨rfl, _, SqL.of h4⟩, by decide, fun p hp => ?_⟩
        have s5 := Same.put (o := .tup [V.str (mkS w), V.int st.2]) hp
        have f5 : (upd H' p (.tup [V.str (mkS w), V.int st.2])) p = some (.tup [V.str (mkS w), V.int st.2]) := upd_same
        generalize (upd H' p (.tup [V.str (mkS w), V.int st.2])) = H5 at s5 f5 ⊢
        refine ⟨_, s5 _ _ h4, big3 (by omega), same_ne (s4.trans s5) hl0, by rw [upd_ne lwl]; exact s5 _ _ hw4, _, upd_same, ?_, by rw [List.length_append, List.length_singleton]; omega, _, StIs.rfl⟩
        rw [List.map_append]
        have q := (hr.same s5).append (ys := [.ref p]) (ms := [(mkS w, st.2)]) ⟨⟨p, rfl, f5⟩, trivial⟩
        exact q.tups (lst_tups (s5 _ _ h4))
      · have ew := mkS_inj ((Classical.byContradiction n3).trans k0)
        have es : stepW st w = st := by unfold stepW; rw [if_neg (by rw [ew]; decide), if_neg (by rw [ew]; decide), if_neg (fun h => h ew)]
        rw [es]
        exact ⟨s4, hw4, ys, h4, hr, Nat.le_succ_of_le l5, _, StIs.rfl⟩
    · rintro σ H' ⟨s4, hw4, ys, st, est, h4, hr, l5, o3, rfl⟩
      rw [List.length_map, List.length_map, List.take_length] at est
      dsimp only
      subst hB
      and_intros
      refine k l0' ys H' s4 h4 ?_
      rw [est] at hr
      unfold nodesZ runW
      rw [hW]
      exact hr
theorem ok_lines_in {f : Addr} {fd : FuncData} (D : Def K mg "lines_in" s_lines_in ["text"] f fd) (T : Txt K mg ad) : FnOk P w K mg base CX0 1 f fd ["text"] sp_lines_in := by
  refine D.F.ok sc_lines_in (fun vs H Q E h => ?_) (fun cdv A outer s H vs Q E hr h => ?_)
  · obtain ⟨z, rfl, _⟩ := h
    rfl
  · obtain ⟨z, rfl, hz, k⟩ := h
    refine ⟨_, (@pss_cons _ _ _ _ _ (ps_if (pt_cmpR op_eq (pv 0) pe_str (nomark _))
      (@pss_one _ _ _ (ps_ret (pe_lst pa_nil)))
      pss_nil)
      (@pss_cons _ _ _ _ _ (ps_set (i := 1) sc_lines_in.nd rfl (Or.inl rfl) (pe_lst (pa_cons (pe_lst pa_nil) pa_nil)))
      (@pss_cons _ _ _ _ _ (ps_for PassesOwn.never rfl (pi_list (pe_bm PySem.F.plainAttrs_str PySem.F.slot_str_split PySem.F.type_str_split mt_split (pv 0) (pa_cons pe_str pa_nil))) (pg_name (i := 2) sc_lines_in.nd rfl (Or.inl rfl))
      (@pss_one _ _ _ (ps_if (pt_cmpR op_eq (pv 2) pe_str (nomark _))
      (@pss_one _ _ _ (ps_expr (pe_bm PySem.F.plainAttrs_list PySem.F.slot_list_append PySem.F.type_list_append mt_append (pv 1) (pa_cons (pe_lst pa_nil) pa_nil))))
      (@pss_one _ _ _ (ps_if (pt_cmpR op_ne (pv 2) pe_str (nomark _))
      (@pss_one _ _ _ (ps_expr (pe_bm PySem.F.plainAttrs_list PySem.F.slot_list_append PySem.F.type_list_append mt_append (pe_ix ix_list (pv 1) (pe_un un_neg pe_int) (fun _ _ => rfl)) (pa_cons (pv 2) pa_nil))))
      pss_nil)))))
      (@pss_one _ _ _ (ps_ret (pv 1)))))), ?_⟩
    refine tseq_open fun B hB => ?_
    and_intros
    by_cases h0 : z = ""
    · rw [if_pos h0]
      refine ⟨by decide, fun a ha => k a [] _ (Same.put ha) upd_same ?_⟩
      rw [show linesZ z = [] from if_pos h0]
      trivial
    rw [if_neg h0]
    have pa0 : linesZ z = putW [[]] (Txt.split z " ") := if_neg h0
    have wl := PyProof.Rows.split_le z (Str.ofString " ")
    generalize hws : Txt.split z (Str.ofString " ") = ws at *
    subst hB
    refine tseq_open fun B hB => ?_
    and_intros
    refine ⟨by decide, fun e0 he0 => ⟨by decide, fun l0 hl0 => ?_⟩⟩
    have se := Same.put (o := .lst []) he0
    have fe : (upd H e0 (.lst [])) e0 = some (.lst []) := upd_same
    generalize (upd H e0 (.lst [])) = H1 at se fe hl0 ⊢
    have hl0H := Same.none se hl0
    have nel : e0 ≠ l0 := ne_of_none fe hl0
    have sl := Same.put (o := .lst [.ref e0]) hl0
    have fl0 : (upd H1 l0 (.lst [.ref e0])) l0 = some (.lst [.ref e0]) := upd_same
    have fe2 := sl _ _ fe
    generalize (upd H1 l0 (.lst [.ref e0])) = H2 at sl fl0 fe2 ⊢
    have s2 := se.trans sl
    subst hB
    refine tseq_open fun B hB => ?_
    refine (show tFor _ _ _ _ _ _ from ?_)
    refine (show iList _ _ _ _ _ from ?_)
    refine split_it (fun J H3 => ∃ lw, J = Itl K lw ∧ H2 lw = none ∧ Same H2 H3 ∧ H3 lw = some (.lst (ws.map V.str))) (fun G hG => ?_) ?_
    · and_intros
      refine ⟨rfl, by decide +kernel, big9 (by omega), fun lw hlw => ?_⟩
      rw [hws]
      exact ⟨⟨_, SqL.of upd_same⟩, hG _ _ ⟨lw, rfl, hlw, Same.put hlw, upd_same⟩⟩
    rintro _ H3 ⟨lw, rfl, nlw, s3, hlw⟩
    have s03 := s2.trans s3
    have lwl : lw ≠ l0 := fun e => by rw [e, fl0] at nlw; cases nlw
    refine for_list (xs := ws.map V.str) (fun i σ H' => Same H H' ∧ H' lw = some (.lst (ws.map V.str)) ∧ ∃ (A : List V) (b : Addr) (rA : List (List Str)) (m : List Str), putW [[]] (ws.take i) = rA ++ [m] ∧ H' l0 = some (.lst (A ++ [.ref b])) ∧ RowsAt .lst H' A (rA.map fun l => l.map V.str) ∧ H' b = some (.lst (m.map V.str)) ∧ NotIn b A ∧ (∀ c, V.ref c ∈ A ++ [.ref b] → H c = none ∧ c ≠ l0 ∧ c ≠ lw) ∧ rA.length ≤ i ∧ m.length ≤ i ∧ ∃ o2 : Option V, StIs σ [some (.str z), some (.ref l0), o2]) ⟨s03, hlw, [], e0, [], [], rfl, s3 _ _ fl0, trivial, s3 _ _ fe2, fun c z => (nomatch z), fun c z => ?_, Nat.le_refl _, Nat.le_refl _, none, StIs.rfl⟩ (fun i σ H' _ ⟨_, e, _⟩ => SqL.of e) ?_ ?_
    · cases List.mem_singleton.mp z
      exact ⟨he0, nel, fun e => by rw [← e, fe2] at nlw; cases nlw⟩
    · rintro i x σ H' hx ⟨s4, hw4, A, b, rA, m, ep, h4, hr, hb, nb, nw4, l1, l2, o2, rfl⟩
      obtain ⟨w, hwi, rfl⟩ : ∃ w, ws[i]? = some w ∧ V.str w = x := by
        rw [List.getElem?_map] at hx
        exact Option.map_eq_some_iff.mp hx
      have hi := (List.getElem?_eq_some_iff.mp hwi).1
      have po := put_one hwi ep
      have lr := hr.length
      rw [List.length_map] at lr
      and_intros
      refine ite2 (fun e => ?_) fun n1 => ite2 (fun n2 => ?_) fun n2 => ?_
      · subst e
        rw [if_pos rfl] at po
        refine ⟨.inl ⟨rfl, _, SqL.of h4⟩, by decide, fun e1 he1 => ?_⟩
        have s5 := Same.put (o := .lst []) he1
        have f5 : (upd H' e1 (.lst [])) e1 = some (.lst []) := upd_same
        have he1H := Same.none s4 he1
        have e1l : l0 ≠ e1 := ne_of_none h4 he1
        have e1w : lw ≠ e1 := ne_of_none hw4 he1
        have inA : ∀ c, V.ref c ∈ A ++ [.ref b] → c ≠ e1 := fun c hc => by
          rcases List.mem_append.mp hc with hc | hc
          · obtain ⟨n, _, t, e, ht⟩ := hr.mem hc
            cases e
            exact ne_of_none ht he1
          · cases List.mem_singleton.mp hc
            exact ne_of_none hb he1
        generalize (upd H' e1 (.lst [])) = H5 at s5 f5 ⊢
        refine ⟨_, s5 _ _ h4, big9000 (by rw [List.length_append, List.length_singleton]; omega), same_ne (s4.trans s5) hl0H, by rw [upd_ne lwl]; exact s5 _ _ hw4, A ++ [.ref b], e1, rA ++ [m], [], po, upd_same, ?_, by rw [upd_ne (Ne.symm e1l)]; exact f5, fun c hc => inA c hc, fun c hc => ?_, by rw [List.length_append]; exact Nat.succ_le_succ l1, Nat.zero_le _, _, StIs.rfl⟩
        · have hb2 : RowsAt .lst H5 [.ref b] [m.map V.str] := ⟨⟨b, rfl, s5 _ _ hb⟩, trivial⟩
          rw [List.map_append]
          exact ((hr.same s5).append hb2).updl fun c hc => (nw4 c hc).2.1
        · rcases List.mem_append.mp hc with hc | hc
          · exact nw4 c hc
          · cases List.mem_singleton.mp hc
            exact ⟨he1H, Ne.symm e1l, Ne.symm e1w⟩
      · rw [if_neg n1, if_neg n2] at po
        obtain ⟨hbH, hbl, hbw⟩ := nw4 b (List.mem_append_right _ List.mem_cons_self)
        have am : atI (A ++ [V.ref b]) (-1) = some (.ref b) := by
          have ixm : ixN (A ++ [V.ref b]).length (-1) = some A.length := by
            rw [List.length_append, List.length_singleton]
            unfold ixN
            rw [if_neg (by decide), if_pos (by omega), show (-1 + ((A.length + 1 : Nat) : Int)).toNat = A.length by omega]
          unfold atI
          rw [ixm]
          show (A ++ [V.ref b])[A.length]? = _
          rw [List.getElem?_append_right (Nat.le_refl _), Nat.sub_self]
          rfl
        exact ⟨_, SqL.of h4, _, am, .inl ⟨rfl, _, SqL.of hb⟩, b, rfl, _, hb, big9000 (by rw [List.length_map]; omega), same_ne s4 hbH, by rw [upd_ne (Ne.symm hbw)]; exact hw4, A, b, rA, m ++ [w], po, by rw [upd_ne (Ne.symm hbl)]; exact h4, hr.updl nb, by rw [upd_same, List.map_append]; rfl, nb, nw4, by omega, by rw [List.length_append, List.length_singleton]; omega, _, StIs.rfl⟩
      · rw [if_neg n1, if_pos (Classical.byContradiction n2)] at po
        exact ⟨s4, hw4, A, b, rA, m, po, h4, hr, hb, nb, nw4, by omega, by omega, _, StIs.rfl⟩
    · rintro σ H' ⟨s4, hw4, A, b, rA, m, ep, h4, hr, hb, nb, nw4, l1, l2, o2, rfl⟩
      rw [List.length_map, List.take_length, ← pa0] at ep
      dsimp only
      subst hB
      and_intros
      refine k l0 (A ++ [.ref b]) H' s4 h4 ?_
      have hb2 : RowsAt .lst H' [.ref b] [m.map V.str] := ⟨⟨b, rfl, hb⟩, trivial⟩
      rw [ep, List.map_append]
      exact hr.append hb2
theorem ok_marks_in {f : Addr} {fd : FuncData} (D : Def K mg "marks_in" s_marks_in ["text"] f fd) (T : Txt K mg ad) : FnOk P w K mg base CX0 1 f fd ["text"] sp_marks_in := by
  refine D.F.ok sc_marks_in (fun vs H Q E h => ?_) (fun cdv A outer s H vs Q E hr h => ?_)
  · obtain ⟨z, rfl, _⟩ := h
    rfl
  · obtain ⟨z, rfl, hz, k⟩ := h
    refine ⟨_, (@pss_one _ _ _ (ps_ret (pe_ifExp (pt_truth (pv 0) (fun _ => rfl)) (pe_bm PySem.F.plainAttrs_str PySem.F.slot_str_split PySem.F.type_str_split mt_split (pv 0) (pa_cons pe_str pa_nil)) (pe_lst pa_nil)))), ?_⟩
    and_intros
    by_cases h0 : z.length = 0
    · refine ⟨false, ⟨big9 (by omega), by rw [h0]; rfl⟩, ?_⟩
      rw [if_neg (by decide)]
      refine ⟨by decide, fun a ha => k a _ (Same.put ha) ?_⟩
      rw [upd_same, show marksZ z = [] from if_pos h0]
      rfl
    · refine ⟨true, ⟨big9 (by omega), (bne_iff_ne.mpr (by omega)).symm⟩, ?_⟩
      rw [if_pos rfl]
      refine ⟨rfl, by decide +kernel, big9 (by omega), fun a ha => k a _ (Same.put ha) ?_⟩
      rw [upd_same, show marksZ z = Txt.split z " " from if_neg h0]
theorem ok_made_of {f : Addr} {fd : FuncData} (D : Def K mg "made_of" s_made_of ["kind", "inside"] f fd) (T : Txt K mg ad) {f_Row_init : Addr} {fd_Row_init : FuncData} (G_Row_init : FnOk P w K mg base (CX1 P w) 3 f_Row_init fd_Row_init ["self", "marks"] (sp_Row_init ad)) {f_marks_in : Addr} {fd_marks_in : FuncData} (G_marks_in : FnOk P w K mg base CX0 1 f_marks_in fd_marks_in ["text"] sp_marks_in) {f_Forest_init : Addr} {fd_Forest_init : FuncData} (G_Forest_init : FnOk P w K mg base (CX1 P w) 4 f_Forest_init fd_Forest_init ["self", "nodes"] (sp_Forest_init ad)) {f_nodes_in : Addr} {fd_nodes_in : FuncData} (G_nodes_in : FnOk P w K mg base CX0 1 f_nodes_in fd_nodes_in ["text"] sp_nodes_in) {f_Table_init : Addr} {fd_Table_init : FuncData} (G_Table_init : FnOk P w K mg base (CX1 P w) 4 f_Table_init fd_Table_init ["self", "lines"] (sp_Table_init ad)) {f_lines_in : Addr} {fd_lines_in : FuncData} (G_lines_in : FnOk P w K mg base CX0 1 f_lines_in fd_lines_in ["text"] sp_lines_in) (D_marks_in : Def K mg "marks_in" s_marks_in ["text"] f_marks_in fd_marks_in) (D_nodes_in : Def K mg "nodes_in" s_nodes_in ["text"] f_nodes_in fd_nodes_in) (D_lines_in : Def K mg "lines_in" s_lines_in ["text"] f_lines_in fd_lines_in) (B_Row_init : Binds K fd_Row_init ["self", "marks"] []) (B_Forest_init : Binds K fd_Forest_init ["self", "nodes"] []) (B_Table_init : Binds K fd_Table_init ["self", "lines"] []) (M_Row : Mk K ad.Row f_Row_init) (M_Forest : Mk K ad.Forest f_Forest_init) (M_Table : Mk K ad.Table f_Table_init) : FnOk P w K mg base (CX1 P w) 6 f fd ["kind", "inside"] (sp_made_of ad) := by
  refine D.F.okX sc_made_of (fun vs H Q E h => ?_) (fun cdv A outer s H vs Q E hr h => ?_)
  · obtain ⟨kd, z, rfl, _⟩ := h
    rfl
  · obtain ⟨kd, z, rfl, hz, k1, k2⟩ := h
    refine ⟨_, (@pss_cons _ _ _ _ _ (ps_if (pt_cmpR op_eq (pv 0) pe_str (nomark _))
      (@pss_one _ _ _ (ps_ret (pe_make M_Row G_Row_init (hr.mono (by decide)) rfl T.c_Row B_Row_init .nil pass1 (pa_cons (pe_call G_marks_in (hr.mono (by decide)) rfl D_marks_in.mg D_marks_in.F.kp D_marks_in.b .nil pass0 (pa_cons (pv 1) pa_nil)) pa_nil))))
      pss_nil)
      (@pss_cons _ _ _ _ _ (ps_if (pt_cmpR op_eq (pv 0) pe_str (nomark _))
      (@pss_one _ _ _ (ps_ret (pe_make M_Forest G_Forest_init (hr.mono (by decide)) rfl T.c_Forest B_Forest_init .nil pass1 (pa_cons (pe_call G_nodes_in (hr.mono (by decide)) rfl D_nodes_in.mg D_nodes_in.F.kp D_nodes_in.b .nil pass0 (pa_cons (pv 1) pa_nil)) pa_nil))))
      pss_nil)
      (@pss_cons _ _ _ _ _ (ps_if (pt_cmpR op_eq (pv 0) pe_str (nomark _))
      (@pss_one _ _ _ (ps_ret (pe_make M_Table G_Table_init (hr.mono (by decide)) rfl T.c_Table B_Table_init .nil pass1 (pa_cons (pe_call G_lines_in (hr.mono (by decide)) rfl D_lines_in.mg D_lines_in.F.kp D_lines_in.b .nil pass0 (pa_cons (pv 1) pa_nil)) pa_nil))))
      pss_nil)
      (@pss_one _ _ _ (ps_raise T.e_NoText rfl raises1 rfl (pa_cons pe_str pa_nil)))))), ?_⟩
    refine tseq_open fun B hB => ?_
    and_intros
    refine ite2 (fun e => ?_) fun n1 => ?_
    · subst e
      refine ⟨z, rfl, hz, fun l H3 s3 f3 x dx hx hdx hne => ?_⟩
      have s67 : Same H3 (upd (upd H3 dx (.own x)) x (.ins ad.Row dx [])) := (Same.put hdx).upd (by rw [upd_ne (Ne.symm hne)]; exact hx)
      have ec : cand (Str.ofString "row") z = some (.row ((marksZ z).map V.str)) := if_pos rfl
      have th : ∀ y ∈ (marksZ z).map V.str, Thg (upd (upd H3 dx (.own x)) x (.ins ad.Row dx [])) y := fun y hy => by
        obtain ⟨w, hw, rfl⟩ := List.mem_map.mp hy
        refine .str w ?_
        unfold marksZ at hw
        split at hw
        · exact nomatch hw
        · have := word_split hw
          omega
      refine ⟨x, dx, .ref l, rfl, upd_same, thg2_lst (s67 _ _ f3) th, fun a' xs' e h h40 hmk H8 hrow sb => ⟨rfl, ?_⟩, fun hb H8 sb => ?_⟩
      · cases e
        rw [s67 _ _ f3] at h
        cases h
        exact k1 _ ec ⟨hmk, h40⟩ x H8 (s3.trans fun b o e => sb b o (ne_of_none e hx) (s67 b o e)) hrow
      · refine (k2 (fun d e o => ?_) H8 (s3.trans fun b o e => sb b o (ne_of_none e hx) (s67 b o e))).1
        rw [ec] at e
        cases e
        exact hb ⟨l, _, rfl, s67 _ _ f3, o.2, o.1⟩
    subst hB
    refine tseq_open fun B hB => ?_
    and_intros
    refine ite2 (fun e => ?_) fun n2 => ?_
    · subst e
      refine ⟨z, rfl, hz, fun l3 xs H3 s3 hl3 hn3 x dx hx hdx hne => ?_⟩
      have hlen := hn3.length
      have ec : cand (Str.ofString "forest") z = some (.forest (nodesZ z)) := (if_neg n1).trans (if_pos rfl)
      have s67 : Same H3 (upd (upd H3 dx (.own x)) x (.ins ad.Forest dx [])) := (Same.put hdx).upd (by rw [upd_ne (Ne.symm hne)]; exact hx)
      have hn7 := hn3.same s67
      have n8 : ∀ n ∈ nodesZ z, n.1.length ≤ 1000 := fun n h => by have := nodes_words n h; omega
      refine ⟨x, dx, .ref l3, rfl, upd_same, thg4_lst (s67 _ _ hl3) (hn7.thg3 n8), fun a' xs' ns' e h h40 hm' hd' H8 hfor sb => ⟨rfl, ?_⟩, fun hb H8 sb => ?_⟩
      · cases e
        rw [s67 _ _ hl3] at h
        cases h
        have := hm'.uniq hn7
        subst this
        exact k1 _ ec ⟨hd', by omega⟩ x H8 (s3.trans fun b o e => sb b o (ne_of_none e hx) (s67 b o e)) ⟨hfor, hd', by omega⟩
      · refine (k2 (fun d e o => ?_) H8 (s3.trans fun b o e => sb b o (ne_of_none e hx) (s67 b o e))).1
        rw [ec] at e
        cases e
        exact hb ⟨l3, _, _, rfl, s67 _ _ hl3, by rw [hlen]; exact o.2, hn7, o.1⟩
    subst hB
    refine tseq_open fun B hB => ?_
    and_intros
    refine ite2 (fun e => ?_) fun n3 => ?_
    · subst e
      refine ⟨z, rfl, hz, fun l3 xs H3 s3 hl3 hr3 x dx hx hdx hne => ?_⟩
      have hlen := hr3.length
      have ec : cand (Str.ofString "table") z = some (.table ((linesZ z).map fun l => l.map V.str) (wideT ((linesZ z).map fun l => l.map V.str))) := (if_neg n1).trans ((if_neg n2).trans (if_pos rfl))
      have s67 : Same H3 (upd (upd H3 dx (.own x)) x (.ins ad.Table dx [])) := (Same.put hdx).upd (by rw [upd_ne (Ne.symm hne)]; exact hx)
      have hr7 := hr3.same s67
      refine ⟨x, dx, .ref l3, rfl, upd_same, ⟨.lst (s67 _ _ hl3), fun a' xs' e h y hy => ?_⟩, fun a' xs' ls' e h h12 hm' htb H8 htab sb => ⟨rfl, ?_⟩, fun hb H8 sb => ?_⟩
      · cases e
        rw [s67 _ _ hl3] at h
        cases h
        obtain ⟨l, hl, t, rfl, ht⟩ := hr7.mem hy
        refine thg2_lst ht fun y hy => ?_
        obtain ⟨l', hl', rfl⟩ := List.mem_map.mp hl
        obtain ⟨w, hw, rfl⟩ := List.mem_map.mp hy
        have := lines_words l' hl' w hw
        exact .str w (by omega)
      · cases e
        rw [s67 _ _ hl3] at h
        cases h
        have := hm'.uniq hr7
        subst this
        refine k1 _ ec ?_ x H8 (s3.trans fun b o e => sb b o (ne_of_none e hx) (s67 b o e)) htab
        have w12 := wideT_le htb
        obtain ⟨w, hw, ha⟩ := htb
        refine ⟨w12, by omega, fun l hl => ⟨?_, (ha l hl).2⟩⟩
        have e0 : wideT ((linesZ z).map fun l => l.map V.str) = w := by
          cases e : (linesZ z).map fun l => l.map V.str with
          | nil => rw [e] at hl; exact nomatch hl
          | cons y r => exact (ha y (by rw [e]; exact List.mem_cons_self)).1
        rw [e0]
        exact (ha l hl).1
      · refine (k2 (fun d e o => ?_) H8 (s3.trans fun b o e => sb b o (ne_of_none e hx) (s67 b o e))).1
        rw [ec] at e
        cases e
        exact hb ⟨l3, _, _, rfl, s67 _ _ hl3, by rw [hlen]; exact o.2.1, hr7, _, o.1, o.2.2⟩
    subst hB
    and_intros
    refine ⟨by decide, (k2 (fun d e => ?_) H (Same.refl _)).2⟩
    have : cand kd z = none := (if_neg n1).trans ((if_neg n2).trans (if_neg n3))
    rw [this] at e
    cases e
theorem ok_read_thing {f : Addr} {fd : FuncData} (D : Def K mg "read_thing" s_read_thing ["text"] f fd) (T : Txt K mg ad) {f_made_of : Addr} {fd_made_of : FuncData} (G_made_of : FnOk P w K mg base (CX1 P w) 6 f_made_of fd_made_of ["kind", "inside"] (sp_made_of ad)) {f_show_thing : Addr} {fd_show_thing : FuncData} (G_show_thing : FnOk P w K mg base CX0 3 f_show_thing fd_show_thing ["thing"] (sp_show_thing ad)) (D_made_of : Def K mg "made_of" s_made_of ["kind", "inside"] f_made_of fd_made_of) (D_show_thing : Def K mg "show_thing" s_show_thing ["thing"] f_show_thing fd_show_thing) : FnOk P w K mg base (CX3 P w) 7 f fd ["text"] (sp_read_thing K ad) := by
  refine D.F.okX sc_read_thing (fun vs H Q E h => ?_) (fun cdv A outer s H vs Q E hr h => ?_)
  · obtain ⟨v, rfl, _⟩ := h
    rfl
  · obtain ⟨v, rfl, h⟩ := h
    refine ⟨_, (@pss_cons _ _ _ _ _ (ps_if (pt_not (pt_val (pe_callB call_isiT rfl T.isinstance PyProof.Rows.boot_isinstance (pa_cons (pv 0) (pa_cons (pe_ty rfl T.str PyProof.Rows.boot_str) pa_nil)))))
      (@pss_one _ _ _ (ps_raise T.e_NoText rfl raises1 rfl (pa_cons pe_str pa_nil)))
      pss_nil)
      (@pss_cons _ _ _ _ _ (ps_set (i := 1) sc_read_thing.nd rfl (Or.inl rfl) (pe_bm PySem.F.plainAttrs_str PySem.F.slot_str_partition PySem.F.type_str_partition mt_partition (pv 0) (pa_cons pe_str pa_nil)))
      (@pss_cons _ _ _ _ _ (ps_tryR rfl sc_read_thing.nd (i := 2) rfl (Or.inl rfl) rfl T.c_NoThing (pex_call G_made_of (hr.mono (by decide)) rfl D_made_of.mg D_made_of.F.kp D_made_of.b .nil (pa_cons (pe_ix ix_tup (pv 1) pe_int (fun _ _ => rfl)) (pa_cons (pe_ix ix_tup (pv 1) pe_int (fun _ _ => rfl)) pa_nil))) T.e_NoText rfl (fun ea => (pa_cons pe_str pa_nil)))
      (@pss_cons _ _ _ _ _ (ps_if (pt_cmpR op_ne (pe_call G_show_thing (hr.mono (by decide)) rfl D_show_thing.mg D_show_thing.F.kp D_show_thing.b .nil pass0 (pa_cons (pv 2) pa_nil)) (pv 0) (nomark _))
      (@pss_one _ _ _ (ps_raise T.e_NoText rfl raises1 rfl (pa_cons pe_str pa_nil)))
      pss_nil)
      (@pss_one _ _ _ (ps_ret (pv 2))))))), ?_⟩
    refine tseq_open fun B hB => ?_
    have go : ∀ z : Str, v = .str z → z.length ≤ 1000 → ((∃ d, textD d = z ∧ DOk d ∧ ∀ p H', Same H H' → ThObj ad H' p (normD d) → Q (.ref p) H') ∨ (Ref z ∧ ∀ H', Same H H' → E (.ref ad.NoText) none H')) → B { nx := fun x H' => Q V.non H', rt := Q } [some v, none, none] H := fun z ev hz hg => by
      subst ev
      have ps := StrLaws.partition_sum z (Str.ofString " ")
      have pl := congrArg Str.length ps
      rw [Str.length_append, Str.length_append] at pl
      subst hB
      refine tseq_open fun B hB => ?_
      and_intros
      refine ⟨rfl, by decide +kernel, big9 (by omega), fun l hl => ?_⟩
      generalize hp1 : (Txt.partition z (Str.ofString " ")).1 = p1 at *
      generalize (Txt.partition z (Str.ofString " ")).2.1 = p2 at *
      generalize hp3 : (Txt.partition z (Str.ofString " ")).2.2 = p3 at *
      have sl := Same.put (o := .tup [.str p1, .str p2, .str p3]) hl
      have fl0 : (upd H l (.tup [.str p1, .str p2, .str p3])) l = some (.tup [.str p1, .str p2, .str p3]) := upd_same
      generalize (upd H l (.tup [.str p1, .str p2, .str p3])) = H1 at sl fl0 ⊢
      subst hB
      refine tseq_open fun B hB => ?_
      and_intros
      refine ⟨_, SqT.of fl0, _, rfl, _, SqT.of fl0, _, rfl, p1, p3, rfl, by omega, fun d ec dO p H2 s2 hT => ?_, fun hno H2 s2 => ?_⟩
      · subst hB
        refine tseq_open fun B hB => ?_
        and_intros
        refine ⟨p, d, rfl, hT, fun H3 s3 => ?_⟩
        refine ⟨rfl, ?_⟩
        rcases hg with ⟨d0, e0, o0, kq⟩ | ⟨hR, kE⟩
        · have pt := part_text (kindS d0) (insD d0) (kind_free d0)
          rw [show textK (kindS d0) (insD d0) = z from e0] at pt
          have e1 : p1 = kindS d0 := hp1.symm.trans pt.1
          have e3 : p3 = insD d0 := hp3.symm.trans pt.2
          rw [e1, e3, cand_good o0] at ec
          cases ec
          rw [norm_text, e0, if_neg (fun h => h rfl)]
          subst hB
          and_intros
          exact kq p H3 ((sl.trans s2).trans s3) (hT.same s3)
        · rw [if_pos (fun e => hR d dO (V.str.inj e))]
          exact ⟨by decide, kE H3 ((sl.trans s2).trans s3)⟩
      · rcases hg with ⟨d0, e0, o0, kq⟩ | ⟨hR, kE⟩
        · have pt := part_text (kindS d0) (insD d0) (kind_free d0)
          rw [show textK (kindS d0) (insD d0) = z from e0] at pt
          have e1 : p1 = kindS d0 := hp1.symm.trans pt.1
          have e3 : p3 = insD d0 := hp3.symm.trans pt.2
          exact absurd (norm_ok o0) (hno _ (by rw [e1, e3]; exact cand_good o0))
        · refine ⟨.inl ⟨T.exm_NoThing_NoThing, fun ea hea => ⟨by decide, upd_same, ?_⟩⟩, .inr ⟨T.exm_NoText_NoThing, kE H2 (sl.trans s2)⟩⟩
          exact kE _ ((sl.trans s2).trans (Same.put hea))
    and_intros
    rcases h with ⟨d, rfl, dO, dl, kq⟩ | ⟨⟨ty, b, ht, hb, hz⟩, kE⟩
    · refine ⟨_, .str _, true, rfl, ?_⟩
      rw [if_neg (by decide)]
      exact go _ rfl dl (.inl ⟨d, rfl, dO, kq⟩)
    · refine ⟨ty, ht H (Same.refl _), b, hb, ?_⟩
      cases b with
      | false =>
        rw [if_pos rfl]
        exact ⟨by decide, kE H (Same.refl _)⟩
      | true =>
        rw [if_neg (by decide)]
        obtain ⟨z, ev, lz, hR⟩ := hz rfl
        exact go z ev lz (.inr ⟨hR, kE⟩)
theorem ok__law_cell_at {f : Addr} {fd : FuncData} (D : Def K mg "_law_cell_at" s__law_cell_at ["_law_script", "_law_k"] f fd) (T : Txt K mg ad) : FnOk P w K mg base CX0 1 f fd ["_law_script", "_law_k"] (sp__law_cell_at K) := by
  refine D.F.ok sc__law_cell_at (fun vs H Q E h => ?_) (fun cdv A outer s H vs Q E hr h => ?_)
  · obtain ⟨a, ns, k, rfl, _⟩ := h
    rfl
  · obtain ⟨a, ns, k, rfl, hS, q⟩ := h
    refine ⟨_, (@pss_cons _ _ _ _ _ (ps_if (pt_cmpR op_lt (pv 1) (pe_callB call_lenL rfl T.len PySem.boot_len (pa_cons (pv 0) pa_nil)) (nomark _))
      (@pss_one _ _ _ (ps_ret (pe_ix ix_list (pv 0) (pv 1) (fun _ _ => rfl))))
      pss_nil)
      (@pss_one _ _ _ (ps_ret pe_int))), ?_⟩
    and_intros
    refine ⟨_, hS, ite2 (fun h1 => ?_) (fun h1 => ?_)⟩
    · have h1 : k < ns.length := by rw [List.length_map] at h1; omega
      have e : cellF ns k = ns[k] := by unfold cellF; rw [List.getD_eq_getElem?_getD, List.getElem?_eq_getElem h1]; rfl
      rw [e] at q
      exact ⟨_, hS, _, atI_nat (by rw [List.getElem?_map, List.getElem?_eq_getElem h1]; rfl), q⟩
    · have h1 : ns.length ≤ k := by rw [List.length_map] at h1; omega
      have e : cellF ns k = 0 := by unfold cellF; rw [List.getD_eq_getElem?_getD, List.getElem?_eq_none h1]; rfl
      rw [e] at q
      exact q
theorem ok__law_how_many {f : Addr} {fd : FuncData} (D : Def K mg "_law_how_many" s__law_how_many ["_law_number"] f fd) (T : Txt K mg ad) : FnOk P w K mg base CX0 1 f fd ["_law_number"] sp__law_how_many := by
  refine D.F.ok sc__law_how_many (fun vs H Q E h => ?_) (fun cdv A outer s H vs Q E hr h => ?_)
  · obtain ⟨n, rfl, _⟩ := h
    rfl
  · obtain ⟨n, rfl, q⟩ := h
    refine ⟨_, (@pss_cons _ _ _ _ _ (ps_if (pt_cmpR op_eq (pe_op op_mod (pe_op op_fdiv (pv 0) pe_int) pe_int) pe_int (nomark _))
      (@pss_one _ _ _ (ps_ret (pe_op op_add pe_int (pe_op op_mod (pe_op op_fdiv (pv 0) pe_int) pe_int))))
      pss_nil)
      (@pss_one _ _ _ (ps_ret (pe_op op_add pe_int (pe_op op_mod (pv 0) pe_int))))), ?_⟩
    and_intros
    refine ite2 (fun _ => q _ ?_ ?_) (fun _ => q _ ?_ ?_) <;> omega
theorem ok__law_marks {f : Addr} {fd : FuncData} (D : Def K mg "_law_marks" s__law_marks ["_law_cell", "_law_many"] f fd) (T : Txt K mg ad) : FnOk P w K mg base CX0 1 f fd ["_law_cell", "_law_many"] sp__law_marks := by
  refine D.F.ok sc__law_marks (fun vs H Q E h => ?_) (fun cdv A outer s H vs Q E hr h => ?_)
  · obtain ⟨c, n, rfl, _⟩ := h
    rfl
  · obtain ⟨c, n, rfl, h0, h1, k⟩ := h
    have fin : ∀ b < 8, ∀ a ≤ b, (Txt.slice (Txt.slice ("marksof" : Str) none (some ((b : Nat) : Int))) none (some ((a : Nat) : Int))).length + (Txt.slice (Txt.slice ("marksof" : Str) none (some ((b : Nat) : Int))) (some ((a : Nat) : Int)) none).length = b ∧
        (Txt.slice (Txt.slice ("marksof" : Str) none (some ((b : Nat) : Int))) none (some ((a : Nat) : Int))).cps.toList.all (fun x => decide (x ∈ LET.cps.toList)) = true ∧ (Txt.slice (Txt.slice ("marksof" : Str) none (some ((b : Nat) : Int))) (some ((a : Nat) : Int)) none).cps.toList.all (fun x => decide (x ∈ LET.cps.toList)) = true ∧
        (Txt.slice ("marksof" : Str) none (some ((b : Nat) : Int))).length = b := by decide +kernel
    obtain ⟨b, hb⟩ := Int.eq_ofNat_of_zero_le (Int.emod_nonneg c (show (8 : Int) ≠ 0 by decide))
    have hb8 : b < 8 := by have := Int.emod_lt_of_pos c (show (0 : Int) < 8 by decide); omega
    refine ⟨_, (@pss_cons _ _ _ _ _ (ps_set (i := 2) sc__law_marks.nd rfl (Or.inr rfl) pe_str)
      (@pss_cons _ _ _ _ _ (ps_set (i := 3) sc__law_marks.nd rfl (Or.inr rfl) (pe_slice sl_str pe_str po_none (po_some (pe_op op_mod (pv 0) pe_int))))
      (@pss_cons _ _ _ _ _ (ps_set (i := 4) sc__law_marks.nd rfl (Or.inr rfl) (pe_op op_mod (pe_op op_fdiv (pv 0) pe_int) (pe_op op_add (pe_callB call_len_str rfl T.len PySem.boot_len (pa_cons (pv 3) pa_nil)) pe_int)))
      (@pss_cons _ _ _ _ _ (ps_set (i := 5) sc__law_marks.nd rfl (Or.inr rfl) (pe_op op_mod (pe_op op_fdiv (pv 0) pe_int) pe_int))
      (@pss_cons _ _ _ _ _ (ps_set (i := 6) sc__law_marks.nd rfl (Or.inr rfl) (pe_op op_add pe_int (pe_op op_mod (pe_op op_fdiv (pv 0) pe_int) pe_int)))
      (@pss_cons _ _ _ _ _ (ps_if (pt_cmpR op_gt (pv 1) pe_int (nomark _))
      (@pss_one _ _ _ (ps_set (i := 6) sc__law_marks.nd rfl (Or.inr rfl) pe_int))
      pss_nil)
      (@pss_one _ _ _ (ps_ret (pe_comp (own := ["_law_k"]) (cap := ["_law_base", "_law_letters", "_law_at", "_law_first", "_law_step"]) (ix := [3, 2, 4, 5, 6]) rfl (show CompScope ["_law_cell", "_law_many", "_law_letters", "_law_base", "_law_at", "_law_first", "_law_step"] (defScope s__law_marks) _ ["_law_k"] ["_law_base", "_law_letters", "_law_at", "_law_first", "_law_step"] [3, 2, 4, 5, 6] from ⟨rfl, by decide +kernel, by decide +kernel, by decide +kernel, by decide +kernel, by decide +kernel, by decide +kernel, rfl, by decide +kernel⟩) (pi_range1 rfl T.range (pa_cons (pv 1) pa_nil)) (fun C s₀ H₀ ex pn => ⟨pg_name (i := 0) (show (["_law_k", "_law_base", "_law_letters", "_law_at", "_law_first", "_law_step"] : List Str).Nodup by decide +kernel) rfl (Or.inl rfl), pifs_nil, (pe_op op_add_str (pe_op op_add_str (pe_slice sl_str (pv 1) po_none (po_some (pv 3))) (pe_ix ix_str (pv 2) (pe_op op_mod (pe_op op_add (pv 4) (pe_op op_mul (pv 0) (pv 5))) pe_int) (fun _ _ => rfl))) (pe_slice sl_str (pv 1) (po_some (pv 3)) po_none))⟩)))))))))), ?_⟩
    and_intros
    rw [hb]
    generalize hB : Txt.slice ("marksof" : Str) none (some ((b : Nat) : Int)) = B
    have lB : B.length = b := by rw [← hB]; exact (fin b hb8 0 (Nat.zero_le _)).2.2.2
    have finB := fin b hb8
    rw [hB] at finB
    obtain ⟨a, ha⟩ := Int.eq_ofNat_of_zero_le (Int.emod_nonneg (c / 8) (show (B.length : Int) + 1 ≠ 0 by omega))
    have ha8 : a ≤ b := by have := Int.emod_lt_of_pos (c / 8) (show (0 : Int) < (B.length : Int) + 1 by omega); omega
    rw [ha]
    obtain ⟨f1, f2, f3, _⟩ := finB a ha8
    have hsz : ∀ {z : Str}, z.length ≤ 1000 → z.length ≤ sizeLine := fun h => Nat.le_of_lt (small1000 h)
    have mk : ∀ x : Nat, x ∈ LET.cps.toList → markS (Txt.slice B none (some (a : Int)) ++ ⟨#[x]⟩ ++ Txt.slice B (some (a : Int)) none) = true := fun x hx => by
      refine mark_of ?_ ?_ fun y hy => letC_iff.mpr ?_
      · rw [Str.length_append, Str.length_append, one_len]; omega
      · rw [Str.length_append, Str.length_append, one_len]; omega
      · have hy' : y ∈ (Txt.slice B none (some (a : Int))).cps.toList ∨ y = x ∨ y ∈ (Txt.slice B (some (a : Int)) none).cps.toList := by
          rw [app_list, app_list, List.mem_append, List.mem_append] at hy
          rcases hy with (h | h) | h
          · exact .inl h
          · exact .inr (.inl (by simpa using h))
          · exact .inr (.inr h)
        rcases hy' with h | h | h
        · exact of_decide_eq_true (List.all_eq_true.mp f2 y h)
        · rw [h]; exact hx
        · exact of_decide_eq_true (List.all_eq_true.mp f3 y h)
    refine ⟨hsz (by decide +kernel), hsz (by omega), by omega, ite2 (fun _ => ?_) fun _ => ?_⟩
    all_goals
      refine tcomp_range (lo := 0) (n := n.toNat) (H1 := H) (fun R r => ⟨_, rfl, n, rfl, by omega, by omega, r⟩) (fun i ys H' => H' = H ∧ ∃ zs : List Str, ys = zs.map V.str ∧ zs.length = i ∧ ∀ z ∈ zs, markS z = true) ⟨rfl, [], rfl, rfl, fun _ z => nomatch z⟩ ?_ ?_
      · rintro i ys H' R hi ⟨rfl, zs, rfl, hm, hz⟩ hR
        have go := fun j : Int => at_str (z := LET) (i := j) (m := 26) (by decide) (by decide +kernel)
        simp only [tYes]
        and_intros
        refine ⟨hsz (by omega), .inl ⟨by omega, by omega⟩, hsz (by decide +kernel), ?_⟩
        obtain ⟨x, hx, ex⟩ := go _
        refine ⟨x, ex, ?_, hsz (by omega), ?_, ?_, hR _ _ ⟨rfl, zs ++ [_], by rw [List.map_append]; rfl, by rw [List.length_append, hm]; rfl, fun z hz' => ?_⟩⟩
        · rw [one_len]; exact Nat.le_of_lt (small1000 (by omega))
        · rw [Str.length_append, one_len]; exact Nat.le_of_lt (small1000 (by omega))
        · rw [List.length_map, hm]; exact small1000 (by omega)
        · rcases List.mem_append.mp hz' with h | h
          · exact hz z h
          · rw [List.mem_singleton.mp h]; exact mk x hx
      · rintro ys H' ⟨rfl, zs, rfl, hm, hz⟩
        refine ⟨?_, fun l hl => k zs l _ hm hz (Same.put hl) upd_same⟩
        rw [List.length_map, hm]
        exact Nat.le_of_lt (small1000 (by omega))
theorem ok__law_pick {f : Addr} {fd : FuncData} (D : Def K mg "_law_pick" s__law_pick ["_law_cell", "_law_marks_here"] f fd) (T : Txt K mg ad) : FnOk P w K mg base CX0 1 f fd ["_law_cell", "_law_marks_here"] sp__law_pick := by
  refine D.F.ok sc__law_pick (fun vs H Q E h => ?_) (fun cdv A outer s H vs Q E hr h => ?_)
  · obtain ⟨c, a, zs, rfl, _⟩ := h
    rfl
  · obtain ⟨c, a, zs, rfl, ha, hz, q⟩ := h
    have go : ∀ i : Int, ∃ z ∈ zs, atI (zs.map V.str) (i % (zs.map V.str).length) = some (.str z) := fun i => by
      obtain ⟨v, hv, _, e⟩ := atI_mod (xs := zs.map V.str) (i := i) (m := (zs.map V.str).length) (by rw [List.length_map]; omega) (Int.le_refl _)
      obtain ⟨z, hz, rfl⟩ := List.mem_map.mp hv
      exact ⟨z, hz, e⟩
    have hp : (0 : Int) < (zs.map V.str).length := by rw [List.length_map]; omega
    refine ⟨_, (@pss_cons _ _ _ _ _ (ps_if (pt_cmpR op_gt (pe_callB call_lenL rfl T.len PySem.boot_len (pa_cons (pv 1) pa_nil)) pe_int (nomark _))
      (@pss_one _ _ _ (ps_ret (pe_ix ix_list (pv 1) (pe_op op_mod (pe_op op_add (pe_op op_mul pe_int (pv 0)) (pe_op op_fdiv (pv 0) pe_int)) (pe_callB call_lenL rfl T.len PySem.boot_len (pa_cons (pv 1) pa_nil))) (fun _ _ => rfl))))
      pss_nil)
      (@pss_one _ _ _ (ps_ret (pe_ix ix_list (pv 1) (pe_op op_mod (pe_op op_mod (pv 0) pe_int) (pe_callB call_lenL rfl T.len PySem.boot_len (pa_cons (pv 1) pa_nil))) (fun _ _ => rfl))))), ?_⟩
    and_intros
    refine ⟨_, SqL.of ha, ite2 (fun _ => ?_) fun _ => ?_⟩
    · obtain ⟨z, hm, e⟩ := go (5 * c + c / 7)
      exact ⟨.inl ⟨by decide, by decide⟩, _, SqL.of ha, hp, _, SqL.of ha, _, e, q z hm⟩
    · obtain ⟨z, hm, e⟩ := go (c % 7)
      exact ⟨_, SqL.of ha, hp, _, SqL.of ha, _, e, q z hm⟩
theorem ok__law_nodes {f : Addr} {fd : FuncData} (D : Def K mg "_law_nodes" s__law_nodes ["_law_cells", "_law_marks_here"] f fd) (T : Txt K mg ad) {f__law_pick : Addr} {fd__law_pick : FuncData} (G__law_pick : FnOk P w K mg base CX0 1 f__law_pick fd__law_pick ["_law_cell", "_law_marks_here"] sp__law_pick) (D__law_pick : Def K mg "_law_pick" s__law_pick ["_law_cell", "_law_marks_here"] f__law_pick fd__law_pick) : FnOk P w K mg base CX0 2 f fd ["_law_cells", "_law_marks_here"] sp__law_nodes := by
  refine D.F.ok sc__law_nodes (fun vs H Q E h => ?_) (fun cdv A outer s H vs Q E hr h => ?_)
  · obtain ⟨c, m, ms, zs, rfl, _⟩ := h
    rfl
  · obtain ⟨c, m, ms, zs, rfl, hc, hm, hl, hz0, hz, k⟩ := h
    refine ⟨_, (@pss_cons _ _ _ _ _ (ps_set (i := 2) sc__law_nodes.nd rfl (Or.inl rfl) (pe_lst pa_nil))
      (@pss_cons _ _ _ _ _ (ps_set (i := 3) sc__law_nodes.nd rfl (Or.inl rfl) pe_int)
      (@pss_cons _ _ _ _ _ (ps_set (i := 4) sc__law_nodes.nd rfl (Or.inl rfl) (pe_and (pe_cmpR op_gt (pe_callB call_lenL rfl T.len PySem.boot_len (pa_cons (pv 0) pa_nil)) pe_int (nomark _)) (pe_one (pe_cmpR op_eq (pe_op op_mod (pe_ix ix_list (pv 0) pe_int (fun _ _ => rfl)) pe_int) pe_int (nomark _)))))
      (@pss_cons _ _ _ _ _ (ps_for PassesOwn.never rfl (pi_list (pv 0)) (pg_name (i := 5) sc__law_nodes.nd rfl (Or.inl rfl))
      (@pss_cons _ _ _ _ _ (ps_set (i := 6) sc__law_nodes.nd rfl (Or.inl rfl) (pe_op op_mod (pe_op op_fdiv (pv 5) pe_int) (pe_op op_add (pv 3) pe_int)))
      (@pss_cons _ _ _ _ _ (ps_if (PW.pt (pw_or (pt_val (pv 4)) (pw_or1 (pt_cmpR op_eq (pe_op op_mod (pe_op op_fdiv (pv 5) pe_int) pe_int) pe_int (nomark _)))))
      (@pss_one _ _ _ (ps_set (i := 6) sc__law_nodes.nd rfl (Or.inl rfl) (pv 3)))
      pss_nil)
      (@pss_cons _ _ _ _ _ (ps_expr (pe_bm PySem.F.plainAttrs_list PySem.F.slot_list_append PySem.F.type_list_append mt_append (pv 2) (pa_cons (pe_tup (pa_cons (pe_call G__law_pick (hr.mono (by decide)) rfl D__law_pick.mg D__law_pick.F.kp D__law_pick.b .nil pass0 (pa_cons (pv 5) (pa_cons (pv 1) pa_nil))) (pa_cons (pv 6) pa_nil))) pa_nil)))
      (@pss_one _ _ _ (ps_set (i := 3) sc__law_nodes.nd rfl (Or.inl rfl) (pe_callB (call_min2 rfl) rfl T.min (by decide +kernel) (pa_cons (pe_op op_add (pv 6) pe_int) (pa_cons pe_int pa_nil)))))))))
      (@pss_one _ _ _ (ps_ret (pv 2))))))), ?_⟩
    and_intros
    refine ⟨by decide, fun l hl1 => ?_⟩
    have s0 := Same.put (o := .lst []) hl1
    refine ⟨_, SqL.of (s0 _ _ hc), ite2 (fun h => ?_) fun h => ?_⟩
    · obtain ⟨j0, r0, ems⟩ : ∃ j0 r0, ms = j0 :: r0 := by
        cases ms with
        | nil => exact absurd h (by decide)
        | cons j0 r0 => exact ⟨j0, r0, rfl⟩
      refine ⟨_, SqL.of (s0 _ _ hc), .int j0, atI_nat (j := 0) (by rw [ems]; rfl), j0, rfl, ?_⟩
      refine ⟨_, rfl, c, rfl, ⟨_, SqL.of (s0 _ _ hc)⟩, for_list (xs := ms.map V.int) (fun i σ H' => Same H H' ∧ ∃ (xs : List V) (ns : List Nd) (ch : Bool) (o5 o6 : Option V), H' l = some (.lst xs) ∧ NodesAt H' xs ns ∧ depthOk 0 ns ∧ ns.length = i ∧ 0 ≤ deepAfter 0 ns ∧ StIs σ [some (.ref c), some (.ref m), some (.ref l), some (.int (deepAfter 0 ns)), some (.bl ch), o5, o6]) ⟨s0, [], [], _, none, none, upd_same, trivial, trivial, rfl, Int.le_refl _, StIs.rfl⟩ ?_ ?_ ?_⟩
      · rintro i σ H' _ ⟨s1, _⟩
        exact SqL.of (s1 _ _ hc)
      · rintro i x σ H' hx ⟨s1, xs, ns, ch, o5, o6, hl2, hn, hd, hi, hd0, rfl⟩
        have hi40 : i < ms.length := by have := (List.getElem?_eq_some_iff.mp hx).1; rw [List.length_map] at this; exact this
        obtain ⟨j, _, rfl⟩ := List.mem_map.mp (List.mem_of_getElem? hx)
        generalize hD : deepAfter 0 ns = d at hd0 ⊢
        and_intros
        have m0 := Int.emod_nonneg (j / 14) (show d + 1 ≠ 0 by omega)
        have m1 := Int.emod_lt_of_pos (j / 14) (show 0 < d + 1 by omega)
        refine ⟨by omega, ite2 (fun _ => ?_) fun _ => ite2 (fun _ => ?_) fun _ => ?_⟩
        · have he0 := hd0
          have he1 := Int.le_refl d
          refine ⟨.inl ⟨rfl, _, SqL.of hl2⟩, j, m, zs, rfl, s1 _ _ hm, hz0, fun z hz1 => ⟨by decide, fun p hp => ?_⟩⟩
          have s2 := s1.upd (o := .tup [.str z, .int d]) hp
          have npl : p ≠ l := Ne.symm (ne_of_none hl2 hp)
          have l2 := (Same.put (o := .tup [.str z, .int d]) hp) l _ hl2
          have sF : Same H (upd (upd H' p (.tup [.str z, .int d])) l (.lst (xs ++ [.ref p]))) := fun b o e => by rw [upd_ne (ne_of_none e hl1)]; exact s2 b o e
          have tp : (upd (upd H' p (.tup [.str z, .int d])) l (.lst (xs ++ [.ref p]))) p = some (.tup [.str z, .int d]) := by rw [upd_ne npl]; exact upd_same
          have e1 : deepAfter 0 (ns ++ [(z, d)]) = if 12 < d + 1 then 12 else d + 1 := by
            rw [deepAfter_append]
            show min (d + 1) 12 = _
            split <;> omega
          refine ⟨xs, l2, by rw [hn.length]; exact small1000 (by omega), sF, _, upd_same, ns ++ [(z, d)], ?_, ?_, ?_, ?_, ch, some (.int j), some (.int d), ?_⟩
          · refine NodesAt.append (hn.tups fun b ys e => ?_) ⟨⟨p, rfl, tp⟩, trivial⟩
            rw [upd_ne (ne_of e hl2 (fun z => nomatch z)), upd_ne (ne_of_none e hp)]
            exact e
          · exact depthOk_append.mpr ⟨hd, hz z hz1, he0, by rw [hD]; exact he1, trivial⟩
          · rw [List.length_append, hi]; rfl
          · rw [e1]; split <;> omega
          · rw [e1]; exact StIs.rfl
        · have he0 := hd0
          have he1 := Int.le_refl d
          refine ⟨.inl ⟨rfl, _, SqL.of hl2⟩, j, m, zs, rfl, s1 _ _ hm, hz0, fun z hz1 => ⟨by decide, fun p hp => ?_⟩⟩
          have s2 := s1.upd (o := .tup [.str z, .int d]) hp
          have npl : p ≠ l := Ne.symm (ne_of_none hl2 hp)
          have l2 := (Same.put (o := .tup [.str z, .int d]) hp) l _ hl2
          have sF : Same H (upd (upd H' p (.tup [.str z, .int d])) l (.lst (xs ++ [.ref p]))) := fun b o e => by rw [upd_ne (ne_of_none e hl1)]; exact s2 b o e
          have tp : (upd (upd H' p (.tup [.str z, .int d])) l (.lst (xs ++ [.ref p]))) p = some (.tup [.str z, .int d]) := by rw [upd_ne npl]; exact upd_same
          have e1 : deepAfter 0 (ns ++ [(z, d)]) = if 12 < d + 1 then 12 else d + 1 := by
            rw [deepAfter_append]
            show min (d + 1) 12 = _
            split <;> omega
          refine ⟨xs, l2, by rw [hn.length]; exact small1000 (by omega), sF, _, upd_same, ns ++ [(z, d)], ?_, ?_, ?_, ?_, ch, some (.int j), some (.int d), ?_⟩
          · refine NodesAt.append (hn.tups fun b ys e => ?_) ⟨⟨p, rfl, tp⟩, trivial⟩
            rw [upd_ne (ne_of e hl2 (fun z => nomatch z)), upd_ne (ne_of_none e hp)]
            exact e
          · exact depthOk_append.mpr ⟨hd, hz z hz1, he0, by rw [hD]; exact he1, trivial⟩
          · rw [List.length_append, hi]; rfl
          · rw [e1]; split <;> omega
          · rw [e1]; exact StIs.rfl
        · have he0 := m0
          have he1 : j / 14 % (d + 1) ≤ d := by omega
          refine ⟨.inl ⟨rfl, _, SqL.of hl2⟩, j, m, zs, rfl, s1 _ _ hm, hz0, fun z hz1 => ⟨by decide, fun p hp => ?_⟩⟩
          have s2 := s1.upd (o := .tup [.str z, .int (j / 14 % (d + 1))]) hp
          have npl : p ≠ l := Ne.symm (ne_of_none hl2 hp)
          have l2 := (Same.put (o := .tup [.str z, .int (j / 14 % (d + 1))]) hp) l _ hl2
          have sF : Same H (upd (upd H' p (.tup [.str z, .int (j / 14 % (d + 1))])) l (.lst (xs ++ [.ref p]))) := fun b o e => by rw [upd_ne (ne_of_none e hl1)]; exact s2 b o e
          have tp : (upd (upd H' p (.tup [.str z, .int (j / 14 % (d + 1))])) l (.lst (xs ++ [.ref p]))) p = some (.tup [.str z, .int (j / 14 % (d + 1))]) := by rw [upd_ne npl]; exact upd_same
          have e1 : deepAfter 0 (ns ++ [(z, (j / 14 % (d + 1)))]) = if 12 < (j / 14 % (d + 1)) + 1 then 12 else (j / 14 % (d + 1)) + 1 := by
            rw [deepAfter_append]
            show min ((j / 14 % (d + 1)) + 1) 12 = _
            split <;> omega
          refine ⟨xs, l2, by rw [hn.length]; exact small1000 (by omega), sF, _, upd_same, ns ++ [(z, (j / 14 % (d + 1)))], ?_, ?_, ?_, ?_, ch, some (.int j), some (.int (j / 14 % (d + 1))), ?_⟩
          · refine NodesAt.append (hn.tups fun b ys e => ?_) ⟨⟨p, rfl, tp⟩, trivial⟩
            rw [upd_ne (ne_of e hl2 (fun z => nomatch z)), upd_ne (ne_of_none e hp)]
            exact e
          · exact depthOk_append.mpr ⟨hd, hz z hz1, he0, by rw [hD]; exact he1, trivial⟩
          · rw [List.length_append, hi]; rfl
          · rw [e1]; split <;> omega
          · rw [e1]; exact StIs.rfl
      · rintro σ H' ⟨s1, xs, ns, ch, o5, o6, hl2, hn, hd, hi, hd0, rfl⟩
        rw [List.length_map] at hi
        and_intros
        exact k ns xs l H' s1 hl2 hn hd hi
    · refine ⟨_, rfl, c, rfl, ⟨_, SqL.of (s0 _ _ hc)⟩, for_list (xs := ms.map V.int) (fun i σ H' => Same H H' ∧ ∃ (xs : List V) (ns : List Nd) (ch : Bool) (o5 o6 : Option V), H' l = some (.lst xs) ∧ NodesAt H' xs ns ∧ depthOk 0 ns ∧ ns.length = i ∧ 0 ≤ deepAfter 0 ns ∧ StIs σ [some (.ref c), some (.ref m), some (.ref l), some (.int (deepAfter 0 ns)), some (.bl ch), o5, o6]) ⟨s0, [], [], _, none, none, upd_same, trivial, trivial, rfl, Int.le_refl _, StIs.rfl⟩ ?_ ?_ ?_⟩
      · rintro i σ H' _ ⟨s1, _⟩
        exact SqL.of (s1 _ _ hc)
      · rintro i x σ H' hx ⟨s1, xs, ns, ch, o5, o6, hl2, hn, hd, hi, hd0, rfl⟩
        have hi40 : i < ms.length := by have := (List.getElem?_eq_some_iff.mp hx).1; rw [List.length_map] at this; exact this
        obtain ⟨j, _, rfl⟩ := List.mem_map.mp (List.mem_of_getElem? hx)
        generalize hD : deepAfter 0 ns = d at hd0 ⊢
        and_intros
        have m0 := Int.emod_nonneg (j / 14) (show d + 1 ≠ 0 by omega)
        have m1 := Int.emod_lt_of_pos (j / 14) (show 0 < d + 1 by omega)
        refine ⟨by omega, ite2 (fun _ => ?_) fun _ => ite2 (fun _ => ?_) fun _ => ?_⟩
        · have he0 := hd0
          have he1 := Int.le_refl d
          refine ⟨.inl ⟨rfl, _, SqL.of hl2⟩, j, m, zs, rfl, s1 _ _ hm, hz0, fun z hz1 => ⟨by decide, fun p hp => ?_⟩⟩
          have s2 := s1.upd (o := .tup [.str z, .int d]) hp
          have npl : p ≠ l := Ne.symm (ne_of_none hl2 hp)
          have l2 := (Same.put (o := .tup [.str z, .int d]) hp) l _ hl2
          have sF : Same H (upd (upd H' p (.tup [.str z, .int d])) l (.lst (xs ++ [.ref p]))) := fun b o e => by rw [upd_ne (ne_of_none e hl1)]; exact s2 b o e
          have tp : (upd (upd H' p (.tup [.str z, .int d])) l (.lst (xs ++ [.ref p]))) p = some (.tup [.str z, .int d]) := by rw [upd_ne npl]; exact upd_same
          have e1 : deepAfter 0 (ns ++ [(z, d)]) = if 12 < d + 1 then 12 else d + 1 := by
            rw [deepAfter_append]
            show min (d + 1) 12 = _
            split <;> omega
          refine ⟨xs, l2, by rw [hn.length]; exact small1000 (by omega), sF, _, upd_same, ns ++ [(z, d)], ?_, ?_, ?_, ?_, ch, some (.int j), some (.int d), ?_⟩
          · refine NodesAt.append (hn.tups fun b ys e => ?_) ⟨⟨p, rfl, tp⟩, trivial⟩
            rw [upd_ne (ne_of e hl2 (fun z => nomatch z)), upd_ne (ne_of_none e hp)]
            exact e
          · exact depthOk_append.mpr ⟨hd, hz z hz1, he0, by rw [hD]; exact he1, trivial⟩
          · rw [List.length_append, hi]; rfl
          · rw [e1]; split <;> omega
          · rw [e1]; exact StIs.rfl
        · have he0 := hd0
          have he1 := Int.le_refl d
          refine ⟨.inl ⟨rfl, _, SqL.of hl2⟩, j, m, zs, rfl, s1 _ _ hm, hz0, fun z hz1 => ⟨by decide, fun p hp => ?_⟩⟩
          have s2 := s1.upd (o := .tup [.str z, .int d]) hp
          have npl : p ≠ l := Ne.symm (ne_of_none hl2 hp)
          have l2 := (Same.put (o := .tup [.str z, .int d]) hp) l _ hl2
          have sF : Same H (upd (upd H' p (.tup [.str z, .int d])) l (.lst (xs ++ [.ref p]))) := fun b o e => by rw [upd_ne (ne_of_none e hl1)]; exact s2 b o e
          have tp : (upd (upd H' p (.tup [.str z, .int d])) l (.lst (xs ++ [.ref p]))) p = some (.tup [.str z, .int d]) := by rw [upd_ne npl]; exact upd_same
          have e1 : deepAfter 0 (ns ++ [(z, d)]) = if 12 < d + 1 then 12 else d + 1 := by
            rw [deepAfter_append]
            show min (d + 1) 12 = _
            split <;> omega
          refine ⟨xs, l2, by rw [hn.length]; exact small1000 (by omega), sF, _, upd_same, ns ++ [(z, d)], ?_, ?_, ?_, ?_, ch, some (.int j), some (.int d), ?_⟩
          · refine NodesAt.append (hn.tups fun b ys e => ?_) ⟨⟨p, rfl, tp⟩, trivial⟩
            rw [upd_ne (ne_of e hl2 (fun z => nomatch z)), upd_ne (ne_of_none e hp)]
            exact e
          · exact depthOk_append.mpr ⟨hd, hz z hz1, he0, by rw [hD]; exact he1, trivial⟩
          · rw [List.length_append, hi]; rfl
          · rw [e1]; split <;> omega
          · rw [e1]; exact StIs.rfl
        · have he0 := m0
          have he1 : j / 14 % (d + 1) ≤ d := by omega
          refine ⟨.inl ⟨rfl, _, SqL.of hl2⟩, j, m, zs, rfl, s1 _ _ hm, hz0, fun z hz1 => ⟨by decide, fun p hp => ?_⟩⟩
          have s2 := s1.upd (o := .tup [.str z, .int (j / 14 % (d + 1))]) hp
          have npl : p ≠ l := Ne.symm (ne_of_none hl2 hp)
          have l2 := (Same.put (o := .tup [.str z, .int (j / 14 % (d + 1))]) hp) l _ hl2
          have sF : Same H (upd (upd H' p (.tup [.str z, .int (j / 14 % (d + 1))])) l (.lst (xs ++ [.ref p]))) := fun b o e => by rw [upd_ne (ne_of_none e hl1)]; exact s2 b o e
          have tp : (upd (upd H' p (.tup [.str z, .int (j / 14 % (d + 1))])) l (.lst (xs ++ [.ref p]))) p = some (.tup [.str z, .int (j / 14 % (d + 1))]) := by rw [upd_ne npl]; exact upd_same
          have e1 : deepAfter 0 (ns ++ [(z, (j / 14 % (d + 1)))]) = if 12 < (j / 14 % (d + 1)) + 1 then 12 else (j / 14 % (d + 1)) + 1 := by
            rw [deepAfter_append]
            show min ((j / 14 % (d + 1)) + 1) 12 = _
            split <;> omega
          refine ⟨xs, l2, by rw [hn.length]; exact small1000 (by omega), sF, _, upd_same, ns ++ [(z, (j / 14 % (d + 1)))], ?_, ?_, ?_, ?_, ch, some (.int j), some (.int (j / 14 % (d + 1))), ?_⟩
          · refine NodesAt.append (hn.tups fun b ys e => ?_) ⟨⟨p, rfl, tp⟩, trivial⟩
            rw [upd_ne (ne_of e hl2 (fun z => nomatch z)), upd_ne (ne_of_none e hp)]
            exact e
          · exact depthOk_append.mpr ⟨hd, hz z hz1, he0, by rw [hD]; exact he1, trivial⟩
          · rw [List.length_append, hi]; rfl
          · rw [e1]; split <;> omega
          · rw [e1]; exact StIs.rfl
      · rintro σ H' ⟨s1, xs, ns, ch, o5, o6, hl2, hn, hd, hi, hd0, rfl⟩
        rw [List.length_map] at hi
        and_intros
        exact k ns xs l H' s1 hl2 hn hd hi
theorem ok__law_forest_text {f : Addr} {fd : FuncData} (D : Def K mg "_law_forest_text" s__law_forest_text ["_law_nodes_here"] f fd) (T : Txt K mg ad) : FnOk P w K mg base CX0 1 f fd ["_law_nodes_here"] sp__law_forest_text := by
  refine D.F.ok sc__law_forest_text (fun vs H Q E h => ?_) (fun cdv A outer s H vs Q E hr h => ?_)
  · obtain ⟨t, ys, ns, rfl, _⟩ := h
    rfl
  · obtain ⟨t, ys, ns, rfl, ht, hn, hF, h0, k⟩ := h
    refine ⟨_, (@pss_cons _ _ _ _ _ (ps_set (i := 1) sc__law_forest_text.nd rfl (Or.inl rfl) pe_str)
      (@pss_cons _ _ _ _ _ (ps_for PassesOwn.never rfl (pi_range1 rfl T.range (pa_cons (pe_callB call_lenL rfl T.len PySem.boot_len (pa_cons (pv 0) pa_nil)) pa_nil)) (pg_name (i := 2) sc__law_forest_text.nd rfl (Or.inl rfl))
      (@pss_cons _ _ _ _ _ (ps_if (PW.pt (pw_and (pt_cmpR op_gt (pv 2) pe_int (nomark _)) (pw_and1 (pt_cmpR op_gt (pe_ix ix_tup (pe_ix ix_list (pv 0) (pv 2) (fun _ _ => rfl)) pe_int (fun _ _ => rfl)) (pe_ix ix_tup (pe_ix ix_list (pv 0) (pe_op op_sub (pv 2) pe_int) (fun _ _ => rfl)) pe_int (fun _ _ => rfl)) (nomark _)))))
      (@pss_one _ _ _ (ps_set (i := 1) sc__law_forest_text.nd rfl (Or.inl rfl) (pe_op op_add_str (pv 1) pe_str)))
      pss_nil)
      (@pss_cons _ _ _ _ _ (ps_if (PW.pt (pw_and (pt_cmpR op_gt (pv 2) pe_int (nomark _)) (pw_and1 (pt_cmpR op_le (pe_ix ix_tup (pe_ix ix_list (pv 0) (pv 2) (fun _ _ => rfl)) pe_int (fun _ _ => rfl)) (pe_ix ix_tup (pe_ix ix_list (pv 0) (pe_op op_sub (pv 2) pe_int) (fun _ _ => rfl)) pe_int (fun _ _ => rfl)) (nomark _)))))
      (@pss_cons _ _ _ _ _ (ps_for PassesOwn.never rfl (pi_range1 rfl T.range (pa_cons (pe_op op_sub (pe_ix ix_tup (pe_ix ix_list (pv 0) (pe_op op_sub (pv 2) pe_int) (fun _ _ => rfl)) pe_int (fun _ _ => rfl)) (pe_ix ix_tup (pe_ix ix_list (pv 0) (pv 2) (fun _ _ => rfl)) pe_int (fun _ _ => rfl))) pa_nil)) (pg_name (i := 3) sc__law_forest_text.nd rfl (Or.inl rfl))
      (@pss_one _ _ _ (ps_set (i := 1) sc__law_forest_text.nd rfl (Or.inl rfl) (pe_op op_add_str (pv 1) pe_str))))
      (@pss_one _ _ _ (ps_set (i := 1) sc__law_forest_text.nd rfl (Or.inl rfl) (pe_op op_add_str (pv 1) pe_str))))
      pss_nil)
      (@pss_one _ _ _ (ps_set (i := 1) sc__law_forest_text.nd rfl (Or.inl rfl) (pe_op op_add_str (pv 1) (pe_ix ix_tup (pe_ix ix_list (pv 0) (pv 2) (fun _ _ => rfl)) pe_int (fun _ _ => rfl))))))))
      (@pss_cons _ _ _ _ _ (ps_if (pt_cmpR op_gt (pe_callB call_lenL rfl T.len PySem.boot_len (pa_cons (pv 0) pa_nil)) pe_int (nomark _))
      (@pss_one _ _ _ (ps_for PassesOwn.never rfl (pi_range1 rfl T.range (pa_cons (pe_ix ix_tup (pe_ix ix_list (pv 0) (pe_un un_neg pe_int) (fun _ _ => rfl)) pe_int (fun _ _ => rfl)) pa_nil)) (pg_name (i := 3) sc__law_forest_text.nd rfl (Or.inl rfl))
      (@pss_one _ _ _ (ps_set (i := 1) sc__law_forest_text.nd rfl (Or.inl rfl) (pe_op op_add_str (pv 1) pe_str)))))
      pss_nil)
      (@pss_one _ _ _ (ps_ret (pv 1)))))), ?_⟩
    have il := ins_lenF hF
    obtain ⟨hl, hm0, hf⟩ := hF
    have ly := hn.length
    refine tseq_open fun B hB => ?_
    and_intros
    subst hB
    refine tseq_open fun B hB => ?_
    refine (show tFor _ _ _ _ _ _ from ?_)
    refine (show iRng1 _ _ _ _ from ?_)
    refine split_it (fun J H1 => H1 = H ∧ J = Itr 0 ns.length) (fun G hG => ?_) ?_
    · and_intros
      refine ⟨_, SqL.of ht, by omega, by omega, ?_⟩
      rw [ly, Int.toNat_natCast]
      exact hG _ _ ⟨rfl, rfl⟩
    rintro _ H1 ⟨rfl, rfl⟩
    refine for_range (n := ns.length) (fun i σ H' => H' = H1 ∧ ∃ L : List Nat, ((i = 0 ∧ L = []) ∨ ∃ (m : Str) (e : Nat), 0 < i ∧ ns[i - 1]? = some (m, (e : Int)) ∧ L ++ restF e ((ns.drop i).map toW) = insL ns) ∧ ∃ o2 o3 : Option V, StIs σ [some (.ref t), some (.str (mkS L)), o2, o3]) ⟨rfl, [], .inl ⟨rfl, rfl⟩, none, none, StIs.rfl⟩ ?_ ?_
    · rintro i σ H' hi ⟨rfl, L, hL, o2, o3, rfl⟩
      obtain ⟨n, en⟩ : ∃ n, ns[i]? = some n := ⟨_, List.getElem?_eq_getElem hi⟩
      obtain ⟨x0, hx0⟩ : ∃ x, ys[i]? = some x := ⟨_, List.getElem?_eq_getElem (by omega)⟩
      obtain ⟨n', en', tn, ex, htn⟩ := hn.get hx0
      rw [en] at en'
      cases en'
      subst ex
      have hm := List.mem_of_getElem? en
      have hda := hm0 n hm
      have h12 := hda.2.2
      have edr := drop_cons en
      obtain ⟨m, d⟩ := n
      obtain ⟨dn, edn⟩ := Int.eq_ofNat_of_zero_le (show 0 ≤ d from hda.2.1)
      subst edn
      have h12' : (dn : Int) ≤ 13 := h12
      have l8 := mark_all (show markS m = true from hda.1)
      have a0 : atI ys (i : Int) = some (.ref tn) := atI_nat hx0
      have ei : (0 : Int) + (i : Int) = (i : Int) := Int.zero_add _
      refine tseq_open fun B2 hB2 => ?_
      refine ends_gen fun D0 hD0 => ?_
      have c1 : (Str.ofString "(").length = 1 := by decide +kernel
      have c2 : (Str.ofString ")").length = 1 := by decide +kernel
      have c3 : (Str.ofString ",").length = 1 := by decide +kernel
      have lm : m.length = m.cps.toList.length := rfl
      have fin : ∀ (o3 : Option V) (L' : List Nat), L' ++ m.cps.toList ++ restF dn ((ns.drop (i + 1)).map toW) = insL ns → (tAsg (tOp (fun x y H Q => ∃ i j, x = V.str i ∧ y = V.str j ∧ i.length + j.length ≤ sizeLine ∧ Q (V.str (i ++ j)) H) (tVar 1) (tOp (rIxT K) (tOp (rIxL K) (tVar 0) (tVar 2)) (tC (V.int 0)))) (gName 1)) D0 [some (.ref t), some (.str (mkS L')), some (.int (i : Int)), o3] H' := fun o3 L' hL' => by
        have ll := congrArg List.length hL'
        rw [List.length_append, List.length_append] at ll
        have lL : (mkS L').length = L'.length := rfl
        have em : mkS L' ++ m = mkS (L' ++ m.cps.toList) := by
          conv => lhs; rw [← mkS_of m]
          rw [mkS_app]
        and_intros
        refine ⟨_, SqL.of ht, _, a0, tn, rfl, _, SqT.of htn, _, rfl, m, rfl, big9 (by omega), ?_⟩
        rw [hD0]
        dsimp only
        refine ⟨rfl, L' ++ m.cps.toList, .inr ⟨m, dn, Nat.succ_pos _, by rw [Nat.add_sub_cancel]; exact en, hL'⟩, some (.int (i : Int)), o3, ?_⟩
        rw [em]
        exact StIs.rfl
      rcases hL with ⟨rfl, rfl⟩ | ⟨m', e, hi0, em', hL⟩
      · and_intros
        rw [if_neg (by decide)]
        subst hB2
        refine tseq_open fun B3 hB3 => ?_
        and_intros
        rw [if_neg (by decide)]
        subst hB3
        have d0 : dn = 0 := by
          have e0 : ns = (m, (dn : Int)) :: ns.drop 1 := by
            have hi := (List.getElem?_eq_some_iff.mp en).1
            conv => lhs; rw [← List.drop_zero (l := ns), List.drop_eq_getElem_cons hi, (List.getElem?_eq_some_iff.mp en).2]
          have : (dn : Int) = 0 := (hf _ _ e0).1
          omega
        subst d0
        refine fin o3 [] ?_
        have e0 : ns = (m, ((0 : Nat) : Int)) :: ns.drop 1 := by
          have hi := (List.getElem?_eq_some_iff.mp en).1
          conv => lhs; rw [← List.drop_zero (l := ns), List.drop_eq_getElem_cons hi, (List.getElem?_eq_some_iff.mp en).2]
        conv => rhs; rw [e0]
        rfl
      · obtain ⟨x1, hx1⟩ : ∃ x, ys[i - 1]? = some x := ⟨_, List.getElem?_eq_getElem (by omega)⟩
        obtain ⟨n1, en1, tn1, ex1, htn1⟩ := hn.get hx1
        rw [em'] at en1
        cases en1
        subst ex1
        have a1 : atI ys ((i : Int) - 1) = some (.ref tn1) := by rw [show (i : Int) - 1 = ((i - 1 : Nat) : Int) by omega]; exact atI_nat hx1
        rw [edr] at hL
        have hL2 : L ++ sgL e dn ++ m.cps.toList ++ restF dn ((ns.drop (i + 1)).map toW) = insL ns := by
          rw [← hL, List.append_assoc, List.append_assoc]
          show _ = L ++ ((sgL e dn ++ m.cps.toList) ++ restF dn _)
          rw [List.append_assoc]
        have ll := congrArg List.length hL2
        rw [List.length_append, List.length_append, List.length_append] at ll
        have lL : (mkS L).length = L.length := rfl
        and_intros
        rw [ei, if_pos (by omega)]
        refine ⟨_, SqL.of ht, _, a0, tn, rfl, _, SqT.of htn, _, rfl, _, SqL.of ht, _, a1, tn1, rfl, _, SqT.of htn1, _, rfl, _, rfl, _, rfl, ?_⟩
        refine ite2 (fun h1 => ?_) fun h1 => ?_
        · have h1' : (e : Int) < (dn : Int) := h1
          have es : sgL e dn = [40] := if_pos (by omega)
          rw [es] at hL2 ll
          have k40 : mkS L ++ Str.ofString "(" = mkS (L ++ [40]) := by rw [show Str.ofString "(" = mkS [40] by decide +kernel, mkS_app]
          refine ⟨big9 (by omega), ?_⟩
          rw [k40]
          subst hB2
          refine tseq_open fun B3 hB3 => ?_
          and_intros
          rw [if_pos (by omega)]
          refine ⟨_, SqL.of ht, _, a0, tn, rfl, _, SqT.of htn, _, rfl, _, SqL.of ht, _, a1, tn1, rfl, _, SqT.of htn1, _, rfl, _, rfl, _, rfl, ?_⟩
          rw [if_neg (by show ¬ (dn : Int) ≤ (e : Int); omega)]
          subst hB3
          exact fin o3 (L ++ [40]) hL2
        · have h1' : ¬ (e : Int) < (dn : Int) := h1
          have es : sgL e dn = closes (e - dn) ++ [44] := if_neg (by omega)
          subst hB2
          refine tseq_open fun B3 hB3 => ?_
          and_intros
          rw [if_pos (by omega)]
          refine ⟨_, SqL.of ht, _, a0, tn, rfl, _, SqT.of htn, _, rfl, _, SqL.of ht, _, a1, tn1, rfl, _, SqT.of htn1, _, rfl, _, rfl, _, rfl, ?_⟩
          rw [if_pos (by show (dn : Int) ≤ (e : Int); omega)]
          have lc := congrArg List.length es
          rw [List.length_append, show (closes (e - dn)).length = e - dn from List.length_replicate] at lc
          have l44 : ([44] : List Nat).length = 1 := rfl
          refine (show iRng1 _ _ _ _ from ?_)
          refine split_it (fun J H2 => H2 = H' ∧ J = Itr 0 (e - dn)) (fun G hG => ?_) ?_
          · and_intros
            refine ⟨_, SqL.of ht, _, a1, tn1, rfl, _, SqT.of htn1, _, rfl, _, SqL.of ht, _, a0, tn, rfl, _, SqT.of htn, _, rfl, _, rfl, _, rfl, by omega, by omega, ?_⟩
            rw [show ((e : Int) - (dn : Int)).toNat = e - dn by omega]
            exact hG _ _ ⟨rfl, rfl⟩
          rintro _ H2 ⟨rfl, rfl⟩
          refine for_range (n := e - dn) (fun j σ H3 => H3 = H2 ∧ ∃ o3 : Option V, StIs σ [some (.ref t), some (.str (mkS (L ++ closes j))), some (.int (i : Int)), o3]) ⟨rfl, o3, by rw [show closes 0 = [] from rfl, List.append_nil]; exact StIs.rfl⟩ ?_ ?_
          · rintro j σ H3 hj ⟨rfl, o3, rfl⟩
            have lj : (mkS (L ++ closes j)).length = L.length + j := by rw [mkS_len, List.length_append, show (closes j).length = j from List.length_replicate]
            have ej : mkS (L ++ closes j) ++ Str.ofString ")" = mkS (L ++ closes (j + 1)) := by
              rw [show Str.ofString ")" = mkS [41] by decide +kernel, mkS_app, List.append_assoc, show closes j ++ [41] = closes (j + 1) from (List.replicate_succ' (n := j) (a := 41)).symm]
            and_intros
            rw [ej]
            exact ⟨big9 (by omega), _, StIs.rfl⟩
          · rintro σ H3 ⟨rfl, o3, rfl⟩
            have lj : (mkS (L ++ closes (e - dn))).length = L.length + (e - dn) := by rw [mkS_len, List.length_append, show (closes (e - dn)).length = e - dn from List.length_replicate]
            have ej : mkS (L ++ closes (e - dn)) ++ Str.ofString "," = mkS (L ++ sgL e dn) := by
              rw [show Str.ofString "," = mkS [44] by decide +kernel, mkS_app, List.append_assoc, ← es]
            dsimp only
            and_intros
            rw [ej]
            subst hB3
            exact ⟨big9 (by omega), fin o3 _ hL2⟩
    · rintro σ H' ⟨rfl, L, hL, o2, o3, rfl⟩
      have hp := List.length_pos_iff.mpr h0
      rcases hL with ⟨h, _⟩ | ⟨m, e, _, em, hL⟩
      · omega
      have h12 : (e : Int) ≤ 13 := (hm0 (m, (e : Int)) (List.mem_of_getElem? em)).2.2
      rw [List.drop_length] at hL
      have hL' : L ++ closes e = insL ns := hL
      have ll := congrArg List.length hL'
      rw [List.length_append, show (closes e).length = e from List.length_replicate] at ll
      obtain ⟨x1, hx1⟩ : ∃ x, ys[ys.length - 1]? = some x := ⟨_, List.getElem?_eq_getElem (by omega)⟩
      obtain ⟨n1, en1, tn1, ex1, htn1⟩ := hn.get hx1
      rw [ly, em] at en1
      cases en1
      subst ex1
      have a1 : atI ys (-1) = some (.ref tn1) := by
        have ixm : ixN ys.length (-1) = some (ys.length - 1) := by
          unfold ixN
          rw [if_neg (by decide), if_pos (by omega), show (-1 + (ys.length : Int)).toNat = ys.length - 1 by omega]
        unfold atI
        rw [ixm]
        exact hx1
      have c2 : (Str.ofString ")").length = 1 := by decide +kernel
      dsimp only
      subst hB
      refine tseq_open fun B hB => ?_
      and_intros
      refine ⟨_, SqL.of ht, ?_⟩
      rw [if_pos (by omega)]
      refine (show iRng1 _ _ _ _ from ?_)
      refine split_it (fun J H2 => H2 = H' ∧ J = Itr 0 e) (fun G hG => ?_) ?_
      · and_intros
        refine ⟨_, SqL.of ht, _, a1, tn1, rfl, _, SqT.of htn1, _, rfl, _, rfl, by omega, by omega, ?_⟩
        rw [Int.toNat_natCast]
        exact hG _ _ ⟨rfl, rfl⟩
      rintro _ H2 ⟨rfl, rfl⟩
      refine for_range (n := e) (fun j σ H3 => H3 = H2 ∧ ∃ o3 : Option V, StIs σ [some (.ref t), some (.str (mkS (L ++ closes j))), o2, o3]) ⟨rfl, o3, by rw [show closes 0 = [] from rfl, List.append_nil]; exact StIs.rfl⟩ ?_ ?_
      · rintro j σ H3 hj ⟨rfl, o3, rfl⟩
        have lj : (mkS (L ++ closes j)).length = L.length + j := by rw [mkS_len, List.length_append, show (closes j).length = j from List.length_replicate]
        have ej : mkS (L ++ closes j) ++ Str.ofString ")" = mkS (L ++ closes (j + 1)) := by
          rw [show Str.ofString ")" = mkS [41] by decide +kernel, mkS_app, List.append_assoc, show closes j ++ [41] = closes (j + 1) from (List.replicate_succ' (n := j) (a := 41)).symm]
        and_intros
        rw [ej]
        exact ⟨big9 (by omega), _, StIs.rfl⟩
      · rintro σ H3 ⟨rfl, o3, rfl⟩
        rw [hL']
        dsimp only
        subst hB
        and_intros
        exact k
theorem ok__law_refused {f : Addr} {fd : FuncData} (D : Def K mg "_law_refused" s__law_refused ["_law_text"] f fd) (T : Txt K mg ad) {f_read_thing : Addr} {fd_read_thing : FuncData} (G_read_thing : FnOk P w K mg base (CX3 P w) 7 f_read_thing fd_read_thing ["text"] (sp_read_thing K ad)) (D_read_thing : Def K mg "read_thing" s_read_thing ["text"] f_read_thing fd_read_thing) : FnOk P w K mg base CX0 8 f fd ["_law_text"] (sp__law_refused K) := by
  refine D.F.ok sc__law_refused (fun vs H Q E h => ?_) (fun cdv A outer s H vs Q E hr h => ?_)
  · obtain ⟨v, rfl, _⟩ := h
    rfl
  · obtain ⟨v, rfl, hv, k⟩ := h
    refine ⟨_, (@pss_cons _ _ _ _ _ (ps_tryK ⟨rfl, rfl, rfl⟩ sc__law_refused.nd (i := 1) rfl rfl rfl T.c_ShrinkError (pex_call G_read_thing (hr.mono (by decide)) rfl D_read_thing.mg D_read_thing.F.kp D_read_thing.b .nil (pa_cons (pv 0) pa_nil))
      (fun ea => (@pss_cons _ _ _ _ _ (ps_forK PassesOwn.never rfl (pi_listK (pe_lst (pa_cons (pe_callB (show CallR _ (.builtin "isinstance") (rIsiK K) from call_isiK) rfl T.isinstance PyProof.Rows.boot_isinstance (pa_cons (pv 1) (pa_cons (pe_glob (v := .ref _) rfl T.c_NoThing rfl) pa_nil))) (pa_cons (pe_callB (show CallR _ (.builtin "isinstance") (rIsiK K) from call_isiK) rfl T.isinstance PyProof.Rows.boot_isinstance (pa_cons (pv 1) (pa_cons (pe_glob (v := .ref _) rfl T.c_NoPlace rfl) pa_nil))) (pa_cons (pe_callB (show CallR _ (.builtin "isinstance") (rIsiK K) from call_isiK) rfl T.isinstance PyProof.Rows.boot_isinstance (pa_cons (pv 1) (pa_cons (pe_glob (v := .ref _) rfl T.c_NoFault rfl) pa_nil))) (pa_cons (pe_callB (show CallR _ (.builtin "isinstance") (rIsiK K) from call_isiK) rfl T.isinstance PyProof.Rows.boot_isinstance (pa_cons (pv 1) (pa_cons (pe_glob (v := .ref _) rfl T.c_NoRule rfl) pa_nil))) pa_nil)))))) (pg_name (i := 2) sc__law_refused.nd rfl (Or.inl rfl))
      (@pss_one _ _ _ (ps_if (pt_val (pv 2))
      (@pss_one _ _ _ (ps_ret pe_bl))
      pss_nil)))
      (@pss_cons _ _ _ _ _ (ps_if (PW.pt (pw_or (pt_val (pe_callB (show CallR _ (.builtin "isinstance") (rIsiK K) from call_isiK) rfl T.isinstance PyProof.Rows.boot_isinstance (pa_cons (pv 1) (pa_cons (pe_glob (v := .ref _) rfl T.c_Spent rfl) pa_nil)))) (pw_or (pt_val (pe_callB (show CallR _ (.builtin "isinstance") (rIsiK K) from call_isiK) rfl T.isinstance PyProof.Rows.boot_isinstance (pa_cons (pv 1) (pa_cons (pe_glob (v := .ref _) rfl T.c_Healthy rfl) pa_nil)))) (pw_or1 (pt_val (pe_callB (show CallR _ (.builtin "isinstance") (rIsiK K) from call_isiK) rfl T.isinstance PyProof.Rows.boot_isinstance (pa_cons (pv 1) (pa_cons (pe_glob (v := .ref _) rfl T.c_NoRow rfl) pa_nil))))))))
      (@pss_one _ _ _ (ps_ret pe_bl))
      pss_nil)
      (@pss_one _ _ _ (ps_ret (pe_and (pe_callB (show CallR _ (.builtin "isinstance") (rIsiK K) from call_isiK) rfl T.isinstance PyProof.Rows.boot_isinstance (pa_cons (pv 1) (pa_cons (pe_glob (v := .ref _) rfl T.c_NoText rfl) pa_nil))) (pe_one (pe_callB (show CallR _ (.builtin "isinstance") (rIsiK K) from call_isiK) rfl T.isinstance PyProof.Rows.boot_isinstance (pa_cons (pv 1) (pa_cons (pe_ty rfl T.ValueError (show bootBuiltins "ValueError" = some (.type "ValueError") by decide +kernel)) pa_nil)))))))))))
      (@pss_one _ _ _ (ps_ret pe_bl))), ?_⟩
    refine tseq_open fun B hB => ?_
    refine (show tTryK _ _ _ _ _ _ _ _ from ?_)
    refine ⟨_, rfl, v, rfl, .inr ⟨hv, fun H1 s1 => ⟨T.exm_NoText_ShrinkError, fun e v2 he hc => ?_⟩⟩⟩
    have sx := Same.put (o := excK e (.ref ad.NoText) v2) he
    have s4 := s1.trans sx
    have fe : (upd H1 e (excK e (.ref ad.NoText) v2)) e = some (excK e (.ref ad.NoText) v2) := upd_same
    have hc4 : ctx3 (upd H1 e (excK e (.ref ad.NoText) v2)) (some v2) := hc.elim .inl fun ⟨a, c, q1, q2⟩ => .inr ⟨a, c, q1, sx _ _ q2⟩
    generalize (upd H1 e (excK e (.ref ad.NoText) v2)) = H4 at s4 fe hc4 ⊢
    refine tseq_open fun B2 hB2 => ?_
    refine (show tFor _ _ _ _ _ _ from ?_)
    refine (show iListK _ _ _ _ _ _ from ?_)
    refine split_it (fun J H5 => ∃ l, J = Itk K l e ∧ Same H4 H5 ∧ H5 l = some (.lst [.bl false, .bl false, .bl false, .bl false])) (fun G hG => ?_) ?_
    · and_intros
      exact ⟨e, ad.NoText, v2, _, false, rfl, fe, T.lk_NoText, ⟨.ref ad.NoThing, rfl, T.kx_NoText_NoThing⟩, e, ad.NoText, v2, _, false, rfl, fe, T.lk_NoText, ⟨.ref ad.NoPlace, rfl, T.kx_NoText_NoPlace⟩, e, ad.NoText, v2, _, false, rfl, fe, T.lk_NoText, ⟨.ref ad.NoFault, rfl, T.kx_NoText_NoFault⟩, e, ad.NoText, v2, _, false, rfl, fe, T.lk_NoText, ⟨.ref ad.NoRule, rfl, T.kx_NoText_NoRule⟩, by decide, fun p hp => ⟨⟨_, SqL.of upd_same⟩, hG _ _ ⟨p, rfl, Same.put hp, upd_same⟩⟩⟩
    rintro _ H5 ⟨l, rfl, s5, hl5⟩
    have fe := s5 _ _ fe
    have hc5 : ctx3 H5 (some v2) := hc4.elim .inl fun ⟨a, c, q1, q2⟩ => .inr ⟨a, c, q1, s5 _ _ q2⟩
    refine ⟨fun i m σ H => m = 4 - i ∧ i ≤ 4 ∧ H = H5 ∧ ∃ o2 : Option V, StIs σ [some v, some (.ref e), o2], ⟨4, rfl, Nat.zero_le _, rfl, none, StIs.rfl⟩, ?_⟩
    rintro i m σ H6 ⟨rfl, hi, rfl, o2, rfl⟩
    by_cases h4 : i = 4
    · subst h4
      refine .inl ⟨⟨⟨_, SqL.of hl5, Nat.le_refl _⟩, _, v2, fe, hc5⟩, ?_⟩
      dsimp only
      subst hB2
      refine tseq_open fun B2 hB2 => ?_
      refine (show tIfS _ _ _ _ _ _ from ?_)
      and_intros
      refine ⟨e, ad.NoText, v2, _, false, rfl, fe, T.lk_NoText, ⟨.ref ad.Spent, rfl, T.kx_NoText_Spent⟩, ?_⟩
      refine ⟨false, rfl, ?_⟩
      rw [if_neg (by decide)]
      refine ⟨e, ad.NoText, v2, _, false, rfl, fe, T.lk_NoText, ⟨.ref ad.Healthy, rfl, T.kx_NoText_Healthy⟩, false, rfl, ?_⟩
      rw [if_neg (by decide)]
      refine ⟨e, ad.NoText, v2, _, false, rfl, fe, T.lk_NoText, ⟨.ref ad.NoRow, rfl, T.kx_NoText_NoRow⟩, false, rfl, ?_⟩
      rw [if_neg (by decide)]
      subst hB2
      and_intros
      refine ⟨e, ad.NoText, v2, _, true, rfl, fe, T.lk_NoText, ⟨.ref ad.NoText, rfl, T.kx_NoText_NoText⟩, true, rfl, ?_⟩
      rw [if_pos rfl]
      refine ⟨e, ad.NoText, v2, _, true, rfl, fe, T.lk_NoText, ⟨.type "ValueError", rfl, T.kx_NoText_ValueError⟩, ?_⟩
      exact k _ (s4.trans s5)
    · have hx : ([V.bl false, V.bl false, V.bl false, V.bl false] : List V)[i]? = some (.bl false) := by
        match i, hi, h4 with
        | 0, _, _ => rfl
        | 1, _, _ => rfl
        | 2, _, _ => rfl
        | 3, _, _ => rfl
        | 4, _, h => exact absurd rfl h
      refine .inr ⟨⟨_, _, SqL.of hl5, hx⟩, fun σ H => H = H6 ∧ ∃ o2 : Option V, StIs σ [some v, some (.ref e), o2], fun σ' H' ⟨h1, h2⟩ => ⟨4 - (i + 1), by omega, rfl, by omega, h1, h2⟩, fun x H' hy => ?_⟩
      obtain ⟨rfl, hy⟩ := hy
      have := hy _ (SqL.of hl5)
      rw [hx] at this
      cases this
      and_intros
      exact ⟨_, StIs.rfl⟩
theorem ok__law_wrong_by_any {f : Addr} {fd : FuncData} (D : Def K mg "_law_wrong_by_any" s__law_wrong_by_any ["_law_text", "_law_cell", "_law_mark"] f fd) (T : Txt K mg ad) : FnOk P w K mg base CX0 1 f fd ["_law_text", "_law_cell", "_law_mark"] (sp__law_wrong_by_any K) := by
  refine D.F.ok sc__law_wrong_by_any (fun vs H Q E h => ?_) (fun cdv A outer s H vs Q E hr h => ?_)
  · obtain ⟨d, c, m, rfl, _⟩ := h
    rfl
  · obtain ⟨d, c, m, rfl, dO, hne, hl6, hm, k⟩ := h
    refine ⟨_, (@pss_cons _ _ _ _ _ (ps_set (i := 3) sc__law_wrong_by_any.nd rfl (Or.inl rfl) (pe_op op_mod (pv 1) pe_int))
      (@pss_cons _ _ _ _ _ (ps_if (pt_cmpR op_eq (pv 3) pe_int (nomark _))
      (@pss_cons _ _ _ _ _ (ps_set (i := 4) sc__law_wrong_by_any.nd rfl (Or.inl rfl) (pe_lst (pa_cons pe_non (pa_cons pe_int (pa_cons pe_bl (pa_cons (pe_lst (pa_cons (pv 0) pa_nil)) (pa_cons (pe_tup (pa_cons (pv 0) pa_nil)) (pa_cons pe_str (pa_cons pe_str (pa_cons pe_str (pa_cons pe_str (pa_cons pe_str (pa_cons pe_str (pa_cons pe_str pa_nil))))))))))))))
      (@pss_one _ _ _ (ps_ret (pe_ix ix_list (pv 4) (pe_op op_mod (pe_op op_fdiv (pv 1) pe_int) pe_int) (fun _ _ => rfl)))))
      pss_nil)
      (@pss_cons _ _ _ _ _ (ps_if (pt_cmpR op_eq (pv 3) pe_int (nomark _))
      (@pss_one _ _ _ (ps_ret (pe_op op_add_str (pe_bm0 PySem.F.plainAttrs_str PySem.F.slot_str_upper PySem.F.type_str_upper mt_upper (pe_slice sl_str (pv 0) po_none (po_some pe_int))) (pe_slice sl_str (pv 0) (po_some pe_int) po_none))))
      pss_nil)
      (@pss_cons _ _ _ _ _ (ps_if (pt_cmpR op_eq (pv 3) pe_int (nomark _))
      (@pss_one _ _ _ (ps_ret (pe_op op_add_str (pv 0) (pe_ix ix_list (pe_lst (pa_cons pe_str (pa_cons pe_str (pa_cons pe_str (pa_cons pe_str (pa_cons (pe_op op_add_str (pe_op op_add_str pe_str (pv 2)) pe_str) (pa_cons pe_str (pa_cons pe_str (pa_cons pe_str pa_nil))))))))) (pe_op op_mod (pe_op op_fdiv (pv 1) pe_int) pe_int) (fun _ _ => rfl)))))
      pss_nil)
      (@pss_cons _ _ _ _ _ (ps_set (i := 5) sc__law_wrong_by_any.nd rfl (Or.inl rfl) (pe_op op_add (pe_bm PySem.F.plainAttrs_str PySem.F.slot_str_find PySem.F.type_str_find mt_find (pv 0) (pa_cons pe_str pa_nil)) pe_int))
      (@pss_cons _ _ _ _ _ (ps_set (i := 6) sc__law_wrong_by_any.nd rfl (Or.inl rfl) (pe_op op_add (pv 5) (pe_op op_mod (pe_op op_fdiv (pv 1) pe_int) (pe_op op_add (pe_op op_sub (pe_callB call_len_str rfl T.len PySem.boot_len (pa_cons (pv 0) pa_nil)) (pv 5)) pe_int))))
      (@pss_cons _ _ _ _ _ (ps_if (PW.pt (pw_and (pt_cmpR op_eq (pv 3) pe_int (nomark _)) (pw_and1 (pt_cmpR op_ne (pe_slice sl_str (pv 0) po_none (po_some pe_int)) pe_str (nomark _)))))
      (@pss_one _ _ _ (ps_set (i := 6) sc__law_wrong_by_any.nd rfl (Or.inl rfl) (pv 5)))
      pss_nil)
      (@pss_cons _ _ _ _ _ (ps_if (pt_cmpR op_eq (pv 3) pe_int (nomark _))
      (@pss_one _ _ _ (ps_ret (pe_op op_add_str (pe_op op_add_str (pe_slice sl_str (pv 0) po_none (po_some (pv 6))) pe_str) (pe_slice sl_str (pv 0) (po_some (pv 6)) po_none))))
      pss_nil)
      (@pss_cons _ _ _ _ _ (ps_if (pt_cmpR op_eq (pv 3) pe_int (nomark _))
      (@pss_cons _ _ _ _ _ (ps_set (i := 7) sc__law_wrong_by_any.nd rfl (Or.inl rfl) (pe_ix ix_list (pe_lst (pa_cons pe_str (pa_cons pe_str (pa_cons pe_str (pa_cons pe_str (pa_cons pe_str (pa_cons pe_str (pa_cons pe_str (pa_cons pe_str (pa_cons pe_str pa_nil)))))))))) (pe_op op_mod (pe_op op_fdiv (pv 1) pe_int) pe_int) (fun _ _ => rfl)))
      (@pss_one _ _ _ (ps_ret (pe_op op_add_str (pe_op op_add_str (pe_slice sl_str (pv 0) po_none (po_some (pv 6))) (pv 7)) (pe_slice sl_str (pv 0) (po_some (pv 6)) po_none)))))
      pss_nil)
      (@pss_one _ _ _ (ps_ret (pe_ix ix_list (pe_lst (pa_consT (pet_add pe_str (pv 0)) (pe1_repl (pe1_var (i := 0) rfl (by first | exact Or.inl rfl | exact Or.inr (Or.inl rfl) | exact Or.inr (Or.inr rfl)))) (pa_cons (pe_op op_add_str (pe_op op_add_str (pe_slice sl_str (pv 0) po_none (po_some (pe_op op_sub (pv 5) pe_int))) pe_str) (pe_slice sl_str (pv 0) (po_some (pv 5)) po_none)) pa_nil))) (pe_op op_mod (pe_op op_fdiv (pv 1) pe_int) pe_int) (fun _ _ => rfl))))))))))))), ?_⟩
    have h0 : (insD d).length ≠ 0 := fun e => hne (len0 e)
    obtain ⟨c0, tl0, ec0, hc0⟩ := head1 d
    have ez := text_l h0
    have hin := (ins_in dO h0)
    have lm := (mark_all hm).2.1
    have e0 : (insD d).length = (insD d).cps.toList.length := rfl
    have et : (textD d).length = (textD d).cps.toList.length := rfl
    have etext : textD d = kindS d ++ " " ++ insD d := if_neg h0
    have hfind := find_yes (b := insD d) (kind_free d)
    rw [← etext] at hfind
    have llen : (textD d).length = (kindS d).length + 1 + (insD d).length := by rw [et, ez, List.length_append, List.length_cons, e0]; show (kindS d).cps.toList.length + _ = (kindS d).cps.toList.length + 1 + _; omega
    have lin : (insD d).cps.toList ≠ [] := fun e => by rw [e0, e] at h0; exact h0 rfl
    refine tseq_open fun B hB => ?_
    and_intros
    subst hB
    refine tseq_open fun B hB => ?_
    and_intros
    refine ite2 (fun _ => ?_) fun _ => ?_
    · refine ⟨by decide, fun p hp => ⟨by decide, fun p1 hp1 => ⟨by decide, fun p2 hp2 => ?_⟩⟩⟩
      have s1 := Same.put (o := .lst [V.str (textD d)]) hp
      have f1 : (upd H p (.lst [V.str (textD d)])) p = some (.lst [V.str (textD d)]) := upd_same
      generalize (upd H p (.lst [V.str (textD d)])) = H1 at s1 f1 hp1 hp2 ⊢
      have s2 := Same.put (o := .tup [V.str (textD d)]) hp1
      have f2 : (upd H1 p1 (.tup [V.str (textD d)])) p1 = some (.tup [V.str (textD d)]) := upd_same
      generalize (upd H1 p1 (.tup [V.str (textD d)])) = H2 at s2 f2 hp2 ⊢
      have s3 := Same.put (o := .lst [V.non, V.int 3, V.bl true, V.ref p, V.ref p1, V.str (Str.ofString ""), V.str (Str.ofString " "), V.str (Str.ofString "rows a"), V.str (Str.ofString "Row"), V.str (Str.ofString "tables"), V.str (Str.ofString "Forest"), V.str (Str.ofString "forests a")]) hp2
      have f3 : (upd H2 p2 (.lst [V.non, V.int 3, V.bl true, V.ref p, V.ref p1, V.str (Str.ofString ""), V.str (Str.ofString " "), V.str (Str.ofString "rows a"), V.str (Str.ofString "Row"), V.str (Str.ofString "tables"), V.str (Str.ofString "Forest"), V.str (Str.ofString "forests a")])) p2 = some (.lst [V.non, V.int 3, V.bl true, V.ref p, V.ref p1, V.str (Str.ofString ""), V.str (Str.ofString " "), V.str (Str.ofString "rows a"), V.str (Str.ofString "Row"), V.str (Str.ofString "tables"), V.str (Str.ofString "Forest"), V.str (Str.ofString "forests a")]) := upd_same
      generalize (upd H2 p2 (.lst [V.non, V.int 3, V.bl true, V.ref p, V.ref p1, V.str (Str.ofString ""), V.str (Str.ofString " "), V.str (Str.ofString "rows a"), V.str (Str.ofString "Row"), V.str (Str.ofString "tables"), V.str (Str.ofString "Forest"), V.str (Str.ofString "forests a")])) = H3 at s3 f3 ⊢
      obtain ⟨x, hx, hat⟩ := pick_mod (xs := [V.non, V.int 3, V.bl true, V.ref p, V.ref p1, V.str (Str.ofString ""), V.str (Str.ofString " "), V.str (Str.ofString "rows a"), V.str (Str.ofString "Row"), V.str (Str.ofString "tables"), V.str (Str.ofString "Forest"), V.str (Str.ofString "forests a")]) (j := c / 6) 12 rfl (by decide)
      refine ⟨_, SqL.of f3, x, hat, k x H3 ((s1.trans s2).trans s3) ?_⟩
      simp only [List.mem_cons, List.not_mem_nil, or_false] at hx
      rcases hx with rfl | rfl | rfl | rfl | rfl | rfl | rfl | rfl | rfl | rfl | rfl | rfl
      · exact ⟨.type "NoneType", false, fun _ _ => .non, rfl, fun e => nomatch e⟩
      · exact ⟨.type "int", false, fun _ _ => .int _, rfl, fun e => nomatch e⟩
      · exact ⟨.type "bool", false, fun _ _ => .bl _, rfl, fun e => nomatch e⟩
      · exact ⟨.type "list", false, fun H' s => .lst (s _ _ (s3 _ _ (s2 _ _ f1))), rfl, fun e => nomatch e⟩
      · exact ⟨.type "tuple", false, fun H' s => .tup (s _ _ (s3 _ _ f2)), rfl, fun e => nomatch e⟩
      · exact .txt (by decide +kernel) (ref_nil (by decide +kernel))
      · exact .txt (by decide +kernel) (ref_head (c := 32) (t := []) (by decide +kernel) (by decide))
      · exact .txt (by decide +kernel) (ref_kind (k := "rows") (by decide +kernel) (by decide +kernel) (by decide +kernel) (by decide +kernel))
      · exact .txt (by decide +kernel) (ref_head (c := 82) (t := [111, 119]) (by decide +kernel) (by decide))
      · exact .txt (by decide +kernel) (ref_kind (k := "tables") (by decide +kernel) (by decide +kernel) (by decide +kernel) (by decide +kernel))
      · exact .txt (by decide +kernel) (ref_head (c := 70) (t := [111, 114, 101, 115, 116]) (by decide +kernel) (by decide))
      · exact .txt (by decide +kernel) (ref_kind (k := "forests") (by decide +kernel) (by decide +kernel) (by decide +kernel) (by decide +kernel))
    subst hB
    refine tseq_open fun B hB => ?_
    and_intros
    have s1 : Txt.slice (textD d) none (some 1) = ⟨#[c0]⟩ := ext_l (by
      have := slice_to (z := textD d) (n := 1) (by omega)
      rw [ec0] at this
      exact this)
    refine ite2 (fun _ => ?_) fun _ => ?_
    · have sb := Txt.slice_le (textD d) (some 1) none
      have mk : markS ⟨#[c0]⟩ = true := by
        rcases hc0 with ⟨rfl, _⟩ | ⟨rfl | rfl, _⟩ <;> decide +kernel
      have up := upper_chs mk
      have lu : (Txt.upper ⟨#[c0]⟩).length = 1 := by
        have : (Txt.upper ⟨#[c0]⟩).length = (Txt.upper ⟨#[c0]⟩).cps.toList.length := rfl
        rw [this, up]
        rfl
      rw [s1]
      refine ⟨big9 (by omega), rfl, mk, big9 (by omega), big9 (by omega), k _ H (Same.refl _) (.txt (by rw [Str.length_append]; omega) (ref_head (c := c0 - 32) (t := (Txt.slice (textD d) (some 1) none).cps.toList) ?_ (by omega)))⟩
      rw [app_l, up]
      rfl
    subst hB
    refine tseq_open fun B hB => ?_
    and_intros
    refine ite2 (fun _ => ?_) fun _ => ?_
    · have b1 : (Str.ofString " ").length = 1 := by decide +kernel
      have b2 : (Str.ofString ";").length = 1 := by decide +kernel
      refine ⟨big9 (by omega), big9 (by rw [Str.length_append]; omega), by decide, fun p hp => ?_⟩
      have s2 := Same.put (o := .lst [V.str (Str.ofString " "), V.str (Str.ofString "  "), V.str (Str.ofString " A"), V.str (Str.ofString " a1"), V.str (Str.ofString " " ++ m ++ Str.ofString ";"), V.str (Str.ofString " abcdefghi"), V.str (Str.ofString "\n"), V.str (Str.ofString "\t")]) hp
      have f2 : (upd H p (.lst [V.str (Str.ofString " "), V.str (Str.ofString "  "), V.str (Str.ofString " A"), V.str (Str.ofString " a1"), V.str (Str.ofString " " ++ m ++ Str.ofString ";"), V.str (Str.ofString " abcdefghi"), V.str (Str.ofString "\n"), V.str (Str.ofString "\t")])) p = some (.lst [V.str (Str.ofString " "), V.str (Str.ofString "  "), V.str (Str.ofString " A"), V.str (Str.ofString " a1"), V.str (Str.ofString " " ++ m ++ Str.ofString ";"), V.str (Str.ofString " abcdefghi"), V.str (Str.ofString "\n"), V.str (Str.ofString "\t")]) := upd_same
      generalize (upd H p (.lst [V.str (Str.ofString " "), V.str (Str.ofString "  "), V.str (Str.ofString " A"), V.str (Str.ofString " a1"), V.str (Str.ofString " " ++ m ++ Str.ofString ";"), V.str (Str.ofString " abcdefghi"), V.str (Str.ofString "\n"), V.str (Str.ofString "\t")])) = H2 at s2 f2 ⊢
      obtain ⟨x, hx, hat⟩ := pick_mod (xs := [V.str (Str.ofString " "), V.str (Str.ofString "  "), V.str (Str.ofString " A"), V.str (Str.ofString " a1"), V.str (Str.ofString " " ++ m ++ Str.ofString ";"), V.str (Str.ofString " abcdefghi"), V.str (Str.ofString "\n"), V.str (Str.ofString "\t")]) (j := c / 6) 8 rfl (by decide)
      refine ⟨_, SqL.of f2, x, hat, ?_⟩
      have fin : ∀ y : Str, y.length ≤ 20 → y.cps.toList ≠ [] → (InG ((insD d).cps.toList ++ y.cps.toList) → False) → ∃ x, V.str y = V.str x ∧ (textD d).length + x.length ≤ sizeLine ∧ Q (V.str (textD d ++ x)) H2 := fun y ly yn hy =>
        ⟨y, rfl, big9 (by omega), k _ H2 s2 (.txt (by rw [Str.length_append]; omega) (ref_any (app_ne yn) (more_l ez y) hy))⟩
      have blank : ∀ y : Str, stP 32 y.cps.toList = 32 → InG ((insD d).cps.toList ++ y.cps.toList) → y.cps.toList ≠ [] → False := fun y hy hg hn => by
        have := hg.2
        rw [stP_app] at this
        cases e : y.cps.toList with
        | nil => exact hn e
        | cons a b =>
          rw [e] at this hy
          have this : endOk (stP a b) := this
          rw [show stP a b = 32 from hy] at this
          unfold endOk lt at this
          omega
      simp only [List.mem_cons, List.not_mem_nil, or_false] at hx
      rcases hx with rfl | rfl | rfl | rfl | rfl | rfl | rfl | rfl
      · exact fin _ (by decide +kernel) (by decide +kernel) fun hg => blank _ (by decide +kernel) hg (by decide +kernel)
      · exact fin _ (by decide +kernel) (by decide +kernel) fun hg => blank _ (by decide +kernel) hg (by decide +kernel)
      · exact fin _ (by decide +kernel) (by decide +kernel) (bad_mem (c := 65) (List.mem_append_right _ (by decide +kernel)) (by decide))
      · exact fin _ (by decide +kernel) (by decide +kernel) (bad_mem (c := 49) (List.mem_append_right _ (by decide +kernel)) (by decide))
      · have h59 : 59 ∈ (Str.ofString " " ++ m ++ Str.ofString ";").cps.toList := by rw [app_l]; exact List.mem_append_right _ (by decide +kernel)
        exact fin _ (by rw [Str.length_append, Str.length_append]; omega) (fun e => by rw [e] at h59; exact nomatch h59) (bad_mem (c := 59) (List.mem_append_right _ h59) (by decide))
      · refine fin _ (by decide +kernel) (by decide +kernel) fun hg => ?_
        rw [show (Str.ofString " abcdefghi").cps.toList = [32] ++ ((Str.ofString "abcdefghi").cps.toList ++ []) by decide +kernel, ← List.append_assoc] at hg
        exact bad_nine hg
      · exact fin _ (by decide +kernel) (by decide +kernel) (bad_mem (c := 10) (List.mem_append_right _ (by decide +kernel)) (by decide))
      · exact fin _ (by decide +kernel) (by decide +kernel) (bad_mem (c := 9) (List.mem_append_right _ (by decide +kernel)) (by decide))
    subst hB
    refine tseq_open fun B hB => ?_
    and_intros
    refine ⟨rfl, ?_⟩
    rw [hfind]
    subst hB
    refine tseq_open fun B hB => ?_
    and_intros
    have hpos : (0 : Int) < ((textD d).length : Int) - (((kindS d).length : Int) + 1) + 1 := by omega
    refine ⟨big9 (by omega), hpos, ?_⟩
    obtain ⟨s0, hs0, ls0⟩ : ∃ s : Nat, ((kindS d).length : Int) + 1 + c / 54 % (((textD d).length : Int) - (((kindS d).length : Int) + 1) + 1) = (((kindS d).length + 1 + s : Nat) : Int) ∧ s ≤ (insD d).length := by
      have h1 := Int.emod_nonneg (c / 54) (Int.ne_of_gt hpos)
      have h2 := Int.emod_lt_of_pos (c / 54) hpos
      exact ⟨(c / 54 % (((textD d).length : Int) - (((kindS d).length : Int) + 1) + 1)).toNat, by omega, by omega⟩
    rw [hs0]
    subst hB
    refine tseq_open fun B hB => ?_
    have rest : ∀ s : Nat, s ≤ (insD d).length → (c % 6 = 3 → kindS d ≠ Str.ofString "forest" → s = 0) → B ({ nx := fun x H' => Q V.non H', rt := Q } : Ends) [some (V.str (textD d)), some (V.int c), some (V.str m), some (V.int (c % 6)), none, some (V.int (((kindS d).length : Int) + 1)), some (V.int (((kindS d).length + 1 + s : Nat) : Int)), none] H := fun s ls hs3 => by
      have pl := put_l ez ls
      have sa := Txt.slice_le (textD d) none (some (((kindS d).length + 1 + s : Nat) : Int))
      have sb := Txt.slice_le (textD d) (some (((kindS d).length + 1 + s : Nat) : Int)) none
      have la : ∀ y : Str, y.cps.toList ≠ [] → (insD d).cps.toList.take s ++ (y.cps.toList ++ (insD d).cps.toList.drop s) ≠ [] := fun y hy e => hy (List.append_eq_nil_iff.mp (List.append_eq_nil_iff.mp e).2).1
      have full : ∀ y : Str, (Txt.slice (textD d) none (some (((kindS d).length + 1 + s : Nat) : Int)) ++ y ++ Txt.slice (textD d) (some (((kindS d).length + 1 + s : Nat) : Int)) none).length = (textD d).length + y.length := fun y => by
        have q := congrArg List.length (pl y)
        rw [List.length_append, List.length_cons, List.length_append, List.length_append, List.length_take, List.length_drop] at q
        have e1 : (Txt.slice (textD d) none (some (((kindS d).length + 1 + s : Nat) : Int)) ++ y ++ Txt.slice (textD d) (some (((kindS d).length + 1 + s : Nat) : Int)) none).length = (Txt.slice (textD d) none (some (((kindS d).length + 1 + s : Nat) : Int)) ++ y ++ Txt.slice (textD d) (some (((kindS d).length + 1 + s : Nat) : Int)) none).cps.toList.length := rfl
        have e2 : y.length = y.cps.toList.length := rfl
        have e3 : (kindS d).length = (kindS d).cps.toList.length := rfl
        omega
      have b1 : (Str.ofString " ").length = 1 := by decide +kernel
      subst hB
      refine tseq_open fun B hB => ?_
      and_intros
      refine ite2 (fun h3 => ?_) fun _ => ?_
      · refine ⟨big9 (by omega), big9 (by omega), big9 (by omega), big9 (by rw [Str.length_append]; omega), k _ H (Same.refl _) (.txt (by rw [full]; omega) ?_)⟩
        by_cases hf : kindS d = Str.ofString "forest"
        · have ek : (kindS d).cps.toList = (Str.ofString "forest").cps.toList := by rw [hf]
          have pf := pl (Str.ofString " ")
          generalize Txt.slice (textD d) none (some (((kindS d).length + 1 + s : Nat) : Int)) ++ Str.ofString " " ++ Txt.slice (textD d) (some (((kindS d).length + 1 + s : Nat) : Int)) none = zz at pf ⊢
          rw [ek] at pf
          refine ref_for (la _ (by decide +kernel)) pf fun _ hF => ?_
          have := hF.1
          rw [List.count_append, List.count_append, show (Str.ofString " ").cps.toList.count 32 = 1 by decide +kernel] at this
          omega
        · refine ref_any (la _ (by decide +kernel)) (pl _) fun hg => ?_
          have := hg.1
          rw [hs3 h3 hf] at this
          have h1 : sok 32 32 := this.1
          unfold sok lt at h1
          omega
      subst hB
      refine tseq_open fun B hB => ?_
      and_intros
      refine ite2 (fun h4 => ?_) fun _ => ?_
      · refine ⟨by decide, fun p hp => ?_⟩
        have s2 := Same.put (o := .lst [V.str (Str.ofString "-"), V.str (Str.ofString "A"), V.str (Str.ofString "Z"), V.str (Str.ofString "C"), V.str (Str.ofString "0"), V.str (Str.ofString "_"), V.str (Str.ofString "."), V.str (Str.ofString "'"), V.str (Str.ofString "abcdefghi")]) hp
        have f2 : (upd H p (.lst [V.str (Str.ofString "-"), V.str (Str.ofString "A"), V.str (Str.ofString "Z"), V.str (Str.ofString "C"), V.str (Str.ofString "0"), V.str (Str.ofString "_"), V.str (Str.ofString "."), V.str (Str.ofString "'"), V.str (Str.ofString "abcdefghi")])) p = some (.lst [V.str (Str.ofString "-"), V.str (Str.ofString "A"), V.str (Str.ofString "Z"), V.str (Str.ofString "C"), V.str (Str.ofString "0"), V.str (Str.ofString "_"), V.str (Str.ofString "."), V.str (Str.ofString "'"), V.str (Str.ofString "abcdefghi")]) := upd_same
        generalize (upd H p (.lst [V.str (Str.ofString "-"), V.str (Str.ofString "A"), V.str (Str.ofString "Z"), V.str (Str.ofString "C"), V.str (Str.ofString "0"), V.str (Str.ofString "_"), V.str (Str.ofString "."), V.str (Str.ofString "'"), V.str (Str.ofString "abcdefghi")])) = H2 at s2 f2 ⊢
        obtain ⟨x, hx, hat⟩ := pick_mod (xs := [V.str (Str.ofString "-"), V.str (Str.ofString "A"), V.str (Str.ofString "Z"), V.str (Str.ofString "C"), V.str (Str.ofString "0"), V.str (Str.ofString "_"), V.str (Str.ofString "."), V.str (Str.ofString "'"), V.str (Str.ofString "abcdefghi")]) (j := c / 6) 9 rfl (by decide)
        refine ⟨_, SqL.of f2, x, hat, big9 (by omega), ?_⟩
        have fin : ∀ y : Str, y.length ≤ 9 → y.cps.toList ≠ [] → (InG ((insD d).cps.toList.take s ++ (y.cps.toList ++ (insD d).cps.toList.drop s)) → False) → ∃ x, V.str y = V.str x ∧ (Txt.slice (textD d) none (some (((kindS d).length + 1 + s : Nat) : Int))).length + x.length ≤ sizeLine ∧ (textD d).length ≤ sizeLine ∧ (Txt.slice (textD d) none (some (((kindS d).length + 1 + s : Nat) : Int)) ++ x).length + (Txt.slice (textD d) (some (((kindS d).length + 1 + s : Nat) : Int)) none).length ≤ sizeLine ∧ Q (V.str (Txt.slice (textD d) none (some (((kindS d).length + 1 + s : Nat) : Int)) ++ x ++ Txt.slice (textD d) (some (((kindS d).length + 1 + s : Nat) : Int)) none)) H2 := fun y ly yn hy =>
          ⟨y, rfl, big9 (by omega), big9 (by omega), big9 (by rw [Str.length_append]; omega), k _ H2 s2 (.txt (by rw [full]; omega) (ref_any (la y yn) (pl y) hy))⟩
        have odd : ∀ (y : Str) (ch : Nat), ch ∈ y.cps.toList → ¬ (lt ch ∨ ch = 32 ∨ ch = 47 ∨ ch = 45 ∨ ch = 40 ∨ ch = 41 ∨ ch = 44) → InG ((insD d).cps.toList.take s ++ (y.cps.toList ++ (insD d).cps.toList.drop s)) → False := fun y ch hy hb => bad_mem (List.mem_append_right _ (List.mem_append_left _ hy)) hb
        simp only [List.mem_cons, List.not_mem_nil, or_false] at hx
        rcases hx with rfl | rfl | rfl | rfl | rfl | rfl | rfl | rfl | rfl
        · refine fin _ (by decide +kernel) (by decide +kernel) fun hg => ?_
          have q0 := hin.1
          rw [← List.take_append_drop s (insD d).cps.toList] at q0
          have q1 := hg.1
          rw [dash_l] at q1
          exact acc_dash q0.1 q0.2 q1
        · exact fin _ (by decide +kernel) (by decide +kernel) (odd _ 65 (by decide +kernel) (by decide))
        · exact fin _ (by decide +kernel) (by decide +kernel) (odd _ 90 (by decide +kernel) (by decide))
        · exact fin _ (by decide +kernel) (by decide +kernel) (odd _ 67 (by decide +kernel) (by decide))
        · exact fin _ (by decide +kernel) (by decide +kernel) (odd _ 48 (by decide +kernel) (by decide))
        · exact fin _ (by decide +kernel) (by decide +kernel) (odd _ 95 (by decide +kernel) (by decide))
        · exact fin _ (by decide +kernel) (by decide +kernel) (odd _ 46 (by decide +kernel) (by decide))
        · exact fin _ (by decide +kernel) (by decide +kernel) (odd _ 39 (by decide +kernel) (by decide))
        · exact fin _ (by decide +kernel) (by decide +kernel) bad_nine
      subst hB
      and_intros
      rw [show ((kindS d).length : Int) + 1 - 1 = (((kindS d).length : Nat) : Int) by omega]
      have t1 : (Str.ofString "\t").length = 1 := by decide +kernel
      have b2 : (Str.ofString "  ").length = 2 := by decide +kernel
      have lkd := kind_len d
      have lcut : (Txt.slice (textD d) none (some (((kindS d).length : Nat) : Int))).length ≤ 10 := by
        have q := congrArg List.length (slice_to (z := textD d) (n := (kindS d).length) (by omega))
        rw [List.length_take] at q
        have e1 : (Txt.slice (textD d) none (some (((kindS d).length : Nat) : Int))).length = (Txt.slice (textD d) none (some (((kindS d).length : Nat) : Int))).cps.toList.length := rfl
        omega
      have sc := Txt.slice_le (textD d) (some (((kindS d).length : Int) + 1)) none
      refine ⟨by omega, by omega, big9 (by omega), by rw [b2]; omega, big9 (by omega), big9 (by omega), big9 (by omega), big9 (by rw [Str.length_append]; omega), by decide, fun p hp => ?_⟩
      have s2 := Same.put (o := .lst [V.str (Str.ofString " " ++ textD d), V.str (Txt.replace (textD d) (Str.ofString " ") (Str.ofString "  ")), V.str (Txt.slice (textD d) none (some (((kindS d).length : Nat) : Int)) ++ Str.ofString "\t" ++ Txt.slice (textD d) (some (((kindS d).length : Int) + 1)) none)]) hp
      have f2 : (upd H p (.lst [V.str (Str.ofString " " ++ textD d), V.str (Txt.replace (textD d) (Str.ofString " ") (Str.ofString "  ")), V.str (Txt.slice (textD d) none (some (((kindS d).length : Nat) : Int)) ++ Str.ofString "\t" ++ Txt.slice (textD d) (some (((kindS d).length : Int) + 1)) none)])) p = some (.lst [V.str (Str.ofString " " ++ textD d), V.str (Txt.replace (textD d) (Str.ofString " ") (Str.ofString "  ")), V.str (Txt.slice (textD d) none (some (((kindS d).length : Nat) : Int)) ++ Str.ofString "\t" ++ Txt.slice (textD d) (some (((kindS d).length : Int) + 1)) none)]) := upd_same
      generalize (upd H p (.lst [V.str (Str.ofString " " ++ textD d), V.str (Txt.replace (textD d) (Str.ofString " ") (Str.ofString "  ")), V.str (Txt.slice (textD d) none (some (((kindS d).length : Nat) : Int)) ++ Str.ofString "\t" ++ Txt.slice (textD d) (some (((kindS d).length : Int) + 1)) none)])) = H2 at s2 f2 ⊢
      obtain ⟨x, hx, hat⟩ := pick_mod (xs := [V.str (Str.ofString " " ++ textD d), V.str (Txt.replace (textD d) (Str.ofString " ") (Str.ofString "  ")), V.str (Txt.slice (textD d) none (some (((kindS d).length : Nat) : Int)) ++ Str.ofString "\t" ++ Txt.slice (textD d) (some (((kindS d).length : Int) + 1)) none)]) (j := c / 6) 3 rfl (by decide)
      refine ⟨_, SqL.of f2, x, hat, k x H2 s2 ?_⟩
      simp only [List.mem_cons, List.not_mem_nil, or_false] at hx
      rcases hx with rfl | rfl | rfl
      · refine .txt (by rw [Str.length_append]; omega) (ref_head (c := 32) (t := (textD d).cps.toList) ?_ (by decide))
        rw [app_l]
        rfl
      · have er : (Txt.replace (textD d) (Str.ofString " ") (Str.ofString "  ")).cps.toList = repC 32 [32, 32] (textD d).cps.toList := by
          rw [show Str.ofString " " = ⟨#[32]⟩ from blank_eq, replace_l]
          rw [show (Str.ofString "  ").cps.toList = [32, 32] by decide +kernel]
        have fb := few_blanks hin.2
        have nk : (kindS d).cps.toList.count 32 = 0 := List.count_eq_zero.mpr (kind_free d)
        refine .txt ?_ (ref_any (d := d) (l := 32 :: repC 32 [32, 32] (insD d).cps.toList) (List.cons_ne_nil _ _) ?_ fun hg => ?_)
        · have e1 : (Txt.replace (textD d) (Str.ofString " ") (Str.ofString "  ")).length = (Txt.replace (textD d) (Str.ofString " ") (Str.ofString "  ")).cps.toList.length := rfl
          rw [e1, er, rep_two, ← et, ez, List.count_append, nk, List.count_cons, if_pos (by decide)]
          omega
        · rw [er, ez, repC_app, repC_free (kind_free d)]
          rfl
        · have h1 : sok 32 32 := hg.1.1
          unfold sok lt at h1
          omega
      · refine .txt (by rw [Str.length_append, Str.length_append]; omega) (ref_sign (c := 9) ?_ (by decide))
        rw [app_l, app_l]
        exact List.mem_append_left _ (List.mem_append_right _ (by decide +kernel))
    and_intros
    refine ite2 (fun h3 => ⟨big9 (by omega), ite2 (fun hnf => ?_) fun hf => ?_⟩) fun h3 => rest s0 ls0 fun h => absurd h h3
    · exact (show (((kindS d).length + 1 + 0 : Nat) : Int) = ((kindS d).length : Int) + 1 from rfl) ▸ rest 0 (Nat.zero_le _) fun _ _ => rfl
    · refine rest s0 ls0 fun _ hn => ?_
      have hf := Classical.byContradiction hf
      rw [s1] at hf
      rcases hc0 with ⟨_, h⟩ | ⟨h, _⟩
      · exact absurd h hn
      · have := congrArg (fun x : Str => x.cps.toList) hf
        rw [show (Str.ofString "f").cps.toList = [102] by decide +kernel] at this
        have := (List.cons.inj this).1
        omega
theorem ok__law_lines_text {f : Addr} {fd : FuncData} (D : Def K mg "_law_lines_text" s__law_lines_text ["_law_lines"] f fd) (T : Txt K mg ad) : FnOk P w K mg base CX0 1 f fd ["_law_lines"] sp__law_lines_text := by
  refine D.F.ok sc__law_lines_text (fun vs H Q E h => ?_) (fun cdv A outer s H vs Q E hr h => ?_)
  · obtain ⟨l, xs, ls, w, rfl, _⟩ := h
    rfl
  · obtain ⟨l, xs, ls, w, rfl, hl, hrw, h0, h11, w1, w3, hw, k⟩ := h
    refine ⟨_, (@pss_one _ _ _ (ps_ret (pe_op op_add_str pe_str (pe_bm PySem.F.plainAttrs_str PySem.F.slot_str_join PySem.F.type_str_join mt_join pe_str (pa_cons (pe_comp (own := ["_law_line"]) (cap := []) (ix := []) rfl (show CompScope ["_law_lines"] (defScope s__law_lines_text) _ ["_law_line"] [] [] from ⟨rfl, by decide +kernel, by decide +kernel, by decide +kernel, by decide +kernel, by decide +kernel, by decide +kernel, rfl, by decide +kernel⟩) (pi_list (pv 0)) (fun C s₀ H₀ ex pn => ⟨pg_name (i := 0) (show (["_law_line"] : List Str).Nodup by decide +kernel) rfl (Or.inl rfl), pifs_nil, (show PE _ _ (tBM K "str" (rJoin K) _ _) from pe_bm PySem.F.plainAttrs_str PySem.F.slot_str_join PySem.F.type_str_join mt_join pe_str (pa_cons (pv 0) pa_nil))⟩)) pa_nil))))), ?_⟩
    and_intros
    have lx := hrw.length
    refine ⟨rfl, ?_⟩
    refine tcomp_list (K := K) (a := l) (xs := xs) (H1 := H) (fun R r => by and_intros; exact ⟨⟨_, SqL.of hl⟩, r⟩) (fun i ys H' => H' = H ∧ ys = (((ls.map fun l => l.map sV).take i).map (Str.join " ")).map V.str) ⟨rfl, rfl⟩ (fun i ys H' _ ⟨e, _⟩ => e ▸ SqL.of hl) ?_ ?_
    · rintro i x ys H' R hx ⟨rfl, rfl⟩ hR
      have hi := (List.getElem?_eq_some_iff.mp hx).1
      obtain ⟨y, hy, t', rfl, ht'⟩ := hrw.get hx
      have lo := hw y (List.mem_of_getElem? hy)
      simp only [tYes]
      and_intros
      have sl := sum_len (ws := y.map sV) fun w hw => .inl (sV_marks lo.2 w hw)
      have ly := lo.1
      rw [List.length_map] at sl
      refine ⟨rfl, y.map sV, .inl ?_, by decide +kernel, by rw [List.length_map]; omega, small1000 (by rw [List.length_map, List.length_map, List.length_take]; omega), hR _ _ ⟨rfl, ?_⟩⟩
      · rw [sV_map lo.2]
        exact SqL.of ht'
      · rw [List.take_add_one, List.getElem?_map, hy, List.map_append, List.map_append]
        rfl
    · rintro ys H' ⟨rfl, rfl⟩
      have lm : (ls.map fun l => l.map sV).length = ls.length := List.length_map _
      rw [lx, ← lm, List.take_length]
      have bnd := sum_le (n := 40) (ws := (ls.map fun l => l.map sV).map (Str.join " ")) fun z hz => by
        obtain ⟨y, hy, rfl⟩ := List.mem_map.mp hz
        obtain ⟨x, hx, rfl⟩ := List.mem_map.mp hy
        have lo := hw x hx
        have h1 := join_len (ws := x.map sV) fun w hw => .inl (sV_marks lo.2 w hw)
        rw [List.length_map, lo.1] at h1
        omega
      rw [List.length_map, lm] at bnd
      refine ⟨Nat.le_of_lt (small1000 (by rw [List.length_map, List.length_map]; omega)), fun L hL => ?_⟩
      have tl := tab_len (by omega) w3 hw
      have e := lines_text h0 w1 hw
      have le := congrArg Str.length e
      have tt : (textD (.table ls w)).length ≤ 600 := by
        rw [← mkS_of (textD _), text_l (tab_ne h0 hw), mkS_len, List.length_append, List.length_cons]
        have t5 : (kindS (.table ls w)).cps.toList.length = 5 := (show (Str.ofString "table").cps.toList.length = 5 by decide +kernel)
        have e0 : (insD (.table ls w)).length = (insD (.table ls w)).cps.toList.length := rfl
        omega
      rw [Str.length_append] at le
      refine ⟨L, rfl, _, .inl (SqL.of upd_same), by decide +kernel, by rw [List.length_map, lm]; omega, big9 (by show (Str.ofString "table ").length + (Str.join (Str.ofString " / ") ((ls.map fun l => l.map sV).map (Str.join " "))).length ≤ 20000; omega), ?_⟩
      rw [show Str.ofString "table " ++ Str.join (Str.ofString " / ") ((ls.map fun l => l.map sV).map (Str.join " ")) = textD (.table ls w) from e]
      exact k _ (Same.put hL)
theorem ok__law_wrong_table {f : Addr} {fd : FuncData} (D : Def K mg "_law_wrong_table" s__law_wrong_table ["_law_lines", "_law_cell", "_law_mark"] f fd) (T : Txt K mg ad) {f__law_lines_text : Addr} {fd__law_lines_text : FuncData} (G__law_lines_text : FnOk P w K mg base CX0 1 f__law_lines_text fd__law_lines_text ["_law_lines"] sp__law_lines_text) (D__law_lines_text : Def K mg "_law_lines_text" s__law_lines_text ["_law_lines"] f__law_lines_text fd__law_lines_text) : FnOk P w K mg base CX0 2 f fd ["_law_lines", "_law_cell", "_law_mark"] sp__law_wrong_table := by
  refine D.F.ok sc__law_wrong_table (fun vs H Q E h => ?_) (fun cdv A outer s H vs Q E hr h => ?_)
  · obtain ⟨l, xs, ls, w, c, m, rfl, _⟩ := h
    rfl
  · obtain ⟨l, xs, ls, w, c, m, rfl, hl, hrw, h0, h11, w1, w3, hw, hm, k⟩ := h
    refine ⟨_, (@pss_cons _ _ _ _ _ (ps_set (i := 3) sc__law_wrong_table.nd rfl (Or.inl rfl) (pe_call G__law_lines_text (hr.mono (by decide)) rfl D__law_lines_text.mg D__law_lines_text.F.kp D__law_lines_text.b .nil pass0 (pa_cons (pv 0) pa_nil)))
      (@pss_cons _ _ _ _ _ (ps_set (i := 4) sc__law_wrong_table.nd rfl (Or.inl rfl) (pe_op op_mod (pv 1) pe_int))
      (@pss_cons _ _ _ _ _ (ps_if (pt_cmpR op_eq (pv 4) pe_int (nomark _))
      (@pss_one _ _ _ (ps_ret (pe_op op_add_str pe_str (pe_bm PySem.F.plainAttrs_str PySem.F.slot_str_join PySem.F.type_str_join mt_join pe_str (pa_cons (pe_comp (own := ["_law_k"]) (cap := ["_law_mark"]) (ix := [2]) rfl (show CompScope ["_law_lines", "_law_cell", "_law_mark", "_law_text", "_law_way"] (defScope s__law_wrong_table) _ ["_law_k"] ["_law_mark"] [2] from ⟨rfl, by decide +kernel, by decide +kernel, by decide +kernel, by decide +kernel, by decide +kernel, by decide +kernel, rfl, by decide +kernel⟩) (pi_range1 rfl T.range (pa_cons pe_int pa_nil)) (fun C s₀ H₀ ex pn => ⟨pg_name (i := 0) (show (["_law_k", "_law_mark"] : List Str).Nodup by decide +kernel) rfl (Or.inl rfl), pifs_nil, (pv 1)⟩)) pa_nil)))))
      pss_nil)
      (@pss_cons _ _ _ _ _ (ps_if (pt_cmpR op_eq (pv 4) pe_int (nomark _))
      (@pss_one _ _ _ (ps_ret (pe_op op_add_str (pv 3) pe_str)))
      pss_nil)
      (@pss_cons _ _ _ _ _ (ps_if (pt_cmpR op_eq (pv 4) pe_int (nomark _))
      (@pss_one _ _ _ (ps_ret (pe_op op_add_str (pe_op op_add_str (pv 3) pe_str) (pe_bm PySem.F.plainAttrs_str PySem.F.slot_str_join PySem.F.type_str_join mt_join pe_str (pa_cons (pe_comp (own := ["_law_k"]) (cap := ["_law_mark"]) (ix := [2]) rfl (show CompScope ["_law_lines", "_law_cell", "_law_mark", "_law_text", "_law_way"] (defScope s__law_wrong_table) _ ["_law_k"] ["_law_mark"] [2] from ⟨rfl, by decide +kernel, by decide +kernel, by decide +kernel, by decide +kernel, by decide +kernel, by decide +kernel, rfl, by decide +kernel⟩) (pi_range1 rfl T.range (pa_cons (pe_op op_add (pe_callB call_lenL rfl T.len PySem.boot_len (pa_cons (pe_ix ix_list (pv 0) pe_int (fun _ _ => rfl)) pa_nil)) pe_int) pa_nil)) (fun C s₀ H₀ ex pn => ⟨pg_name (i := 0) (show (["_law_k", "_law_mark"] : List Str).Nodup by decide +kernel) rfl (Or.inl rfl), pifs_nil, (pv 1)⟩)) pa_nil)))))
      pss_nil)
      (@pss_cons _ _ _ _ _ (ps_if (pt_cmpR op_eq (pv 4) pe_int (nomark _))
      (@pss_one _ _ _ (ps_ret (pe_op op_add_str (pv 3) pe_str)))
      pss_nil)
      (@pss_cons _ _ _ _ _ (ps_if (pt_cmpR op_eq (pv 4) pe_int (nomark _))
      (@pss_one _ _ _ (ps_ret (pe_op op_add_str (pv 3) pe_str)))
      pss_nil)
      (@pss_cons _ _ _ _ _ (ps_if (pt_cmpR op_eq (pv 4) pe_int (nomark _))
      (@pss_one _ _ _ (ps_ret (pe_op op_add_str pe_str (pe_slice sl_str (pv 3) (po_some pe_int) po_none))))
      pss_nil)
      (@pss_cons _ _ _ _ _ (ps_if (pt_cmpR op_eq (pv 4) pe_int (nomark _))
      (@pss_one _ _ _ (ps_ret (pe_op op_add_str (pe_op op_add_str (pv 3) pe_str) (pe_bm PySem.F.plainAttrs_str PySem.F.slot_str_join PySem.F.type_str_join mt_join pe_str (pa_cons (pe_ix ix_list (pv 0) pe_int (fun _ _ => rfl)) pa_nil)))))
      pss_nil)
      (@pss_one _ _ _ (ps_ret (pe_op op_add_str pe_str (pe_bm PySem.F.plainAttrs_str PySem.F.slot_str_join PySem.F.type_str_join mt_join pe_str (pa_cons (pe_comp (own := ["_law_k"]) (cap := ["_law_lines"]) (ix := [0]) rfl (show CompScope ["_law_lines", "_law_cell", "_law_mark", "_law_text", "_law_way"] (defScope s__law_wrong_table) _ ["_law_k"] ["_law_lines"] [0] from ⟨rfl, by decide +kernel, by decide +kernel, by decide +kernel, by decide +kernel, by decide +kernel, by decide +kernel, rfl, by decide +kernel⟩) (pi_range1 rfl T.range (pa_cons pe_int pa_nil)) (fun C s₀ H₀ ex pn => ⟨pg_name (i := 0) (show (["_law_k", "_law_lines"] : List Str).Nodup by decide +kernel) rfl (Or.inl rfl), pifs_nil, (show PE _ _ (tBM K "str" (rJoin K) _ _) from pe_bm PySem.F.plainAttrs_str PySem.F.slot_str_join PySem.F.type_str_join mt_join pe_str (pa_cons (pe_ix (show IxR _ (rIxL K) from ix_list) (pv 1) pe_int (fun _ _ => rfl)) pa_nil))⟩)) pa_nil)))))))))))))), ?_⟩
    refine tseq_open fun B hB => ?_
    and_intros
    refine ⟨l, xs, ls, w, rfl, hl, hrw, h0, h11, w1, w3, hw, fun H1 s1 => ?_⟩
    have hl1 := s1 _ _ hl
    have hr1 := hrw.same s1
    have hin := (ins_in (d := .table ls w) ⟨by omega, by omega, hw⟩ (tab_ne h0 hw)).1
    have hcn := tab_cnt h0 w1 hw
    have tl := tab_len (by omega) w3 hw
    have ez := text_l (tab_ne h0 hw)
    have hp := List.length_pos_iff.mpr h0
    rw [show kindS (.table ls w) = Str.ofString "table" from rfl] at ez
    generalize hz0 : textD (.table ls w) = z0 at *
    have lz0 : z0.length ≤ 600 := by
      have e1 : z0.length = z0.cps.toList.length := rfl
      rw [e1, ez, List.length_append, List.length_cons]
      have t5 : (Str.ofString "table").cps.toList.length = 5 := by decide +kernel
      have e0 : (insD (.table ls w)).length = (insD (.table ls w)).cps.toList.length := rfl
      omega
    generalize (insD (.table ls w)).cps.toList = l0 at *
    subst hB
    refine tseq_open fun B hB => ?_
    and_intros
    subst hB
    refine tseq_open fun B hB => ?_
    and_intros
    refine ite2 (fun _ => ?_) fun _ => ?_
    · refine ⟨rfl, tcomp_same (n := 13) (x := .str m) (by decide) (fun R r => by and_intros; exact ⟨by decide, by decide, r⟩) (fun j Q' q => by and_intros; exact q) fun L hL => ?_⟩
      obtain ⟨c1, c2, c3⟩ := same_cnt hm 12
      have jl := same_len hm 13
      have js := same_sum hm 13
      have jp := same_pos hm 12
      have t6 : (Str.ofString "table ").length = 6 := by decide +kernel
      refine ⟨L, rfl, List.replicate 13 m, .inl (by rw [← map_rep]; exact SqL.of upd_same), by decide +kernel, by rw [List.length_replicate]; omega, big9 (by show _ + (Str.join " " (List.replicate 13 m)).length ≤ _; omega), k _ _ (s1.upd hL) (by rw [Str.length_append]; show _ + (Str.join " " (List.replicate 13 m)).length ≤ _; omega) (ref_tab (str_ne jp) (tbl_app _) fun _ hT => ?_)⟩
      obtain ⟨L', w', _, _, _, h5, h6, h7, _⟩ := hT
      have h7' : (Str.join " " (List.replicate 13 m)).cps.toList.count 32 + 2 = L' * (w' + 1) := h7
      have h6' : (Str.join " " (List.replicate 13 m)).cps.toList.count 47 + 1 = L' := h6
      rw [c1] at h7'
      rw [c2] at h6'
      subst h6'
      omega
    subst hB
    refine tseq_open fun B hB => ?_
    and_intros
    refine ite2 (fun _ => ?_) fun _ => ?_
    · have e2 : (Str.ofString " /").length = 2 := by decide +kernel
      refine ⟨big9 (by omega), k _ _ s1 (by rw [Str.length_append]; omega) (ref_tab (app_ne (by decide +kernel)) (more_l ez _) fun hG _ => ?_)⟩
      have := hG.2
      rw [stP_app] at this
      exact absurd this (show ¬ endOk 47 by unfold endOk lt; omega)
    subst hB
    refine tseq_open fun B hB => ?_
    and_intros
    obtain ⟨y0, r0, els⟩ := List.exists_cons_of_ne_nil h0
    have hx0 : ∃ t0 : Addr, atI xs 0 = some (.ref t0) ∧ H1 t0 = some (.lst y0) := by
      rw [els] at hr1
      cases xs with
      | nil => exact hr1.elim
      | cons x1 x2 =>
        obtain ⟨⟨t0, e, h⟩, _⟩ := hr1
        exact ⟨t0, by rw [e]; exact (show atI _ ((0 : Nat) : Int) = _ from atI_nat rfl), h⟩
    obtain ⟨t0, at0, ht0⟩ := hx0
    have lo0 := hw y0 (by rw [els]; exact List.mem_cons_self)
    have ly0 := lo0.1
    refine ite2 (fun _ => ?_) fun _ => ?_
    · have e3 : (Str.ofString " / ").length = 3 := by decide +kernel
      obtain ⟨c1, c2, c3⟩ := same_cnt hm w
      have jl := same_len hm (w + 1)
      have js := same_sum hm (w + 1)
      refine ⟨big9 (by omega), rfl, tcomp_same (n := w + 1) (x := .str m) (by omega) (fun R r => by
        and_intros
        refine ⟨_, SqL.of hl1, _, at0, t0, rfl, _, SqL.of ht0, ?_⟩
        rw [ly0]
        exact ⟨by omega, by omega, by rw [show ((w : Int) + 1).toNat = w + 1 by omega]; exact r⟩) (fun j Q' q => by and_intros; exact q) fun L hL => ?_⟩
      refine ⟨L, rfl, List.replicate (w + 1) m, .inl (by rw [← map_rep]; exact SqL.of upd_same), by decide +kernel, by rw [List.length_replicate]; omega, big9 (by rw [Str.length_append]; show _ + (Str.join " " (List.replicate (w + 1) m)).length ≤ _; omega), k _ _ (s1.upd hL) (by rw [Str.length_append, Str.length_append]; show _ + (Str.join " " (List.replicate (w + 1) m)).length ≤ _; omega) (ref_tab (l := l0 ++ (Str.ofString " / ").cps.toList ++ (Str.join " " (List.replicate (w + 1) m)).cps.toList) (app_ne (str_ne (same_pos hm w))) ?_ fun _ hT => ?_)⟩
      · exact more_l (more_l ez _) _
      obtain ⟨L', w', _, _, _, h5, h6, h7, _⟩ := hT
      obtain ⟨d1, d2, d3⟩ := hcn
      rw [List.count_append, List.count_append, c2, show (Str.ofString " / ").cps.toList = [32, 47, 32] by decide +kernel] at h6
      rw [List.count_append, List.count_append, c1, show (Str.ofString " / ").cps.toList = [32, 47, 32] by decide +kernel] at h7
      rw [show List.count 47 [32, 47, 32] = 1 by decide] at h6
      rw [show List.count 32 [32, 47, 32] = 2 by decide] at h7
      have eL : L' = ls.length + 1 := by omega
      subst eL
      refine mul_no (a := ls.length + 1) (b := w' + 1) (c := w + 1) (by omega) ?_
      rw [← h7, Nat.add_mul ls.length 1, ← d2]
      omega
    subst hB
    refine tseq_open fun B hB => ?_
    and_intros
    refine ite2 (fun _ => ?_) fun _ => ?_
    · have e2 : (Str.ofString " / -").length = 4 := by decide +kernel
      refine ⟨big9 (by omega), k _ _ s1 (by rw [Str.length_append]; omega) (ref_tab (app_ne (by decide +kernel)) (more_l ez _) fun _ hT => ?_)⟩
      obtain ⟨L', w', _, _, _, h5, h6, h7, h8⟩ := hT
      obtain ⟨d1, d2, d3⟩ := hcn
      rw [List.count_append, show (Str.ofString " / -").cps.toList = [32, 47, 32, 45] by decide +kernel] at h6 h8
      rw [show List.count 47 [32, 47, 32, 45] = 1 by decide] at h6
      rw [show List.count 45 [32, 47, 32, 45] = 1 by decide] at h8
      omega
    subst hB
    refine tseq_open fun B hB => ?_
    and_intros
    refine ite2 (fun _ => ?_) fun _ => ?_
    · have e2 : (Str.ofString " -").length = 2 := by decide +kernel
      refine ⟨big9 (by omega), k _ _ s1 (by rw [Str.length_append]; omega) (ref_tab (app_ne (by decide +kernel)) (more_l ez _) fun _ hT => ?_)⟩
      obtain ⟨L', w', _, _, _, h5, h6, h7, h8⟩ := hT
      obtain ⟨d1, d2, d3⟩ := hcn
      rw [List.count_append, show (Str.ofString " -").cps.toList = [32, 45] by decide +kernel] at h6 h7 h8
      rw [show List.count 47 [32, 45] = 0 by decide] at h6
      rw [show List.count 32 [32, 45] = 1 by decide] at h7
      rw [show List.count 45 [32, 45] = 1 by decide] at h8
      rcases h8 with h8 | ⟨h8, h9⟩
      · omega
      · rw [← h8, h9] at h7
        omega
    subst hB
    refine tseq_open fun B hB => ?_
    and_intros
    refine ite2 (fun _ => ?_) fun _ => ?_
    · have e2 : (Str.ofString "table / ").length = 8 := by decide +kernel
      have sl := Txt.slice_le z0 (some 6) none
      refine ⟨big9 (by omega), big9 (by omega), k _ _ s1 (by rw [Str.length_append]; omega) (ref_tab (l := 47 :: 32 :: (Txt.slice z0 (some 6) none).cps.toList) (List.cons_ne_nil _ _) ?_ fun hG _ => ?_)⟩
      · rw [app_l, show (Str.ofString "table / ").cps.toList = (Str.ofString "table").cps.toList ++ [32, 47, 32] by decide +kernel, List.append_assoc]
        rfl
      · exact absurd (hG.1.2.2.1 rfl) (by decide)
    subst hB
    refine tseq_open fun B hB => ?_
    and_intros
    have wk0 : ∀ z ∈ y0.map sV, wordS z := fun z hz => .inl (sV_marks lo0.2 z hz)
    have sl0 := sum_len wk0
    have jl0 := join_len wk0
    rw [List.length_map] at sl0 jl0
    refine ite2 (fun _ => ?_) fun _ => ?_
    · have e2 : (Str.ofString " / / ").length = 5 := by decide +kernel
      refine ⟨big9 (by omega), rfl, _, SqL.of hl1, _, at0, t0, rfl, y0.map sV, .inl (by rw [sV_map lo0.2]; exact SqL.of ht0), by decide +kernel, by rw [List.length_map]; omega, big9 (by rw [Str.length_append]; show _ + (Str.join " " (y0.map sV)).length ≤ _; omega), k _ _ s1 (by rw [Str.length_append, Str.length_append]; show _ + (Str.join " " (y0.map sV)).length ≤ _; omega) (ref_tab (l := l0 ++ (Str.ofString " / / ").cps.toList ++ (Str.join " " (y0.map sV)).cps.toList) (by rw [List.append_assoc]; exact app_ne fun e => absurd (List.append_eq_nil_iff.mp e).1 (by decide +kernel)) (more_l (more_l ez _) _) fun hG _ => ?_)⟩
      have := hG.1
      rw [show (Str.ofString " / / ").cps.toList = [32] ++ 47 :: 32 :: 47 :: [32] by decide +kernel, ← List.append_assoc, List.append_assoc] at this
      exact acc_slash this
    subst hB
    and_intros
    refine ⟨rfl, tcomp_same (n := 13) (x := .str (Str.join " " (y0.map sV))) (by decide) (fun R r => by and_intros; exact ⟨by decide, by decide, r⟩) (fun j Q' q => by and_intros; exact ⟨rfl, _, SqL.of hl1, _, at0, t0, rfl, y0.map sV, .inl (by rw [sV_map lo0.2]; exact SqL.of ht0), by decide +kernel, by rw [List.length_map]; omega, q⟩) fun L hL => ?_⟩
    have wr : ∀ x ∈ List.replicate 13 y0, lineOk w x := fun x hx => by rw [(List.mem_replicate.mp hx).2]; exact lo0
    have et := lines_text (ls := List.replicate 13 y0) (w := w) (by simp) w1 wr
    rw [List.map_replicate, List.map_replicate] at et
    have le := congrArg Str.length et
    have tl13 := tab_len (ls := List.replicate 13 y0) (w := w) (by rw [List.length_replicate]; omega) w3 wr
    have el := text_l (tab_ne (ls := List.replicate 13 y0) (w := w) (by simp) wr)
    have lt13 : (textD (.table (List.replicate 13 y0) w)).length ≤ 600 := by
      have e1 : (textD (.table (List.replicate 13 y0) w)).length = (textD (.table (List.replicate 13 y0) w)).cps.toList.length := rfl
      rw [e1, el, List.length_append, List.length_cons]
      have t5 : (kindS (.table (List.replicate 13 y0) w)).cps.toList.length = 5 := (show (Str.ofString "table").cps.toList.length = 5 by decide +kernel)
      have e0 : (insD (.table (List.replicate 13 y0) w)).length = (insD (.table (List.replicate 13 y0) w)).cps.toList.length := rfl
      omega
    rw [Str.length_append] at le
    refine ⟨L, rfl, List.replicate 13 (Str.join " " (y0.map sV)), .inl (by rw [← map_rep]; exact SqL.of upd_same), by decide +kernel, ?_, big9 (by show (Str.ofString "table ").length + (Str.join (Str.ofString " / ") (List.replicate 13 (Str.join " " (y0.map sV)))).length ≤ _; omega), ?_⟩
    · have := sum_le (n := 100) (ws := List.replicate 13 (Str.join " " (y0.map sV))) fun z hz => by rw [(List.mem_replicate.mp hz).2]; omega
      rw [List.length_replicate] at this ⊢
      omega
    rw [show Str.ofString "table " ++ Str.join (Str.ofString " / ") (List.replicate 13 (Str.join " " (y0.map sV))) = textD (.table (List.replicate 13 y0) w) from et]
    refine k _ _ (s1.upd hL) (by omega) (ref_tab (str_ne (by have := tab_ne (ls := List.replicate 13 y0) (w := w) (by simp) wr; omega)) el fun _ hT => ?_)
    obtain ⟨L', w', _, h2, _, h5, h6, h7, h8⟩ := hT
    have := (tab_cnt (ls := List.replicate 13 y0) (w := w) (by simp) w1 wr).1
    rw [List.length_replicate] at this
    omega
theorem ok__law_wrong_forest {f : Addr} {fd : FuncData} (D : Def K mg "_law_wrong_forest" s__law_wrong_forest ["_law_nodes_here", "_law_cell", "_law_mark"] f fd) (T : Txt K mg ad) {f__law_forest_text : Addr} {fd__law_forest_text : FuncData} (G__law_forest_text : FnOk P w K mg base CX0 1 f__law_forest_text fd__law_forest_text ["_law_nodes_here"] sp__law_forest_text) (D__law_forest_text : Def K mg "_law_forest_text" s__law_forest_text ["_law_nodes_here"] f__law_forest_text fd__law_forest_text) : FnOk P w K mg base CX0 2 f fd ["_law_nodes_here", "_law_cell", "_law_mark"] sp__law_wrong_forest := by
  refine D.F.ok sc__law_wrong_forest (fun vs H Q E h => ?_) (fun cdv A outer s H vs Q E hr h => ?_)
  · obtain ⟨l, ys, ns, c, m, rfl, _⟩ := h
    rfl
  · obtain ⟨l, ys, ns, c, m, rfl, hl, hn, hd, h40, h0, hm, k⟩ := h
    refine ⟨_, (@pss_cons _ _ _ _ _ (ps_set (i := 3) sc__law_wrong_forest.nd rfl (Or.inl rfl) (pe_op op_add_str pe_str (pe_call G__law_forest_text (hr.mono (by decide)) rfl D__law_forest_text.mg D__law_forest_text.F.kp D__law_forest_text.b .nil pass0 (pa_cons (pv 0) pa_nil))))
      (@pss_cons _ _ _ _ _ (ps_set (i := 4) sc__law_wrong_forest.nd rfl (Or.inl rfl) (pe_op op_add pe_int (pe_op op_mod (pe_op op_fdiv (pv 1) pe_int) (pe_op op_sub (pe_callB call_len_str rfl T.len PySem.boot_len (pa_cons (pv 3) pa_nil)) pe_int))))
      (@pss_cons _ _ _ _ _ (ps_set (i := 5) sc__law_wrong_forest.nd rfl (Or.inl rfl) (pe_op op_mod (pv 1) pe_int))
      (@pss_cons _ _ _ _ _ (ps_if (pt_cmpR op_lt (pv 5) pe_int (nomark _))
      (@pss_one _ _ _ (ps_ret (pe_op op_add_str (pe_op op_add_str (pe_op op_add_str (pe_slice sl_str (pv 3) po_none (po_some (pv 4))) (pe_ix ix_str pe_str (pv 5) (fun _ _ => rfl))) (pe_ix ix_str pe_str (pe_op op_mod (pe_op op_fdiv (pv 1) pe_int) pe_int) (fun _ _ => rfl))) (pe_slice sl_str (pv 3) (po_some (pv 4)) po_none))))
      pss_nil)
      (@pss_cons _ _ _ _ _ (ps_if (pt_cmpR op_eq (pv 5) pe_int (nomark _))
      (@pss_one _ _ _ (ps_ret (pe_op op_add_str (pe_op op_add_str (pv 3) pe_str) (pv 2))))
      pss_nil)
      (@pss_cons _ _ _ _ _ (ps_if (pt_cmpR op_eq (pv 5) pe_int (nomark _))
      (@pss_one _ _ _ (ps_ret (pe_op op_add_str (pv 3) pe_str)))
      pss_nil)
      (@pss_cons _ _ _ _ _ (ps_if (pt_cmpR op_eq (pv 5) pe_int (nomark _))
      (@pss_one _ _ _ (ps_ret (pe_op op_add_str (pv 3) (pe_ix ix_list (pe_lst (pa_cons pe_str (pa_cons pe_str (pa_cons pe_str (pa_cons pe_str (pa_cons (pe_op op_add_str (pe_op op_add_str pe_str (pv 2)) pe_str) (pa_cons (pe_op op_add_str (pe_op op_add_str (pe_op op_add_str pe_str (pv 2)) pe_str) (pv 2)) pa_nil))))))) (pe_op op_mod (pe_op op_fdiv (pv 1) pe_int) pe_int) (fun _ _ => rfl)))))
      pss_nil)
      (@pss_cons _ _ _ _ _ (ps_if (pt_cmpR op_eq (pv 5) pe_int (nomark _))
      (@pss_one _ _ _ (ps_ret (pe_op op_add_str pe_str (pe_ix ix_list (pe_lst (pa_cons pe_str (pa_cons pe_str (pa_cons pe_str (pa_cons pe_str (pa_cons (pe_op op_add_str pe_str (pv 2)) (pa_cons (pe_op op_add_str (pe_op op_add_str pe_str (pv 2)) pe_str) pa_nil))))))) (pe_op op_mod (pe_op op_fdiv (pv 1) pe_int) pe_int) (fun _ _ => rfl)))))
      pss_nil)
      (@pss_cons _ _ _ _ _ (ps_if (pt_cmpR op_eq (pv 5) pe_int (nomark _))
      (@pss_one _ _ _ (ps_ret (pe_op op_add_str pe_str (pe_call G__law_forest_text (hr.mono (by decide)) rfl D__law_forest_text.mg D__law_forest_text.F.kp D__law_forest_text.b .nil pass0 (pa_cons (pe_comp (own := ["_law_k"]) (cap := ["_law_mark"]) (ix := [2]) rfl (show CompScope ["_law_nodes_here", "_law_cell", "_law_mark", "_law_text", "_law_at", "_law_way"] (defScope s__law_wrong_forest) _ ["_law_k"] ["_law_mark"] [2] from ⟨rfl, by decide +kernel, by decide +kernel, by decide +kernel, by decide +kernel, by decide +kernel, by decide +kernel, rfl, by decide +kernel⟩) (pi_range1 rfl T.range (pa_cons pe_int pa_nil)) (fun C s₀ H₀ ex pn => ⟨pg_name (i := 0) (show (["_law_k", "_law_mark"] : List Str).Nodup by decide +kernel) rfl (Or.inl rfl), pifs_nil, (pe_tup (pa_cons (pv 1) (pa_cons (pv 0) pa_nil)))⟩)) pa_nil)))))
      pss_nil)
      (@pss_one _ _ _ (ps_ret (pe_op op_add_str pe_str (pe_call G__law_forest_text (hr.mono (by decide)) rfl D__law_forest_text.mg D__law_forest_text.F.kp D__law_forest_text.b .nil pass0 (pa_cons (pe_comp (own := ["_law_k"]) (cap := ["_law_mark"]) (ix := [2]) rfl (show CompScope ["_law_nodes_here", "_law_cell", "_law_mark", "_law_text", "_law_at", "_law_way"] (defScope s__law_wrong_forest) _ ["_law_k"] ["_law_mark"] [2] from ⟨rfl, by decide +kernel, by decide +kernel, by decide +kernel, by decide +kernel, by decide +kernel, by decide +kernel, rfl, by decide +kernel⟩) (pi_range1 rfl T.range (pa_cons pe_int pa_nil)) (fun C s₀ H₀ ex pn => ⟨pg_name (i := 0) (show (["_law_k", "_law_mark"] : List Str).Nodup by decide +kernel) rfl (Or.inl rfl), pifs_nil, (pe_tup (pa_cons (pv 1) (pa_cons (pe_op op_mod (pv 0) pe_int) pa_nil)))⟩)) pa_nil)))))))))))))), ?_⟩
    refine tseq_open fun B hB => ?_
    and_intros
    have fo := FOk.of hd h40
    have il := ins_lenF fo
    have li : (insS ns).length = (insL ns).length := rfl
    have f7 : (Str.ofString "forest ").length = 7 := by decide +kernel
    refine ⟨l, ys, ns, rfl, hl, hn, fo, h0, _, rfl, big9 (by omega), ?_⟩
    obtain ⟨n0, r0, ens⟩ := List.exists_cons_of_ne_nil h0
    have hcn := ins_cnt (ens ▸ fo)
    rw [← ens] at hcn
    have l1 : 1 ≤ (insS ns).length := by
      have m1 := (mark_all (fo.2.1 n0 (by rw [ens]; exact List.mem_cons_self)).1).1
      have m1' : 1 ≤ n0.1.cps.toList.length := m1
      rw [ens]
      show 1 ≤ (n0.1.cps.toList ++ restF 0 (r0.map toW)).length
      rw [List.length_append]
      omega
    have hin := (ins_in (d := .forest ns) ⟨hd, h40⟩ (by show (insS ns).length ≠ 0; omega)).1
    have hin' : InG (insL ns) := hin
    have ez := for_app (insS ns)
    have lz : (Str.ofString "forest " ++ insS ns).length = 7 + (insL ns).length := by rw [Str.length_append, f7, li]
    generalize hz0 : Str.ofString "forest " ++ insS ns = z0 at *
    have ez' : z0.cps.toList = (Str.ofString "forest").cps.toList ++ 32 :: insL ns := ez
    clear hin
    generalize insL ns = l0 at *
    subst hB
    refine tseq_open fun B hB => ?_
    and_intros
    have hpos : (0 : Int) < (z0.length : Int) - 6 := by omega
    refine ⟨big9 (by omega), hpos, ?_⟩
    obtain ⟨s, hs, ls⟩ : ∃ s : Nat, (7 : Int) + c / 9 % ((z0.length : Int) - 6) = (((Str.ofString "forest").length + 1 + s : Nat) : Int) ∧ s ≤ l0.length := by
      have h1 := Int.emod_nonneg (c / 9) (Int.ne_of_gt hpos)
      have h2 := Int.emod_lt_of_pos (c / 9) hpos
      refine ⟨(c / 9 % ((z0.length : Int) - 6)).toNat, ?_, by omega⟩
      rw [show (Str.ofString "forest").length = 6 by decide +kernel]
      omega
    rw [hs]
    have pl := put_l ez' ls
    have sa := Txt.slice_le z0 none (some (((Str.ofString "forest").length + 1 + s : Nat) : Int))
    have sb := Txt.slice_le z0 (some (((Str.ofString "forest").length + 1 + s : Nat) : Int)) none
    have c1 : (Str.ofString "(").length = 1 := by decide +kernel
    have c2 : (Str.ofString ")").length = 1 := by decide +kernel
    have lm := (mark_all hm).2.1
    subst hB
    refine tseq_open fun B hB => ?_
    and_intros
    subst hB
    refine tseq_open fun B hB => ?_
    and_intros
    refine ite2 (fun h3 => ?_) fun h3 => ?_
    · obtain ⟨x, hx, hx'⟩ := pick3 (Int.emod_nonneg c (by decide)) h3
      obtain ⟨y, hy, hy'⟩ := pick3 (Int.emod_nonneg (c / 9) (by decide)) (Int.emod_lt_of_pos (c / 9) (show (0 : Int) < 3 by decide))
      have o1 : ∀ v : Nat, (⟨#[v]⟩ : Str).length = 1 := fun v => rfl
      have o3 : (Str.ofString "(),").length = 3 := by decide +kernel
      refine ⟨big9 (by omega), big9 (by omega), x, hx, big9 (by rw [o1]; omega), big9 (by omega), y, hy, big9 (by rw [Str.length_append, o1, o1]; omega), big9 (by omega), big9 (by rw [Str.length_append, Str.length_append, o1, o1]; omega), k _ H (Same.refl _) (by rw [Str.length_append, Str.length_append, Str.length_append, o1, o1]; omega) ?_⟩
      rw [Str.append_assoc (Txt.slice z0 none _)]
      refine ref_for (l := l0.take s ++ x :: y :: l0.drop s) (app_ne (List.cons_ne_nil _ _)) ?_ (pair_bad hx' hy' (by rw [List.take_append_drop]; exact hcn.2.1))
      have := pl (⟨#[x]⟩ ++ ⟨#[y]⟩)
      rw [show ((⟨#[x]⟩ : Str) ++ ⟨#[y]⟩).cps.toList = [x, y] by rw [app_l]; rfl] at this
      exact this
    subst hB
    refine tseq_open fun B hB => ?_
    and_intros
    refine ite2 (fun _ => ?_) fun _ => ?_
    · refine ⟨big9 (by omega), big9 (by rw [Str.length_append]; omega), k _ H (Same.refl _) (by rw [Str.length_append, Str.length_append]; omega) (ref_for (app_ne (mark_lt hm).2.1) (more_l (more_l ez' _) _) fun _ hF => ?_)⟩
      have := hF.2.1
      rw [List.count_append, List.count_append, List.count_append, List.count_append, cnt_mark (mark_lt hm).1 (nlt (c := 40)), cnt_mark (mark_lt hm).1 (nlt (c := 41)), show (Str.ofString "(").cps.toList = [40] by decide +kernel, hcn.2.1] at this
      rw [show List.count 40 [40] = 1 by decide, show List.count 41 [40] = 0 by decide] at this
      omega
    subst hB
    refine tseq_open fun B hB => ?_
    and_intros
    refine ite2 (fun _ => ?_) fun _ => ?_
    · refine ⟨big9 (by omega), k _ H (Same.refl _) (by rw [Str.length_append]; omega) (ref_for (app_ne (by decide +kernel)) (more_l ez' _) fun _ hF => ?_)⟩
      have := hF.2.1
      rw [List.count_append, List.count_append, show (Str.ofString ")").cps.toList = [41] by decide +kernel, hcn.2.1] at this
      rw [show List.count 40 [41] = 0 by decide, show List.count 41 [41] = 1 by decide] at this
      omega
    subst hB
    refine tseq_open fun B hB => ?_
    and_intros
    refine ite2 (fun _ => ?_) fun _ => ?_
    · have c3 : (Str.ofString ",)").length = 2 := by decide +kernel
      refine ⟨big9 (by omega), big9 (by rw [Str.length_append]; omega), big9 (by omega), big9 (by rw [Str.length_append]; omega), big9 (by rw [Str.length_append, Str.length_append]; omega), by decide, fun p hp => ?_⟩
      have s2 := Same.put (o := .lst [V.str (Str.ofString "()"), V.str (Str.ofString ","), V.str (Str.ofString ",()"), V.str (Str.ofString "(,)"), V.str (Str.ofString "(" ++ m ++ Str.ofString ",)"), V.str (Str.ofString "(" ++ m ++ Str.ofString ")" ++ m)]) hp
      have f2 : (upd H p (.lst [V.str (Str.ofString "()"), V.str (Str.ofString ","), V.str (Str.ofString ",()"), V.str (Str.ofString "(,)"), V.str (Str.ofString "(" ++ m ++ Str.ofString ",)"), V.str (Str.ofString "(" ++ m ++ Str.ofString ")" ++ m)])) p = some (.lst [V.str (Str.ofString "()"), V.str (Str.ofString ","), V.str (Str.ofString ",()"), V.str (Str.ofString "(,)"), V.str (Str.ofString "(" ++ m ++ Str.ofString ",)"), V.str (Str.ofString "(" ++ m ++ Str.ofString ")" ++ m)]) := upd_same
      generalize (upd H p (.lst [V.str (Str.ofString "()"), V.str (Str.ofString ","), V.str (Str.ofString ",()"), V.str (Str.ofString "(,)"), V.str (Str.ofString "(" ++ m ++ Str.ofString ",)"), V.str (Str.ofString "(" ++ m ++ Str.ofString ")" ++ m)])) = H2 at s2 f2 ⊢
      obtain ⟨x, hx, hat⟩ := pick_mod (xs := [V.str (Str.ofString "()"), V.str (Str.ofString ","), V.str (Str.ofString ",()"), V.str (Str.ofString "(,)"), V.str (Str.ofString "(" ++ m ++ Str.ofString ",)"), V.str (Str.ofString "(" ++ m ++ Str.ofString ")" ++ m)]) (j := c / 9) 6 rfl (by decide)
      refine ⟨_, SqL.of f2, x, hat, ?_⟩
      have fin : ∀ y : Str, y.length ≤ 20 → y.cps.toList ≠ [] → (InG (l0 ++ y.cps.toList) → False) → ∃ x, V.str y = V.str x ∧ z0.length + x.length ≤ sizeLine ∧ Q (V.str (z0 ++ x)) H2 := fun y ly yn hy =>
        ⟨y, rfl, big9 (by omega), k _ H2 s2 (by rw [Str.length_append]; omega) (ref_for (app_ne yn) (more_l ez' y) fun hg _ => hy hg)⟩
      obtain ⟨m0, mr, em⟩ := List.exists_cons_of_ne_nil (mark_lt hm).2.1
      have lm0 : 97 ≤ m0 ∧ m0 ≤ 122 := (mark_lt hm).1 m0 (by rw [em]; exact List.mem_cons_self)
      have two : ∀ {a b : Nat} {x y : List Nat}, ¬ sok a b → InG (l0 ++ (x ++ a :: b :: y)) → False := fun hn hg => by
        have := hg.1
        rw [← List.append_assoc] at this
        exact hn (acc_two this)
      simp only [List.mem_cons, List.not_mem_nil, or_false] at hx
      rcases hx with rfl | rfl | rfl | rfl | rfl | rfl
      · refine fin _ (by decide +kernel) (by decide +kernel) fun hg => ?_
        rw [show (Str.ofString "()").cps.toList = [] ++ 40 :: 41 :: [] by decide +kernel] at hg
        exact two (by unfold sok lt; omega) hg
      · refine fin _ (by decide +kernel) (by decide +kernel) fun hg => ?_
        have := hg.2
        rw [stP_app, show (Str.ofString ",").cps.toList = [44] by decide +kernel] at this
        exact absurd this (show ¬ endOk 44 by unfold endOk lt; omega)
      · refine fin _ (by decide +kernel) (by decide +kernel) fun hg => ?_
        rw [show (Str.ofString ",()").cps.toList = [44] ++ 40 :: 41 :: [] by decide +kernel] at hg
        exact two (by unfold sok lt; omega) hg
      · refine fin _ (by decide +kernel) (by decide +kernel) fun hg => ?_
        rw [show (Str.ofString "(,)").cps.toList = [] ++ 40 :: 44 :: [41] by decide +kernel] at hg
        exact two (by unfold sok lt; omega) hg
      · have ey : (Str.ofString "(" ++ m ++ Str.ofString ",)").cps.toList = (40 :: m.cps.toList) ++ 44 :: 41 :: [] := by
          rw [app_l, app_l, show (Str.ofString ",)").cps.toList = [44, 41] by decide +kernel]
          rfl
        refine fin _ (by rw [Str.length_append, Str.length_append]; omega) (by rw [ey]; simp) fun hg => ?_
        rw [ey] at hg
        exact two (by unfold sok lt; omega) hg
      · have ey : (Str.ofString "(" ++ m ++ Str.ofString ")" ++ m).cps.toList = (40 :: m.cps.toList) ++ 41 :: m0 :: mr := by
          rw [app_l, app_l, app_l, show (Str.ofString ")").cps.toList = [41] by decide +kernel, em, List.append_assoc]
          rfl
        refine fin _ (by rw [Str.length_append, Str.length_append, Str.length_append]; omega) (by rw [ey]; simp) fun hg => ?_
        rw [ey] at hg
        exact two (by unfold sok lt; omega) hg
    subst hB
    refine tseq_open fun B hB => ?_
    and_intros
    refine ite2 (fun _ => ?_) fun _ => ?_
    · have c4 : (Str.ofString ",").length = 1 := by decide +kernel
      refine ⟨big9 (by omega), big9 (by omega), big9 (by rw [Str.length_append]; omega), by decide, fun p hp => ?_⟩
      have s2 := Same.put (o := .lst [V.str (Str.ofString "("), V.str (Str.ofString ","), V.str (Str.ofString ")"), V.str (Str.ofString "()"), V.str (Str.ofString "," ++ m), V.str (Str.ofString "(" ++ m ++ Str.ofString ")")]) hp
      have f2 : (upd H p (.lst [V.str (Str.ofString "("), V.str (Str.ofString ","), V.str (Str.ofString ")"), V.str (Str.ofString "()"), V.str (Str.ofString "," ++ m), V.str (Str.ofString "(" ++ m ++ Str.ofString ")")])) p = some (.lst [V.str (Str.ofString "("), V.str (Str.ofString ","), V.str (Str.ofString ")"), V.str (Str.ofString "()"), V.str (Str.ofString "," ++ m), V.str (Str.ofString "(" ++ m ++ Str.ofString ")")]) := upd_same
      generalize (upd H p (.lst [V.str (Str.ofString "("), V.str (Str.ofString ","), V.str (Str.ofString ")"), V.str (Str.ofString "()"), V.str (Str.ofString "," ++ m), V.str (Str.ofString "(" ++ m ++ Str.ofString ")")])) = H2 at s2 f2 ⊢
      obtain ⟨x, hx, hat⟩ := pick_mod (xs := [V.str (Str.ofString "("), V.str (Str.ofString ","), V.str (Str.ofString ")"), V.str (Str.ofString "()"), V.str (Str.ofString "," ++ m), V.str (Str.ofString "(" ++ m ++ Str.ofString ")")]) (j := c / 9) 6 rfl (by decide)
      refine ⟨_, SqL.of f2, x, hat, ?_⟩
      have fin : ∀ (y : Str) (v : Nat) (r : List Nat), y.length ≤ 20 → y.cps.toList = v :: r → (v = 40 ∨ v = 41 ∨ v = 44) → ∃ x, V.str y = V.str x ∧ (Str.ofString "forest ").length + x.length ≤ sizeLine ∧ Q (V.str (Str.ofString "forest " ++ x)) H2 := fun y v r ly ey hv =>
        ⟨y, rfl, big9 (by omega), k _ H2 s2 (by rw [Str.length_append]; omega) (ref_for (by rw [ey]; simp) (for_app y) fun hg _ => by rw [ey] at hg; exact first_bad hv hg)⟩
      simp only [List.mem_cons, List.not_mem_nil, or_false] at hx
      rcases hx with rfl | rfl | rfl | rfl | rfl | rfl
      · exact fin _ 40 [] (by decide +kernel) (by decide +kernel) (.inl rfl)
      · exact fin _ 44 [] (by decide +kernel) (by decide +kernel) (.inr (.inr rfl))
      · exact fin _ 41 [] (by decide +kernel) (by decide +kernel) (.inr (.inl rfl))
      · exact fin _ 40 [41] (by decide +kernel) (by decide +kernel) (.inl rfl)
      · exact fin _ 44 m.cps.toList (by rw [Str.length_append]; omega) (by rw [app_l]; rfl) (.inr (.inr rfl))
      · exact fin _ 40 (m.cps.toList ++ [41]) (by rw [Str.length_append, Str.length_append]; omega) (by rw [app_l, app_l]; rfl) (.inl rfl)
    subst hB
    refine tseq_open fun B hB => ?_
    and_intros
    refine ite2 (fun _ => ?_) fun _ => ?_
    · refine tcomp_nodes (m := m) (g := fun k => k) (n := 14) (by decide) (fun R r => by and_intros; exact ⟨by decide, by decide, r⟩) (fun j H' Q' q => by and_intros; exact ⟨by decide, fun p hp => by rw [Int.zero_add]; exact q p hp⟩) fun L ys H' s' hL hN => ?_
      have fo2 := nds_ok hm (g := fun k => k) (fun k => Nat.le_refl _) rfl (n := 14) (by decide) (fun k hk => by show k ≤ 13; omega)
      have il2 := ins_lenF fo2
      have en : ndsL m (fun k => k) 14 = (m, ((0 : Nat) : Int)) :: (List.range' 1 13).map fun k => ((m, ((k : Nat) : Int)) : Nd) := rfl
      have c2 := ins_cnt (en ▸ fo2)
      have li2 : (insS (ndsL m (fun k => k) 14)).length = (insL (ndsL m (fun k => k) 14)).length := rfl
      refine ⟨L, ys, _, rfl, hL, hN, fo2, by rw [en]; simp, _, rfl, big9 (by omega), k _ H' s' (by rw [Str.length_append]; omega) (ref_for (l := insL (ndsL m (fun k => k) 14)) ?_ (for_app _) fun _ hF => ?_)⟩
      · rw [en]
        exact app_ne2 (mark_lt hm).2.1
      have h44 : (insL (ndsL m (fun k => k) 14)).count 44 = 0 := by
        rw [en]
        show (m.cps.toList ++ restF 0 (((List.range' (0 + 1) 13).map fun k => ((m, ((k : Nat) : Int)) : Nd)).map toW)).count 44 = 0
        rw [List.count_append, chain_cnt hm 13 0, cnt_mark (mark_lt hm).1 (nlt (c := 44))]
      have h12 := hF.2.2.2 h44
      rw [← en, List.length_map, List.length_range'] at c2
      omega
    subst hB
    and_intros
    refine tcomp_nodes (m := m) (g := fun k => k % 2) (n := 41) (by decide) (fun R r => by and_intros; exact ⟨by decide, by decide, r⟩) (fun j H' Q' q => by and_intros; exact ⟨by decide, fun p hp => by rw [Int.zero_add, show (j : Int) % 2 = ((j % 2 : Nat) : Int) by omega]; exact q p hp⟩) fun L ys H' s' hL hN => ?_
    have fo2 := nds_ok hm (g := fun k => k % 2) (fun k => by show (k + 1) % 2 ≤ k % 2 + 1; omega) rfl (n := 41) (by decide) (fun k hk => by show k % 2 ≤ 13; omega)
    have il2 := ins_lenF fo2
    have en : ndsL m (fun k => k % 2) 41 = (m, ((0 : Nat) : Int)) :: (List.range' 1 40).map fun k => ((m, ((k % 2 : Nat) : Int)) : Nd) := rfl
    have c2 := ins_cnt (en ▸ fo2)
    have li2 : (insS (ndsL m (fun k => k % 2) 41)).length = (insL (ndsL m (fun k => k % 2) 41)).length := rfl
    refine ⟨L, ys, _, rfl, hL, hN, fo2, by rw [en]; simp, _, rfl, big9 (by omega), k _ H' s' (by rw [Str.length_append]; omega) (ref_for (l := insL (ndsL m (fun k => k % 2) 41)) ?_ (for_app _) fun _ hF => ?_)⟩
    · rw [en]
      exact app_ne2 (mark_lt hm).2.1
    have h39 := hF.2.2.1
    rw [← en, List.length_map, List.length_range'] at c2
    omega
theorem ok_law {f : Addr} {fd : FuncData} (D : Def K mg "law" s_law ["_law_script"] f fd) (T : Txt K mg ad) {f__law_cell_at : Addr} {fd__law_cell_at : FuncData} (G__law_cell_at : FnOk P w K mg base CX0 1 f__law_cell_at fd__law_cell_at ["_law_script", "_law_k"] (sp__law_cell_at K)) {f__law_marks : Addr} {fd__law_marks : FuncData} (G__law_marks : FnOk P w K mg base CX0 1 f__law_marks fd__law_marks ["_law_cell", "_law_many"] sp__law_marks) {f__law_how_many : Addr} {fd__law_how_many : FuncData} (G__law_how_many : FnOk P w K mg base CX0 1 f__law_how_many fd__law_how_many ["_law_number"] sp__law_how_many) {f__law_pick : Addr} {fd__law_pick : FuncData} (G__law_pick : FnOk P w K mg base CX0 1 f__law_pick fd__law_pick ["_law_cell", "_law_marks_here"] sp__law_pick) {f__law_lines_text : Addr} {fd__law_lines_text : FuncData} (G__law_lines_text : FnOk P w K mg base CX0 1 f__law_lines_text fd__law_lines_text ["_law_lines"] sp__law_lines_text) {f__law_wrong_table : Addr} {fd__law_wrong_table : FuncData} (G__law_wrong_table : FnOk P w K mg base CX0 2 f__law_wrong_table fd__law_wrong_table ["_law_lines", "_law_cell", "_law_mark"] sp__law_wrong_table) {f__law_nodes : Addr} {fd__law_nodes : FuncData} (G__law_nodes : FnOk P w K mg base CX0 2 f__law_nodes fd__law_nodes ["_law_cells", "_law_marks_here"] sp__law_nodes) {f__law_forest_text : Addr} {fd__law_forest_text : FuncData} (G__law_forest_text : FnOk P w K mg base CX0 1 f__law_forest_text fd__law_forest_text ["_law_nodes_here"] sp__law_forest_text) {f__law_wrong_forest : Addr} {fd__law_wrong_forest : FuncData} (G__law_wrong_forest : FnOk P w K mg base CX0 2 f__law_wrong_forest fd__law_wrong_forest ["_law_nodes_here", "_law_cell", "_law_mark"] sp__law_wrong_forest) {f__law_wrong_by_any : Addr} {fd__law_wrong_by_any : FuncData} (G__law_wrong_by_any : FnOk P w K mg base CX0 1 f__law_wrong_by_any fd__law_wrong_by_any ["_law_text", "_law_cell", "_law_mark"] (sp__law_wrong_by_any K)) {f__law_refused : Addr} {fd__law_refused : FuncData} (G__law_refused : FnOk P w K mg base CX0 8 f__law_refused fd__law_refused ["_law_text"] (sp__law_refused K)) {f_read_thing : Addr} {fd_read_thing : FuncData} (G_read_thing : FnOk P w K mg base (CX3 P w) 7 f_read_thing fd_read_thing ["text"] (sp_read_thing K ad)) {f_Row_form : Addr} {fd_Row_form : FuncData} (G_Row_form : FnOk P w K mg base CX0 1 f_Row_form fd_Row_form ["self"] (sp_Row_form ad)) {f_Forest_form : Addr} {fd_Forest_form : FuncData} (G_Forest_form : FnOk P w K mg base CX0 1 f_Forest_form fd_Forest_form ["self"] (sp_form ad)) {f_Table_form : Addr} {fd_Table_form : FuncData} (G_Table_form : FnOk P w K mg base CX0 1 f_Table_form fd_Table_form ["self"] (sp_Table_form ad)) (D__law_cell_at : Def K mg "_law_cell_at" s__law_cell_at ["_law_script", "_law_k"] f__law_cell_at fd__law_cell_at) (D__law_marks : Def K mg "_law_marks" s__law_marks ["_law_cell", "_law_many"] f__law_marks fd__law_marks) (D__law_how_many : Def K mg "_law_how_many" s__law_how_many ["_law_number"] f__law_how_many fd__law_how_many) (D__law_pick : Def K mg "_law_pick" s__law_pick ["_law_cell", "_law_marks_here"] f__law_pick fd__law_pick) (D__law_lines_text : Def K mg "_law_lines_text" s__law_lines_text ["_law_lines"] f__law_lines_text fd__law_lines_text) (D__law_wrong_table : Def K mg "_law_wrong_table" s__law_wrong_table ["_law_lines", "_law_cell", "_law_mark"] f__law_wrong_table fd__law_wrong_table) (D__law_nodes : Def K mg "_law_nodes" s__law_nodes ["_law_cells", "_law_marks_here"] f__law_nodes fd__law_nodes) (D__law_forest_text : Def K mg "_law_forest_text" s__law_forest_text ["_law_nodes_here"] f__law_forest_text fd__law_forest_text) (D__law_wrong_forest : Def K mg "_law_wrong_forest" s__law_wrong_forest ["_law_nodes_here", "_law_cell", "_law_mark"] f__law_wrong_forest fd__law_wrong_forest) (D__law_wrong_by_any : Def K mg "_law_wrong_by_any" s__law_wrong_by_any ["_law_text", "_law_cell", "_law_mark"] f__law_wrong_by_any fd__law_wrong_by_any) (D__law_refused : Def K mg "_law_refused" s__law_refused ["_law_text"] f__law_refused fd__law_refused) (D_read_thing : Def K mg "read_thing" s_read_thing ["text"] f_read_thing fd_read_thing) (B_Row_form : Binds K fd_Row_form ["self"] []) (B_Forest_form : Binds K fd_Forest_form ["self"] []) (B_Table_form : Binds K fd_Table_form ["self"] []) (ME_Row_form : Meth K ad.Row "form" f_Row_form) (ME_Forest_form : Meth K ad.Forest "form" f_Forest_form) (ME_Table_form : Meth K ad.Table "form" f_Table_form) : FnOk P w K mg base CX0 9 f fd ["_law_script"] (sp_law K) := by
  refine D.F.ok sc_law (fun vs H Q E h => ?_) (fun cdv A outer s H vs Q E hr h => ?_)
  · obtain ⟨a, ns, rfl, _⟩ := h
    rfl
  · obtain ⟨a, ns, rfl, hS, hn, k⟩ := h
    have hu := hr.units
    refine ⟨_, (@pss_cons _ _ _ _ _ (ps_set (i := 1) sc_law.nd rfl (Or.inl rfl) (pe_call G__law_cell_at (hr.mono (by decide)) rfl D__law_cell_at.mg D__law_cell_at.F.kp D__law_cell_at.b .nil pass0 (pa_cons (pv 0) (pa_cons pe_int pa_nil))))
      (@pss_cons _ _ _ _ _ (ps_set (i := 2) sc_law.nd rfl (Or.inr rfl) (pe_call G__law_marks (hr.mono (by decide)) rfl D__law_marks.mg D__law_marks.F.kp D__law_marks.b .nil pass0 (pa_cons (pe_call G__law_cell_at (hr.mono (by decide)) rfl D__law_cell_at.mg D__law_cell_at.F.kp D__law_cell_at.b .nil pass0 (pa_cons (pv 0) (pa_cons pe_int pa_nil))) (pa_cons (pe_call G__law_how_many (hr.mono (by decide)) rfl D__law_how_many.mg D__law_how_many.F.kp D__law_how_many.b .nil pass0 (pa_cons (pe_op op_fdiv (pv 1) pe_int) pa_nil)) pa_nil))))
      (@pss_cons _ _ _ _ _ (ps_if (pt_cmpR op_eq (pe_op op_mod (pe_op op_fdiv (pv 1) pe_int) pe_int) pe_int (nomark _))
      (@pss_one _ _ _ (ps_set (i := 2) sc_law.nd rfl (Or.inr rfl) (pe_slice sl_list (pe_lst (pa_cons pe_str (pa_cons pe_str (pa_cons pe_str (pa_cons pe_str (pa_cons pe_str (pa_cons pe_str pa_nil))))))) po_none (po_some (pe_callB call_lenL rfl T.len PySem.boot_len (pa_cons (pv 2) pa_nil))))))
      pss_nil)
      (@pss_cons _ _ _ _ _ (ps_set (i := 3) sc_law.nd rfl (Or.inl rfl) (pe_op op_cat (pe_slice sl_list (pv 0) (po_some pe_int) (po_some pe_int)) (pe_lst (pa_cons (pv 1) pa_nil))))
      (@pss_cons _ _ _ _ _ (ps_set (i := 4) sc_law.nd rfl (Or.inr rfl) (pe_comp (own := ["_law_cell"]) (cap := ["_law_marks_here"]) (ix := [2]) rfl (show CompScope ["_law_script", "_law_seed", "_law_marks_here", "_law_cells", "_law_row", "_law_text", "_law_form", "_law_cell", "_law_wrong", "_law_wide", "_law_lines", "_law_nodes_here"] (defScope s_law) _ ["_law_cell"] ["_law_marks_here"] [2] from ⟨rfl, by decide +kernel, by decide +kernel, by decide +kernel, by decide +kernel, by decide +kernel, by decide +kernel, rfl, by decide +kernel⟩) (pi_list (pv 3)) (fun C s₀ H₀ ex pn => ⟨pg_name (i := 0) (show (["_law_cell", "_law_marks_here"] : List Str).Nodup by decide +kernel) rfl (Or.inl rfl), pifs_nil, (pe_call G__law_pick (hr.mono (by decide)) rfl D__law_pick.mg D__law_pick.F.kp D__law_pick.b .nil pass0 (pa_cons (pv 0) (pa_cons (pv 1) pa_nil)))⟩)))
      (@pss_cons _ _ _ _ _ (ps_set (i := 5) sc_law.nd rfl (Or.inl rfl) (pe_bm PySem.F.plainAttrs_str PySem.F.slot_str_join PySem.F.type_str_join mt_join pe_str (pa_cons (pe_op op_cat (pe_lst (pa_cons pe_str pa_nil)) (pv 4)) pa_nil)))
      (@pss_cons _ _ _ _ _ (ps_set (i := 6) sc_law.nd rfl (Or.inl rfl) (pe_tup (pa_cons pe_str (pa_cons (pe_callTy call_tupL rfl T.tuple PyProof.Rows.boot_tuple (pa_cons (pv 4) pa_nil)) pa_nil))))
      (@pss_cons _ _ _ _ _ (ps_set (i := 7) sc_law.nd rfl (Or.inl rfl) (pe_call G__law_cell_at (hr.mono (by decide)) rfl D__law_cell_at.mg D__law_cell_at.F.kp D__law_cell_at.b .nil pass0 (pa_cons (pv 0) (pa_cons pe_int pa_nil))))
      (@pss_cons _ _ _ _ _ (ps_set (i := 8) sc_law.nd rfl (Or.inl rfl) (pe_bm PySem.F.plainAttrs_str PySem.F.slot_str_join PySem.F.type_str_join mt_join pe_str (pa_cons (pe_op op_cat (pe_op op_cat (pe_lst (pa_cons pe_str pa_nil)) (pv 4)) (pe_comp (own := ["_law_k"]) (cap := ["_law_marks_here"]) (ix := [2]) rfl (show CompScope ["_law_script", "_law_seed", "_law_marks_here", "_law_cells", "_law_row", "_law_text", "_law_form", "_law_cell", "_law_wrong", "_law_wide", "_law_lines", "_law_nodes_here"] (defScope s_law) _ ["_law_k"] ["_law_marks_here"] [2] from ⟨rfl, by decide +kernel, by decide +kernel, by decide +kernel, by decide +kernel, by decide +kernel, by decide +kernel, rfl, by decide +kernel⟩) (pi_range1 rfl T.range (pa_cons (pe_op op_sub pe_int (pe_callB call_lenL rfl T.len PySem.boot_len (pa_cons (pv 4) pa_nil))) pa_nil)) (fun C s₀ H₀ ex pn => ⟨pg_name (i := 0) (show (["_law_k", "_law_marks_here"] : List Str).Nodup by decide +kernel) rfl (Or.inl rfl), pifs_nil, (pe_ix (show IxR _ (rIxL K) from ix_list) (pv 1) pe_int (fun _ _ => rfl))⟩))) pa_nil)))
      (@pss_cons _ _ _ _ _ (ps_if (pt_cmpR op_eq (pe_op op_mod (pv 1) pe_int) pe_int (nomark _))
      (@pss_cons _ _ _ _ _ (ps_set (i := 9) sc_law.nd rfl (Or.inr rfl) (pe_op op_add pe_int (pe_op op_mod (pe_op op_fdiv (pv 7) pe_int) pe_int)))
      (@pss_cons _ _ _ _ _ (ps_setC (i := 10) rfl sc_law.nd rfl (Or.inl rfl) (show CompScope ["_law_script", "_law_seed", "_law_marks_here", "_law_cells", "_law_row", "_law_text", "_law_form", "_law_cell", "_law_wrong", "_law_wide", "_law_lines", "_law_nodes_here"] (defScope s_law) _ ["_law_k"] ["_law_row", "_law_wide"] [4, 9] from ⟨rfl, by decide +kernel, by decide +kernel, by decide +kernel, by decide +kernel, by decide +kernel, by decide +kernel, rfl, by decide +kernel⟩) (pi_range3e rfl T.range (pa_cons pe_int (pa_cons (pe_op op_add (pe_op op_sub (pe_callB call_lenL rfl T.len PySem.boot_len (pa_cons (pv 4) pa_nil)) (pv 9)) pe_int) (pa_cons (pv 9) pa_nil)))) (fun C s₀ H₀ ex pn => ⟨pg_name (i := 0) (show (["_law_k", "_law_row", "_law_wide"] : List Str).Nodup by decide +kernel) rfl (Or.inl rfl), pifs_nil, (pe_slice (show SlR _ (rSlL K) from sl_list) (pv 1) (po_some (pv 0)) (po_some (pe_op op_add (pv 0) (pv 2))))⟩))
      (@pss_cons _ _ _ _ _ (ps_if (pt_cmpR op_eq (pe_callB call_lenL rfl T.len PySem.boot_len (pa_cons (pv 10) pa_nil)) pe_int (nomark _))
      (@pss_one _ _ _ (ps_set (i := 10) sc_law.nd rfl (Or.inl rfl) (pe_lst (pa_cons (pv 4) pa_nil))))
      pss_nil)
      (@pss_cons _ _ _ _ _ (ps_set (i := 5) sc_law.nd rfl (Or.inl rfl) (pe_call G__law_lines_text (hr.mono (by decide)) rfl D__law_lines_text.mg D__law_lines_text.F.kp D__law_lines_text.b .nil pass0 (pa_cons (pv 10) pa_nil)))
      (@pss_cons _ _ _ _ _ (ps_set (i := 6) sc_law.nd rfl (Or.inl rfl) (pe_tup (pa_cons pe_str (pa_cons (pe_callB call_lenL rfl T.len PySem.boot_len (pa_cons (pe_ix ix_list (pv 10) pe_int (fun _ _ => rfl)) pa_nil)) (pa_cons (pe_callTy call_tupL rfl T.tuple PyProof.Rows.boot_tuple (pa_cons (pe_comp (own := ["_law_line"]) (cap := []) (ix := []) rfl (show CompScope ["_law_script", "_law_seed", "_law_marks_here", "_law_cells", "_law_row", "_law_text", "_law_form", "_law_cell", "_law_wrong", "_law_wide", "_law_lines", "_law_nodes_here"] (defScope s_law) _ ["_law_line"] [] [] from ⟨rfl, by decide +kernel, by decide +kernel, by decide +kernel, by decide +kernel, by decide +kernel, by decide +kernel, rfl, by decide +kernel⟩) (pi_list (pv 10)) (fun C s₀ H₀ ex pn => ⟨pg_name (i := 0) (show (["_law_line"] : List Str).Nodup by decide +kernel) rfl (Or.inl rfl), pifs_nil, (pe_callTy (show CallR _ (.type "tuple") (rTupL K) from call_tupL) rfl T.tuple PyProof.Rows.boot_tuple (pa_cons (pv 0) pa_nil))⟩)) pa_nil)) pa_nil)))))
      (@pss_one _ _ _ (ps_set (i := 8) sc_law.nd rfl (Or.inl rfl) (pe_call G__law_wrong_table (hr.mono (by decide)) rfl D__law_wrong_table.mg D__law_wrong_table.F.kp D__law_wrong_table.b .nil pass0 (pa_cons (pv 10) (pa_cons (pv 7) (pa_cons (pe_ix ix_list (pv 2) pe_int (fun _ _ => rfl)) pa_nil)))))))))))
      pss_nil)
      (@pss_cons _ _ _ _ _ (ps_if (pt_cmpR op_eq (pe_op op_mod (pv 1) pe_int) pe_int (nomark _))
      (@pss_cons _ _ _ _ _ (ps_set (i := 11) sc_law.nd rfl (Or.inl rfl) (pe_call G__law_nodes (hr.mono (by decide)) rfl D__law_nodes.mg D__law_nodes.F.kp D__law_nodes.b .nil pass0 (pa_cons (pv 3) (pa_cons (pv 2) pa_nil))))
      (@pss_cons _ _ _ _ _ (ps_set (i := 5) sc_law.nd rfl (Or.inl rfl) (pe_op op_add_str pe_str (pe_call G__law_forest_text (hr.mono (by decide)) rfl D__law_forest_text.mg D__law_forest_text.F.kp D__law_forest_text.b .nil pass0 (pa_cons (pv 11) pa_nil))))
      (@pss_cons _ _ _ _ _ (ps_set (i := 6) sc_law.nd rfl (Or.inl rfl) (pe_tup (pa_cons pe_str (pa_cons (pe_callTy call_tupL rfl T.tuple PyProof.Rows.boot_tuple (pa_cons (pv 11) pa_nil)) pa_nil))))
      (@pss_one _ _ _ (ps_set (i := 8) sc_law.nd rfl (Or.inl rfl) (pe_call G__law_wrong_forest (hr.mono (by decide)) rfl D__law_wrong_forest.mg D__law_wrong_forest.F.kp D__law_wrong_forest.b .nil pass0 (pa_cons (pv 11) (pa_cons (pv 7) (pa_cons (pe_ix ix_list (pv 2) pe_int (fun _ _ => rfl)) pa_nil)))))))))
      pss_nil)
      (@pss_cons _ _ _ _ _ (ps_if (pt_cmpR op_eq (pe_op op_mod (pe_op op_fdiv (pv 1) pe_int) pe_int) pe_int (nomark _))
      (@pss_one _ _ _ (ps_set (i := 8) sc_law.nd rfl (Or.inl rfl) (pe_call G__law_wrong_by_any (hr.mono (by decide)) rfl D__law_wrong_by_any.mg D__law_wrong_by_any.F.kp D__law_wrong_by_any.b .nil pass0 (pa_cons (pv 5) (pa_cons (pv 7) (pa_cons (pe_ix ix_list (pv 2) pe_int (fun _ _ => rfl)) pa_nil))))))
      pss_nil)
      (@pss_cons _ _ _ _ _ (ps_if (pt_not (pt_val (pe_call G__law_refused (hr.mono (by decide)) rfl D__law_refused.mg D__law_refused.F.kp D__law_refused.b .nil pass0 (pa_cons (pv 8) pa_nil))))
      (@pss_one _ _ _ (ps_ret pe_bl))
      pss_nil)
      (@pss_one _ _ _ (ps_ret (pe_cmpR (op_eqD hu) (pe_either (pe_either (pe_meth0 (pe_call G_read_thing (hr.mono (by decide)) rfl D_read_thing.mg D_read_thing.F.kp D_read_thing.b .nil passE (pa_cons (pv 5) pa_nil)) T.cl_Row ME_Row_form G_Row_form (hr.mono (by decide)) B_Row_form .nil pass0) (pe_meth0 (pe_call G_read_thing (hr.mono (by decide)) rfl D_read_thing.mg D_read_thing.F.kp D_read_thing.b .nil passE (pa_cons (pv 5) pa_nil)) T.cl_Forest ME_Forest_form G_Forest_form (hr.mono (by decide)) B_Forest_form .nil pass0)) (pe_meth0 (pe_call G_read_thing (hr.mono (by decide)) rfl D_read_thing.mg D_read_thing.F.kp D_read_thing.b .nil passE (pa_cons (pv 5) pa_nil)) T.cl_Table ME_Table_form G_Table_form (hr.mono (by decide)) B_Table_form .nil pass0)) (pv 6) (nomark _))))))))))))))))), ?_⟩
    refine tseq_open fun B hB => ?_
    and_intros
    refine ⟨a, ns, 0, rfl, hS, ?_⟩
    generalize cellF ns 0 = sd
    subst hB
    refine tseq_open fun B hB => ?_
    and_intros
    refine ⟨a, ns, 1, rfl, hS, _, rfl, fun m m1 m25 => ⟨_, m, rfl, by omega, m25, fun zs l1 H1 hzl hzm s1 hl1 => ?_⟩⟩
    subst hB
    refine tseq_open fun B hB => ?_
    have hz0 : 0 < zs.length := by omega
    have main : ∀ (H2 : Hp) (l2 : Addr) (ws : List Str), Same H H2 → H2 l2 = some (.lst (ws.map V.str)) → 0 < ws.length → (∀ z ∈ ws, markS z = true) → B ({ nx := fun _ H' => Q .non H', rt := Q } : Ends) [some (.ref a), some (.int sd), some (.ref l2), none, none, none, none, none, none, none, none, none] H2 := fun H2 l2 ws s2 hl2 hw0 hwm => by
      have S2 := hS.same s2
      subst hB
      refine tseq_open fun B hB => ?_
      and_intros
      refine ⟨_, S2, fun p hp => ⟨by decide, fun p1 hp1 => ?_⟩⟩
      rw [show cutV (ns.map V.int) (some 3) (some 13) = ((ns.drop 3).take 10).map V.int from cut_nat (a := 3) (s := 10)] at hp1 ⊢
      have lks : ((ns.drop 3).take 10).length ≤ 10 := by rw [List.length_take]; omega
      generalize (ns.drop 3).take 10 = ks at *
      have sA := Same.put (o := .lst (ks.map V.int)) hp
      have fA : (upd H2 p (.lst (ks.map V.int))) p = some (.lst (ks.map V.int)) := upd_same
      generalize (upd H2 p (.lst (ks.map V.int))) = HA at sA fA hp1 ⊢
      have sB := Same.put (o := .lst [V.int sd]) hp1
      have fB : (upd HA p1 (.lst [V.int sd])) p1 = some (.lst [V.int sd]) := upd_same
      generalize (upd HA p1 (.lst [V.int sd])) = HB at sB fB ⊢
      refine ⟨p, p1, _, _, rfl, rfl, sB _ _ fA, fB, big9 (by rw [List.length_map, List.length_singleton]; omega), fun pc hpc => ?_⟩
      rw [show ks.map V.int ++ [V.int sd] = (ks ++ [sd]).map V.int by rw [List.map_append]; rfl]
      have lms : (ks ++ [sd]).length = ks.length + 1 := by rw [List.length_append]; rfl
      generalize ks ++ [sd] = ms at *
      have sC := Same.put (o := .lst (ms.map V.int)) hpc
      have fC : (upd HB pc (.lst (ms.map V.int))) pc = some (.lst (ms.map V.int)) := upd_same
      generalize (upd HB pc (.lst (ms.map V.int))) = HC at sC fC ⊢
      have s2C := (sA.trans sB).trans sC
      subst hB
      refine tseq_open fun B hB => ?_
      and_intros
      refine tcomp_list (K := K) (a := pc) (xs := ms.map V.int) (H1 := HC) (fun R r => by and_intros; exact ⟨⟨_, SqL.of fC⟩, r⟩) (fun i ys H' => H' = HC ∧ ys.length = i ∧ ys.all markV = true) ⟨rfl, rfl, rfl⟩ (fun i ys H' _ ⟨e, _⟩ => e ▸ SqL.of fC) ?_ ?_
      · rintro j x ys H' R hx ⟨rfl, hy, hm1⟩ hR
        have hi := (List.getElem?_eq_some_iff.mp hx).1
        rw [List.length_map] at hi
        obtain ⟨j', _, rfl⟩ := List.mem_map.mp (List.mem_of_getElem? hx)
        simp only [tYes]
        and_intros
        refine ⟨j', l2, ws, rfl, s2C _ _ hl2, hw0, fun z hz1 => ⟨small1000 (by omega), hR _ _ ⟨rfl, by rw [List.length_append, hy]; rfl, ?_⟩⟩⟩
        rw [List.all_append, hm1]
        show (true && (markS z && true)) = true
        rw [hwm z hz1]
        rfl
      rintro ys H' ⟨rfl, hy, hm1⟩
      rw [List.length_map] at hy
      refine ⟨Nat.le_of_lt (small1000 (by omega)), fun l4 hl4 => ?_⟩
      have s4 := Same.put (o := .lst ys) hl4
      have f4 : (upd H' l4 (.lst ys)) l4 = some (.lst ys) := upd_same
      generalize (upd H' l4 (.lst ys)) = H4 at s4 f4 ⊢
      have s24 := s2C.trans s4
      have hl24 := s24 _ _ hl2
      have fC4 := s4 _ _ fC
      have hus := sV_map hm1
      have hum := sV_marks hm1
      have lus : (ys.map sV).length = ys.length := List.length_map _
      have ys0 : ys ≠ [] := fun e => by rw [e] at hy; exact absurd hy (by rw [List.length_nil]; omega)
      obtain ⟨w0, wr, ews⟩ := List.exists_cons_of_ne_nil (List.length_pos_iff.mp hw0)
      have mw0 := hwm w0 (by rw [ews]; exact List.mem_cons_self)
      have atm : atI (ws.map V.str) 0 = some (.str w0) := by rw [ews]; exact (show atI _ ((0 : Nat) : Int) = _ from atI_nat rfl)
      subst hB
      refine tseq_open fun B hB => ?_
      and_intros
      have rl := row_len hum
      refine ⟨rfl, by decide, fun q hq => ?_⟩
      have sq := Same.put (o := .lst [V.str (Str.ofString "row")]) hq
      have fq : (upd H4 q (.lst [V.str (Str.ofString "row")])) q = some (.lst [V.str (Str.ofString "row")]) := upd_same
      generalize (upd H4 q (.lst [V.str (Str.ofString "row")])) = H5 at sq fq ⊢
      refine ⟨q, l4, _, _, rfl, rfl, fq, sq _ _ f4, big9 (by rw [List.length_singleton]; omega), fun r hr5 => ⟨r, rfl, Str.ofString "row" :: ys.map sV, .inl (by rw [List.map_cons, hus]; exact SqL.of upd_same), by decide +kernel, by rw [List.length_cons]; omega, ?_⟩⟩
      have s5 := Same.put (o := .lst ([V.str (Str.ofString "row")] ++ ys)) hr5
      generalize (upd H5 r (.lst ([V.str (Str.ofString "row")] ++ ys))) = H6 at s5 ⊢
      have s46 := sq.trans s5
      rw [show Str.join (Str.ofString " ") (Str.ofString "row" :: ys.map sV) = textD (.row ys) from row_text hm1 ys0]
      have ltx : (textD (.row ys)).length ≤ 600 := by rw [← row_text hm1 ys0]; omega
      subst hB
      refine tseq_open fun B hB => ?_
      and_intros
      refine ⟨_, SqL.of (s46 _ _ f4), fun tp htp => ⟨by decide, fun fm hfm => ?_⟩⟩
      have s7 := Same.put (o := .tup ys) htp
      have f7 : (upd H6 tp (.tup ys)) tp = some (.tup ys) := upd_same
      generalize (upd H6 tp (.tup ys)) = H7 at s7 f7 hfm ⊢
      have s8 := Same.put (o := .tup [V.str (Str.ofString "row"), V.ref tp]) hfm
      have f8 : (upd H7 fm (.tup [V.str (Str.ofString "row"), V.ref tp])) fm = some (.tup [V.str (Str.ofString "row"), V.ref tp]) := upd_same
      generalize (upd H7 fm (.tup [V.str (Str.ofString "row"), V.ref tp])) = H8 at s8 f8 ⊢
      have hfr : FormAt H8 fm (.row ys) := ⟨tp, f8, s8 _ _ f7⟩
      have s48 := (s46.trans s7).trans s8
      have s28 := s24.trans s48
      subst hB
      refine tseq_open fun B hB => ?_
      and_intros
      refine ⟨a, ns, 2, rfl, S2.same s28, ?_⟩
      generalize cellF ns 2 = c
      subst hB
      refine tseq_open fun B hB => ?_
      and_intros
      refine ⟨rfl, by decide, fun q2 hq2 => ?_⟩
      have sq2 := Same.put (o := .lst [V.str (Str.ofString "row")]) hq2
      have fq2 : (upd H8 q2 (.lst [V.str (Str.ofString "row")])) q2 = some (.lst [V.str (Str.ofString "row")]) := upd_same
      generalize (upd H8 q2 (.lst [V.str (Str.ofString "row")])) = H9 at sq2 fq2 ⊢
      refine ⟨q2, l4, _, _, rfl, rfl, fq2, sq2 _ _ (s48 _ _ f4), big9 (by rw [List.length_singleton]; omega), fun r2 hr2 => ?_⟩
      have s9 := Same.put (o := .lst ([V.str (Str.ofString "row")] ++ ys)) hr2
      have f9 : (upd H9 r2 (.lst ([V.str (Str.ofString "row")] ++ ys))) r2 = some (.lst ([V.str (Str.ofString "row")] ++ ys)) := upd_same
      generalize (upd H9 r2 (.lst ([V.str (Str.ofString "row")] ++ ys))) = HD at s9 f9 ⊢
      have s8D := sq2.trans s9
      have s4D := s48.trans s8D
      refine tcomp_same (n := 41 - ys.length) (x := .str w0) (by omega) (fun R r => by
        and_intros
        exact ⟨_, SqL.of (s4D _ _ f4), by omega, by omega, by rw [show ((41 : Int) - (ys.length : Int)).toNat = 41 - ys.length by omega]; exact r⟩) (fun j Q' q => by
        and_intros
        exact ⟨_, SqL.of (s4D _ _ hl24), _, atm, q⟩) fun L hL => ?_
      have sL := Same.put (o := .lst (List.replicate (41 - ys.length) (V.str w0))) hL
      have fL : (upd HD L (.lst (List.replicate (41 - ys.length) (V.str w0)))) L = some (.lst (List.replicate (41 - ys.length) (V.str w0))) := upd_same
      generalize (upd HD L (.lst (List.replicate (41 - ys.length) (V.str w0)))) = HE at sL fL ⊢
      have lrp : (List.replicate (41 - ys.length) (V.str w0)).length = 41 - ys.length := List.length_replicate
      refine ⟨r2, L, _, _, rfl, rfl, sL _ _ f9, fL, big9 (by rw [List.length_append, List.length_singleton, lrp]; omega), fun r3 hr3 => ?_⟩
      have hwm41 : ∀ z ∈ ys.map sV ++ List.replicate (41 - ys.length) w0, markS z = true := fun z hz => by
        rcases List.mem_append.mp hz with hz | hz
        · exact hum z hz
        · rw [(List.mem_replicate.mp hz).2]; exact mw0
      have l41 : (ys.map sV ++ List.replicate (41 - ys.length) w0).length = 41 := by rw [List.length_append, lus, List.length_replicate]; omega
      have rl41 := row_len hwm41
      have rw41 := row_wrong hwm41 l41
      rw [l41] at rl41
      refine ⟨r3, rfl, Str.ofString "row" :: (ys.map sV ++ List.replicate (41 - ys.length) w0), .inl (by rw [List.map_cons, List.map_append, hus, ← map_rep]; exact SqL.of upd_same), by decide +kernel, by rw [List.length_cons, l41]; omega, ?_⟩
      have sF := Same.put (o := .lst ([V.str (Str.ofString "row")] ++ ys ++ List.replicate (41 - ys.length) (V.str w0))) hr3
      generalize (upd HE r3 (.lst ([V.str (Str.ofString "row")] ++ ys ++ List.replicate (41 - ys.length) (V.str w0)))) = HF at sF ⊢
      have s4F := (s4D.trans sL).trans sF
      have s8F := (s8D.trans sL).trans sF
      have s2F := s24.trans s4F
      have hno : NoTx K HF (.str (Str.join (Str.ofString " ") (Str.ofString "row" :: (ys.map sV ++ List.replicate (41 - ys.length) w0)))) := .txt (show (Str.join " " _).length ≤ 1000 by omega) rw41
      generalize V.str (Str.join (Str.ofString " ") (Str.ofString "row" :: (ys.map sV ++ List.replicate (41 - ys.length) w0))) = vr at hno ⊢
      subst hB
      refine tseq_open fun B9 hB9 => ?_
      obtain ⟨B11, hB9, hB11⟩ := split_seq hB9
      have fin11 : ∀ (d : Dsc) (fm : Addr) (vw : V) (H' : Hp) (o9 o10 o11 : Option V), Same H2 H' → DOk d → insD d ≠ Str.empty → (textD d).length ≤ 600 → normD d = d → FormAt H' fm d → NoTx K H' vw → B11 ({ nx := fun _ H' => Q .non H', rt := Q } : Ends) [some (.ref a), some (.int sd), some (.ref l2), some (.ref pc), some (.ref l4), some (.str (textD d)), some (.ref fm), some (.int c), some vw, o9, o10, o11] H' := fun d fm vw H' o9 o10 o11 s' dO hne hl6 hnd hfm hvw => by
        subst hB11
        refine tseq_open fun B12 hB12 => ?_
        have fin12 : ∀ vw H'', Same H' H'' → NoTx K H'' vw → B12 ({ nx := fun _ H' => Q .non H', rt := Q } : Ends) [some (.ref a), some (.int sd), some (.ref l2), some (.ref pc), some (.ref l4), some (.str (textD d)), some (.ref fm), some (.int c), some vw, o9, o10, o11] H'' := fun vw H'' s'' hvw => by
          subst hB12
          refine tseq_open fun B13 hB13 => ?_
          and_intros
          refine ⟨vw, rfl, hvw, fun H3 s3 => ?_⟩
          refine ⟨true, rfl, ?_⟩
          rw [if_neg (by decide)]
          have hf3 := hfm.same (s''.trans s3)
          subst hB13
          and_intros
          refine any_formR (fun F => sp_read_thing K ad [V.str (textD d)] H3 F E0) (fun F hF => ⟨_, rfl, .inl ⟨d, rfl, dO, by omega, fun p H4 s4 hT => hF p H4 s4 (hnd ▸ hT)⟩⟩) fun g H5 s5 hg => ?_
          refine ⟨_, _, hg.dat dO, (hf3.same s5).dat dO, shaped_dat dO, shaped_dat dO, ?_⟩
          rw [eqv_dat dO]
          exact k _
        and_intros
        refine ite2 (fun _ => ?_) fun _ => fin12 vw H' (Same.refl _) hvw
        exact ⟨_, SqL.of (s' _ _ hl2), _, atm, d, c, w0, rfl, dO, hne, hl6, mw0, fun v H'' s'' hv => fin12 v H'' s'' hv⟩
      have sC4F := s4F _ _ fC4
      have f4F := s4F _ _ f4
      have hl2F := s2F _ _ hl2
      refine (show tIfS _ _ _ _ _ _ from ?_)
      refine tIfS_open (fun b H1 => HF = H1 ∧ b = decide (sd % 3 = 1)) (fun G hG => by and_intros; exact hG _ _ ⟨rfl, rfl⟩) (fun H1 ⟨e1, h1⟩ => ?_) (fun H1 ⟨e1, h1⟩ => ?_)
      · subst e1
        have h1 : sd % 3 = 1 := of_decide_eq_true h1.symm
        refine ends_gen fun D0 hD0 => ?_
        refine tseq_open fun BT hBT => ?_
        and_intros
        have m0 := Int.emod_nonneg (c / 7) (show (3 : Int) ≠ 0 by decide)
        have m3 := Int.emod_lt_of_pos (c / 7) (show (0 : Int) < 3 by decide)
        obtain ⟨wd, hwd⟩ : ∃ wd : Nat, 1 + c / 7 % 3 = (wd : Int) := ⟨(1 + c / 7 % 3).toNat, by omega⟩
        rw [hwd]
        subst hBT
        refine tseq_open fun BT hBT => ?_
        and_intros
        refine tcomp_range3 (n := cutsN wd (ys.length + 1 - wd)) (lo := 0) (c := (wd : Int)) (H1 := HF) (fun R r => by
          and_intros
          refine ⟨_, SqL.of f4F, by omega, by omega, by omega, by omega, fun n hn => ?_⟩
          rw [n_uniq hn (cuts_int (by omega))]
          exact r) (fun i zs H' => Same HF H' ∧ RowsAt .lst H' zs (linesN ys wd i) ∧ zs.length = i) ⟨Same.refl _, trivial, rfl⟩ ?_ ?_
        · rintro i zs H' R hi ⟨s', hr', hz'⟩ hR
          have hi' := (cuts_int (by omega) i).mp hi
          have hi0 : (i : Int) ≤ (i : Int) * (wd : Int) := by
            have := Int.mul_le_mul_of_nonneg_left (show (1 : Int) ≤ (wd : Int) by omega) (show (0 : Int) ≤ (i : Int) by omega)
            rwa [Int.mul_one] at this
          simp only [tYes]
          and_intros
          refine ⟨_, SqL.of (s' _ _ f4F), fun p hp => ⟨small1000 (by omega), hR _ _ ⟨s'.upd hp, ?_, by rw [List.length_append, hz']; rfl⟩⟩⟩
          rw [show (0 : Int) + (i : Int) * (wd : Int) = ((i * wd : Nat) : Int) by rw [Int.zero_add, Int.natCast_mul], cut_natV, linesN_succ]
          exact (hr'.same (Same.put hp)).append ⟨⟨p, rfl, upd_same⟩, trivial⟩
        rintro zs H' ⟨s', hr', hz'⟩
        have hN : ∀ i < cutsN wd (ys.length + 1 - wd), i * wd + wd ≤ ys.length := fun i hi => by
          have := (cuts_iff (by omega)).mp hi
          omega
        have hN11 : cutsN wd (ys.length + 1 - wd) ≤ 11 := by
          rcases Nat.lt_or_ge 11 (cutsN wd (ys.length + 1 - wd)) with h | h
          · have := hN 11 h
            have : 11 ≤ 11 * wd := Nat.le_mul_of_pos_right _ (by omega)
            omega
          · exact h
        refine ⟨Nat.le_of_lt (small1000 (by omega)), fun lp hlp => ?_⟩
        have sG := Same.put (o := .lst zs) hlp
        have fG : (upd H' lp (.lst zs)) lp = some (.lst zs) := upd_same
        generalize (upd H' lp (.lst zs)) = HG at sG fG ⊢
        have sFG := s'.trans sG
        have hrG := hr'.same sG
        subst hBT
        refine tseq_open fun BT hBT => ?_
        have tabC : ∀ (lp : Addr) (xs : List V) (ls : List (List V)) (w : Nat) (H' : Hp), Same HF H' → H' lp = some (.lst xs) → RowsAt .lst H' xs ls → ls ≠ [] → ls.length ≤ 11 → 1 ≤ w → w ≤ 3 → (∀ x ∈ ls, lineOk w x) → BT D0 [some (.ref a), some (.int sd), some (.ref l2), some (.ref pc), some (.ref l4), some (.str (textD (.row ys))), some (.ref fm), some (.int c), some vr, some (.int (wd : Int)), some (.ref lp), none] H' := fun lp xs ls w H' s' hlp hrw h0 h11 w1 w3 hw => by
          subst hBT
          refine tseq_open fun BT hBT => ?_
          and_intros
          refine ⟨lp, xs, ls, w, rfl, hlp, hrw, h0, h11, w1, w3, hw, fun H1 s1 => ?_⟩
          have hl1 := s1 _ _ hlp
          have hr1 := hrw.same s1
          have lx := hr1.length
          obtain ⟨y0, r0, els⟩ := List.exists_cons_of_ne_nil h0
          have hx0 : ∃ t0 : Addr, atI xs 0 = some (.ref t0) ∧ H1 t0 = some (.lst y0) := by
            rw [els] at hr1
            cases xs with
            | nil => exact hr1.elim
            | cons x1 x2 =>
              obtain ⟨⟨t0, e, h⟩, _⟩ := hr1
              exact ⟨t0, by rw [e]; exact (show atI _ ((0 : Nat) : Int) = _ from atI_nat rfl), h⟩
          obtain ⟨t0, at0, ht0⟩ := hx0
          have ly0 := (hw y0 (by rw [els]; exact List.mem_cons_self)).1
          subst hBT
          refine tseq_open fun BT hBT => ?_
          and_intros
          refine ⟨_, SqL.of hl1, _, at0, t0, rfl, _, SqL.of ht0, ?_⟩
          rw [ly0]
          refine tcomp_list (K := K) (a := lp) (xs := xs) (H1 := H1) (fun R r => by and_intros; exact ⟨⟨_, SqL.of hl1⟩, r⟩) (fun i zs H' => Same H1 H' ∧ RowsAt .tup H' zs (ls.take i) ∧ zs.length = i) ⟨Same.refl _, trivial, rfl⟩ (fun i zs H' _ ⟨e, _⟩ => SqL.of (e _ _ hl1)) ?_ ?_
          · rintro i x zs H'' R hx ⟨s'', hr'', hz''⟩ hR
            have hi := (List.getElem?_eq_some_iff.mp hx).1
            obtain ⟨y, hy', t', rfl, ht'⟩ := hr1.get hx
            simp only [tYes]
            and_intros
            refine ⟨_, SqL.of (s'' _ _ ht'), fun tt htt => ⟨small1000 (by omega), hR _ _ ⟨s''.upd htt, ?_, by rw [List.length_append, hz'']; rfl⟩⟩⟩
            rw [List.take_add_one, hy']
            exact (hr''.same (Same.put htt)).append ⟨⟨tt, rfl, upd_same⟩, trivial⟩
          rintro zs H'' ⟨s'', hr'', hz''⟩
          rw [lx, List.take_length] at hr''
          refine ⟨Nat.le_of_lt (small1000 (by omega)), fun Lq hLq => ⟨Lq, rfl, _, SqL.of upd_same, fun tt htt => ⟨by decide, fun fm2 hfm2 => ?_⟩⟩⟩
          have sa := Same.put (o := .lst zs) hLq
          generalize (upd H'' Lq (.lst zs)) = Ha at sa htt hfm2 ⊢
          have sb := Same.put (o := .tup zs) htt
          have fb : (upd Ha tt (.tup zs)) tt = some (.tup zs) := upd_same
          generalize (upd Ha tt (.tup zs)) = Hb at sb fb hfm2 ⊢
          have sc := Same.put (o := .tup [V.str (Str.ofString "table"), V.int (w : Int), V.ref tt]) hfm2
          have fc : (upd Hb fm2 (.tup [V.str (Str.ofString "table"), V.int (w : Int), V.ref tt])) fm2 = some (.tup [V.str (Str.ofString "table"), V.int (w : Int), V.ref tt]) := upd_same
          generalize (upd Hb fm2 (.tup [V.str (Str.ofString "table"), V.int (w : Int), V.ref tt])) = Hc at sc fc ⊢
          have s1c := ((s''.trans sa).trans sb).trans sc
          have sFc := (s'.trans s1).trans s1c
          have hfT : FormAt Hc fm2 (.table ls w) := ⟨tt, zs, fc, sc _ _ fb, ((hr''.same sa).same sb).same sc⟩
          subst hBT
          and_intros
          refine ⟨_, SqL.of (sFc _ _ hl2F), _, atm, lp, xs, ls, w, c, w0, rfl, s1c _ _ hl1, hr1.same s1c, h0, h11, w1, w3, hw, mw0, fun z Hz sz lz hz => ?_⟩
          rw [hD0]
          dsimp only
          subst hB9
          and_intros
          rw [if_neg (by omega)]
          have tl := tab_len (by omega) w3 hw
          have tt6 : (textD (.table ls w)).length ≤ 600 := by
            rw [← mkS_of (textD _), text_l (tab_ne h0 hw), mkS_len, List.length_append, List.length_cons]
            have t5 : (kindS (.table ls w)).cps.toList.length = 5 := (show (Str.ofString "table").cps.toList.length = 5 by decide +kernel)
            have e0 : (insD (.table ls w)).length = (insD (.table ls w)).cps.toList.length := rfl
            omega
          exact fin11 (.table ls w) fm2 (.str z) Hz (some (.int (wd : Int))) (some (.ref lp)) none ((s2F.trans sFc).trans sz) ⟨by omega, by omega, hw⟩ (fun e => tab_ne h0 hw (by rw [e]; rfl)) tt6 (norm_tab h0) (hfT.same sz) (.txt lz hz)
        and_intros
        refine ⟨_, SqL.of fG, ite2 (fun h0 => ?_) fun h0 => ?_⟩
        · refine ⟨by decide, fun lq hlq => ?_⟩
          have hz0' : zs.length = 0 := by omega
          have hsm : ¬ 0 < cutsN wd (ys.length + 1 - wd) := by omega
          have hlt : ¬ 0 * wd < ys.length + 1 - wd := fun h => hsm ((cuts_iff (by omega)).mpr h)
          have sq' := Same.put (o := .lst [V.ref l4]) hlq
          have yl : 1 ≤ ys.length := List.length_pos_iff.mpr ys0
          exact tabC lq [.ref l4] [ys] ys.length _ (sFG.trans sq') upd_same ⟨⟨l4, rfl, sq' _ _ (sFG _ _ f4F)⟩, trivial⟩ (List.cons_ne_nil _ _) (show 1 ≤ 11 by decide) yl (by omega) fun x hx => by rw [List.mem_singleton.mp hx]; exact ⟨rfl, hm1⟩
        · have hN0 : cutsN wd (ys.length + 1 - wd) ≠ 0 := by omega
          have lN : (linesN ys wd (cutsN wd (ys.length + 1 - wd))).length = cutsN wd (ys.length + 1 - wd) := by unfold linesN; rw [List.length_map, List.length_range']
          exact tabC lp zs _ wd HG sFG fG hrG (fun e => by rw [e] at lN; exact hN0 lN.symm) (by omega) (by omega) (by omega) (linesN_ok hm1 hN)
      subst e1
      have h1 : ¬ sd % 3 = 1 := of_decide_eq_false h1.symm
      refine (show B9 _ _ _ from ?_)
      subst hB9
      and_intros
      refine ite2 (fun h2 => ?_) fun h2 => fin11 (.row ys) fm vr HF none none none s2F ⟨hm1, by omega⟩ (row_ne hm1 ys0) ltx rfl (hfr.same s8F) hno
      refine ⟨pc, l2, ms, ws, rfl, sC4F, hl2F, by omega, hw0, hwm, fun nd xs l3 H3 s3 hl3 hn3 hd3 hlen => ?_⟩
      have nd0 : nd ≠ [] := fun e => by rw [e] at hlen; exact absurd hlen (by rw [List.length_nil]; omega)
      have fo := FOk.of hd3 (by omega)
      have il := ins_lenF fo
      have li : (insS nd).length = (insL nd).length := rfl
      have f7 : (Str.ofString "forest ").length = 7 := by decide +kernel
      have ft := for_text fo nd0
      have ltf : (textD (.forest nd)).length ≤ 600 := by rw [← ft.1, Str.length_append]; omega
      refine ⟨l3, xs, nd, rfl, hl3, hn3, fo, nd0, _, rfl, big9 (by omega), l3, rfl, _, SqL.of hl3, fun tt htt => ⟨by decide, fun fm2 hfm2 => ?_⟩⟩
      have sb := Same.put (o := .tup xs) htt
      have fb : (upd H3 tt (.tup xs)) tt = some (.tup xs) := upd_same
      generalize (upd H3 tt (.tup xs)) = Hb at sb fb hfm2 ⊢
      have sc := Same.put (o := .tup [V.str (Str.ofString "forest"), V.ref tt]) hfm2
      have fc : (upd Hb fm2 (.tup [V.str (Str.ofString "forest"), V.ref tt])) fm2 = some (.tup [V.str (Str.ofString "forest"), V.ref tt]) := upd_same
      generalize (upd Hb fm2 (.tup [V.str (Str.ofString "forest"), V.ref tt])) = Hc at sc fc ⊢
      have s3c := sb.trans sc
      have sFc := s3.trans s3c
      have hfT : FormAt Hc fm2 (.forest nd) := ⟨tt, xs, fc, sc _ _ fb, hn3.same s3c⟩
      rw [ft.1]
      exact ⟨_, SqL.of (sFc _ _ hl2F), _, atm, l3, xs, nd, c, w0, rfl, s3c _ _ hl3, hn3.same s3c, hd3, by omega, nd0, mw0, fun z Hz sz lz hz => fin11 (.forest nd) fm2 (.str z) Hz none none (some (.ref l3)) ((s2F.trans sFc).trans sz) ⟨hd3, by omega⟩ ft.2 ltf rfl (hfT.same sz) (.txt lz hz)⟩
    and_intros
    refine ite2 (fun _ => ?_) fun _ => main H1 l1 zs s1 hl1 hz0 hzm
    refine ⟨by decide, fun p hp => ?_⟩
    have s2 := Same.put (o := .lst [V.str (Str.ofString "table"), V.str (Str.ofString "forest"), V.str (Str.ofString "row"), V.str (Str.ofString "not"), V.str (Str.ofString "many"), V.str (Str.ofString "has")]) hp
    have f2 : (upd H1 p (.lst [V.str (Str.ofString "table"), V.str (Str.ofString "forest"), V.str (Str.ofString "row"), V.str (Str.ofString "not"), V.str (Str.ofString "many"), V.str (Str.ofString "has")])) p = some (.lst [V.str (Str.ofString "table"), V.str (Str.ofString "forest"), V.str (Str.ofString "row"), V.str (Str.ofString "not"), V.str (Str.ofString "many"), V.str (Str.ofString "has")]) := upd_same
    generalize (upd H1 p (.lst [V.str (Str.ofString "table"), V.str (Str.ofString "forest"), V.str (Str.ofString "row"), V.str (Str.ofString "not"), V.str (Str.ofString "many"), V.str (Str.ofString "has")])) = H2 at s2 f2 ⊢
    refine ⟨_, SqL.of (s2 _ _ hl1), _, SqL.of f2, fun l2 hl2 => ?_⟩
    rw [List.length_map, cut_to rfl]
    refine main _ l2 ((["table", "forest", "row", "not", "many", "has"] : List Str).take zs.length) ((s1.trans s2).upd hl2) (by rw [upd_same, List.map_take]; rfl) (by rw [List.length_take]; show 0 < min zs.length 6; omega) fun z hz => ?_
    exact List.all_eq_true.mp (show ((["table", "forest", "row", "not", "many", "has"] : List Str).all markS) = true by decide +kernel) z (List.mem_of_mem_take hz)
end
def Lies (K : PySem.W.Frag) (f : Addr) (x d : Str) (st : Stmt) (fd : FuncData) : Prop := ∃ oc od kV dc pm an cd ct sl, fd = PySem.W.fnOf x d (defArgs st) (defBody st) (defScope st) .none kV dc pm an cd ct ∧ K.lookup f = some ⟨oc, od, .func fd, sl⟩ ∧ PySem.W.codeIn K cd d = true ∧ PySem.W.keepIn K (.ref f) = true ∧ PySem.W.isFn K (.ref f) = true
theorem Lies.fn {K : PySem.W.Frag} {f : Addr} {x d : Str} {st : Stmt} {fd : FuncData} (h : Lies K f x d st fd) : Fun K x d st f fd := by
  obtain ⟨oc, od, kV, dc, pm, an, cd, ct, sl, rfl, l, c, k, _⟩ := h
  exact fun_mk l c k
theorem Lies.kp {K : PySem.W.Frag} {f : Addr} {x d : Str} {st : Stmt} {fd : FuncData} (h : Lies K f x d st fd) : PySem.W.keepIn K (.ref f) = true := let ⟨_, _, _, _, _, _, _, _, _, _, _, _, k, _⟩ := h; k
theorem Lies.isf {K : PySem.W.Frag} {f : Addr} {x d : Str} {st : Stmt} {fd : FuncData} (h : Lies K f x d st fd) : PySem.W.isFn K (.ref f) = true := let ⟨_, _, _, _, _, _, _, _, _, _, _, _, _, n⟩ := h; n
theorem all_mk {l : PySem.W.OpenLaw} {w : World} {K : PySem.W.Frag} {h : Heap} {mg : Str → Option Value} {fa C_ShrinkError C_NoThing C_NoPlace C_NoFault C_NoRule C_Spent C_Healthy C_NoText C_NoRow C_Thing C_Row C_Forest C_Table f_is_whole f_is_mark f_check_list f_check_marks f_check_node f_check_nodes f_check_lines f_Thing_init f_Row_init f_Row_form f_Forest_init f_Forest_form f_Table_init f_Table_form f_show_line f_signs_between f_show_nodes f_show_thing f_nodes_in f_lines_in f_marks_in f_made_of f_read_thing f__law_cell_at f__law_how_many f__law_marks f__law_pick f__law_nodes f__law_forest_text f__law_refused f__law_wrong_by_any f__law_wrong_table f__law_lines_text f__law_wrong_forest f_law : Addr} (X : K.In h) (G : h.Ns mainGlobals mg) (hfa : mg "law" = some (.ref fa))
    {fd_is_whole fd_is_mark fd_check_list fd_check_marks fd_check_node fd_check_nodes fd_check_lines fd_Thing_init fd_Row_init fd_Row_form fd_Forest_init fd_Forest_form fd_Table_init fd_Table_form fd_show_line fd_signs_between fd_show_nodes fd_show_thing fd_nodes_in fd_lines_in fd_marks_in fd_made_of fd_read_thing fd__law_cell_at fd__law_how_many fd__law_marks fd__law_pick fd__law_nodes fd__law_forest_text fd__law_refused fd__law_wrong_by_any fd__law_wrong_table fd__law_lines_text fd__law_wrong_forest fd_law : FuncData} {tk_LETTERS tk_LONGEST_MARK tk_MOST_IN_ROW tk_MOST_NODES tk_DEEPEST tk_MOST_LINES tk_MOST_COLUMNS : Tok} {cd_NoText cd_NoThing : ClassData}
    (a_ShrinkError : PySem.W.nsIn K mainGlobals "ShrinkError" = some (some (.ref C_ShrinkError)))
    (a_NoThing : PySem.W.nsIn K mainGlobals "NoThing" = some (some (.ref C_NoThing)))
    (a_NoPlace : PySem.W.nsIn K mainGlobals "NoPlace" = some (some (.ref C_NoPlace)))
    (a_NoFault : PySem.W.nsIn K mainGlobals "NoFault" = some (some (.ref C_NoFault)))
    (a_NoRule : PySem.W.nsIn K mainGlobals "NoRule" = some (some (.ref C_NoRule)))
    (a_Spent : PySem.W.nsIn K mainGlobals "Spent" = some (some (.ref C_Spent)))
    (a_Healthy : PySem.W.nsIn K mainGlobals "Healthy" = some (some (.ref C_Healthy)))
    (a_NoText : PySem.W.nsIn K mainGlobals "NoText" = some (some (.ref C_NoText)))
    (a_NoRow : PySem.W.nsIn K mainGlobals "NoRow" = some (some (.ref C_NoRow)))
    (a_Thing : PySem.W.nsIn K mainGlobals "Thing" = some (some (.ref C_Thing)))
    (a_Row : PySem.W.nsIn K mainGlobals "Row" = some (some (.ref C_Row)))
    (a_Forest : PySem.W.nsIn K mainGlobals "Forest" = some (some (.ref C_Forest)))
    (a_Table : PySem.W.nsIn K mainGlobals "Table" = some (some (.ref C_Table)))
    (a_is_whole : PySem.W.nsIn K mainGlobals "is_whole" = some (some (.ref f_is_whole)))
    (l_is_whole : Lies K f_is_whole "is_whole" "is_whole" s_is_whole fd_is_whole)
    (a_is_mark : PySem.W.nsIn K mainGlobals "is_mark" = some (some (.ref f_is_mark)))
    (l_is_mark : Lies K f_is_mark "is_mark" "is_mark" s_is_mark fd_is_mark)
    (a_check_list : PySem.W.nsIn K mainGlobals "check_list" = some (some (.ref f_check_list)))
    (l_check_list : Lies K f_check_list "check_list" "check_list" s_check_list fd_check_list)
    (a_check_marks : PySem.W.nsIn K mainGlobals "check_marks" = some (some (.ref f_check_marks)))
    (l_check_marks : Lies K f_check_marks "check_marks" "check_marks" s_check_marks fd_check_marks)
    (a_check_node : PySem.W.nsIn K mainGlobals "check_node" = some (some (.ref f_check_node)))
    (l_check_node : Lies K f_check_node "check_node" "check_node" s_check_node fd_check_node)
    (a_check_nodes : PySem.W.nsIn K mainGlobals "check_nodes" = some (some (.ref f_check_nodes)))
    (l_check_nodes : Lies K f_check_nodes "check_nodes" "check_nodes" s_check_nodes fd_check_nodes)
    (a_check_lines : PySem.W.nsIn K mainGlobals "check_lines" = some (some (.ref f_check_lines)))
    (l_check_lines : Lies K f_check_lines "check_lines" "check_lines" s_check_lines fd_check_lines)
    (a_Thing_init : PySem.W.findCls K (.ref C_Thing) (.type "type") "__init__" = some (.val (.ref f_Thing_init)))
    (l_Thing_init : Lies K f_Thing_init "__init__" "Thing.__init__" s_Thing_init fd_Thing_init)
    (l_Row_init : Lies K f_Row_init "__init__" "Row.__init__" s_Row_init fd_Row_init)
    (i_Row_form : PySem.W.findIn K (.ref C_Row) "form" = some (some (.ref f_Row_form)))
    (l_Row_form : Lies K f_Row_form "form" "Row.form" s_Row_form fd_Row_form)
    (l_Forest_init : Lies K f_Forest_init "__init__" "Forest.__init__" s_Forest_init fd_Forest_init)
    (i_Forest_form : PySem.W.findIn K (.ref C_Forest) "form" = some (some (.ref f_Forest_form)))
    (l_Forest_form : Lies K f_Forest_form "form" "Forest.form" s_Forest_form fd_Forest_form)
    (l_Table_init : Lies K f_Table_init "__init__" "Table.__init__" s_Table_init fd_Table_init)
    (i_Table_form : PySem.W.findIn K (.ref C_Table) "form" = some (some (.ref f_Table_form)))
    (l_Table_form : Lies K f_Table_form "form" "Table.form" s_Table_form fd_Table_form)
    (a_show_line : PySem.W.nsIn K mainGlobals "show_line" = some (some (.ref f_show_line)))
    (l_show_line : Lies K f_show_line "show_line" "show_line" s_show_line fd_show_line)
    (a_signs_between : PySem.W.nsIn K mainGlobals "signs_between" = some (some (.ref f_signs_between)))
    (l_signs_between : Lies K f_signs_between "signs_between" "signs_between" s_signs_between fd_signs_between)
    (a_show_nodes : PySem.W.nsIn K mainGlobals "show_nodes" = some (some (.ref f_show_nodes)))
    (l_show_nodes : Lies K f_show_nodes "show_nodes" "show_nodes" s_show_nodes fd_show_nodes)
    (a_show_thing : PySem.W.nsIn K mainGlobals "show_thing" = some (some (.ref f_show_thing)))
    (l_show_thing : Lies K f_show_thing "show_thing" "show_thing" s_show_thing fd_show_thing)
    (a_nodes_in : PySem.W.nsIn K mainGlobals "nodes_in" = some (some (.ref f_nodes_in)))
    (l_nodes_in : Lies K f_nodes_in "nodes_in" "nodes_in" s_nodes_in fd_nodes_in)
    (a_lines_in : PySem.W.nsIn K mainGlobals "lines_in" = some (some (.ref f_lines_in)))
    (l_lines_in : Lies K f_lines_in "lines_in" "lines_in" s_lines_in fd_lines_in)
    (a_marks_in : PySem.W.nsIn K mainGlobals "marks_in" = some (some (.ref f_marks_in)))
    (l_marks_in : Lies K f_marks_in "marks_in" "marks_in" s_marks_in fd_marks_in)
    (a_made_of : PySem.W.nsIn K mainGlobals "made_of" = some (some (.ref f_made_of)))
    (l_made_of : Lies K f_made_of "made_of" "made_of" s_made_of fd_made_of)
    (a_read_thing : PySem.W.nsIn K mainGlobals "read_thing" = some (some (.ref f_read_thing)))
    (l_read_thing : Lies K f_read_thing "read_thing" "read_thing" s_read_thing fd_read_thing)
    (a__law_cell_at : PySem.W.nsIn K mainGlobals "_law_cell_at" = some (some (.ref f__law_cell_at)))
    (l__law_cell_at : Lies K f__law_cell_at "_law_cell_at" "_law_cell_at" s__law_cell_at fd__law_cell_at)
    (a__law_how_many : PySem.W.nsIn K mainGlobals "_law_how_many" = some (some (.ref f__law_how_many)))
    (l__law_how_many : Lies K f__law_how_many "_law_how_many" "_law_how_many" s__law_how_many fd__law_how_many)
    (a__law_marks : PySem.W.nsIn K mainGlobals "_law_marks" = some (some (.ref f__law_marks)))
    (l__law_marks : Lies K f__law_marks "_law_marks" "_law_marks" s__law_marks fd__law_marks)
    (a__law_pick : PySem.W.nsIn K mainGlobals "_law_pick" = some (some (.ref f__law_pick)))
    (l__law_pick : Lies K f__law_pick "_law_pick" "_law_pick" s__law_pick fd__law_pick)
    (a__law_nodes : PySem.W.nsIn K mainGlobals "_law_nodes" = some (some (.ref f__law_nodes)))
    (l__law_nodes : Lies K f__law_nodes "_law_nodes" "_law_nodes" s__law_nodes fd__law_nodes)
    (a__law_forest_text : PySem.W.nsIn K mainGlobals "_law_forest_text" = some (some (.ref f__law_forest_text)))
    (l__law_forest_text : Lies K f__law_forest_text "_law_forest_text" "_law_forest_text" s__law_forest_text fd__law_forest_text)
    (a__law_refused : PySem.W.nsIn K mainGlobals "_law_refused" = some (some (.ref f__law_refused)))
    (l__law_refused : Lies K f__law_refused "_law_refused" "_law_refused" s__law_refused fd__law_refused)
    (a__law_wrong_by_any : PySem.W.nsIn K mainGlobals "_law_wrong_by_any" = some (some (.ref f__law_wrong_by_any)))
    (l__law_wrong_by_any : Lies K f__law_wrong_by_any "_law_wrong_by_any" "_law_wrong_by_any" s__law_wrong_by_any fd__law_wrong_by_any)
    (a__law_wrong_table : PySem.W.nsIn K mainGlobals "_law_wrong_table" = some (some (.ref f__law_wrong_table)))
    (l__law_wrong_table : Lies K f__law_wrong_table "_law_wrong_table" "_law_wrong_table" s__law_wrong_table fd__law_wrong_table)
    (a__law_lines_text : PySem.W.nsIn K mainGlobals "_law_lines_text" = some (some (.ref f__law_lines_text)))
    (l__law_lines_text : Lies K f__law_lines_text "_law_lines_text" "_law_lines_text" s__law_lines_text fd__law_lines_text)
    (a__law_wrong_forest : PySem.W.nsIn K mainGlobals "_law_wrong_forest" = some (some (.ref f__law_wrong_forest)))
    (l__law_wrong_forest : Lies K f__law_wrong_forest "_law_wrong_forest" "_law_wrong_forest" s__law_wrong_forest fd__law_wrong_forest)
    (a_law : PySem.W.nsIn K mainGlobals "law" = some (some (.ref f_law)))
    (l_law : Lies K f_law "law" "law" s_law fd_law)
    (z_ValueError : PySem.W.nsIn K mainGlobals "ValueError" = some none)
    (z_all : PySem.W.nsIn K mainGlobals "all" = some none)
    (z_bool : PySem.W.nsIn K mainGlobals "bool" = some none)
    (z_int : PySem.W.nsIn K mainGlobals "int" = some none)
    (z_isinstance : PySem.W.nsIn K mainGlobals "isinstance" = some none)
    (z_len : PySem.W.nsIn K mainGlobals "len" = some none)
    (z_list : PySem.W.nsIn K mainGlobals "list" = some none)
    (z_min : PySem.W.nsIn K mainGlobals "min" = some none)
    (z_range : PySem.W.nsIn K mainGlobals "range" = some none)
    (z_str : PySem.W.nsIn K mainGlobals "str" = some none)
    (z_tuple : PySem.W.nsIn K mainGlobals "tuple" = some none)
    (g_LETTERS : PySem.W.nsIn K mainGlobals "LETTERS" = some (some (.str LET tk_LETTERS)))
    (g_LONGEST_MARK : PySem.W.nsIn K mainGlobals "LONGEST_MARK" = some (some (.int 8 tk_LONGEST_MARK)))
    (g_MOST_IN_ROW : PySem.W.nsIn K mainGlobals "MOST_IN_ROW" = some (some (.int 40 tk_MOST_IN_ROW)))
    (g_MOST_NODES : PySem.W.nsIn K mainGlobals "MOST_NODES" = some (some (.int 40 tk_MOST_NODES)))
    (g_DEEPEST : PySem.W.nsIn K mainGlobals "DEEPEST" = some (some (.int 12 tk_DEEPEST)))
    (g_MOST_LINES : PySem.W.nsIn K mainGlobals "MOST_LINES" = some (some (.int 12 tk_MOST_LINES)))
    (g_MOST_COLUMNS : PySem.W.nsIn K mainGlobals "MOST_COLUMNS" = some (some (.int 12 tk_MOST_COLUMNS)))
    (x1_NoText : PySem.W.excIn K C_NoText [.type "ValueError", .type "Exception", .type "BaseException", .type "object"] "ValueError.__new__" = true)
    (x2_NoText : PySem.W.findIn K (.ref C_NoText) "__getattribute__" = some (some (.builtin "BaseException.__getattribute__")))
    (x3_NoText : PySem.W.findIn K (.ref C_NoText) "__getattr__" = some none)
    (x4_NoText : PySem.W.findIn K (.ref C_NoText) "__class__" = some (some (.builtin "object.__class__")))
    (x5_NoText : PySem.W.mroIn K C_NoText (.type "object") = some true)
    (x6_NoText : PySem.W.subIn K (.ref C_NoText) (.type "BaseException") = some true)
    (x7_NoText : PySem.W.clsIn K C_NoText = some cd_NoText)
    (x8_NoText_NoThing : PySem.W.exmOne K (.ref C_NoText) (.ref C_NoThing) = some false)
    (x8_NoText_ShrinkError : PySem.W.exmOne K (.ref C_NoText) (.ref C_ShrinkError) = some true)
    (y_NoText_Healthy : PySem.W.kitOne K (.ref C_NoText) (.ref C_Healthy) = some false)
    (y_NoText_NoFault : PySem.W.kitOne K (.ref C_NoText) (.ref C_NoFault) = some false)
    (y_NoText_NoPlace : PySem.W.kitOne K (.ref C_NoText) (.ref C_NoPlace) = some false)
    (y_NoText_NoRow : PySem.W.kitOne K (.ref C_NoText) (.ref C_NoRow) = some false)
    (y_NoText_NoRule : PySem.W.kitOne K (.ref C_NoText) (.ref C_NoRule) = some false)
    (y_NoText_NoText : PySem.W.kitOne K (.ref C_NoText) (.ref C_NoText) = some true)
    (y_NoText_NoThing : PySem.W.kitOne K (.ref C_NoText) (.ref C_NoThing) = some false)
    (y_NoText_Spent : PySem.W.kitOne K (.ref C_NoText) (.ref C_Spent) = some false)
    (y_NoText_ValueError : PySem.W.kitOne K (.ref C_NoText) (.type "ValueError") = some true)
    (x1_NoThing : PySem.W.excIn K C_NoThing [.type "ValueError", .type "Exception", .type "BaseException", .type "object"] "ValueError.__new__" = true)
    (x2_NoThing : PySem.W.findIn K (.ref C_NoThing) "__getattribute__" = some (some (.builtin "BaseException.__getattribute__")))
    (x3_NoThing : PySem.W.findIn K (.ref C_NoThing) "__getattr__" = some none)
    (x4_NoThing : PySem.W.findIn K (.ref C_NoThing) "__class__" = some (some (.builtin "object.__class__")))
    (x5_NoThing : PySem.W.mroIn K C_NoThing (.type "object") = some true)
    (x6_NoThing : PySem.W.subIn K (.ref C_NoThing) (.type "BaseException") = some true)
    (x7_NoThing : PySem.W.clsIn K C_NoThing = some cd_NoThing)
    (x8_NoThing_NoThing : PySem.W.exmOne K (.ref C_NoThing) (.ref C_NoThing) = some true)
    (x8_NoThing_ShrinkError : PySem.W.exmOne K (.ref C_NoThing) (.ref C_ShrinkError) = some true)
    (y_NoThing_Healthy : PySem.W.kitOne K (.ref C_NoThing) (.ref C_Healthy) = some false)
    (y_NoThing_NoFault : PySem.W.kitOne K (.ref C_NoThing) (.ref C_NoFault) = some false)
    (y_NoThing_NoPlace : PySem.W.kitOne K (.ref C_NoThing) (.ref C_NoPlace) = some false)
    (y_NoThing_NoRow : PySem.W.kitOne K (.ref C_NoThing) (.ref C_NoRow) = some false)
    (y_NoThing_NoRule : PySem.W.kitOne K (.ref C_NoThing) (.ref C_NoRule) = some false)
    (y_NoThing_NoText : PySem.W.kitOne K (.ref C_NoThing) (.ref C_NoText) = some false)
    (y_NoThing_NoThing : PySem.W.kitOne K (.ref C_NoThing) (.ref C_NoThing) = some true)
    (y_NoThing_Spent : PySem.W.kitOne K (.ref C_NoThing) (.ref C_Spent) = some false)
    (y_NoThing_ValueError : PySem.W.kitOne K (.ref C_NoThing) (.type "ValueError") = some true)
    (r1_Forest : PySem.W.plainGet K C_Forest Str.empty = true)
    (r2_Forest : PySem.W.hasDictIn K C_Forest = true)
    (r3_Forest : PySem.W.plainOver K C_Forest = true)
    (r4_Forest : PySem.W.findIn K (.ref C_Forest) "__setattr__" = some (some (.builtin "object.__setattr__")))
    (n_Forest_nodes : PySem.W.findIn K (.ref C_Forest) "nodes" = some none)
    (n_Forest_spot_marks : PySem.W.findIn K (.ref C_Forest) "spot_marks" = some none)
    (r6_Forest : PySem.W.findIn K (.ref C_Forest) "__class__" = some (some (.builtin "object.__class__")))
    (r9_Forest : PySem.W.mroIn K C_Forest (.type "object") = some true)
    (r1_Row : PySem.W.plainGet K C_Row Str.empty = true)
    (r2_Row : PySem.W.hasDictIn K C_Row = true)
    (r3_Row : PySem.W.plainOver K C_Row = true)
    (r4_Row : PySem.W.findIn K (.ref C_Row) "__setattr__" = some (some (.builtin "object.__setattr__")))
    (n_Row_spot_marks : PySem.W.findIn K (.ref C_Row) "spot_marks" = some none)
    (r6_Row : PySem.W.findIn K (.ref C_Row) "__class__" = some (some (.builtin "object.__class__")))
    (r9_Row : PySem.W.mroIn K C_Row (.type "object") = some true)
    (r1_Table : PySem.W.plainGet K C_Table Str.empty = true)
    (r2_Table : PySem.W.hasDictIn K C_Table = true)
    (r3_Table : PySem.W.plainOver K C_Table = true)
    (r4_Table : PySem.W.findIn K (.ref C_Table) "__setattr__" = some (some (.builtin "object.__setattr__")))
    (n_Table_columns : PySem.W.findIn K (.ref C_Table) "columns" = some none)
    (n_Table_lines : PySem.W.findIn K (.ref C_Table) "lines" = some none)
    (n_Table_spot_marks : PySem.W.findIn K (.ref C_Table) "spot_marks" = some none)
    (r6_Table : PySem.W.findIn K (.ref C_Table) "__class__" = some (some (.builtin "object.__class__")))
    (r9_Table : PySem.W.mroIn K C_Table (.type "object") = some true)
    (r7 : PySem.W.specialIn K (.builtin "object.__class__") "__get__" = some (some (.builtin "getset_descriptor.__get__")))
    (r8 : PySem.W.takesIn K (.builtin "object.__class__") = some true)
    (mi_Forest : PySem.W.findIn K (.ref C_Forest) "__init__" = some (some (.ref f_Forest_init)))
    (m1_Forest : PySem.W.makesIn K C_Forest = true)
    (m2_Forest : PySem.W.keepIn K (.ref C_Forest) = true)
    (mi_Row : PySem.W.findIn K (.ref C_Row) "__init__" = some (some (.ref f_Row_init)))
    (m1_Row : PySem.W.makesIn K C_Row = true)
    (m2_Row : PySem.W.keepIn K (.ref C_Row) = true)
    (mi_Table : PySem.W.findIn K (.ref C_Table) "__init__" = some (some (.ref f_Table_init)))
    (m1_Table : PySem.W.makesIn K C_Table = true)
    (m2_Table : PySem.W.keepIn K (.ref C_Table) = true)
    (th1_Thing : PySem.W.specialIn K (.ref C_Thing) "__getattribute__" = some (some (.builtin "type.__getattribute__")))
    (th2_Thing : PySem.W.readsIn K C_Thing (.type "type") = true) :
    ∃ fd : FuncData, (∀ (s : Shared) (v : Value), BindsTo s fd ⟨[v], []⟩ [("_law_script", v)]) ∧ ∀ base : Heap, K.In base → base.Ns mainGlobals mg → FnOk l.prog w K mg base CX0 9 fa fd ["_law_script"] (sp_law K) := by
  have e := hfa.symm.trans (PySem.W.mg_of X G a_law)
  cases e
  have T : Txt K mg ⟨C_ShrinkError, C_NoThing, C_NoPlace, C_NoFault, C_NoRule, C_Spent, C_Healthy, C_NoText, C_NoRow, C_Thing, C_Row, C_Forest, C_Table⟩ := ⟨PySem.W.mg_none_of X G z_ValueError, PySem.W.mg_none_of X G z_all, PySem.W.mg_none_of X G z_bool, PySem.W.mg_none_of X G z_int, PySem.W.mg_none_of X G z_isinstance, PySem.W.mg_none_of X G z_len, PySem.W.mg_none_of X G z_list, PySem.W.mg_none_of X G z_min, PySem.W.mg_none_of X G z_range, PySem.W.mg_none_of X G z_str, PySem.W.mg_none_of X G z_tuple, PySem.W.mg_of X G a_ShrinkError, PySem.W.mg_of X G a_NoThing, PySem.W.mg_of X G a_NoPlace, PySem.W.mg_of X G a_NoFault, PySem.W.mg_of X G a_NoRule, PySem.W.mg_of X G a_Spent, PySem.W.mg_of X G a_Healthy, PySem.W.mg_of X G a_NoText, PySem.W.mg_of X G a_NoRow, PySem.W.mg_of X G a_Thing, PySem.W.mg_of X G a_Row, PySem.W.mg_of X G a_Forest, PySem.W.mg_of X G a_Table, ⟨_, PySem.W.mg_of X G g_LETTERS⟩, ⟨_, PySem.W.mg_of X G g_LONGEST_MARK⟩, ⟨_, PySem.W.mg_of X G g_MOST_IN_ROW⟩, ⟨_, PySem.W.mg_of X G g_MOST_NODES⟩, ⟨_, PySem.W.mg_of X G g_DEEPEST⟩, ⟨_, PySem.W.mg_of X G g_MOST_LINES⟩, ⟨_, PySem.W.mg_of X G g_MOST_COLUMNS⟩, ⟨PySem.W.mg_of X G a_NoText, a_NoText, x1_NoText⟩, ⟨x2_NoText, x3_NoText, x4_NoText, x5_NoText, x6_NoText, by rw [x7_NoText]; rfl⟩, x8_NoText_NoThing, x8_NoText_ShrinkError, y_NoText_Healthy, y_NoText_NoFault, y_NoText_NoPlace, y_NoText_NoRow, y_NoText_NoRule, y_NoText_NoText, y_NoText_NoThing, y_NoText_Spent, y_NoText_ValueError, ⟨PySem.W.mg_of X G a_NoThing, a_NoThing, x1_NoThing⟩, ⟨x2_NoThing, x3_NoThing, x4_NoThing, x5_NoThing, x6_NoThing, by rw [x7_NoThing]; rfl⟩, x8_NoThing_NoThing, x8_NoThing_ShrinkError, y_NoThing_Healthy, y_NoThing_NoFault, y_NoThing_NoPlace, y_NoThing_NoRow, y_NoThing_NoRule, y_NoThing_NoText, y_NoThing_NoThing, y_NoThing_Spent, y_NoThing_ValueError, ⟨r1_Forest, r2_Forest, r3_Forest, r4_Forest⟩, n_Forest_nodes, n_Forest_spot_marks, r6_Forest, r9_Forest, ⟨r1_Row, r2_Row, r3_Row, r4_Row⟩, n_Row_spot_marks, r6_Row, r9_Row, ⟨r1_Table, r2_Table, r3_Table, r4_Table⟩, n_Table_columns, n_Table_lines, n_Table_spot_marks, r6_Table, r9_Table, r7, r8⟩
  have F_is_whole := l_is_whole.fn
  have D_is_whole : Def K mg "is_whole" s_is_whole ["thing"] f_is_whole _ := ⟨F_is_whole, PySem.W.mg_of X G a_is_whole, F_is_whole.binds (ps := ["thing"]) fun _ _ _ _ _ _ us hl => match us, hl with | [_], _ => rfl⟩
  have F_is_mark := l_is_mark.fn
  have D_is_mark : Def K mg "is_mark" s_is_mark ["thing"] f_is_mark _ := ⟨F_is_mark, PySem.W.mg_of X G a_is_mark, F_is_mark.binds (ps := ["thing"]) fun _ _ _ _ _ _ us hl => match us, hl with | [_], _ => rfl⟩
  have F_check_list := l_check_list.fn
  have D_check_list : Def K mg "check_list" s_check_list ["thing", "most"] f_check_list _ := ⟨F_check_list, PySem.W.mg_of X G a_check_list, F_check_list.binds (ps := ["thing", "most"]) fun _ _ _ _ _ _ us hl => match us, hl with | [_, _], _ => rfl⟩
  have F_check_marks := l_check_marks.fn
  have D_check_marks : Def K mg "check_marks" s_check_marks ["marks", "most"] f_check_marks _ := ⟨F_check_marks, PySem.W.mg_of X G a_check_marks, F_check_marks.binds (ps := ["marks", "most"]) fun _ _ _ _ _ _ us hl => match us, hl with | [_, _], _ => rfl⟩
  have F_check_node := l_check_node.fn
  have D_check_node : Def K mg "check_node" s_check_node ["node", "deepest"] f_check_node _ := ⟨F_check_node, PySem.W.mg_of X G a_check_node, F_check_node.binds (ps := ["node", "deepest"]) fun _ _ _ _ _ _ us hl => match us, hl with | [_, _], _ => rfl⟩
  have F_check_nodes := l_check_nodes.fn
  have D_check_nodes : Def K mg "check_nodes" s_check_nodes ["nodes"] f_check_nodes _ := ⟨F_check_nodes, PySem.W.mg_of X G a_check_nodes, F_check_nodes.binds (ps := ["nodes"]) fun _ _ _ _ _ _ us hl => match us, hl with | [_], _ => rfl⟩
  have F_check_lines := l_check_lines.fn
  have D_check_lines : Def K mg "check_lines" s_check_lines ["lines"] f_check_lines _ := ⟨F_check_lines, PySem.W.mg_of X G a_check_lines, F_check_lines.binds (ps := ["lines"]) fun _ _ _ _ _ _ us hl => match us, hl with | [_], _ => rfl⟩
  have F_Thing_init := l_Thing_init.fn
  have B_Thing_init : Binds K _ ["self", "spot_marks"] [] := F_Thing_init.binds (ps := ["self", "spot_marks"]) fun _ _ _ _ _ _ us hl => match us, hl with | [_, _], _ => rfl
  have F_Row_init := l_Row_init.fn
  have B_Row_init : Binds K _ ["self", "marks"] [] := F_Row_init.binds (ps := ["self", "marks"]) fun _ _ _ _ _ _ us hl => match us, hl with | [_, _], _ => rfl
  have F_Row_form := l_Row_form.fn
  have B_Row_form : Binds K _ ["self"] [] := F_Row_form.binds (ps := ["self"]) fun _ _ _ _ _ _ us hl => match us, hl with | [_], _ => rfl
  have F_Forest_init := l_Forest_init.fn
  have B_Forest_init : Binds K _ ["self", "nodes"] [] := F_Forest_init.binds (ps := ["self", "nodes"]) fun _ _ _ _ _ _ us hl => match us, hl with | [_, _], _ => rfl
  have F_Forest_form := l_Forest_form.fn
  have B_Forest_form : Binds K _ ["self"] [] := F_Forest_form.binds (ps := ["self"]) fun _ _ _ _ _ _ us hl => match us, hl with | [_], _ => rfl
  have F_Table_init := l_Table_init.fn
  have B_Table_init : Binds K _ ["self", "lines"] [] := F_Table_init.binds (ps := ["self", "lines"]) fun _ _ _ _ _ _ us hl => match us, hl with | [_, _], _ => rfl
  have F_Table_form := l_Table_form.fn
  have B_Table_form : Binds K _ ["self"] [] := F_Table_form.binds (ps := ["self"]) fun _ _ _ _ _ _ us hl => match us, hl with | [_], _ => rfl
  have F_show_line := l_show_line.fn
  have D_show_line : Def K mg "show_line" s_show_line ["line"] f_show_line _ := ⟨F_show_line, PySem.W.mg_of X G a_show_line, F_show_line.binds (ps := ["line"]) fun _ _ _ _ _ _ us hl => match us, hl with | [_], _ => rfl⟩
  have F_signs_between := l_signs_between.fn
  have D_signs_between : Def K mg "signs_between" s_signs_between ["last", "depth"] f_signs_between _ := ⟨F_signs_between, PySem.W.mg_of X G a_signs_between, F_signs_between.binds (ps := ["last", "depth"]) fun _ _ _ _ _ _ us hl => match us, hl with | [_, _], _ => rfl⟩
  have F_show_nodes := l_show_nodes.fn
  have D_show_nodes : Def K mg "show_nodes" s_show_nodes ["nodes"] f_show_nodes _ := ⟨F_show_nodes, PySem.W.mg_of X G a_show_nodes, F_show_nodes.binds (ps := ["nodes"]) fun _ _ _ _ _ _ us hl => match us, hl with | [_], _ => rfl⟩
  have F_show_thing := l_show_thing.fn
  have D_show_thing : Def K mg "show_thing" s_show_thing ["thing"] f_show_thing _ := ⟨F_show_thing, PySem.W.mg_of X G a_show_thing, F_show_thing.binds (ps := ["thing"]) fun _ _ _ _ _ _ us hl => match us, hl with | [_], _ => rfl⟩
  have F_nodes_in := l_nodes_in.fn
  have D_nodes_in : Def K mg "nodes_in" s_nodes_in ["text"] f_nodes_in _ := ⟨F_nodes_in, PySem.W.mg_of X G a_nodes_in, F_nodes_in.binds (ps := ["text"]) fun _ _ _ _ _ _ us hl => match us, hl with | [_], _ => rfl⟩
  have F_lines_in := l_lines_in.fn
  have D_lines_in : Def K mg "lines_in" s_lines_in ["text"] f_lines_in _ := ⟨F_lines_in, PySem.W.mg_of X G a_lines_in, F_lines_in.binds (ps := ["text"]) fun _ _ _ _ _ _ us hl => match us, hl with | [_], _ => rfl⟩
  have F_marks_in := l_marks_in.fn
  have D_marks_in : Def K mg "marks_in" s_marks_in ["text"] f_marks_in _ := ⟨F_marks_in, PySem.W.mg_of X G a_marks_in, F_marks_in.binds (ps := ["text"]) fun _ _ _ _ _ _ us hl => match us, hl with | [_], _ => rfl⟩
  have F_made_of := l_made_of.fn
  have D_made_of : Def K mg "made_of" s_made_of ["kind", "inside"] f_made_of _ := ⟨F_made_of, PySem.W.mg_of X G a_made_of, F_made_of.binds (ps := ["kind", "inside"]) fun _ _ _ _ _ _ us hl => match us, hl with | [_, _], _ => rfl⟩
  have F_read_thing := l_read_thing.fn
  have D_read_thing : Def K mg "read_thing" s_read_thing ["text"] f_read_thing _ := ⟨F_read_thing, PySem.W.mg_of X G a_read_thing, F_read_thing.binds (ps := ["text"]) fun _ _ _ _ _ _ us hl => match us, hl with | [_], _ => rfl⟩
  have F__law_cell_at := l__law_cell_at.fn
  have D__law_cell_at : Def K mg "_law_cell_at" s__law_cell_at ["_law_script", "_law_k"] f__law_cell_at _ := ⟨F__law_cell_at, PySem.W.mg_of X G a__law_cell_at, F__law_cell_at.binds (ps := ["_law_script", "_law_k"]) fun _ _ _ _ _ _ us hl => match us, hl with | [_, _], _ => rfl⟩
  have F__law_how_many := l__law_how_many.fn
  have D__law_how_many : Def K mg "_law_how_many" s__law_how_many ["_law_number"] f__law_how_many _ := ⟨F__law_how_many, PySem.W.mg_of X G a__law_how_many, F__law_how_many.binds (ps := ["_law_number"]) fun _ _ _ _ _ _ us hl => match us, hl with | [_], _ => rfl⟩
  have F__law_marks := l__law_marks.fn
  have D__law_marks : Def K mg "_law_marks" s__law_marks ["_law_cell", "_law_many"] f__law_marks _ := ⟨F__law_marks, PySem.W.mg_of X G a__law_marks, F__law_marks.binds (ps := ["_law_cell", "_law_many"]) fun _ _ _ _ _ _ us hl => match us, hl with | [_, _], _ => rfl⟩
  have F__law_pick := l__law_pick.fn
  have D__law_pick : Def K mg "_law_pick" s__law_pick ["_law_cell", "_law_marks_here"] f__law_pick _ := ⟨F__law_pick, PySem.W.mg_of X G a__law_pick, F__law_pick.binds (ps := ["_law_cell", "_law_marks_here"]) fun _ _ _ _ _ _ us hl => match us, hl with | [_, _], _ => rfl⟩
  have F__law_nodes := l__law_nodes.fn
  have D__law_nodes : Def K mg "_law_nodes" s__law_nodes ["_law_cells", "_law_marks_here"] f__law_nodes _ := ⟨F__law_nodes, PySem.W.mg_of X G a__law_nodes, F__law_nodes.binds (ps := ["_law_cells", "_law_marks_here"]) fun _ _ _ _ _ _ us hl => match us, hl with | [_, _], _ => rfl⟩
  have F__law_forest_text := l__law_forest_text.fn
  have D__law_forest_text : Def K mg "_law_forest_text" s__law_forest_text ["_law_nodes_here"] f__law_forest_text _ := ⟨F__law_forest_text, PySem.W.mg_of X G a__law_forest_text, F__law_forest_text.binds (ps := ["_law_nodes_here"]) fun _ _ _ _ _ _ us hl => match us, hl with | [_], _ => rfl⟩
  have F__law_refused := l__law_refused.fn
  have D__law_refused : Def K mg "_law_refused" s__law_refused ["_law_text"] f__law_refused _ := ⟨F__law_refused, PySem.W.mg_of X G a__law_refused, F__law_refused.binds (ps := ["_law_text"]) fun _ _ _ _ _ _ us hl => match us, hl with | [_], _ => rfl⟩
  have F__law_wrong_by_any := l__law_wrong_by_any.fn
  have D__law_wrong_by_any : Def K mg "_law_wrong_by_any" s__law_wrong_by_any ["_law_text", "_law_cell", "_law_mark"] f__law_wrong_by_any _ := ⟨F__law_wrong_by_any, PySem.W.mg_of X G a__law_wrong_by_any, F__law_wrong_by_any.binds (ps := ["_law_text", "_law_cell", "_law_mark"]) fun _ _ _ _ _ _ us hl => match us, hl with | [_, _, _], _ => rfl⟩
  have F__law_wrong_table := l__law_wrong_table.fn
  have D__law_wrong_table : Def K mg "_law_wrong_table" s__law_wrong_table ["_law_lines", "_law_cell", "_law_mark"] f__law_wrong_table _ := ⟨F__law_wrong_table, PySem.W.mg_of X G a__law_wrong_table, F__law_wrong_table.binds (ps := ["_law_lines", "_law_cell", "_law_mark"]) fun _ _ _ _ _ _ us hl => match us, hl with | [_, _, _], _ => rfl⟩
  have F__law_lines_text := l__law_lines_text.fn
  have D__law_lines_text : Def K mg "_law_lines_text" s__law_lines_text ["_law_lines"] f__law_lines_text _ := ⟨F__law_lines_text, PySem.W.mg_of X G a__law_lines_text, F__law_lines_text.binds (ps := ["_law_lines"]) fun _ _ _ _ _ _ us hl => match us, hl with | [_], _ => rfl⟩
  have F__law_wrong_forest := l__law_wrong_forest.fn
  have D__law_wrong_forest : Def K mg "_law_wrong_forest" s__law_wrong_forest ["_law_nodes_here", "_law_cell", "_law_mark"] f__law_wrong_forest _ := ⟨F__law_wrong_forest, PySem.W.mg_of X G a__law_wrong_forest, F__law_wrong_forest.binds (ps := ["_law_nodes_here", "_law_cell", "_law_mark"]) fun _ _ _ _ _ _ us hl => match us, hl with | [_, _, _], _ => rfl⟩
  have F_law := l_law.fn
  have D_law : Def K mg "law" s_law ["_law_script"] fa _ := ⟨F_law, PySem.W.mg_of X G a_law, F_law.binds (ps := ["_law_script"]) fun _ _ _ _ _ _ us hl => match us, hl with | [_], _ => rfl⟩
  have M_Forest : Mk K C_Forest f_Forest_init := ⟨m1_Forest, mi_Forest, l_Forest_init.isf, m2_Forest⟩
  have M_Row : Mk K C_Row f_Row_init := ⟨m1_Row, mi_Row, l_Row_init.isf, m2_Row⟩
  have M_Table : Mk K C_Table f_Table_init := ⟨m1_Table, mi_Table, l_Table_init.isf, m2_Table⟩
  have CM_Thing_init : ClsM K C_Thing "__init__" f_Thing_init := ⟨th1_Thing, th2_Thing, a_Thing_init, l_Thing_init.kp⟩
  have ME_Row_form : Meth K C_Row "form" f_Row_form := ⟨i_Row_form, l_Row_form.isf, l_Row_form.kp⟩
  have ME_Forest_form : Meth K C_Forest "form" f_Forest_form := ⟨i_Forest_form, l_Forest_form.isf, l_Forest_form.kp⟩
  have ME_Table_form : Meth K C_Table "form" f_Table_form := ⟨i_Table_form, l_Table_form.isf, l_Table_form.kp⟩
  obtain ⟨oc_law, od_law, kV_law, dc_law, pm_law, an_law, cd_law, ct_law, sl_law, rfl, _⟩ := id l_law
  refine ⟨PySem.W.fnOf "law" "law" (defArgs s_law) (defBody s_law) (defScope s_law) .none kV_law dc_law pm_law an_law cd_law ct_law, fun s v => .of_eq rfl, fun base _ _ => ?_⟩
  have G_is_whole : FnOk l.prog w K mg base CX0 1 f_is_whole _ ["thing"] sp_is_whole := ok_is_whole D_is_whole T
  have G_is_mark : FnOk l.prog w K mg base CX0 1 f_is_mark _ ["thing"] sp_is_mark := ok_is_mark D_is_mark T
  have G_check_list : FnOk l.prog w K mg base (CX1 l.prog w) 1 f_check_list _ ["thing", "most"] (sp_check_list ⟨C_ShrinkError, C_NoThing, C_NoPlace, C_NoFault, C_NoRule, C_Spent, C_Healthy, C_NoText, C_NoRow, C_Thing, C_Row, C_Forest, C_Table⟩) := ok_check_list D_check_list T
  have G_check_marks : FnOk l.prog w K mg base (CX1 l.prog w) 2 f_check_marks _ ["marks", "most"] (sp_check_marks ⟨C_ShrinkError, C_NoThing, C_NoPlace, C_NoFault, C_NoRule, C_Spent, C_Healthy, C_NoText, C_NoRow, C_Thing, C_Row, C_Forest, C_Table⟩) := ok_check_marks D_check_marks T G_check_list G_is_mark D_check_list D_is_mark
  have G_check_node : FnOk l.prog w K mg base (CX1 l.prog w) 2 f_check_node _ ["node", "deepest"] (sp_check_node ⟨C_ShrinkError, C_NoThing, C_NoPlace, C_NoFault, C_NoRule, C_Spent, C_Healthy, C_NoText, C_NoRow, C_Thing, C_Row, C_Forest, C_Table⟩) := ok_check_node D_check_node T G_is_mark G_is_whole D_is_mark D_is_whole
  have G_check_nodes : FnOk l.prog w K mg base (CX1 l.prog w) 3 f_check_nodes _ ["nodes"] (sp_check_nodes ⟨C_ShrinkError, C_NoThing, C_NoPlace, C_NoFault, C_NoRule, C_Spent, C_Healthy, C_NoText, C_NoRow, C_Thing, C_Row, C_Forest, C_Table⟩) := ok_check_nodes D_check_nodes T G_check_list G_check_node D_check_list D_check_node
  have G_check_lines : FnOk l.prog w K mg base (CX1 l.prog w) 3 f_check_lines _ ["lines"] (sp_check_lines ⟨C_ShrinkError, C_NoThing, C_NoPlace, C_NoFault, C_NoRule, C_Spent, C_Healthy, C_NoText, C_NoRow, C_Thing, C_Row, C_Forest, C_Table⟩) := ok_check_lines D_check_lines T G_check_list G_check_marks D_check_list D_check_marks
  have G_Thing_init : FnOk l.prog w K mg base CX0 1 f_Thing_init _ ["self", "spot_marks"] (sp_Thing_init ⟨C_ShrinkError, C_NoThing, C_NoPlace, C_NoFault, C_NoRule, C_Spent, C_Healthy, C_NoText, C_NoRow, C_Thing, C_Row, C_Forest, C_Table⟩) := ok_Thing_init F_Thing_init T
  have G_Row_init : FnOk l.prog w K mg base (CX1 l.prog w) 3 f_Row_init _ ["self", "marks"] (sp_Row_init ⟨C_ShrinkError, C_NoThing, C_NoPlace, C_NoFault, C_NoRule, C_Spent, C_Healthy, C_NoText, C_NoRow, C_Thing, C_Row, C_Forest, C_Table⟩) := ok_Row_init F_Row_init T G_check_marks G_Thing_init D_check_marks B_Thing_init CM_Thing_init
  have G_Row_form : FnOk l.prog w K mg base CX0 1 f_Row_form _ ["self"] (sp_Row_form ⟨C_ShrinkError, C_NoThing, C_NoPlace, C_NoFault, C_NoRule, C_Spent, C_Healthy, C_NoText, C_NoRow, C_Thing, C_Row, C_Forest, C_Table⟩) := ok_Row_form F_Row_form T
  have G_Forest_init : FnOk l.prog w K mg base (CX1 l.prog w) 4 f_Forest_init _ ["self", "nodes"] (sp_Forest_init ⟨C_ShrinkError, C_NoThing, C_NoPlace, C_NoFault, C_NoRule, C_Spent, C_Healthy, C_NoText, C_NoRow, C_Thing, C_Row, C_Forest, C_Table⟩) := ok_Forest_init F_Forest_init T G_check_nodes G_Thing_init D_check_nodes B_Thing_init CM_Thing_init
  have G_Forest_form : FnOk l.prog w K mg base CX0 1 f_Forest_form _ ["self"] (sp_form ⟨C_ShrinkError, C_NoThing, C_NoPlace, C_NoFault, C_NoRule, C_Spent, C_Healthy, C_NoText, C_NoRow, C_Thing, C_Row, C_Forest, C_Table⟩) := ok_Forest_form F_Forest_form T
  have G_Table_init : FnOk l.prog w K mg base (CX1 l.prog w) 4 f_Table_init _ ["self", "lines"] (sp_Table_init ⟨C_ShrinkError, C_NoThing, C_NoPlace, C_NoFault, C_NoRule, C_Spent, C_Healthy, C_NoText, C_NoRow, C_Thing, C_Row, C_Forest, C_Table⟩) := ok_Table_init F_Table_init T G_check_lines G_Thing_init D_check_lines B_Thing_init CM_Thing_init
  have G_Table_form : FnOk l.prog w K mg base CX0 1 f_Table_form _ ["self"] (sp_Table_form ⟨C_ShrinkError, C_NoThing, C_NoPlace, C_NoFault, C_NoRule, C_Spent, C_Healthy, C_NoText, C_NoRow, C_Thing, C_Row, C_Forest, C_Table⟩) := ok_Table_form F_Table_form T
  have G_show_line : FnOk l.prog w K mg base CX0 1 f_show_line _ ["line"] (sp_show_line K) := ok_show_line D_show_line T
  have G_signs_between : FnOk l.prog w K mg base CX0 1 f_signs_between _ ["last", "depth"] sp_signs_between := ok_signs_between D_signs_between T
  have G_show_nodes : FnOk l.prog w K mg base CX0 2 f_show_nodes _ ["nodes"] (sp_show_nodes K) := ok_show_nodes D_show_nodes T G_signs_between D_signs_between
  have G_show_thing : FnOk l.prog w K mg base CX0 3 f_show_thing _ ["thing"] (sp_show_thing ⟨C_ShrinkError, C_NoThing, C_NoPlace, C_NoFault, C_NoRule, C_Spent, C_Healthy, C_NoText, C_NoRow, C_Thing, C_Row, C_Forest, C_Table⟩) := ok_show_thing D_show_thing T G_Row_form G_Forest_form G_Table_form G_show_nodes G_show_line D_show_nodes D_show_line B_Row_form B_Forest_form B_Table_form ME_Row_form ME_Forest_form ME_Table_form
  have G_nodes_in : FnOk l.prog w K mg base CX0 1 f_nodes_in _ ["text"] sp_nodes_in := ok_nodes_in D_nodes_in T
  have G_lines_in : FnOk l.prog w K mg base CX0 1 f_lines_in _ ["text"] sp_lines_in := ok_lines_in D_lines_in T
  have G_marks_in : FnOk l.prog w K mg base CX0 1 f_marks_in _ ["text"] sp_marks_in := ok_marks_in D_marks_in T
  have G_made_of : FnOk l.prog w K mg base (CX1 l.prog w) 6 f_made_of _ ["kind", "inside"] (sp_made_of ⟨C_ShrinkError, C_NoThing, C_NoPlace, C_NoFault, C_NoRule, C_Spent, C_Healthy, C_NoText, C_NoRow, C_Thing, C_Row, C_Forest, C_Table⟩) := ok_made_of D_made_of T G_Row_init G_marks_in G_Forest_init G_nodes_in G_Table_init G_lines_in D_marks_in D_nodes_in D_lines_in B_Row_init B_Forest_init B_Table_init M_Row M_Forest M_Table
  have G_read_thing : FnOk l.prog w K mg base (CX3 l.prog w) 7 f_read_thing _ ["text"] (sp_read_thing K ⟨C_ShrinkError, C_NoThing, C_NoPlace, C_NoFault, C_NoRule, C_Spent, C_Healthy, C_NoText, C_NoRow, C_Thing, C_Row, C_Forest, C_Table⟩) := ok_read_thing D_read_thing T G_made_of G_show_thing D_made_of D_show_thing
  have G__law_cell_at : FnOk l.prog w K mg base CX0 1 f__law_cell_at _ ["_law_script", "_law_k"] (sp__law_cell_at K) := ok__law_cell_at D__law_cell_at T
  have G__law_how_many : FnOk l.prog w K mg base CX0 1 f__law_how_many _ ["_law_number"] sp__law_how_many := ok__law_how_many D__law_how_many T
  have G__law_marks : FnOk l.prog w K mg base CX0 1 f__law_marks _ ["_law_cell", "_law_many"] sp__law_marks := ok__law_marks D__law_marks T
  have G__law_pick : FnOk l.prog w K mg base CX0 1 f__law_pick _ ["_law_cell", "_law_marks_here"] sp__law_pick := ok__law_pick D__law_pick T
  have G__law_nodes : FnOk l.prog w K mg base CX0 2 f__law_nodes _ ["_law_cells", "_law_marks_here"] sp__law_nodes := ok__law_nodes D__law_nodes T G__law_pick D__law_pick
  have G__law_forest_text : FnOk l.prog w K mg base CX0 1 f__law_forest_text _ ["_law_nodes_here"] sp__law_forest_text := ok__law_forest_text D__law_forest_text T
  have G__law_refused : FnOk l.prog w K mg base CX0 8 f__law_refused _ ["_law_text"] (sp__law_refused K) := ok__law_refused D__law_refused T G_read_thing D_read_thing
  have G__law_wrong_by_any : FnOk l.prog w K mg base CX0 1 f__law_wrong_by_any _ ["_law_text", "_law_cell", "_law_mark"] (sp__law_wrong_by_any K) := ok__law_wrong_by_any D__law_wrong_by_any T
  have G__law_lines_text : FnOk l.prog w K mg base CX0 1 f__law_lines_text _ ["_law_lines"] sp__law_lines_text := ok__law_lines_text D__law_lines_text T
  have G__law_wrong_table : FnOk l.prog w K mg base CX0 2 f__law_wrong_table _ ["_law_lines", "_law_cell", "_law_mark"] sp__law_wrong_table := ok__law_wrong_table D__law_wrong_table T G__law_lines_text D__law_lines_text
  have G__law_wrong_forest : FnOk l.prog w K mg base CX0 2 f__law_wrong_forest _ ["_law_nodes_here", "_law_cell", "_law_mark"] sp__law_wrong_forest := ok__law_wrong_forest D__law_wrong_forest T G__law_forest_text D__law_forest_text
  exact ok_law D_law T G__law_cell_at G__law_marks G__law_how_many G__law_pick G__law_lines_text G__law_wrong_table G__law_nodes G__law_forest_text G__law_wrong_forest G__law_wrong_by_any G__law_refused G_read_thing G_Row_form G_Forest_form G_Table_form D__law_cell_at D__law_marks D__law_how_many D__law_pick D__law_lines_text D__law_wrong_table D__law_nodes D__law_forest_text D__law_wrong_forest D__law_wrong_by_any D__law_refused D_read_thing B_Row_form B_Forest_form B_Table_form ME_Row_form ME_Forest_form ME_Table_form
theorem walk {l : PySem.W.OpenLaw} {q : Program} {loose : List Str} {XP : (Str → Option Value) → Heap → Prop} {YP : World → Heap → Prop} {d : DefRec} {K : Params → PySem.W.Frag} (hn : l.most = some 63) (hdf : d.params.defaults = [])
    (hY : ∀ (w : World) (h : Heap), YP w h → (K w.params).In h)
    (F : ∀ (w : World) (mg : Str → Option Value) (fa : Addr) (h : Heap), (K w.params).In h → h.Ns mainGlobals mg → mg d.name = some (.ref fa) →
      ∃ fd : FuncData, (∀ (s : Shared) (u : Value), BindsTo s fd ⟨[u], []⟩ [("_law_script", u)]) ∧ ∀ base : Heap, (K w.params).In base → base.Ns mainGlobals mg → FnOk l.prog w (K w.params) mg base CX0 9 fa fd ["_law_script"] (sp_law (K w.params))) :
    PySem.W.WalkO q loose XP YP l.row.toRowW d [] (fun f vs => PySem.call f vs) :=
  L2.walk_of (n := 63) (k := 9) (x := "_law_script") (CX := fun _ => CX0) (sp := fun w => sp_law (K w.params)) hn (by decide) hdf ⟨rfl, by decide, by decide⟩ hY F (fun _ _ a ns hl _ hS => ⟨a, ns, rfl, hS, hl, fun _ => rfl⟩) fun _ _ _ _ _ z => z
end K36
def PySem.W.Fast.tw9271126250903919599 : Nat := 0
def PySem.W.Fast.tw17327976449574724347 : Nat := 0
def PySem.W.Fast.tw8077200117736753382 : Nat := 0
def PySem.W.Fast.tw14692055126429844772 : Nat := 0
def PySem.W.Fast.tw12992240508861682005 : Nat := 0
def PySem.W.Fast.tw18048953864784374470 : Nat := 0
def PySem.W.Fast.tw10106880519182159228 : Nat := 0
def PySem.W.Fast.tw11102499874004450642 : Nat := 0
def PySem.W.Fast.tw13819134193027887735 : Nat := 0
def PySem.W.Fast.tw12188468255361931657 : Nat := 0
def PySem.W.Fast.tw7076104835846338631 : Nat := 0
def PySem.W.Fast.tw3682412769450026014 : Nat := 0
def PySem.W.Fast.tw11856091688616938237 : Nat := 0
def PySem.W.Fast.tw8382639027046153391 : Nat := 0
def PySem.W.Fast.tw6534213344953385987 : Nat := 0
def PySem.W.Fast.tw5047306328800909226 : Nat := 0
def PySem.W.Fast.tw15394029769558643142 : Nat := 0
def PySem.W.Fast.tw8759193033191986557 : Nat := 0
def PySem.W.Fast.tw17871961726136644985 : Nat := 0
def PySem.W.Fast.tw16695060309245940819 : Nat := 0
def PySem.W.Fast.tw14426159930847534895 : Nat := 0
def PySem.W.Fast.tw1228902576755015971 : Nat := 0
def PySem.W.Fast.tw4199711000752611629 : Nat := 0
def PySem.W.Fast.tw9087098851293225863 : Nat := 0
def PySem.W.Fast.tw12761939842785878943 : Nat := 0
def PySem.W.Fast.tw4480166682320970156 : Nat := 0
def PySem.W.Fast.tw14454859976241319545 : Nat := 0
def PySem.W.Fast.tw14269513370783939633 : Nat := 0
def PySem.W.Fast.tw14156002912181596090 : Nat := 0
def PySem.W.Fast.tw11576579145809869300 : Nat := 0
def PySem.W.Fast.tw14291156962473308131 : Nat := 0
def PySem.W.Fast.tw4709070629847788609 : Nat := 0
def PySem.W.Fast.tw17491315961294330730 : Nat := 0
def PySem.W.Fast.tw7021758022104397458 : Nat := 0
def PySem.W.Fast.tw15297298940619276718 : Nat := 0
def PySem.W.Fast.tw2743000790200337758 : Nat := 0
def PySem.W.Fast.tw8671540313794300280 : Nat := 0
def PySem.W.Fast.tw8102149652571263194 : Nat := 0
open PySem PySem.W PyProof.Rows
set_option maxRecDepth 100000 in
set_option maxHeartbeats 0 in
theorem PySem.Challenge.cw_shrinkhouse_k36_no_things_texts_holds : PySem.Challenge.rw_shrinkhouse_k36_no_things_texts.Holds := by
  w_on; o_law; k_head; (case hw => w_witness2)
  k_fill
  refine K36.walk (l := PySem.Challenge.rw_shrinkhouse_k36_no_things_texts) rfl rfl (fun w h Y => PySem.W.kIn_of Y) ?F
  case F =>
    intro w mg fa h KX G hmg
    refine' K36.all_mk KX G hmg ?a_ShrinkError ?a_NoThing ?a_NoPlace ?a_NoFault ?a_NoRule ?a_Spent ?a_Healthy ?a_NoText ?a_NoRow ?a_Thing ?a_Row ?a_Forest ?a_Table ?a_is_whole ?l_is_whole ?a_is_mark ?l_is_mark ?a_check_list ?l_check_list ?a_check_marks ?l_check_marks ?a_check_node ?l_check_node ?a_check_nodes ?l_check_nodes ?a_check_lines ?l_check_lines ?a_Thing_init ?l_Thing_init ?l_Row_init ?i_Row_form ?l_Row_form ?l_Forest_init ?i_Forest_form ?l_Forest_form ?l_Table_init ?i_Table_form ?l_Table_form ?a_show_line ?l_show_line ?a_signs_between ?l_signs_between ?a_show_nodes ?l_show_nodes ?a_show_thing ?l_show_thing ?a_nodes_in ?l_nodes_in ?a_lines_in ?l_lines_in ?a_marks_in ?l_marks_in ?a_made_of ?l_made_of ?a_read_thing ?l_read_thing ?a__law_cell_at ?l__law_cell_at ?a__law_how_many ?l__law_how_many ?a__law_marks ?l__law_marks ?a__law_pick ?l__law_pick ?a__law_nodes ?l__law_nodes ?a__law_forest_text ?l__law_forest_text ?a__law_refused ?l__law_refused ?a__law_wrong_by_any ?l__law_wrong_by_any ?a__law_wrong_table ?l__law_wrong_table ?a__law_lines_text ?l__law_lines_text ?a__law_wrong_forest ?l__law_wrong_forest ?a_law ?l_law ?z_ValueError ?z_all ?z_bool ?z_int ?z_isinstance ?z_len ?z_list ?z_min ?z_range ?z_str ?z_tuple ?g_LETTERS ?g_LONGEST_MARK ?g_MOST_IN_ROW ?g_MOST_NODES ?g_DEEPEST ?g_MOST_LINES ?g_MOST_COLUMNS ?x1_NoText ?x2_NoText ?x3_NoText ?x4_NoText ?x5_NoText ?x6_NoText ?x7_NoText ?x8_NoText_NoThing ?x8_NoText_ShrinkError ?y_NoText_Healthy ?y_NoText_NoFault ?y_NoText_NoPlace ?y_NoText_NoRow ?y_NoText_NoRule ?y_NoText_NoText ?y_NoText_NoThing ?y_NoText_Spent ?y_NoText_ValueError ?x1_NoThing ?x2_NoThing ?x3_NoThing ?x4_NoThing ?x5_NoThing ?x6_NoThing ?x7_NoThing ?x8_NoThing_NoThing ?x8_NoThing_ShrinkError ?y_NoThing_Healthy ?y_NoThing_NoFault ?y_NoThing_NoPlace ?y_NoThing_NoRow ?y_NoThing_NoRule ?y_NoThing_NoText ?y_NoThing_NoThing ?y_NoThing_Spent ?y_NoThing_ValueError ?r1_Forest ?r2_Forest ?r3_Forest ?r4_Forest ?n_Forest_nodes ?n_Forest_spot_marks ?r6_Forest ?r9_Forest ?r1_Row ?r2_Row ?r3_Row ?r4_Row ?n_Row_spot_marks ?r6_Row ?r9_Row ?r1_Table ?r2_Table ?r3_Table ?r4_Table ?n_Table_columns ?n_Table_lines ?n_Table_spot_marks ?r6_Table ?r9_Table ?r7 ?r8 ?mi_Forest ?m1_Forest ?m2_Forest ?mi_Row ?m1_Row ?m2_Row ?mi_Table ?m1_Table ?m2_Table ?th1_Thing ?th2_Thing
    case a_ShrinkError | a_NoThing | a_NoPlace | a_NoFault | a_NoRule | a_Spent | a_Healthy | a_NoText | a_NoRow | a_Thing | a_Row | a_Forest | a_Table | a_is_whole | a_is_mark | a_check_list | a_check_marks | a_check_node | a_check_nodes | a_check_lines | a_Thing_init | a_show_line | a_signs_between | a_show_nodes | a_show_thing | a_nodes_in | a_lines_in | a_marks_in | a_made_of | a_read_thing | a__law_cell_at | a__law_how_many | a__law_marks | a__law_pick | a__law_nodes | a__law_forest_text | a__law_refused | a__law_wrong_by_any | a__law_wrong_table | a__law_lines_text | a__law_wrong_forest | a_law => k_is
    case mi_Forest | mi_Row | mi_Table => k_is
    case i_Row_form | i_Forest_form | i_Table_form => k_is
    case l_is_whole | l_is_mark | l_check_list | l_check_marks | l_check_node | l_check_nodes | l_check_lines | l_Thing_init | l_Row_init | l_Row_form | l_Forest_init | l_Forest_form | l_Table_init | l_Table_form | l_show_line | l_signs_between | l_show_nodes | l_show_thing | l_nodes_in | l_lines_in | l_marks_in | l_made_of | l_read_thing | l__law_cell_at | l__law_how_many | l__law_marks | l__law_pick | l__law_nodes | l__law_forest_text | l__law_refused | l__law_wrong_by_any | l__law_wrong_table | l__law_lines_text | l__law_wrong_forest | l_law => exact ⟨_, _, _, _, _, _, _, _, _, rfl, by k_is, by k_is, by k_is, by k_is⟩
    case z_ValueError | z_all | z_bool | z_int | z_isinstance | z_len | z_list | z_min | z_range | z_str | z_tuple | g_LETTERS | g_LONGEST_MARK | g_MOST_IN_ROW | g_MOST_NODES | g_DEEPEST | g_MOST_LINES | g_MOST_COLUMNS | x2_NoText | x3_NoText | x4_NoText | x5_NoText | x6_NoText | x7_NoText | x2_NoThing | x3_NoThing | x4_NoThing | x5_NoThing | x6_NoThing | x7_NoThing | r1_Forest | r2_Forest | r3_Forest | r4_Forest | n_Forest_nodes | n_Forest_spot_marks | r6_Forest | r9_Forest | r1_Row | r2_Row | r3_Row | r4_Row | n_Row_spot_marks | r6_Row | r9_Row | r1_Table | r2_Table | r3_Table | r4_Table | n_Table_columns | n_Table_lines | n_Table_spot_marks | r6_Table | r9_Table | r7 | r8 | m1_Forest | m2_Forest | m1_Row | m2_Row | m1_Table | m2_Table | th1_Thing | th2_Thing => k_is
    case x1_NoText | x1_NoThing => k_exc
    case x8_NoText_NoThing | x8_NoText_ShrinkError | x8_NoThing_NoThing | x8_NoThing_ShrinkError => kts_exm
    case y_NoText_Healthy | y_NoText_NoFault | y_NoText_NoPlace | y_NoText_NoRow | y_NoText_NoRule | y_NoText_NoText | y_NoText_NoThing | y_NoText_Spent | y_NoText_ValueError | y_NoThing_Healthy | y_NoThing_NoFault | y_NoThing_NoPlace | y_NoThing_NoRow | y_NoThing_NoRule | y_NoThing_NoText | y_NoThing_NoThing | y_NoThing_Spent | y_NoThing_ValueError => kit_is
#print axioms PySem.Challenge.cw_shrinkhouse_k36_no_things_texts_holds
