import PyProof.Rows.All
import Wide.All
import OpenK.AllK
import Wide.FinOn
import Lean
import PyProof.EqAt
import PyProof.EqKinds
import PyProof.TupleCall
import PyProof.StrLawsIn
import KE.KTryMore
import PyProof.ListRange
import PyProof.StrLawsTight
import PyProof.StrLawsReplace
import PyProof.Rows.StrItems
import PyProof.Rows.StrWeight2
import PyProof.Rows.StrLawsPart
import PyProof.Rows.StrFirst
import PyProof.RulesTry
import PyProof.StrCalls6
import PyProof.PureStr
import PyProof.StrBlock2
import PyProof.Rows.StrRules
import KE.KDictOf
import PyProof.Draws
import PyProof.EnumMake
import PyProof.Rows.EnumRows
import PySem.Challenge.RW_shrinkhouse_k35_forests_as_texts
set_option autoImplicit false
set_option Elab.async false
set_option linter.all false
set_option maxRecDepth 100000
set_option maxHeartbeats 4000000
namespace L2
open PySem PySem.Spec PyProof.Rows
abbrev Key := Sum Int Str
def keyIs : Key → Value → Bool
  | .inl k, v => Value.isInt k v
  | .inr x, v => Value.isStrOf x v
def keyH (w : World) : Key → Int
  | .inl k => hashInt k
  | .inr x => hashStr w x
theorem keyIs_shape : ∀ {k : Key} {v : Value}, keyIs k v = true → (∃ i t, k = Sum.inl i ∧ v = Value.int i t) ∨ (∃ x t, k = Sum.inr x ∧ v = Value.str x t)
  | .inl i, v, h => by
    obtain ⟨t, e⟩ := Value.isInt_shape (k := i) (v := v) h
    exact .inl ⟨i, t, rfl, e⟩
  | .inr x, v, h => by
    obtain ⟨t, e⟩ := Value.isStrOf_shape (x := x) (v := v) h
    exact .inr ⟨x, t, rfl, e⟩
theorem keyIs_int (i : Int) (t : Tok) : keyIs (.inl i) (.int i t) = true := by simp [keyIs, Value.isInt]
theorem keyIs_str (x : Str) (t : Tok) : keyIs (.inr x) (.str x t) = true := by simp [keyIs, Value.isStrOf]
theorem key_ll (a b : Int) : decide ((Sum.inl a : Key) = Sum.inl b) = (a == b) := by
  by_cases e : a = b
  · subst e; simp
  · have h : ¬ (Sum.inl a : Key) = Sum.inl b := fun q => e (Sum.inl.inj q)
    rw [decide_eq_false h]
    exact (beq_eq_false_iff_ne.mpr e).symm
theorem key_rr (a b : Str) : decide ((Sum.inr a : Key) = Sum.inr b) = decide (a = b) := by
  by_cases e : a = b
  · subst e; simp
  · have h : ¬ (Sum.inr a : Key) = Sum.inr b := fun q => e (Sum.inr.inj q)
    rw [decide_eq_false h, decide_eq_false e]
theorem key_lr (a : Int) (b : Str) : decide ((Sum.inl a : Key) = Sum.inr b) = false := decide_eq_false (fun q => nomatch q)
theorem key_rl (a : Str) (b : Int) : decide ((Sum.inr a : Key) = Sum.inl b) = false := decide_eq_false (fun q => nomatch q)
def mixKind (prog : Program) (w : World) : PySem.KeyKind prog w Key where
  is := keyIs
  hash := keyH w
  inj := fun v a b ha hb => by
    rcases keyIs_shape ha with ⟨i, t, rfl, rfl⟩ | ⟨x, t, rfl, rfl⟩
    · rcases keyIs_shape hb with ⟨j, u, rfl, e⟩ | ⟨y, u, rfl, e⟩
      · injection e with e1 _; rw [e1]
      · exact nomatch e
    · rcases keyIs_shape hb with ⟨j, u, rfl, e⟩ | ⟨y, u, rfl, e⟩
      · exact nomatch e
      · injection e with e1 _; rw [e1]
  byValue := fun k v h => by
    rcases keyIs_shape h with ⟨i, t, rfl, rfl⟩ | ⟨x, t, rfl, rfl⟩ <;> rfl
  pyHash := fun hv h => by
    rcases keyIs_shape hv with ⟨i, t, rfl, rfl⟩ | ⟨x, t, rfl, rfl⟩
    · exact wpAny_pyHash_int h
    · exact wpAny_pyHash_str h
  eqBool := fun hu hv h => by
    rcases keyIs_shape hu with ⟨i, t, rfl, rfl⟩ | ⟨x, t, rfl, rfl⟩
    · rcases keyIs_shape hv with ⟨j, u, rfl, rfl⟩ | ⟨y, u, rfl, rfl⟩
      · rw [key_ll] at h; exact wpAny_eqBool_int h
      · rw [key_lr] at h; exact SeqAt.EqAt.int_str i t y u _ _ _ _ h
    · rcases keyIs_shape hv with ⟨j, u, rfl, rfl⟩ | ⟨y, u, rfl, rfl⟩
      · rw [key_rl] at h; exact SeqAt.EqAt.str_int x t j u _ _ _ _ h
      · rw [key_rr] at h; exact wpAny_eqBool_str h
  «strs» := fun k x t v h => by
    rcases keyIs_shape h with ⟨i, u, rfl, e⟩ | ⟨y, u, rfl, e⟩
    · exact nomatch e
    · injection e with e1 _
      subst e1
      cases v <;> rfl
theorem mixKind_int (prog : Program) (w : World) (i : Int) (t : Tok) : (mixKind prog w).is (.inl i) (.int i t) = true := keyIs_int i t
theorem mixKind_str (prog : Program) (w : World) (x : Str) (t : Tok) : (mixKind prog w).is (.inr x) (.str x t) = true := keyIs_str x t
end L2
namespace L2
open PySem PySem.Spec PyProof.Rows
inductive V where
  | non | bl (b : Bool) | int (i : Int) | str (x : Str) | byt (b : Array UInt8) | flt (b : UInt64) | ref (a : Addr) | ty (n : String)
  deriving DecidableEq
def RelV : V → Value → Prop
  | .non, u => u = Value.none
  | .bl b, u => u = Value.bool b
  | .int i, u => ∃ t, u = Value.int i t
  | .str x, u => ∃ t, u = Value.str x t
  | .byt b, u => ∃ t, u = Value.bytes b t
  | .flt b, u => ∃ t, u = Value.float b t
  | .ref a, u => u = Value.ref a
  | .ty n, u => u = Value.type n
abbrev Vals : List V → List Value → Prop := Paired RelV
theorem Vals.length {xs : List V} {us : List Value} (r : Vals xs us) : xs.length = us.length := Paired.length r
theorem Vals.get : ∀ {xs : List V} {us : List Value} {i : Nat} {x : V}, Vals xs us → xs[i]? = some x → ∃ u, us[i]? = some u ∧ RelV x u
  | _, _, _, _, .nil, e => by simp at e
  | _, _, 0, _, .cons r _, e => by simp at e; subst e; exact ⟨_, rfl, r⟩
  | _, _, i + 1, x, .cons _ t, e => by
    obtain ⟨u, h1, h2⟩ := Vals.get (i := i) (x := x) t (by simpa using e)
    exact ⟨u, by simpa using h1, h2⟩
theorem Vals.set {x : V} {u : Value} (r : RelV x u) : ∀ {xs : List V} {us : List Value} (i : Nat), Vals xs us → Vals (xs.set i x) (us.set i u)
  | _, _, _, .nil => .nil
  | _, _, 0, .cons _ t => .cons r t
  | _, _, i + 1, .cons q t => .cons q (Vals.set r i t)
theorem Vals.append : ∀ {xs ys : List V} {us ws : List Value}, Vals xs us → Vals ys ws → Vals (xs ++ ys) (us ++ ws)
  | _, _, _, _, .nil, s => s
  | _, _, _, _, .cons r t, s => .cons r (Vals.append t s)
theorem Vals.take : ∀ {xs : List V} {us : List Value} (n : Nat), Vals xs us → Vals (xs.take n) (us.take n)
  | _, _, 0, _ => .nil
  | _, _, _ + 1, .nil => .nil
  | _, _, n + 1, .cons r t => .cons r (Vals.take n t)
theorem Vals.drop : ∀ {xs : List V} {us : List Value} (n : Nat), Vals xs us → Vals (xs.drop n) (us.drop n)
  | _, _, 0, r => r
  | _, _, _ + 1, .nil => .nil
  | _, _, n + 1, .cons _ t => Vals.drop n t
theorem Vals.none_of : ∀ {xs : List V} {us : List Value} {i : Nat}, Vals xs us → xs[i]? = none → us[i]? = none := fun {xs us i} r e => by
  have h1 := r.length
  have h2 : xs.length ≤ i := List.getElem?_eq_none_iff.mp e
  exact List.getElem?_eq_none_iff.mpr (by omega)
def RelO : Option V → Option Value → Prop
  | some v, some u => RelV v u
  | none, none => True
  | _, _ => False
def KV {κ : Type} : List (κ × V) → List (κ × Value) → Prop := Paired fun (p : κ × V) (q : κ × Value) => p.1 = q.1 ∧ RelV p.2 q.2
def kV : Key → V
  | .inl i => .int i
  | .inr x => .str x
inductive HO where
  
  | lst (xs : List V)
  
  | tup (xs : List V)
  
  | dK (kvs : List (Key × V)) | dT (kvs : List (List Key × V))
  
  | set (S : Int → Bool) (n : Nat)
  
  | ins (C dx : Addr) (fs : List (Str × V))
  
  | own (x : Addr)
  
  | xd (fs : List (Str × V))
  
  | met (f x : Addr)
  
  | rng (lo hi : Int)
  
  | frz (o : Obj) (u : HO)
  
  | tbl (ps : Array Value)
  
  | ext (φ : Heap → Prop)
abbrev Hp := Addr → Option HO
def upd (H : Hp) (a : Addr) (o : HO) : Hp := fun b => if b = a then some o else H b
theorem upd_same {H : Hp} {a : Addr} {o : HO} : upd H a o a = some o := by unfold upd; rw [if_pos rfl]
theorem upd_ne {H : Hp} {a b : Addr} {o : HO} (h : b ≠ a) : upd H a o b = H b := by unfold upd; rw [if_neg h]
theorem upd_upd {H : Hp} {a : Addr} {o u : HO} : upd (upd H a o) a u = upd H a u := by
  funext b; unfold upd; split <;> rfl
theorem ne_of {H : Hp} {a b : Addr} {o u : HO} (h : H a = some o) (h' : H b = some u) (d : o ≠ u) : a ≠ b := by
  intro e; subst e; rw [h] at h'; exact d (Option.some.inj h')
theorem ne_of_none {H : Hp} {a b : Addr} {o : HO} (h : H a = some o) (h' : H b = none) : a ≠ b := by
  intro e; subst e; rw [h] at h'; cases h'
section
variable (P : Program) (w : World)
def ObjOk (H : Hp) (h : Heap) (a : Addr) : HO → Prop
  | .lst xs => xs.length ≤ sizeLine ∧ ∃ (its : List Value) (n : Nat), Vals xs its ∧ h.get? a = some { cls := .type "list", data := .seq its.toArray n }
  | .tup xs => xs.length ≤ sizeLine ∧ ∃ its : List Value, Vals xs its ∧ IsTup h a its.toArray
  | .dK kvs => kvs.length ≤ sizeLine ∧ (a == sysModules) = false ∧ ∃ vs, KV kvs vs ∧ h.DictOf (mixKind P w) a vs
  | .dT kvs => kvs.length ≤ sizeLine ∧ (a == sysModules) = false ∧ ∃ xs : List (List Key × Addr × Value),
      Paired (fun (p : List Key × V) (q : List Key × Addr × Value) => p.1 = q.1 ∧ H q.2.1 = some (.tup (p.1.map kV)) ∧ RelV p.2 q.2.2) kvs xs ∧
      ∃ o es ep, h.get? a = some o ∧ o.ExactDict ∧ o.data = .dict es ep ∧ es.toList = xs.map (entryOfKey (tupleKind (mixKind P w))) ∧ (xs.map (·.1)).Nodup
  | .set S n => h.SetOf (intKind P w) a S n
  | .ins C dx fs => H dx = some (.own a) ∧ fs.length ≤ 1000 ∧ dx ≠ a ∧ h.get? a = some (PySem.W.instObj C dx) ∧
      ∃ mA, h.Ns1 dx mA ∧ (∀ f, RelO (fs.lookup f) (mA f)) ∧ PySem.Within mA (fs.map (·.1))
  | .own _ => ∃ o, h.get? a = some o
  | .xd fs => ∃ mA, h.Ns1 a mA ∧ ∀ f, RelO (fs.lookup f) (mA f)
  | .rng lo hi => ∃ t u v, h.get? a = some { cls := .type "range", data := .fields #[.int lo t, .int hi u, .int 1 v] }
  | .frz o u => h.get? a = some o ∧ ObjOk H h a u
  | .tbl ps => h.get? a = some { cls := .none, data := .fields ps }
  | .met f x => h.get? a = some (PySem.W.methodObj (.ref f) (.ref x))
  | .ext φ => φ h ∧ (∃ o, h.get? a = some o) ∧ ∀ h1 h2 : Heap, φ h1 → (∀ o, h1.get? a = some o → h2.get? a = some o) → φ h2
def HOk (H : Hp) (h : Heap) : Prop := ∀ a o, H a = some o → ObjOk P w H h a o
end
section
variable {P : Program} {w : World} {H H' : Hp} {h h' : Heap} {a : Addr} {o : HO}
theorem ObjOk.lt (x : ObjOk P w H h a o) : a < h.objs.size := by
  cases o with
  | lst xs => obtain ⟨_, _, _, _, e⟩ := x; exact Heap.lt_size e
  | tup xs => obtain ⟨_, _, _, p⟩ := x; exact p.lt
  | dK kvs => obtain ⟨_, _, _, _, o, _, _, e, _⟩ := x; exact Heap.lt_size e
  | dT kvs => obtain ⟨_, _, _, _, o, _, _, e, _⟩ := x; exact Heap.lt_size e
  | set S n => obtain ⟨o, _, _, _, e, _⟩ := x; exact Heap.lt_size e
  | ins C dx fs => obtain ⟨_, _, _, e, _⟩ := x; exact Heap.lt_size e
  | own y => obtain ⟨_, e⟩ := x; exact Heap.lt_size e
  | xd fs => obtain ⟨_, ⟨_, _, _, e, _⟩, _⟩ := x; exact Heap.lt_size e
  | rng lo hi => obtain ⟨_, _, _, e⟩ := x; exact Heap.lt_size e
  | frz ob u => obtain ⟨e, _⟩ := x; exact Heap.lt_size e
  | tbl ps => exact Heap.lt_size (show h.get? a = some _ from x)
  | met f y => exact Heap.lt_size (show h.get? a = some _ from x)
  | ext φ => obtain ⟨_, ⟨_, e⟩, _⟩ := x; exact Heap.lt_size e
theorem Paired.mapP {α β : Type} {F G : α → β → Prop} : ∀ {l₁ : List α} {l₂ : List β}, Paired F l₁ l₂ → (∀ a b, F a b → G a b) → Paired G l₁ l₂
  | _, _, .nil, _ => .nil
  | _, _, .cons r t, f => .cons (f _ _ r) (Paired.mapP t f)
theorem ObjOk.stay (x : ObjOk P w H h a o) (k : ∀ b u, (b = a ∨ H b = some (.own a)) → h.get? b = some u → h'.get? b = some u)
    (ho : ∀ b, H b = some (.own a) → H' b = some (.own a)) (ht : ∀ b xs, H b = some (.tup xs) → H' b = some (.tup xs)) : ObjOk P w H' h' a o := by
  induction o with
  | lst xs => obtain ⟨z, its, n, r, e⟩ := x; exact ⟨z, its, n, r, k _ _ (.inl rfl) e⟩
  | tup xs => obtain ⟨z, its, r, ob, e, c⟩ := x; exact ⟨z, its, r, ob, k _ _ (.inl rfl) e, c⟩
  | dK kvs => obtain ⟨z, y, vs, r, ob, es, ep, e, c⟩ := x; exact ⟨z, y, vs, r, ob, es, ep, k _ _ (.inl rfl) e, c⟩
  | dT kvs =>
    obtain ⟨z, y, xs, r, ob, es, ep, e, c⟩ := x
    exact ⟨z, y, xs, Paired.mapP r fun p q z => ⟨z.1, ht _ _ z.2.1, z.2.2⟩, ob, es, ep, k _ _ (.inl rfl) e, c⟩
  | set S n => obtain ⟨ob, es, ep, t, e, c⟩ := x; exact ⟨ob, es, ep, t, k _ _ (.inl rfl) e, c⟩
  | ins C dx fs =>
    obtain ⟨d, z, ne, e, mA, ⟨od, es, ep, e2, c⟩, r⟩ := x
    exact ⟨ho _ d, z, ne, k _ _ (.inl rfl) e, mA, ⟨od, es, ep, k _ _ (.inr d) e2, c⟩, r⟩
  | own y => obtain ⟨ob, e⟩ := x; exact ⟨ob, k _ _ (.inl rfl) e⟩
  | xd fs => obtain ⟨mA, ⟨od, es, ep, e, c⟩, r⟩ := x; exact ⟨mA, ⟨od, es, ep, k _ _ (.inl rfl) e, c⟩, r⟩
  | rng lo hi => obtain ⟨t, u, v, e⟩ := x; exact ⟨t, u, v, k _ _ (.inl rfl) e⟩
  | frz ob u ih => obtain ⟨e, q⟩ := x; exact ⟨k _ _ (.inl rfl) e, ih q⟩
  | tbl ps =>
    have e : h.get? a = some { cls := .none, data := .fields ps } := x
    show h'.get? a = some { cls := .none, data := .fields ps }
    exact k a _ (.inl rfl) e
  | met f y =>
    have e : h.get? a = some (PySem.W.methodObj (.ref f) (.ref y)) := x
    show h'.get? a = some (PySem.W.methodObj (.ref f) (.ref y))
    exact k a _ (.inl rfl) e
  | ext φ => obtain ⟨p, ⟨o, e⟩, st⟩ := x; exact ⟨st _ _ p fun o q => k _ _ (.inl rfl) q, ⟨o, k _ _ (.inl rfl) e⟩, st⟩
theorem HOk.lt (x : HOk P w H h) (e : H a = some o) : a < h.objs.size := (x a o e).lt
theorem HOk.fresh (x : HOk P w H h) (e : h.objs.size ≤ a) : H a = none := by
  cases q : H a with
  | none => rfl
  | some u => exact absurd (Nat.lt_of_lt_of_le (x.lt q) e) (Nat.lt_irrefl _)
theorem HOk.kept (x : HOk P w H h) (k : ∀ b u, h.get? b = some u → h'.get? b = some u) : HOk P w H h' := fun a o e =>
  (x a o e).stay (fun b u _ q => k b u q) (fun _ q => q) fun _ _ q => q
theorem HOk.laid (x : HOk P w H h) (k : ∀ b u, h.get? b = some u → h'.get? b = some u) (hp : h.objs.size ≤ a) (new : ObjOk P w (upd H a o) h' a o) : HOk P w (upd H a o) h' := fun b u e => by
  have hn := x.fresh hp
  by_cases hb : b = a
  · subst hb; rw [upd_same] at e; cases e; exact new
  · rw [upd_ne hb] at e
    exact (x b u e).stay (fun c v _ q => k c v q) (fun c q => by rw [upd_ne (ne_of_none q hn)]; exact q) fun c xs q => by rw [upd_ne (ne_of_none q hn)]; exact q
end
def Rd (H : Hp) (a : Addr) (u : HO) : Prop := H a = some u ∨ ∃ o, H a = some (.frz o u)
theorem Rd.of {H : Hp} {a : Addr} {u : HO} (h : H a = some u) : Rd H a u := .inl h
theorem Rd.ok {P : Program} {w : World} {H : Hp} {h : Heap} {a : Addr} {u : HO} (r : Rd H a u) (x : HOk P w H h) : ObjOk P w H h a u := by
  rcases r with r | ⟨o, r⟩
  · exact x a u r
  · obtain ⟨_, q⟩ := x a _ r
    exact q
def Mut : Option HO → Prop
  | some (.lst _) => True
  | some (.dK _) => True
  | some (.dT _) => True
  | some (.set _ _) => True
  | some (.ins _ _ _) => True
  | some (.ext _) => True
  | _ => False
section
variable {P : Program} {w : World} {H : Hp} {h h' : Heap} {x e : Addr} {o' : HO}
theorem HOk.write (ok : HOk P w H h) (mu : Mut (H x)) (he : e = x ∨ H e = some (.own x)) (k : ∀ b u, b ≠ e → h.get? b = some u → h'.get? b = some u) (heo : ∃ u, h'.get? e = some u)
    (new : ObjOk P w (upd H x o') h' x o') : HOk P w (upd H x o') h' := fun b u q => by
  have nown : ∀ c y, H c = some (.own y) → c ≠ x := fun c y r z => by subst z; rw [r] at mu; exact mu
  have ntup : ∀ c xs, H c = some (.tup xs) → c ≠ x := fun c xs r z => by subst z; rw [r] at mu; exact mu
  by_cases hb : b = x
  · subst hb; rw [upd_same] at q; cases q; exact new
  · rw [upd_ne hb] at q
    by_cases hbe : b = e
    · have q' : H b = some (.own x) := by
        rcases he with z | z
        · exact absurd (hbe.trans z) hb
        · rw [hbe]; exact z
      rw [q] at q'; cases q'
      obtain ⟨v, hv⟩ := heo
      exact ⟨v, by rw [hbe]; exact hv⟩
    · refine (ok b u q).stay (fun c v hc r => k c v ?_ r) (fun c r => by rw [upd_ne (nown c b r)]; exact r) fun c xs r => by rw [upd_ne (ntup c xs r)]; exact r
      rcases hc with rfl | hc
      · exact hbe
      · rintro rfl
        rcases he with z | z
        · exact nown c b hc z
        · rw [hc] at z; cases z; exact hb rfl
end
structure Un (fs ex : List Addr) (H H' : Hp) (h h' : Heap) : Prop where
  keep : ∀ b o, h.get? b = some o → H b = none → b ∉ fs → b ∉ ex → h'.get? b = some o
  slot : ∀ b o, h.get? b = some o → H b = none → b ∈ fs → b ∉ ex → ∃ sl, h'.get? b = some { o with slots := sl }
  free : ∀ b o, h.get? b = some o → H b = none → b ∉ ex → H' b = none
  there : ∀ b o, h.get? b = some o → b ∉ ex → ∃ o', h'.get? b = some o'
  tups : ∀ b xs, H b = some (.tup xs) → H' b = some (.tup xs)
  frzs : ∀ b o u, H b = some (.frz o u) → H' b = some (.frz o u)
  tbls : ∀ b ps, H b = some (.tbl ps) → ∃ more, H' b = some (.tbl (ps ++ more))
section
variable {fs fs' ex ex' : List Addr} {H H1 H2 : Hp} {h h1 h2 h' : Heap} {a x e : Addr} {o : HO}
theorem Un.any (u : Un fs ex H H1 h h1) {b : Addr} {ob : Obj} (q : h.get? b = some ob) (n : H b = none) (hx : b ∉ ex) : ∃ sl, h1.get? b = some { ob with slots := sl } := by
  by_cases hb : b ∈ fs
  · exact u.slot b ob q n hb hx
  · exact ⟨ob.slots, u.keep b ob q n hb hx⟩
theorem Un.trans (a : Un fs ex H H1 h h1) (b : Un fs ex H1 H2 h1 h2) : Un fs ex H H2 h h2 where
  keep := fun c ob q n hc hx => b.keep c ob (a.keep c ob q n hc hx) (a.free c ob q n hx) hc hx
  slot := fun c ob q n hc hx => by
    obtain ⟨sl, e1⟩ := a.slot c ob q n hc hx
    obtain ⟨sl', e2⟩ := b.slot c _ e1 (a.free c ob q n hx) hc hx
    exact ⟨sl', e2⟩
  free := fun c ob q n hx => by
    obtain ⟨o', e1⟩ := a.there c ob q hx
    exact b.free c o' e1 (a.free c ob q n hx) hx
  there := fun c ob q hx => by
    obtain ⟨o', e1⟩ := a.there c ob q hx
    exact b.there c o' e1 hx
  tups := fun c xs q => b.tups c xs (a.tups c xs q)
  frzs := fun c ob xs q => b.frzs c ob xs (a.frzs c ob xs q)
  tbls := fun c ps q => by
    obtain ⟨m1, e1⟩ := a.tbls c ps q
    obtain ⟨m2, e2⟩ := b.tbls c _ e1
    exact ⟨m1 ++ m2, by rw [e2, Array.append_assoc]⟩
theorem Un.kept (k : ∀ b u, h.get? b = some u → h'.get? b = some u) : Un fs ex H H h h' :=
  ⟨fun b ob q _ _ _ => k b ob q, fun b ob q _ _ _ => ⟨ob.slots, k b ob q⟩, fun _ _ _ n _ => n, fun b ob q _ => ⟨ob, k b ob q⟩, fun _ _ q => q, fun _ _ _ q => q, fun _ ps q => ⟨#[], by rw [q]; simp⟩⟩
theorem Un.refl : Un fs ex H H h h := Un.kept fun _ _ q => q
theorem Un.laid (k : ∀ b u, h.get? b = some u → h'.get? b = some u) (hp : h.objs.size ≤ a) (hn : H a = none) : Un fs ex H (upd H a o) h h' where
  keep := fun b u q _ _ _ => k b u q
  slot := fun b u q _ _ _ => ⟨u.slots, k b u q⟩
  free := fun b u q n _ => by rw [upd_ne (Nat.ne_of_lt (Nat.lt_of_lt_of_le (Heap.lt_size q) hp))]; exact n
  there := fun b u q _ => ⟨u, k b u q⟩
  tups := fun b xs q => by rw [upd_ne (ne_of_none q hn)]; exact q
  frzs := fun b u xs q => by rw [upd_ne (ne_of_none q hn)]; exact q
  tbls := fun b ps q => ⟨#[], by rw [upd_ne (ne_of_none q hn), q]; simp⟩
theorem Un.write (mu : Mut (H x)) (he : e = x ∨ H e = some (.own x)) (k : ∀ b u, b ≠ e → h.get? b = some u → h'.get? b = some u) (heo : ∃ u, h'.get? e = some u) : Un fs ex H (upd H x o) h h' := by
  have hx : ∀ b, H b = none → b ≠ x := fun b n z => by subst z; rw [n] at mu; exact mu
  have hb : ∀ b, H b = none → b ≠ e := fun b n z => by
    subst z
    rcases he with r | r
    · exact hx b n r
    · rw [n] at r; cases r
  have hm : ∀ b u, H b = some u → ¬ Mut (some u) → b ≠ x := fun b u q nm z => by subst z; rw [q] at mu; exact nm mu
  refine ⟨fun b u q n _ _ => k b u (hb b n) q, fun b u q n _ _ => ⟨u.slots, k b u (hb b n) q⟩, fun b u q n _ => by rw [upd_ne (hx b n)]; exact n, fun b u q _ => ?_,
    fun b xs q => by rw [upd_ne (hm b _ q fun z => z)]; exact q, fun b u xs q => by rw [upd_ne (hm b _ q fun z => z)]; exact q, fun b ps q => ⟨#[], by rw [upd_ne (hm b _ q fun z => z), q]; simp⟩⟩
  by_cases hbe : b = e
  · subst hbe; exact heo
  · exact ⟨u, k b u hbe q⟩
theorem Un.mono (u : Un fs ex H H1 h h1) (hs : ∀ b ∈ fs, b ∈ fs') (hx : ∀ b ∈ ex, b ∈ ex') : Un fs' ex' H H1 h h1 :=
  ⟨fun b ob q n hb he => u.keep b ob q n (fun z => hb (hs b z)) fun z => he (hx b z), fun _ _ q n _ he => u.any q n fun z => he (hx _ z), fun b ob q n he => u.free b ob q n fun z => he (hx b z), fun b ob q he => u.there b ob q fun z => he (hx b z), u.tups, u.frzs, u.tbls⟩
end
def trk (h : Heap) (H : Hp) : List Addr := (List.range h.objs.size).filter fun a => (H a).isSome
def hidT (h : Heap) (H : Hp) : Heap := PySem.W.hideAll h (trk h H)
theorem hidT_size (h : Heap) (H : Hp) : (hidT h H).objs.size = h.objs.size := PySem.W.hideAll_size _ _
theorem hidT_get {h : Heap} {H : Hp} {b : Addr} {o : Obj} (e : h.get? b = some o) (n : H b = none) : (hidT h H).get? b = some o :=
  PySem.W.hideAll_get _ e fun hm => by
    have q : (H b).isSome = true := (List.mem_filter.mp hm).2
    rw [n] at q; simp at q
theorem of_hidT {h : Heap} {H : Hp} {b : Addr} {o : Obj} (e : (hidT h H).get? b = some o) : h.get? b = some o ∧ H b = none := by
  have e' : h.get? b = some o := PySem.W.of_hideAll (trk h H) e
  refine ⟨e', ?_⟩
  cases q : H b with
  | none => rfl
  | some x =>
    have hm : b ∈ trk h H := List.mem_filter.mpr ⟨List.mem_range.mpr (Heap.lt_size e'), by simp [q]⟩
    have z : (hidT h H).get? b = none := PySem.W.hideAll_none (trk h H) hm
    rw [z] at e; cases e
def allNews (g h : Heap) (L : Addr) : List (Addr × Obj) := (List.range h.objs.size).filterMap fun a => if a = L ∨ (g.get? a).isSome = true then none else (h.get? a).map fun o => (a, o)
def rest (g h : Heap) (L d : Addr) : List (Addr × Obj) := (allNews g h L).filter fun p => decide (p.1 ≠ d)
end L2
namespace L2
open PySem PySem.Spec PyProof.Rows
structure Mod (K : PySem.W.Frag) (mg : Str → Option Value) (base : Heap) : Prop where
  kin : K.In base
  glob : base.Ns mainGlobals mg
  blt : ∃ mb, base.Ns builtinsNs mb ∧ ∀ x : Str, x ≠ "__name__" → mb x = bootBuiltins x
  nolimit : base.NoLimit
structure Cx where
  prog : Program
  w : World
  K : PySem.W.Frag
  mg : Str → Option Value
  base : Heap
  A : Around
  N : List Str
  s₀ : Shared
  H₀ : Hp
  env : Env
  outer : List Env
  stack : List Env
  ex : List Addr
  fn : Str → Bool
  calm : Bool
  pn : List (Addr × Obj)
  xe : Value → Shared → Prop
def frs (l : List Env) : List Addr := l.filterMap (·.frame)
abbrev Cx.fs (X : Cx) : List Addr := frs X.outer
def Vis (sc : Scope) (x : Str) : Prop := sc.names.lookup x = some .local ∨ sc.names.lookup x = some .cell ∨ sc.names.lookup x = some .free
def Loc (sc : Scope) (x : Str) : Prop := sc.names.lookup x = some .local ∨ sc.names.lookup x = some .cell
def Look (env : Env) (h : Heap) (m : Str → Option Value) (x : Str) (u : Value) : Prop :=
  (env.kindOf x = some .local ∧ m x = some u) ∨ ((env.kindOf x = some .cell ∨ env.kindOf x = some .free) ∧ ∃ c, env.cells.lookup x = some c ∧ h.IsCell c (some u))
structure Cx.Ok (X : Cx) : Prop where
  mod : Mod X.K X.mg X.base
  kind : X.env.scope.kind = .function
  glob : X.env.globals = mainGlobals
  blt : X.env.builtins = builtinsNs
  above : X.s₀.heap.objs.size ≤ X.env.locals
  inj : ∀ x y c, X.env.cells.lookup x = some c → X.env.cells.lookup y = some c → x = y
  has : ∀ x, (X.env.kindOf x = some .cell ∨ X.env.kindOf x = some .free) → ∃ c, X.env.cells.lookup x = some c
  cab : ∀ x c, X.fn x = true → X.env.cells.lookup x = some c → X.s₀.heap.objs.size ≤ c
  hd : X.calm = true → X.A.handled = none
  frames : X.A.frames = some X.stack
  stk : X.stack = X.outer ∨ (X.stack = X.env :: X.outer ∧ X.env.frame = some X.env.locals)
  exf : ∀ b ∈ X.ex, b ≠ X.env.locals ∧ ∀ x c, X.env.cells.lookup x = some c → c ≠ b
  bs : ∀ b o, X.base.get? b = some o → X.s₀.heap.get? b = some o ∧ X.H₀ b = none
  bsz : X.base.objs.size ≤ X.s₀.heap.objs.size
  noex : ∀ b o, X.base.get? b = some o → b ∉ X.ex
  exfs : ∀ b ∈ X.ex, b ∉ X.fs
  funs : X.s₀.heap.FunFrames X.base X.outer
  frf : ∀ b ∈ X.fs, X.H₀ b = none
structure Inv (X : Cx) (pins : List (Addr × Obj)) (σ : List (Option V)) (H : Hp) (s : Shared) : Prop where
  ok : X.Ok
  os : s.os = X.s₀.os
  bare : AllBare s.gens
  base : Un X.fs X.ex X.H₀ H X.s₀.heap s.heap
  loc : ∃ m, s.heap.Ns X.env.locals m ∧ ∀ (i : Nat) (x : Str) (v : V), X.N[i]? = some x → σ[i]? = some (some v) → Vis X.env.scope x → ∃ u, RelV v u ∧ Look X.env s.heap m x u
  cell : ∀ x c, X.env.cells.lookup x = some c → ∃ v, s.heap.IsCell c v
  free : H X.env.locals = none
  freeC : ∀ x c, X.env.cells.lookup x = some c → H c = none
  pin : ∀ p ∈ X.pn ++ pins, s.heap.get? p.1 = some p.2 ∧ H p.1 = none ∧ p.1 ≠ X.env.locals ∧ p.1 ∉ X.fs ∧ ∀ v, p.2.data ≠ .cell v
  hok : HOk X.prog X.w H s.heap
  len : σ.length = X.N.length
section
variable {X : Cx} {pins : List (Addr × Obj)} {σ : List (Option V)} {H H' : Hp} {s : Shared} {h' : Heap}
theorem Cx.Ok.nofr (ok : X.Ok) {b : Addr} {o : Obj} (e : X.base.get? b = some o) : b ∉ X.fs := fun hb => by
  have := (ok.funs.mem hb).1
  rw [e] at this; cases this
theorem Inv.bs (I : Inv X pins σ H s) : ∀ b o, X.base.get? b = some o → s.heap.get? b = some o ∧ H b = none := fun b o e =>
  ⟨I.base.keep b o (I.ok.bs b o e).1 (I.ok.bs b o e).2 (I.ok.nofr e) (I.ok.noex b o e), I.base.free b o (I.ok.bs b o e).1 (I.ok.bs b o e).2 (I.ok.noex b o e)⟩
theorem Inv.bk (I : Inv X pins σ H s) : ∀ b o, X.base.get? b = some o → s.heap.get? b = some o := fun b o e => (I.bs b o e).1
theorem Inv.mod (I : Inv X pins σ H s) : Mod X.K X.mg X.base := I.ok.mod
theorem Inv.kIn (I : Inv X pins σ H s) : X.K.In s.heap := I.ok.mod.kin.keeps I.bk
theorem Inv.nolimit (I : Inv X pins σ H s) : s.heap.NoLimit := I.ok.mod.nolimit.keeps I.bk
theorem Inv.fr (I : Inv X pins σ H s) : ∃ m, Fr X.base X.env.locals s.heap m :=
  let ⟨m, hn, _⟩ := I.loc
  ⟨m, hn, I.bk, Nat.le_trans I.ok.bsz I.ok.above⟩
theorem Inv.lt (I : Inv X pins σ H s) : X.env.locals < s.heap.objs.size := let ⟨_, hn, _⟩ := I.loc; hn.lt
theorem Inv.sz (I : Inv X pins σ H s) : X.s₀.heap.objs.size ≤ s.heap.objs.size := Nat.le_trans I.ok.above (Nat.le_of_lt I.lt)
theorem Inv.nofs (I : Inv X pins σ H s) {a : Addr} (h : s.heap.objs.size ≤ a) : a ∉ X.fs := fun hb => by
  obtain ⟨_, o, ho, _⟩ := I.ok.funs.mem hb
  exact absurd (Nat.lt_of_lt_of_le (Heap.lt_size ho) (Nat.le_trans I.sz h)) (Nat.lt_irrefl _)
theorem Inv.cne (I : Inv X pins σ H s) : ∀ x c, X.env.cells.lookup x = some c → c ≠ X.env.locals := fun x c e z => by
  obtain ⟨v, o, ho, hd⟩ := I.cell x c e
  obtain ⟨m, ⟨o', es, ep, ho', hd', _⟩, _⟩ := I.loc
  rw [z, ho'] at ho; cases ho; rw [hd'] at hd; cases hd
theorem Inv.funs (I : Inv X pins σ H s) : s.heap.FunFrames X.base X.outer := by
  have all : ∀ (l : List Env), (∀ b ∈ frs l, b ∈ X.fs) → X.s₀.heap.FunFrames X.base l → s.heap.FunFrames X.base l := by
    intro l
    induction l with
    | nil => intro _ _; trivial
    | cons env r ih =>
      intro hs hl
      obtain ⟨hk, ⟨L, o, hf, hn, ho, hd⟩, hr⟩ := hl
      have hL : L ∈ X.fs := hs L (by unfold frs; rw [List.filterMap_cons, hf]; exact List.mem_cons_self)
      obtain ⟨sl, e⟩ := I.base.slot L o ho (I.ok.frf L hL) hL fun z => I.ok.exfs L z hL
      exact ⟨hk, ⟨L, _, hf, hn, e, hd⟩, ih (fun b hb => hs b (by unfold frs; rw [List.filterMap_cons, hf]; exact List.mem_cons_of_mem _ hb)) hr⟩
  exact all X.outer (fun _ hb => hb) I.ok.funs
theorem Inv.stack (I : Inv X pins σ H s) : s.heap.FunFrames X.base X.stack := by
  rcases I.ok.stk with e | ⟨e, hf⟩
  · rw [e]; exact I.funs
  · rw [e]
    obtain ⟨m, hn, _⟩ := I.loc
    refine .cons (by rw [I.ok.kind]; decide) hf hn ?_ I.funs
    exact Heap.get?_none_of_le (Nat.le_trans I.ok.bsz I.ok.above)
theorem Inv.stkSub (I : Inv X pins σ H s) : ∀ b ∈ frs X.stack, b ∈ X.env.locals :: X.fs := fun b hb => by
  rcases I.ok.stk with e | ⟨e, hf⟩
  · rw [e] at hb; exact List.mem_cons_of_mem _ hb
  · rw [e] at hb
    unfold frs at hb
    rw [List.filterMap_cons, hf] at hb
    exact hb
theorem Inv.stkFree (I : Inv X pins σ H s) : ∀ b ∈ frs X.stack, H b = none := fun b hb => by
  rcases List.mem_cons.mp (I.stkSub b hb) with e | hb
  · rw [e]; exact I.free
  · obtain ⟨_, o, ho, _⟩ := I.ok.funs.mem hb
    exact I.base.free b o ho (I.ok.frf b hb) fun z => I.ok.exfs b z hb
theorem Inv.step {g' : Array GenState} {t' : Nat} {d' : Drawn} {ch : List Addr} (I : Inv X pins σ H s)
    (hch : ∀ b ∈ ch, (b ∈ X.ex ∨ X.s₀.heap.objs.size ≤ b) ∧ b ≠ X.env.locals ∧ (∀ x c, X.env.cells.lookup x = some c → c ≠ b) ∧ ∀ p ∈ X.pn ++ pins, p.1 ≠ b)
    (keep : ∀ b o, b ≠ X.env.locals → b ∉ X.fs → b ∉ ch → s.heap.get? b = some o → H b = none → h'.get? b = some o)
    (slot : ∀ b o, b ≠ X.env.locals → b ∈ X.fs → b ∉ ch → s.heap.get? b = some o → H b = none → ∃ sl, h'.get? b = some { o with slots := sl }) (free : ∀ b o, b ∉ ch → s.heap.get? b = some o → H b = none → H' b = none)
    (there : ∀ b o, b ∉ ch → s.heap.get? b = some o → ∃ o', h'.get? b = some o')
    (tups : ∀ b xs, H b = some (.tup xs) → H' b = some (.tup xs)) (frzs : ∀ b o u, H b = some (.frz o u) → H' b = some (.frz o u)) (tbls : ∀ b ps, H b = some (.tbl ps) → ∃ more, H' b = some (.tbl (ps ++ more)))
    (ns : ∀ m, s.heap.Ns X.env.locals m → h'.Ns X.env.locals m) (hok : HOk X.prog X.w H' h') (hg : AllBare g') :
    Inv X pins σ H' { s with heap := h', gens := g', drawn := d', toks := t' } := by
  have neL : ∀ b o, X.s₀.heap.get? b = some o → b ≠ X.env.locals := fun b o e => Nat.ne_of_lt (Nat.lt_of_lt_of_le (Heap.lt_size e) I.ok.above)
  have neC : ∀ b o, X.s₀.heap.get? b = some o → b ∉ X.ex → b ∉ ch := fun b o e hx hb => by
    rcases (hch b hb).1 with z | z
    · exact hx z
    · exact absurd (Nat.lt_of_lt_of_le (Heap.lt_size e) z) (Nat.lt_irrefl _)
  have cellK : ∀ x c, X.env.cells.lookup x = some c → ∀ v, s.heap.IsCell c v → h'.IsCell c v := fun x c e v ⟨o, ho, hd⟩ => by
    have nch : c ∉ ch := fun z => (hch c z).2.2.1 x c e rfl
    by_cases hc : c ∈ X.fs
    · obtain ⟨sl, q⟩ := slot c o (I.cne x c e) hc nch ho (I.freeC x c e)
      exact ⟨_, q, hd⟩
    · exact ⟨o, keep c o (I.cne x c e) hc nch ho (I.freeC x c e), hd⟩
  refine ⟨I.ok, I.os, hg, ⟨fun b o e n hb hx => ?_, fun b o e n hb hx => ?_, fun b o e n hx => ?_, fun b o e hx => ?_, fun b xs e => tups b xs (I.base.tups b xs e), fun b o xs e => frzs b o xs (I.base.frzs b o xs e), fun b ps e => ?_⟩, ?_, fun x c e => ?_, ?_, fun x c e => ?_, fun p hp => ?_, hok, I.len⟩
  · exact keep b o (neL b o e) hb (neC b o e hx) (I.base.keep b o e n hb hx) (I.base.free b o e n hx)
  · obtain ⟨sl, e1⟩ := I.base.slot b o e n hb hx
    obtain ⟨sl', e2⟩ := slot b _ (neL b o e) hb (neC b o e hx) e1 (I.base.free b o e n hx)
    exact ⟨sl', e2⟩
  · obtain ⟨o', e1⟩ := I.base.there b o e hx
    exact free b o' (neC b o e hx) e1 (I.base.free b o e n hx)
  · obtain ⟨o', e1⟩ := I.base.there b o e hx
    exact there b o' (neC b o e hx) e1
  · obtain ⟨m1, e1⟩ := I.base.tbls b ps e
    obtain ⟨m2, e2⟩ := tbls b _ e1
    exact ⟨m1 ++ m2, by rw [e2, Array.append_assoc]⟩
  · obtain ⟨m, hn, hl⟩ := I.loc
    refine ⟨m, ns m hn, fun i x v e1 e2 e3 => ?_⟩
    obtain ⟨u, r, l⟩ := hl i x v e1 e2 e3
    refine ⟨u, r, ?_⟩
    rcases l with l | ⟨k, c, e, z⟩
    · exact .inl l
    · exact .inr ⟨k, c, e, cellK x c e _ z⟩
  · obtain ⟨v, z⟩ := I.cell x c e
    exact ⟨v, cellK x c e v z⟩
  · obtain ⟨m, ⟨o, _, _, ho, _⟩, _⟩ := I.loc
    exact free _ o (fun z => (hch _ z).2.1 rfl) ho I.free
  · obtain ⟨v, o, ho, hd⟩ := I.cell x c e
    exact free c o (fun z => (hch c z).2.2.1 x c e rfl) ho (I.freeC x c e)
  · obtain ⟨e, n, ne, nf, d⟩ := I.pin p hp
    have nch : p.1 ∉ ch := fun z => (hch p.1 z).2.2.2 p hp rfl
    exact ⟨keep p.1 p.2 ne nf nch e n, free p.1 p.2 nch e n, ne, nf, d⟩
theorem Inv.un {t' : Nat} (I : Inv X pins σ H s) (u : Un X.fs [] H H' s.heap h') (hok : HOk X.prog X.w H' h') : Inv X pins σ H' { s with heap := h', toks := t' } := by
  obtain ⟨m, ⟨o, es, ep, ho, r⟩, _⟩ := id I.loc
  obtain ⟨sl, hL⟩ := u.any ho I.free (by simp)
  exact I.step (g' := s.gens) (d' := s.drawn) (ch := []) (fun _ z => nomatch z) (fun b o _ hb _ e n => u.keep b o e n hb (by simp)) (fun b o _ hb _ e n => u.slot b o e n hb (by simp)) (fun b o _ e n => u.free b o e n (by simp)) (fun b o _ e => u.there b o e (by simp)) u.tups u.frzs u.tbls (fun m' hm => by
    obtain ⟨o', es', ep', ho', r'⟩ := hm
    rw [ho] at ho'; cases ho'
    exact ⟨_, es', ep', hL, r'⟩) hok I.bare
theorem Inv.call {g' : Array GenState} {t' : Nat} {d' : Drawn} {ch : List Addr} (I : Inv X pins σ H s) (u : Un (frs X.stack) ch H H' s.heap h') (hok : HOk X.prog X.w H' h') (hg : AllBare g')
    (hch : ∀ b ∈ ch, (b ∈ X.ex ∨ X.s₀.heap.objs.size ≤ b) ∧ b ≠ X.env.locals ∧ (∀ x c, X.env.cells.lookup x = some c → c ≠ b) ∧ ∀ p ∈ X.pn ++ pins, p.1 ≠ b) :
    Inv X pins σ H' { s with heap := h', gens := g', drawn := d', toks := t' } := by
  obtain ⟨m, ⟨o, es, ep, ho, r⟩, _⟩ := id I.loc
  obtain ⟨sl, hL⟩ := u.any ho I.free fun z => (hch _ z).2.1 rfl
  exact I.step (ch := ch) hch (fun b o hL hb hc e n => u.keep b o e n (fun z => (List.mem_cons.mp (I.stkSub b z)).elim hL hb) hc) (fun b o _ _ hc e n => u.any e n hc) (fun b o hc e n => u.free b o e n hc) (fun b o hc e => u.there b o e hc) u.tups u.frzs u.tbls (fun m' hm => by
    obtain ⟨o', es', ep', ho', r'⟩ := hm
    rw [ho] at ho'; cases ho'
    exact ⟨_, es', ep', hL, r'⟩) hok hg
theorem Inv.turned {t' : Nat} {it : Addr} (I : Inv X pins σ H s) (k : ∀ b o, b ≠ it → s.heap.get? b = some o → h'.get? b = some o) (hn : H it = none) (hL : it ≠ X.env.locals)
    (h1 : it ∈ X.ex ∨ X.s₀.heap.objs.size ≤ it) (h2 : ∀ x c, X.env.cells.lookup x = some c → c ≠ it) (h3 : ∀ p ∈ X.pn ++ pins, p.1 ≠ it) : Inv X pins σ H { s with heap := h', toks := t' } := by
  have nit : ∀ b u, H b = some u → b ≠ it := fun b u e z => by rw [z, hn] at e; cases e
  refine I.step (g' := s.gens) (d' := s.drawn) (ch := [it]) (fun b hb => ?_) (fun b o _ _ hc e _ => k b o (fun z => hc (by simp [z])) e) (fun b o _ _ hc e _ => ⟨o.slots, k b o (fun z => hc (by simp [z])) e⟩) (fun _ _ _ _ n => n)
    (fun b o hc e => ⟨o, k b o (fun z => hc (by simp [z])) e⟩) (fun _ _ e => e) (fun _ _ _ e => e) (fun b ps e => ⟨#[], by rw [e]; simp⟩) (fun m hm => ?_) (fun b u e => ?_) I.bare
  · have e : b = it := by simpa using hb
    subst e
    exact ⟨h1, hL, h2, h3⟩
  · obtain ⟨o, es, ep, ho, r⟩ := hm
    exact ⟨o, es, ep, k _ o (Ne.symm hL) ho, r⟩
  · refine (I.hok b u e).stay (fun c v hc q => k c v ?_ q) (fun _ q => q) fun _ _ q => q
    rcases hc with z | z
    · rw [z]; exact nit b u e
    · exact nit c _ z
theorem Inv.tok (I : Inv X pins σ H s) (t : Nat) : Inv X pins σ H { s with toks := t } := I.un (h' := s.heap) (t' := t) Un.refl I.hok
theorem Inv.kept {t' : Nat} (I : Inv X pins σ H s) (k : ∀ b u, s.heap.get? b = some u → h'.get? b = some u) : Inv X pins σ H { s with heap := h', toks := t' } := I.un (Un.kept k) (I.hok.kept k)
theorem Inv.laid {a : Addr} {o : HO} {t' : Nat} (I : Inv X pins σ H s) (k : ∀ b u, s.heap.get? b = some u → h'.get? b = some u) (hp : s.heap.objs.size ≤ a) (new : ObjOk X.prog X.w (upd H a o) h' a o) :
    Inv X pins σ (upd H a o) { s with heap := h', toks := t' } := I.un (Un.laid k hp (I.hok.fresh hp)) (I.hok.laid k hp new)
theorem Inv.write {x e : Addr} {o : HO} {t' : Nat} (I : Inv X pins σ H s) (mu : Mut (H x)) (he : e = x ∨ H e = some (.own x)) (k : ∀ b u, b ≠ e → s.heap.get? b = some u → h'.get? b = some u) (heo : ∃ u, h'.get? e = some u)
    (new : ObjOk X.prog X.w (upd H x o) h' x o) : Inv X pins σ (upd H x o) { s with heap := h', toks := t' } := I.un (Un.write mu he k heo) (I.hok.write mu he k heo new)
theorem Inv.pins_of {pins' : List (Addr × Obj)} (I : Inv X pins σ H s) (h : ∀ p ∈ pins', s.heap.get? p.1 = some p.2 ∧ H p.1 = none ∧ p.1 ≠ X.env.locals ∧ p.1 ∉ X.fs ∧ ∀ v, p.2.data ≠ .cell v) : Inv X pins' σ H s :=
  ⟨I.ok, I.os, I.bare, I.base, I.loc, I.cell, I.free, I.freeC, fun p hp => (List.mem_append.mp hp).elim (fun z => I.pin p (List.mem_append_left _ z)) (h p), I.hok, I.len⟩
theorem nodup_ix {N : List Str} (hN : N.Nodup) {i j : Nat} {x : Str} (a : N[i]? = some x) (b : N[j]? = some x) : i = j := by
  obtain ⟨h1, e1⟩ := List.getElem?_eq_some_iff.mp a
  obtain ⟨h2, e2⟩ := List.getElem?_eq_some_iff.mp b
  exact (List.getElem_inj hN).mp (e1.trans e2.symm)
theorem store_ok2 {M : Model} {A : Around} {E : Value → Shared → Prop} {i : Nat} {x : Str} {v : V} {u : Value} {Q : Unit → Shared → Prop} (I : Inv X pins σ H s) (hN : X.N.Nodup) (hi : X.N[i]? = some x) (hx : Loc X.env.scope x) (r : RelV v u)
    (h : ∀ s', Inv X pins (σ.set i (some v)) H s' → (∃ a, Heap.SameBut a s.heap s'.heap ∧ (a = X.env.locals ∨ X.env.cells.lookup x = some a)) → Q () s') (hf : X.fn x = true ∨ X.env.scope.names.lookup x = some .local := by first | exact .inl rfl | exact .inr rfl | assumption) : wpAny M A (storeName X.env x u) Q E s := by
  obtain ⟨m, hn, hl⟩ := id I.loc
  have hcls : (X.env.scope.kind == .class || (X.env.scope.kind == .module && X.env.locals != X.env.globals)) = false := by rw [I.ok.kind]; rfl
  have hiσ : i < σ.length := by rw [I.len]; exact (List.getElem?_eq_some_iff.mp hi).1
  have cne := I.cne
  have tracked : ∀ {a : Addr} {h' : Heap}, (∃ o, s.heap.get? a = some o ∧ H a = none) → Heap.SameBut a s.heap h' → HOk X.prog X.w H h' := fun {a h'} ha hs b ob e => by
    obtain ⟨_, _, hfree⟩ := ha
    refine (I.hok b ob e).stay (fun c w' hc q => (hs.2 c ?_).trans q) (fun _ q => q) fun _ _ q => q
    rintro rfl
    rcases hc with rfl | hc
    · rw [hfree] at e; cases e
    · rw [hfree] at hc; cases hc
  rcases hx with hk | hk
  · refine wpAny_storeName_local hk hn (fun h' hn' hs => ?_) hcls
    obtain ⟨oL, _, _, hoL, _⟩ := id hn
    refine h _ ⟨I.ok, I.os, I.bare, ⟨fun b o e n hb hx => ?_, fun b o e n hb hx => ?_, I.base.free, fun b o e hx => ?_, I.base.tups, I.base.frzs, I.base.tbls⟩, ⟨_, hn', fun j y v' e1 e2 e3 => ?_⟩, fun y c e => ?_, I.free, I.freeC, fun p hp => ?_, tracked ⟨oL, hoL, I.free⟩ hs, by simpa using I.len⟩ ⟨_, hs, .inl rfl⟩
    · exact (hs.2 b (Nat.ne_of_lt (Nat.lt_of_lt_of_le (Heap.lt_size e) I.ok.above))).trans (I.base.keep b o e n hb hx)
    · obtain ⟨sl, e1⟩ := I.base.slot b o e n hb hx
      exact ⟨sl, (hs.2 b (Nat.ne_of_lt (Nat.lt_of_lt_of_le (Heap.lt_size e) I.ok.above))).trans e1⟩
    · obtain ⟨o', e1⟩ := I.base.there b o e hx
      exact ⟨o', (hs.2 b (Nat.ne_of_lt (Nat.lt_of_lt_of_le (Heap.lt_size e) I.ok.above))).trans e1⟩
    · by_cases hj : j = i
      · subst hj
        rw [hi] at e1; cases e1
        rw [List.getElem?_set_self hiσ] at e2
        cases e2
        exact ⟨u, r, .inl ⟨hk, by simp⟩⟩
      · rw [List.getElem?_set_ne (Ne.symm hj)] at e2
        obtain ⟨u', r', q⟩ := hl j y v' e1 e2 e3
        refine ⟨u', r', ?_⟩
        rcases q with ⟨k, e⟩ | ⟨k, c, e, z⟩
        · refine .inl ⟨k, ?_⟩
          have : y ≠ x := fun e => hj (nodup_ix hN e1 (e ▸ hi))
          simp [this, e]
        · exact .inr ⟨k, c, e, z.sameBut hs (cne y c e)⟩
    · obtain ⟨w', z⟩ := I.cell y c e
      exact ⟨w', z.sameBut hs (cne y c e)⟩
    · obtain ⟨e, n, ne, nf, d⟩ := I.pin p hp
      exact ⟨(hs.2 p.1 ne).trans e, n, ne, nf, d⟩
  · have hfn : X.fn x = true := by
      rcases hf with z | z
      · exact z
      · rw [z] at hk; cases hk
    obtain ⟨c, hc⟩ := I.ok.has x (.inl hk)
    obtain ⟨w', z⟩ := I.cell x c hc
    refine wpAny_storeName_cell I.ok.kind hk hc z (fun h' hc' hs => ?_)
    obtain ⟨oc, hoc, hocd⟩ := id z
    refine h { s with heap := h' } ⟨I.ok, I.os, I.bare, ⟨fun b o e n hb hx => ?_, fun b o e n hb hx => ?_, I.base.free, fun b o e hx => ?_, I.base.tups, I.base.frzs, I.base.tbls⟩, ⟨m, hn.sameBut hs (Ne.symm (cne x c hc)), fun j y v' e1 e2 e3 => ?_⟩, fun y c' e => ?_, I.free, I.freeC, fun p hp => ?_, tracked ⟨oc, hoc, I.freeC x c hc⟩ hs, by simpa using I.len⟩ ⟨c, hs, .inr hc⟩
    · exact (hs.2 b (Nat.ne_of_lt (Nat.lt_of_lt_of_le (Heap.lt_size e) (I.ok.cab x c hfn hc)))).trans (I.base.keep b o e n hb hx)
    · obtain ⟨sl, e1⟩ := I.base.slot b o e n hb hx
      exact ⟨sl, (hs.2 b (Nat.ne_of_lt (Nat.lt_of_lt_of_le (Heap.lt_size e) (I.ok.cab x c hfn hc)))).trans e1⟩
    · obtain ⟨o', e1⟩ := I.base.there b o e hx
      exact ⟨o', (hs.2 b (Nat.ne_of_lt (Nat.lt_of_lt_of_le (Heap.lt_size e) (I.ok.cab x c hfn hc)))).trans e1⟩
    · by_cases hj : j = i
      · subst hj
        rw [hi] at e1; cases e1
        rw [List.getElem?_set_self hiσ] at e2
        cases e2
        exact ⟨u, r, .inr ⟨.inl hk, c, hc, hc'⟩⟩
      · rw [List.getElem?_set_ne (Ne.symm hj)] at e2
        obtain ⟨u', r', q⟩ := hl j y v' e1 e2 e3
        refine ⟨u', r', ?_⟩
        rcases q with q | ⟨k, c', e, z'⟩
        · exact .inl q
        · refine .inr ⟨k, c', e, z'.sameBut hs ?_⟩
          rintro rfl
          exact hj (nodup_ix hN e1 (I.ok.inj _ _ _ e hc ▸ hi))
    · by_cases hcc : c' = c
      · subst hcc; exact ⟨_, hc'⟩
      · obtain ⟨w2, z2⟩ := I.cell y c' e
        exact ⟨w2, z2.sameBut hs hcc⟩
    · obtain ⟨e, n, ne, nf, d⟩ := I.pin p hp
      refine ⟨(hs.2 p.1 ?_).trans e, n, ne, nf, d⟩
      intro q
      rw [q, hoc] at e
      have q' : oc = p.2 := Option.some.inj e
      exact d w' (by rw [← q']; exact hocd)
theorem store_ok {M : Model} {A : Around} {E : Value → Shared → Prop} {i : Nat} {x : Str} {v : V} {u : Value} {Q : Unit → Shared → Prop} (I : Inv X pins σ H s) (hN : X.N.Nodup) (hi : X.N[i]? = some x) (hx : Loc X.env.scope x) (r : RelV v u)
    (h : ∀ s', Inv X pins (σ.set i (some v)) H s' → Q () s') (hf : X.fn x = true ∨ X.env.scope.names.lookup x = some .local := by first | exact .inl rfl | exact .inr rfl | assumption) : wpAny M A (storeName X.env x u) Q E s :=
  store_ok2 I hN hi hx r (fun s' I' _ => h s' I') hf
theorem Inv.call' {s' : Shared} {ch : List Addr} (I : Inv X pins σ H s) (ho : s'.os = s.os) (u : Un (frs X.stack) ch H H' s.heap s'.heap) (hok : HOk X.prog X.w H' s'.heap) (hg : AllBare s'.gens)
    (hch : ∀ b ∈ ch, (b ∈ X.ex ∨ X.s₀.heap.objs.size ≤ b) ∧ b ≠ X.env.locals ∧ (∀ x c, X.env.cells.lookup x = some c → c ≠ b) ∧ ∀ p ∈ X.pn ++ pins, p.1 ≠ b) : Inv X pins σ H' s' := by
  obtain ⟨h', g', d', t', o'⟩ := s'
  have e : o' = s.os := ho
  subst e
  exact I.call (g' := g') (t' := t') (d' := d') u hok hg hch
end
abbrev XK := Value → Option Addr → Hp → Prop
abbrev St := List (Option V)
abbrev VK := V → Hp → Prop
abbrev TE := St → Hp → VK → Prop
abbrev TT := St → Hp → (Bool → Hp → Prop) → Prop
abbrev TA := St → Hp → (List V → Hp → Prop) → Prop
structure Ends where
  nx : St → Hp → Prop
  rt : VK
  bk : St → Hp → Prop := fun _ _ => False
  ct : St → Hp → Prop := fun _ _ => False
abbrev TS := Ends → St → Hp → Prop
def EP (X : Cx) (pins : List (Addr × Obj)) (σ : St) (Q : VK) (u : Value) (s' : Shared) : Prop := ∃ v H', Inv X pins σ H' s' ∧ RelV v u ∧ Q v H'
def TP (X : Cx) (pins : List (Addr × Obj)) (σ : St) (Q : Bool → Hp → Prop) (b : Bool) (s' : Shared) : Prop := ∃ H', Inv X pins σ H' s' ∧ Q b H'
def AP (X : Cx) (pins : List (Addr × Obj)) (σ : St) (Q : List V → Hp → Prop) (us : List Value) (s' : Shared) : Prop := ∃ vs H', Inv X pins σ H' s' ∧ Vals vs us ∧ Q vs H'
def SP (X : Cx) (pins : List (Addr × Obj)) (D : Ends) (f : Flow) (s' : Shared) : Prop :=
  match f with
  | .next => ∃ σ' H', Inv X pins σ' H' s' ∧ D.nx σ' H'
  | .brk => ∃ σ' H', Inv X pins σ' H' s' ∧ D.bk σ' H'
  | .cont => ∃ σ' H', Inv X pins σ' H' s' ∧ D.ct σ' H'
  | .ret u => ∃ v σ' H', Inv X pins σ' H' s' ∧ RelV v u ∧ D.rt v H'
def PE (X : Cx) (e : Expr) (t : TE) : Prop :=
  ∀ (pins : List (Addr × Obj)) (s : Shared) (σ : St) (H : Hp) (Q : VK), Inv X pins σ H s → t σ H Q → wpAny (model X.prog X.w) X.A (eval e X.env) (EP X pins σ Q) X.xe s
def PT (X : Cx) (e : Expr) (t : TT) : Prop :=
  ∀ (pins : List (Addr × Obj)) (s : Shared) (σ : St) (H : Hp) (Q : Bool → Hp → Prop), Inv X pins σ H s → t σ H Q → wpAny (model X.prog X.w) X.A (isTrue e X.env (eval e X.env)) (TP X pins σ Q) X.xe s
def PW (X : Cx) (e : Expr) (t : TT) : Prop :=
  ∀ (whole : Sem Value) (pins : List (Addr × Obj)) (s : Shared) (σ : St) (H : Hp) (Q : Bool → Hp → Prop), Inv X pins σ H s → t σ H Q → wpAny (model X.prog X.w) X.A (isTrue e X.env whole) (TP X pins σ Q) X.xe s
theorem PW.pt {X : Cx} {e : Expr} {t : TT} (h : PW X e t) : PT X e t := h _
def PA (X : Cx) (es : List Expr) (t : TA) : Prop :=
  ∀ (pos : Pos) (pins : List (Addr × Obj)) (s : Shared) (σ : St) (H : Hp) (Q : List V → Hp → Prop), Inv X pins σ H s → t σ H Q → wpAny (model X.prog X.w) X.A (spliced (backTo pos (starEach es X.env))) (AP X pins σ Q) X.xe s
def PS (X : Cx) (st : Stmt) (t : TS) : Prop :=
  ∀ (pins : List (Addr × Obj)) (s : Shared) (σ : St) (H : Hp) (D : Ends), Inv X pins σ H s → t D σ H → wpAny (model X.prog X.w) X.A (exec st X.env) (SP X pins D) X.xe s
def PSs (X : Cx) (st : List Stmt) (t : TS) : Prop :=
  ∀ (pins : List (Addr × Obj)) (s : Shared) (σ : St) (H : Hp) (D : Ends), Inv X pins σ H s → t D σ H → wpAny (model X.prog X.w) X.A (execs st X.env) (SP X pins D) X.xe s
theorem thn {α : Type} {t : Sem α} {Q Q' : α → Shared → Prop} {M : Model} {A : Around} {E : Value → Shared → Prop} {s : Shared} (h : wpAny M A t Q E s) (hQ : ∀ a s, Q a s → Q' a s) : wpAny M A t Q' E s := wpAny_mono h hQ fun _ _ x => x
end L2
namespace L2
open PySem PySem.Spec PyProof.Rows
section
variable {X : Cx}
def tVar (i : Nat) : TE := fun σ H Q => ∃ v, σ[i]? = some (some v) ∧ Q v H
def tC (v : V) : TE := fun _ H Q => Q v H
theorem pe_var {i : Nat} {x : Str} {pos : Pos} (hN : X.N[i]? = some x) (hv : Vis X.env.scope x) (hd : (x == ("__debug__" : Str)) = false := by decide) (hcd : (x == ("__classdict__" : Str)) = false := by decide) : PE X (.Name x pos) (tVar i) := by
  intro pins s σ H Q I h
  obtain ⟨v, e, h⟩ := h
  obtain ⟨m, hn, hl⟩ := I.loc
  obtain ⟨u, r, l⟩ := hl i x v hN e hv
  have fin : EP X pins σ Q u s := ⟨v, H, I, r, h⟩
  rcases l with ⟨hk, hm⟩ | ⟨hk, c, hc, hcell⟩
  · exact wpAny_Name (wpAny_loadName_local I.ok.kind hk hn hm fin) hd
  · rcases hk with hk | hk
    · exact wpAny_Name (wpAny_loadName_cell I.ok.kind hk hc hcell fin) hd
    · exact wpAny_Name (wpAny_loadName_free I.ok.kind hk hc hcell fin hcd) hd
theorem pe_int {i j pos} : PE X (.Constant (.int i) j pos) (tC (.int i)) := fun _ _ _ H _ I h => wpAny_Constant_int ⟨.int i, H, I.tok _, ⟨_, rfl⟩, h⟩
theorem pe_bl {b j pos} : PE X (.Constant (.bool b) j pos) (tC (.bl b)) := fun _ _ _ H _ I h => Constant_bool ⟨.bl b, H, I, rfl, h⟩
theorem pe_str {x j pos} : PE X (.Constant (.str x) j pos) (tC (.str x)) := fun _ _ _ H _ I h => Calls.Constant_str ⟨.str x, H, I.tok _, ⟨_, rfl⟩, h⟩
def Gl (X : Cx) (x : Str) : Prop := X.env.kindOf x = some .globalImplicit
theorem ld_glob {E : Value → Shared → Prop} {pins : List (Addr × Obj)} {s : Shared} {σ : St} {H : Hp} {x : Str} {u : Value} {pos : Pos} {Q : Value → Shared → Prop} (I : Inv X pins σ H s) (hg : Gl X x) (hm : X.mg x = some u) (h : Q u s)
    (hd : (x == ("__debug__" : Str)) = false := by decide) : wpAny (model X.prog X.w) X.A (eval (.Name x pos) X.env) Q E s :=
  Calls.Name_function_global I.ok.kind hg (Calls.loadGlobal_global (by rw [I.ok.glob]; exact I.mod.glob.keeps I.bk) hm h) hd
theorem ld_blt {E : Value → Shared → Prop} {pins : List (Addr × Obj)} {s : Shared} {σ : St} {H : Hp} {x : Str} {u : Value} {pos : Pos} {Q : Value → Shared → Prop} (I : Inv X pins σ H s) (hg : Gl X x) (hm : X.mg x = none) (hv : bootBuiltins x = some u) (h : Q u s)
    (hn : x ≠ "__name__" := by decide) (hd : (x == ("__debug__" : Str)) = false := by decide) : wpAny (model X.prog X.w) X.A (eval (.Name x pos) X.env) Q E s := by
  obtain ⟨mb, h1, h2⟩ := I.mod.blt
  exact Calls.Name_function_global I.ok.kind hg (Calls.loadGlobal_builtin (by rw [I.ok.glob]; exact I.mod.glob.keeps I.bk) hm (by rw [I.ok.blt]; exact h1.keeps I.bk) ((h2 x hn).trans hv) h) hd
theorem pe_glob {x : Str} {v : V} {u : Value} {pos : Pos} (hg : Gl X x) (hm : X.mg x = some u) (r : RelV v u) (hd : (x == ("__debug__" : Str)) = false := by decide) : PE X (.Name x pos) (tC v) :=
  fun _ _ _ H _ I h => ld_glob I hg hm ⟨v, H, I, r, h⟩ hd
theorem pe_bltn {x : Str} {v : V} {u : Value} {pos : Pos} (hg : Gl X x) (hm : X.mg x = none) (hv : bootBuiltins x = some u) (r : RelV v u) (hn : x ≠ "__name__" := by decide) (hd : (x == ("__debug__" : Str)) = false := by decide) : PE X (.Name x pos) (tC v) :=
  fun _ _ _ H _ I h => ld_blt I hg hm hv ⟨v, H, I, r, h⟩ hn hd
def t2I (ta tb : TE) (k : Int → Int → Hp → Prop) : St → Hp → Prop := fun σ H => ta σ H fun x H1 => tb σ H1 fun y H2 => ∃ i j, x = .int i ∧ y = .int j ∧ k i j H2
variable {a b : Expr} {ta tb : TE} {pos : Pos}
def PC (X : Cx) (op : CmpOp) (a b : Expr) (t : TE) : Prop :=
  ∀ (pins : List (Addr × Obj)) (s : Shared) (σ : St) (H : Hp) (Q : VK), Inv X pins σ H s → t σ H Q →
    wpAny (model X.prog X.w) X.A (eval a X.env) (fun v s₁ => wpAny (model X.prog X.w) X.A (eval b X.env) (fun u s₂ => wpAny (model X.prog X.w) X.A (compareOp op v u) (EP X pins σ Q) X.xe s₂) X.xe s₁) X.xe s
theorem nobehind (b : Expr) {op : CmpOp} (h : op ≠ .In) (h2 : op ≠ .NotIn) : behindInMarks op b = false := by
  have e1 : (op == CmpOp.In) = false := by cases op <;> first | rfl | exact absurd rfl h
  have e2 : (op == CmpOp.NotIn) = false := by cases op <;> first | rfl | exact absurd rfl h2
  cases b <;> simp [behindInMarks, e1, e2]
def tCmp (p : Int → Int → Bool) (ta tb : TE) : TE := fun σ H Q => t2I ta tb (fun i j H2 => Q (.bl (p i j)) H2) σ H
abbrev tLt : TE → TE → TE := tCmp fun i j => decide (i < j)
abbrev tLe : TE → TE → TE := tCmp fun i j => decide (i ≤ j)
abbrev tGt : TE → TE → TE := tCmp fun i j => decide (j < i)
abbrev tGe : TE → TE → TE := tCmp fun i j => decide (j ≤ i)
abbrev tEqI : TE → TE → TE := tCmp fun i j => decide (i = j)
abbrev tNeI : TE → TE → TE := tCmp fun i j => !decide (i = j)
def tB (t : TE) : TT := fun σ H Q => t σ H fun x H1 => ∃ c, x = .bl c ∧ Q c H1
theorem pt_cmp {op : CmpOp} {t : TE} (h : PC X op a b t) (h1 : behindInMarks op b = false := by first | exact nobehind _ (by decide) (by decide) | rfl) : PT X (.Compare a [op] [b] pos) (tB t) := by
  intro pins s σ H Q I hw
  refine wpAny_isTrue_Compare1 (thn (h pins s σ H _ I hw) fun v s1 h1 => thn h1 fun u s2 h2 => thn h2 fun c s3 ⟨x, H1, I1, r1, q1⟩ => ?_) h1
  obtain ⟨d, rfl, q⟩ := q1
  cases r1
  exact wpAny_truthy_bool ⟨H1, I1, q⟩
theorem pt_val {e : Expr} {t : TE} (h : PE X e t) (he : ∀ whole, isTrue e X.env whole = (do let v ← whole; standAt e.pos; holding [v] (truthy v)) := by intro _; rfl) : PT X e (tB t) := by
  intro pins s σ H Q I hw
  refine isTrue_plain (thn (h pins s σ H _ I hw) fun v s1 ⟨x, H1, I1, r1, q1⟩ => ?_) (he _)
  obtain ⟨d, rfl, q⟩ := q1
  cases r1
  exact wpAny_truthy_bool ⟨H1, I1, q⟩
variable {tA tB' : TT} {rest : List Expr}
def tAnd (t u : TT) : TT := fun σ H Q => t σ H fun c H1 => if c = true then u σ H1 Q else Q false H1
def tOr (t u : TT) : TT := fun σ H Q => t σ H fun c H1 => if c = true then Q true H1 else u σ H1 Q
def tNot (t : TT) : TT := fun σ H Q => t σ H fun c H1 => Q (!c) H1
theorem pw_and1 (ha : PT X a tA) : PW X (.BoolOp .And [a] pos) tA := by
  intro wh pins s σ H Q I h
  refine isTrue_and (thn (ha pins s σ H Q I h) fun c s1 e => ?_)
  cases c with
  | true => exact isTrue_and_nil e
  | false => exact e
theorem pw_or1 (ha : PT X a tA) : PW X (.BoolOp .Or [a] pos) tA := by
  intro wh pins s σ H Q I h
  refine isTrue_or (thn (ha pins s σ H Q I h) fun c s1 e => ?_)
  cases c with
  | false => exact isTrue_or_nil e
  | true => exact e
theorem pw_and (ha : PT X a tA) (hb : PW X (.BoolOp .And (b :: rest) pos) tB') : PW X (.BoolOp .And (a :: b :: rest) pos) (tAnd tA tB') := by
  intro wh pins s σ H Q I h
  refine isTrue_and (thn (ha pins s σ H _ I h) fun c s1 ⟨H1, I1, q1⟩ => ?_)
  cases c with
  | true => exact hb wh pins s1 σ H1 Q I1 q1
  | false => exact ⟨H1, I1, q1⟩
theorem pw_or (ha : PT X a tA) (hb : PW X (.BoolOp .Or (b :: rest) pos) tB') : PW X (.BoolOp .Or (a :: b :: rest) pos) (tOr tA tB') := by
  intro wh pins s σ H Q I h
  refine isTrue_or (thn (ha pins s σ H _ I h) fun c s1 ⟨H1, I1, q1⟩ => ?_)
  cases c with
  | true => exact ⟨H1, I1, q1⟩
  | false => exact hb wh pins s1 σ H1 Q I1 q1
theorem pt_not (ha : PT X a tA) : PT X (.UnaryOp .Not a pos) (tNot tA) := by
  intro pins s σ H Q I h
  exact isTrue_not (ha pins s σ H (fun c H1 => Q (!c) H1) I h)
def tAndV (ta tb : TE) : TE := fun σ H Q => ta σ H fun x H1 => ∃ c, x = .bl c ∧ if c = true then tb σ H1 Q else Q (.bl false) H1
def tOrV (ta tb : TE) : TE := fun σ H Q => ta σ H fun x H1 => ∃ c, x = .bl c ∧ if c = true then Q (.bl true) H1 else tb σ H1 Q
def tNotV (ta : TE) : TE := fun σ H Q => ta σ H fun x H1 => ∃ c, x = .bl c ∧ Q (.bl (!c)) H1
theorem pe_one {op} {t : TE} (h : PE X a t) : PE X (.BoolOp op [a] pos) t := fun pins s σ H Q I hw => BoolOp_one (h pins s σ H Q I hw)
theorem pe_and (ha : PE X a ta) (hb : PE X (.BoolOp .And (b :: rest) pos) tb) : PE X (.BoolOp .And (a :: b :: rest) pos) (tAndV ta tb) := by
  intro pins s σ H Q I h
  refine BoolOp_and (thn (ha pins s σ H _ I h) fun v s1 ⟨x, H1, I1, r1, q1⟩ => ?_)
  obtain ⟨c, rfl, q1⟩ := q1
  cases r1
  refine wpAny_truthy_bool ?_
  cases c with
  | true => exact hb pins s1 σ H1 Q I1 q1
  | false => exact ⟨.bl false, H1, I1, rfl, q1⟩
theorem pe_not (ha : PE X a ta) : PE X (.UnaryOp .Not a pos) (tNotV ta) := by
  intro pins s σ H Q I h
  refine UnaryOp_ (thn (ha pins s σ H _ I h) fun v s1 ⟨x, H1, I1, r1, q1⟩ => ?_)
  obtain ⟨c, rfl, q1⟩ := q1
  cases r1
  exact not_of (wpAny_truthy_bool ⟨.bl (!c), H1, I1, rfl, q1⟩)
def tIf (t : TT) (ta tb : TE) : TE := fun σ H Q => t σ H fun c H1 => if c = true then ta σ H1 Q else tb σ H1 Q
theorem pe_ifExp {c : Expr} (hc : PT X c tA) (ha : PE X a ta) (hb : PE X b tb) : PE X (.IfExp c a b pos) (tIf tA ta tb) := by
  intro pins s σ H Q I h
  refine wpAny_IfExp (thn (hc pins s σ H _ I h) fun d s1 ⟨H1, I1, q1⟩ => ?_)
  cases d with
  | true => exact ha pins s1 σ H1 Q I1 q1
  | false => exact hb pins s1 σ H1 Q I1 q1
end
end L2
namespace L2
open PySem PySem.Spec PyProof.Rows
def SqL (K : PySem.W.Frag) (H : Hp) (a : Addr) (xs : List V) : Prop :=
  Rd H a (.lst xs) ∨
    ∃ (o : Obj) (its : Array Value) (n : Nat), K.lookup a = some o ∧ o.cls = .type "list" ∧ o.dict = none ∧ o.data = .seq its n ∧ its.size ≤ sizeLine ∧ Vals xs its.toList
def SqT (K : PySem.W.Frag) (H : Hp) (a : Addr) (xs : List V) : Prop :=
  Rd H a (.tup xs) ∨
    ∃ (o : Obj) (its : Array Value) (n : Nat), K.lookup a = some o ∧ o.cls = .type "tuple" ∧ o.data = .seq its n ∧ its.size ≤ sizeLine ∧ Vals xs its.toList
def absV : Value → Option V
  | .none => some .non
  | .bool b => some (.bl b)
  | .int i _ => some (.int i)
  | .str x _ => some (.str x)
  | .bytes b _ => some (.byt b)
  | .float b _ => some (.flt b)
  | .ref a => some (.ref a)
  | .type n => some (.ty n)
  | _ => none
theorem RelV.abs {x : V} {u : Value} (r : RelV x u) : absV u = some x := by
  cases x with
  | non => cases r; rfl
  | bl _ => cases r; rfl
  | int _ => obtain ⟨t, rfl⟩ := r; rfl
  | str _ => obtain ⟨t, rfl⟩ := r; rfl
  | byt _ => obtain ⟨t, rfl⟩ := r; rfl
  | flt _ => obtain ⟨t, rfl⟩ := r; rfl
  | ref _ => cases r; rfl
  | ty _ => cases r; rfl
theorem RelV.inj {x y : V} {u : Value} (r : RelV x u) (q : RelV y u) : x = y := Option.some.inj (r.abs.symm.trans q.abs)
theorem Vals.inj : ∀ {xs ys : List V} {us : List Value}, Vals xs us → Vals ys us → xs = ys
  | _, _, _, .nil, .nil => rfl
  | _, _, _, .cons r t, .cons r' t' => by rw [r.inj r', Vals.inj t t']
section
variable {X : Cx} {pins : List (Addr × Obj)} {σ : St} {H : Hp} {s : Shared} {a : Addr} {xs ys : List V}
theorem SqL.of {K : PySem.W.Frag} (h : H a = some (.lst xs)) : SqL K H a xs := .inl (.inl h)
theorem SqT.of {K : PySem.W.Frag} (h : H a = some (.tup xs)) : SqT K H a xs := .inl (.inl h)
theorem Inv.list (I : Inv X pins σ H s) (h : SqL X.K H a xs) : ∃ its : List Value, Vals xs its ∧ PlainL s.heap a its.toArray ∧ xs.length ≤ sizeLine := by
  rcases h with h | ⟨o, its, n, hk, hc, hd, hs, hz, r⟩
  · obtain ⟨z, its, n, r, e⟩ := h.ok I.hok
    exact ⟨its, r, ⟨_, n, e, rfl, rfl, rfl⟩, z⟩
  · refine ⟨its.toList, r, ⟨o, n, I.kIn a o hk, hc, hd, by simpa using hs⟩, ?_⟩
    have e := r.length
    simp only [Array.length_toList] at e
    omega
theorem Inv.tuple (I : Inv X pins σ H s) (h : SqT X.K H a xs) : ∃ its : List Value, Vals xs its ∧ IsTup s.heap a its.toArray ∧ xs.length ≤ sizeLine := by
  rcases h with h | ⟨o, its, n, hk, hc, hs, hz, r⟩
  · obtain ⟨z, its, r, p⟩ := h.ok I.hok
    exact ⟨its, r, p, z⟩
  · refine ⟨its.toList, r, ⟨o, I.kIn a o hk, hc, n, by simpa using hs⟩, ?_⟩
    have e := r.length
    simp only [Array.length_toList] at e
    omega
theorem Inv.list_inj (I : Inv X pins σ H s) (h : SqL X.K H a xs) (h' : SqL X.K H a ys) : xs = ys := by
  obtain ⟨its, r, ⟨o, n, e, _, _, d⟩, _⟩ := I.list h
  obtain ⟨its', r', ⟨o', n', e', _, _, d'⟩, _⟩ := I.list h'
  rw [e] at e'; cases e'
  rw [d] at d'
  injection d' with d1 _
  have : its = its' := by simpa using congrArg Array.toList d1
  subst this
  exact r.inj r'
theorem Inv.tuple_inj (I : Inv X pins σ H s) (h : SqT X.K H a xs) (h' : SqT X.K H a ys) : xs = ys := by
  obtain ⟨its, r, ⟨o, e, _, n, d⟩, _⟩ := I.tuple h
  obtain ⟨its', r', ⟨o', e', _, n', d'⟩, _⟩ := I.tuple h'
  rw [e] at e'; cases e'
  rw [d] at d'
  injection d' with d1 _
  have : its = its' := by simpa using congrArg Array.toList d1
  subst this
  exact r.inj r'
end
abbrev Cx.wish (X : Cx) (E : Value → Shared → Prop) : Cx := { X with xe := E }
abbrev Cx.nox (X : Cx) : Cx := X.wish fun _ _ => False
theorem Cx.Ok.wish {X : Cx} (ok : X.Ok) (E : Value → Shared → Prop) : (X.wish E).Ok :=
  ⟨ok.mod, ok.kind, ok.glob, ok.blt, ok.above, ok.inj, ok.has, ok.cab, ok.hd, ok.frames, ok.stk, ok.exf, ok.bs, ok.bsz, ok.noex, ok.exfs, ok.funs, ok.frf⟩
theorem Cx.Ok.unwish {X : Cx} {E : Value → Shared → Prop} (ok : (X.wish E).Ok) : X.Ok :=
  ⟨ok.mod, ok.kind, ok.glob, ok.blt, ok.above, ok.inj, ok.has, ok.cab, ok.hd, ok.frames, ok.stk, ok.exf, ok.bs, ok.bsz, ok.noex, ok.exfs, ok.funs, ok.frf⟩
section
variable {X : Cx} {pins : List (Addr × Obj)} {σ : St} {H : Hp} {s : Shared} {E : Value → Shared → Prop}
theorem Inv.wish (I : Inv X pins σ H s) (E : Value → Shared → Prop) : Inv (X.wish E) pins σ H s := ⟨I.ok.wish E, I.os, I.bare, I.base, I.loc, I.cell, I.free, I.freeC, I.pin, I.hok, I.len⟩
theorem Inv.unwish (I : Inv (X.wish E) pins σ H s) : Inv X pins σ H s := ⟨I.ok.unwish, I.os, I.bare, I.base, I.loc, I.cell, I.free, I.freeC, I.pin, I.hok, I.len⟩
theorem SP.unwish {D : Ends} {f : Flow} {s' : Shared} (h : SP (X.wish E) pins D f s') : SP X pins D f s' := by
  cases f with
  | next => obtain ⟨σ', H', I, q⟩ := h; exact ⟨σ', H', I.unwish, q⟩
  | brk => obtain ⟨σ', H', I, q⟩ := h; exact ⟨σ', H', I.unwish, q⟩
  | cont => obtain ⟨σ', H', I, q⟩ := h; exact ⟨σ', H', I.unwish, q⟩
  | ret u => obtain ⟨v, σ', H', I, r, q⟩ := h; exact ⟨v, σ', H', I.unwish, r, q⟩
theorem PE.nox {e : Expr} {t : TE} (h : PE X.nox e t) : PE X e t := fun pins s σ H Q I hw =>
  wpAny_mono (h pins s σ H Q (I.wish _) hw) (fun _ _ ⟨v, H', I', r, q⟩ => ⟨v, H', I'.unwish, r, q⟩) fun _ _ z => False.elim z
theorem PT.nox {e : Expr} {t : TT} (h : PT X.nox e t) : PT X e t := fun pins s σ H Q I hw =>
  wpAny_mono (h pins s σ H Q (I.wish _) hw) (fun _ _ ⟨H', I', q⟩ => ⟨H', I'.unwish, q⟩) fun _ _ z => False.elim z
theorem PSs.nox {st : List Stmt} {t : TS} (h : PSs X.nox st t) : PSs X st t := fun pins s σ H D I hw =>
  wpAny_mono (h pins s σ H D (I.wish _) hw) (fun _ _ q => q.unwish) fun _ _ z => False.elim z
end
section
variable {X : Cx} {st : Stmt} {rest : List Stmt} {t u : TS} {e : Expr} {te : TE} {pos : Pos}
def tNext : TS := fun D σ H => D.nx σ H
def tSeq (t u : TS) : TS := fun D σ H => t { D with nx := u D } σ H
theorem pss_nil : PSs X [] tNext := fun _ _ σ H _ I h => wpAny_execs_nil ⟨σ, H, I, h⟩
theorem pss_cons (h1 : PS X st t) (h2 : PSs X rest u) : PSs X (st :: rest) (tSeq t u) := by
  intro pins s σ H D I h
  refine wpAny_execs_cons (thn (h1 pins s σ H { D with nx := u D } I h) fun f s1 q => ?_)
  cases f with
  | next =>
    obtain ⟨σ', H', I', q⟩ := q
    exact h2 pins s1 σ' H' D I' q
  | ret v => exact q
  | brk => exact q
  | cont => exact q
theorem pss_one (h1 : PS X st t) : PSs X [st] t := by
  intro pins s σ H D I h
  refine wpAny_execs_cons (thn (h1 pins s σ H D I h) fun f s1 q => ?_)
  cases f with
  | next => exact wpAny_execs_nil q
  | ret v => exact q
  | brk => exact q
  | cont => exact q
theorem Inv.quiet {pins : List (Addr × Obj)} {σ : St} {H : Hp} {s : Shared} (I : Inv X pins σ H s) : interactive X.env = false := by simp [interactive, I.ok.kind]
def tDrop (te : TE) : TS := fun D σ H => te σ H fun _ H1 => D.nx σ H1
theorem ps_expr (he : PE X e te) (hs : swapsWith e none pos.line X.env = pure false := by rfl) : PS X (.Expr e pos) (tDrop te) := by
  intro pins s σ H D I h
  exact wpAny_Expr_any (thn (he pins s σ H _ I h) fun v s1 ⟨x, H1, I1, r1, q1⟩ => ⟨σ, H1, I1, q1⟩) I.quiet hs
def tRet (te : TE) : TS := fun D σ H => te σ H D.rt
theorem ps_ret (he : PE X e te) : PS X (.Return (some e) pos) (tRet te) := by
  intro pins s σ H D I h
  exact wpAny_Return_some (thn (he pins s σ H _ I h) fun v s1 ⟨x, H1, I1, r1, q1⟩ => ⟨x, σ, H1, I1, r1, q1⟩)
def tRetN : TS := fun D _ H => D.rt .non H
def tIfS (c : TT) (t u : TS) : TS := fun D σ H => c σ H fun b H1 => if b = true then t D σ H1 else u D σ H1
theorem ps_if {c : Expr} {a b : List Stmt} {tc : TT} (hc : PT X c tc) (ha : PSs X a t) (hb : PSs X b u) : PS X (.If c a b pos) (tIfS tc t u) := by
  intro pins s σ H D I h
  refine wpAny_If (thn (hc pins s σ H _ I h) fun d s1 ⟨H1, I1, q1⟩ => ?_)
  cases d with
  | true => exact ha pins s1 σ H1 D I1 q1
  | false => exact hb pins s1 σ H1 D I1 q1
def tNever : TS := fun _ _ _ => False
end
abbrev TG := V → St → Hp → (St → Hp → Prop) → Prop
abbrev TGs := List V → St → Hp → (St → Hp → Prop) → Prop
def PG (X : Cx) (target : Expr) (t : TG) : Prop :=
  ∀ (pins : List (Addr × Obj)) (s : Shared) (σ : St) (H : Hp) (v : V) (u : Value) (Q : St → Hp → Prop), Inv X pins σ H s → RelV v u → t v σ H Q →
    wpAny (model X.prog X.w) X.A (assign target X.env u) (fun _ s' => ∃ σ' H', Inv X pins σ' H' s' ∧ Q σ' H') X.xe s
def PGs (X : Cx) (ts : List Expr) (t : TGs) : Prop :=
  ∀ (pins : List (Addr × Obj)) (s : Shared) (σ : St) (H : Hp) (vs : List V) (us : List Value) (Q : St → Hp → Prop), Inv X pins σ H s → Vals vs us → t vs σ H Q →
    wpAny (model X.prog X.w) X.A (assignInOrder ((assignEach ts X.env).map (·.2)) us) (fun _ s' => ∃ σ' H', Inv X pins σ' H' s' ∧ Q σ' H') X.xe s
abbrev TSet := V → V → V → Hp → (Hp → Prop) → Prop
abbrev TIp := V → V → Hp → VK → Prop
def PIp (X : Cx) (op : Operator) (t : TIp) : Prop :=
  ∀ (pins : List (Addr × Obj)) (s : Shared) (σ : St) (H : Hp) (x y : V) (v u : Value) (Q : VK), Inv X pins σ H s → RelV x v → RelV y u → t x y H Q →
    wpAny (model X.prog X.w) X.A (inplaceOp op v u) (EP X pins σ Q) X.xe s
section
variable {X : Cx} {pos : Pos}
def gName (i : Nat) : TG := fun v σ H Q => Q (σ.set i (some v)) H
theorem pg_name {i : Nat} {x : Str} (hN : X.N.Nodup) (hi : X.N[i]? = some x) (hx : Loc X.env.scope x) (hf : X.fn x = true ∨ X.env.scope.names.lookup x = some .local := by first | exact .inl rfl | exact .inr rfl | assumption) : PG X (.Name x pos) (gName i) := by
  intro pins s σ H v u Q I r h
  exact wpAny_assign_Name (store_ok I hN hi hx r (fun s' I' => ⟨_, H, I', h⟩) hf)
def gNil : TGs := fun vs σ H Q => vs = [] ∧ Q σ H
def gCons (t : TG) (u : TGs) : TGs := fun vs σ H Q => ∃ v r, vs = v :: r ∧ t v σ H fun σ' H' => u r σ' H' Q
theorem pgs_nil : PGs X [] gNil := by
  intro pins s σ H vs us Q I r h
  obtain ⟨e, h⟩ := h
  subst e
  cases r
  exact assignInOrder_nil ⟨σ, H, I, h⟩
theorem pgs_cons {e : Expr} {es : List Expr} {t : TG} {u : TGs} (h1 : PG X e t) (h2 : PGs X es u)
    (hs : (assignEach (e :: es) X.env).map (·.2) = assign e X.env :: (assignEach es X.env).map (·.2) := by rfl) : PGs X (e :: es) (gCons t u) := by
  intro pins s σ H vs us Q I r h
  obtain ⟨v, vr, e1, h⟩ := h
  subst e1
  cases r with
  | cons r rr =>
    rw [hs]
    refine assignInOrder_cons (thn (h1 pins s σ H _ _ _ I r h) fun _ s1 ⟨σ1, H1, I1, q1⟩ => ?_)
    exact h2 pins s1 σ1 H1 _ _ Q I1 rr q1
def gTup (K : PySem.W.Frag) (n : Nat) (t : TGs) : TG := fun v σ H Q => ∃ a xs, v = .ref a ∧ SqT K H a xs ∧ xs.length = n ∧ t xs σ H Q
theorem pg_tup {es : List Expr} {k : Nat} {t : TGs} {n : Nat} (hc : X.calm = true) (h : PGs X es t)
    (hn : (assignEach es X.env).length = n := by rfl) (hst : (assignEach es X.env).findIdx? (·.1) = none := by rfl) : PG X (.Tuple es k pos) (gTup X.K n t) := by
  intro pins s σ H v u Q I r hw
  obtain ⟨a, xs, e1, hq, hl, hw⟩ := hw
  subst e1
  cases r
  obtain ⟨its, rv, ht, hz⟩ := I.tuple hq
  refine assign_Tuple_tuple (I.ok.hd hc) ht (by simp [hn, ← hl, rv.length]) hst fun h' hx => ?_
  have I1 : Inv X pins σ H { s with heap := h' } := I.kept (t' := s.toks) fun b o e => hx b o (Nat.ne_of_lt (Heap.lt_size e)) e
  exact h pins _ σ H xs _ Q I1 (by simpa using rv) hw
def gSub (to ti : TE) (t : TSet) : TG := fun v σ H Q => to σ H fun o H1 => ti σ H1 fun i H2 => t o i v H2 fun H3 => Q σ H3
def tAsg (te : TE) (g : TG) : TS := fun D σ H => te σ H fun x H1 => g x σ H1 D.nx
theorem ps_set {i : Nat} {x : Str} {e : Expr} {te : TE} {pos' : Pos} (hN : X.N.Nodup) (hi : X.N[i]? = some x) (hx : Loc X.env.scope x) (he : PE X e te) (hs : swapsWith e (some (.Name x pos')) pos.line X.env = pure false := by rfl) (hf : X.fn x = true ∨ X.env.scope.names.lookup x = some .local := by first | exact .inl rfl | exact .inr rfl | assumption) :
    PS X (.Assign [.Name x pos'] e pos) (tAsg te (gName i)) := by
  intro pins s σ H D I h
  refine wpAny_Assign_Name (thn (he pins s σ H _ I h) fun v s1 ⟨y, H1, I1, r1, q1⟩ => ?_) hs
  exact store_ok I1 hN hi hx r1 (fun s2 I2 => ⟨_, H1, I2, q1⟩) hf
def tAug (i : Nat) (te : TE) (ti : TIp) : TS := fun D σ H => ∃ x, σ[i]? = some (some x) ∧ te σ H fun y H1 => ti x y H1 fun z H2 => D.nx (σ.set i (some z)) H2
theorem ps_aug {i : Nat} {x : Str} {e : Expr} {te : TE} {op : Operator} {ti : TIp} {pos' : Pos} (hN : X.N.Nodup) (hi : X.N[i]? = some x) (hx : Loc X.env.scope x) (he : PE X e te) (ho : PIp X op ti) (hf : X.fn x = true ∨ X.env.scope.names.lookup x = some .local := by first | exact .inl rfl | exact .inr rfl | assumption) :
    PS X (.AugAssign (.Name x pos') op e pos) (tAug i te ti) := by
  intro pins s σ H D I h
  obtain ⟨v, e1, h⟩ := h
  obtain ⟨m, hn, hl⟩ := I.loc
  have vis : Vis X.env.scope x := by rcases hx with k | k; exact .inl k; exact .inr (.inl k)
  obtain ⟨u, r, l⟩ := hl i x v hi e1 vis
  refine wpAny_AugAssign_Name ?_
  have go : wpAny (model X.prog X.w) X.A (eval e X.env) (fun w s₂ => wpAny (model X.prog X.w) X.A (inplaceOp op u w) (fun r s₃ => wpAny (model X.prog X.w) X.A (storeName X.env x r) (fun _ => SP X pins D .next) X.xe s₃) X.xe s₂) X.xe s := by
    refine thn (he pins s σ H _ I h) fun w s1 ⟨y, H1, I1, r1, q1⟩ => ?_
    refine thn (ho pins s1 σ H1 v y u w _ I1 r r1 q1) fun z s2 ⟨zv, H2, I2, r2, q2⟩ => ?_
    exact store_ok I2 hN hi hx r2 (fun s3 I3 => ⟨_, H2, I3, q2⟩) hf
  rcases l with ⟨hk, hm⟩ | ⟨hk, c, hc, hcell⟩
  · exact wpAny_loadName_local I.ok.kind hk hn hm go
  · rcases hk with hk | hk
    · exact wpAny_loadName_cell I.ok.kind hk hc hcell go
    · rcases hx with k | k
      · have : X.env.scope.names.lookup x = some .free := hk
        rw [k] at this; cases this
      · have : X.env.scope.names.lookup x = some .free := hk
        rw [k] at this; cases this
def ipI (f : Int → Int → Int) : TIp := fun x y H Q => ∃ i j, x = .int i ∧ y = .int j ∧ Q (.int (f i j)) H
theorem ip_add : PIp X .Add (ipI fun i j => i + j) := by
  intro pins s σ H x y v u Q I r1 r2 h
  obtain ⟨i, j, e1, e2, q⟩ := h
  subst e1; subst e2
  obtain ⟨t, rfl⟩ := r1
  obtain ⟨t', rfl⟩ := r2
  exact iadd_int ⟨.int _, H, I.tok _, ⟨_, rfl⟩, q⟩
theorem ip_sub : PIp X .Sub (ipI fun i j => i - j) := by
  intro pins s σ H x y v u Q I r1 r2 h
  obtain ⟨i, j, e1, e2, q⟩ := h
  subst e1; subst e2
  obtain ⟨t, rfl⟩ := r1
  obtain ⟨t', rfl⟩ := r2
  exact isub_int ⟨.int _, H, I.tok _, ⟨_, rfl⟩, q⟩
end
section
variable {X : Cx} {pos : Pos}
end
structure It where
  go : Nat → Hp → Prop
  yld : Nat → Hp → V → Hp → Prop
  stop : Nat → Hp → Prop
def FpOk (X : Cx) (pins : List (Addr × Obj)) (H : Hp) (b : Addr) : Prop :=
  H b = none ∧ b ≠ X.env.locals ∧ b ∉ X.fs ∧ (b ∈ X.ex ∨ X.s₀.heap.objs.size ≤ b) ∧ (∀ x c, X.env.cells.lookup x = some c → c ≠ b) ∧ ∀ p ∈ X.pn ++ pins, p.1 ≠ b
theorem Inv.fpOk {X : Cx} {pins : List (Addr × Obj)} {σ : St} {H H' : Hp} {s : Shared} {b : Addr} (I : Inv X pins σ H s) (hb : s.heap.objs.size ≤ b) (hn : H' b = none) : FpOk X pins H' b := by
  refine ⟨hn, Nat.ne_of_gt (Nat.lt_of_lt_of_le I.lt hb), I.nofs hb, .inr (Nat.le_trans I.sz hb), fun x c e z => ?_, fun p hp z => ?_⟩
  · obtain ⟨v, q⟩ := I.cell x c e
    exact absurd (Nat.lt_of_lt_of_le q.lt (by rw [z]; exact hb)) (Nat.lt_irrefl _)
  · exact absurd (Nat.lt_of_lt_of_le (Heap.lt_size (I.pin p hp).1) (by rw [z]; exact hb)) (Nat.lt_irrefl _)
structure Turn (P : Program) (w : World) (K : PySem.W.Frag) (tg : Expr) (J : It) (fp : List Addr) (it : Addr) (tn : Nat → Heap → Prop) : Prop where
  mem : it ∈ fp
  obj : ∀ i h, tn i h → ∀ b ∈ fp, ∃ o, h.get? b = some o ∧ ∀ v, o.data ≠ .cell v
  keep : ∀ i h h', tn i h → (∀ b ∈ fp, ∀ o, h.get? b = some o → h'.get? b = some o) → tn i h'
  item : ∀ (X : Cx), X.prog = P → X.w = w → X.K = K → X.calm = true → ∀ (i : Nat) (pins : List (Addr × Obj)) (s : Shared) (σ : St) (H : Hp) (E : Value → Shared → Prop), Inv X pins σ H s → (∀ b ∈ fp, FpOk X pins H b) → tn i s.heap → J.go i H →
    wpAny (model P w) X.A (pyNext (.ref it)) (fun r s1 => ∃ u, r = some u ∧
      wpAny (model P w) X.A (letOwnedTupleGo tg (.ref it) u) (fun _ s2 => ∃ x H', Inv X pins σ H' s2 ∧ RelV x u ∧ J.yld i H x H' ∧ tn (i + 1) s2.heap ∧ ∀ b ∈ fp, H' b = none) E s1) E s
  done : ∀ (X : Cx), X.prog = P → X.w = w → X.K = K → X.calm = true → ∀ (i : Nat) (pins : List (Addr × Obj)) (s : Shared) (σ : St) (H : Hp) (E : Value → Shared → Prop), Inv X pins σ H s → (∀ b ∈ fp, FpOk X pins H b) → tn i s.heap → J.stop i H →
    wpAny (model P w) X.A (pyNext (.ref it)) (fun r s1 => r = none ∧ Inv X pins σ H s1) E s
  self : ∀ (A : Around) (i : Nat) (s : Shared) (Q : Value → Shared → Prop) (E : Value → Shared → Prop), tn i s.heap → Q (.ref it) s → wpAny (model P w) A (pyIter (.ref it)) Q E s
abbrev TI := St → Hp → (It → Hp → Prop) → Prop
def PIE (X : Cx) (pins : List (Addr × Obj)) (σ : St) (tg : Expr) (R : It → Hp → Prop) (itv : Value) (s2 : Shared) : Prop :=
  ∃ (it : Addr) (fp : List Addr) (tn : Nat → Heap → Prop) (J : It) (H' : Hp), itv = .ref it ∧ Inv X pins σ H' s2 ∧ Turn X.prog X.w X.K tg J fp it tn ∧ tn 0 s2.heap ∧ (∀ b ∈ fp, FpOk X pins H' b) ∧ R J H'
def PI (X : Cx) (tg iter : Expr) (wi : TI) : Prop :=
  ∀ (pins : List (Addr × Obj)) (s : Shared) (σ : St) (H : Hp) (R : It → Hp → Prop), Inv X pins σ H s → wi σ H R →
    wpAny (model X.prog X.w) X.A (eval iter X.env) (fun v s1 => wpAny (model X.prog X.w) X.A (pyIter v) (PIE X pins σ tg R) X.xe s1) X.xe s
theorem go_of {M : Model} {A : Around} {E : Value → Shared → Prop} {s : Shared} {tg : Expr} {it : Addr} {u : Value} {o : Obj} {n : String} {vs : Array Value} {Q : Unit → Shared → Prop} (ho : s.heap.get? it = some o) (hc : o.cls = .type n) (hd : o.data = .fields vs)
    (hn : ["enumerate", "zip", "dict_itemiterator", "dict_reverseitemiterator", "odict_iterator", "itertools.zip_longest", "itertools.pairwise"].contains n = false) (hQ : Q () s) : wpAny M A (letOwnedTupleGo tg (.ref it) u) Q E s := by
  unfold letOwnedTupleGo
  cases tg <;> first
    | exact wpAny_pure hQ
    | (cases u <;> first
        | exact wpAny_pure hQ
        | (refine wpAny_bind (wpAny_load ho ?_)
           rw [hc, hd]
           show wpAny M A (if (["enumerate", "zip", "dict_itemiterator", "dict_reverseitemiterator", "odict_iterator", "itertools.zip_longest", "itertools.pairwise"].contains n && vs[0]? == some (rawInt _)) = true then _ else _) Q E s
           rw [if_neg (by intro h; rw [hn, Bool.false_and] at h; cases h)]
           exact wpAny_pure hQ))
def Itl (K : PySem.W.Frag) (a : Addr) : It :=
  ⟨fun i H => ∃ xs x, SqL K H a xs ∧ xs[i]? = some x, fun i H x H' => H' = H ∧ ∀ xs, SqL K H a xs → xs[i]? = some x, fun i H => ∃ xs, SqL K H a xs ∧ xs.length ≤ i⟩
def Itt (K : PySem.W.Frag) (a : Addr) : It :=
  ⟨fun i H => ∃ xs x, SqT K H a xs ∧ xs[i]? = some x, fun i H x H' => H' = H ∧ ∀ xs, SqT K H a xs → xs[i]? = some x, fun i H => ∃ xs, SqT K H a xs ∧ xs.length ≤ i⟩
def Itr (lo : Int) (n : Nat) : It := ⟨fun i _ => i < n, fun i H x H' => H' = H ∧ x = .int (lo + i), fun i _ => n ≤ i⟩
theorem turn_list {P : Program} {w : World} {K : PySem.W.Frag} {tg : Expr} (a it : Addr) : Turn P w K tg (Itl K a) [it] it (fun i h => h.IsListIter it a i) where
  mem := by simp
  obj := fun i h st b hb => by
    have e : b = it := by simpa using hb
    subst e
    obtain ⟨o, e, c, d⟩ := st
    exact ⟨o, e, fun v z => by rw [d] at z; cases z⟩
  keep := fun i h h' st k => st.at fun o e => k it (by simp) o e
  item := by
    intro X hP hw hK hc i pins s σ H E I hf st hg
    subst hP hw hK
    obtain ⟨xs, x, hq, hx⟩ := hg
    obtain ⟨its, rv, p, hz⟩ := I.list hq
    obtain ⟨u, hu, ru⟩ := rv.get hx
    obtain ⟨f0, f1, f2, f3, f4, f5⟩ := hf it (by simp)
    refine wpAny_pyNext_list_item st p.isList (x := u) (by simpa using hu) fun h' st' sb => ?_
    have I1 : Inv X pins σ H { s with heap := h' } := I.turned (t' := s.toks) (fun b o hb e => (sb.2 b hb).trans e) f0 f1 f3 f4 f5
    obtain ⟨o, e, c, d⟩ := id st'
    exact ⟨u, rfl, go_of (s := { s with heap := h' }) e c d (by decide) ⟨x, H, I1, ru, ⟨rfl, fun ys hy => by rw [I.list_inj hy hq]; exact hx⟩, st', fun b hb => (hf b hb).1⟩⟩
  done := by
    intro X hP hw hK hc i pins s σ H E I hf st hg
    subst hP hw hK
    obtain ⟨xs, hq, hx⟩ := hg
    obtain ⟨its, rv, p, hz⟩ := I.list hq
    obtain ⟨f0, f1, f2, f3, f4, f5⟩ := hf it (by simp)
    have hl := rv.length
    exact wpAny_pyNext_list_end (I.ok.hd hc) st p.isList (by simp; omega) fun h' eb => ⟨rfl, I.turned (t' := s.toks) (fun b o hb e => eb b o hb e) f0 f1 f3 f4 f5⟩
  self := fun _ _ _ _ _ st h => wpAny_pyIter_listiter st h
theorem turn_tuple {P : Program} {w : World} {K : PySem.W.Frag} {tg : Expr} (a it : Addr) : Turn P w K tg (Itt K a) [it] it (fun i h => h.IsTupleIter it a i) where
  mem := by simp
  obj := fun i h st b hb => by
    have e : b = it := by simpa using hb
    subst e
    obtain ⟨o, e, c, d⟩ := st
    exact ⟨o, e, fun v z => by rw [d] at z; cases z⟩
  keep := fun i h h' st k => st.at fun o e => k it (by simp) o e
  item := by
    intro X hP hw hK hc i pins s σ H E I hf st hg
    subst hP hw hK
    obtain ⟨xs, x, hq, hx⟩ := hg
    obtain ⟨its, rv, p, hz⟩ := I.tuple hq
    obtain ⟨u, hu, ru⟩ := rv.get hx
    obtain ⟨f0, f1, f2, f3, f4, f5⟩ := hf it (by simp)
    refine wpAny_pyNext_tuple_item st (show s.heap.IsTuple a its.toArray from p) (x := u) (by simpa using hu) fun h' st' sb => ?_
    have I1 : Inv X pins σ H { s with heap := h' } := I.turned (t' := s.toks) (fun b o hb e => (sb.2 b hb).trans e) f0 f1 f3 f4 f5
    obtain ⟨o, e, c, d⟩ := id st'
    exact ⟨u, rfl, go_of (s := { s with heap := h' }) e c d (by decide) ⟨x, H, I1, ru, ⟨rfl, fun ys hy => by rw [I.tuple_inj hy hq]; exact hx⟩, st', fun b hb => (hf b hb).1⟩⟩
  done := by
    intro X hP hw hK hc i pins s σ H E I hf st hg
    subst hP hw hK
    obtain ⟨xs, hq, hx⟩ := hg
    obtain ⟨its, rv, p, hz⟩ := I.tuple hq
    obtain ⟨f0, f1, f2, f3, f4, f5⟩ := hf it (by simp)
    have hl := rv.length
    exact wpAny_pyNext_tuple_end (I.ok.hd hc) st (show s.heap.IsTuple a its.toArray from p) (by simp; omega) fun h' eb => ⟨rfl, I.turned (t' := s.toks) (fun b o hb e => eb b o hb e) f0 f1 f3 f4 f5⟩
  self := fun _ _ _ _ _ st h => wpAny_pyIter_tupleiter st h
theorem turn_range {P : Program} {w : World} {K : PySem.W.Frag} {tg : Expr} (it : Addr) (lo : Int) (n : Nat) : Turn P w K tg (Itr lo n) [it] it (fun i h => IsRangeIter h it (lo + (i : Nat) * 1) ((n : Int) - (i : Nat)) 1) where
  mem := by simp
  obj := fun i h st b hb => by
    have e : b = it := by simpa using hb
    subst e
    exact ⟨_, st, fun v z => by
      have z' : Data.fields _ = Data.cell v := z
      cases z'⟩
  keep := fun i h h' st k => k it (by simp) _ st
  item := by
    intro X hP hw hK hc i pins s σ H E I hf st hg
    subst hP hw hK
    obtain ⟨f0, f1, f2, f3, f4, f5⟩ := hf it (by simp)
    have W := Walks.range (prog := X.prog) (w := X.w) (I.ok.hd hc) it lo 1 n
    refine W.item i s _ _ hg st fun v h' tk hv st' kk => ?_
    obtain ⟨t, rfl⟩ := hv
    have I1 : Inv X pins σ H { s with heap := h', toks := tk } := I.turned (fun b o hb e => kk b o (by simpa using hb) e) f0 f1 f3 f4 f5
    refine ⟨_, rfl, go_of (s := { s with heap := h', toks := tk }) (n := "range_iterator") st' rfl rfl (by decide) ⟨.int (lo + i), H, I1, ⟨t, ?_⟩, ⟨rfl, rfl⟩, st', fun b hb => (hf b hb).1⟩⟩
    rw [Int.mul_one]
  done := by
    intro X hP hw hK hc i pins s σ H E I hf st hg
    subst hP hw hK
    obtain ⟨f0, f1, f2, f3, f4, f5⟩ := hf it (by simp)
    exact wpAny_pyNext_range_end (I.ok.hd hc) st (by have : n ≤ i := hg; omega) fun h' eb => ⟨rfl, I.turned (t' := s.toks) (fun b o hb e => eb b o hb e) f0 f1 f3 f4 f5⟩
  self := fun _ _ _ _ _ st h => wpAny_pyIter_rangeiter st h
end L2
namespace L2
open PySem PySem.Spec PyProof.Rows
section
variable {X : Cx} {tg : Expr}
def iList (K : PySem.W.Frag) (tl : TE) : TI := fun σ H R => tl σ H fun x H1 => ∃ a, x = .ref a ∧ (∃ xs, SqL K H1 a xs) ∧ R (Itl K a) H1
def iTup (K : PySem.W.Frag) (tl : TE) : TI := fun σ H R => tl σ H fun x H1 => ∃ a, x = .ref a ∧ (∃ xs, SqT K H1 a xs) ∧ R (Itt K a) H1
theorem pi_list {l : Expr} {tl : TE} (hl : PE X l tl) : PI X tg l (iList X.K tl) := by
  intro pins s σ H R I h
  refine thn (hl pins s σ H _ I h) fun v s1 ⟨x, H1, I1, r1, q1⟩ => ?_
  obtain ⟨a, e, ⟨xs, hq⟩, q⟩ := q1
  subst e
  cases r1
  obtain ⟨its, rv, p, hz⟩ := I1.list hq
  refine wpAny_pyIter_list p.isList ?_
  refine ⟨s1.heap.objs.size, [s1.heap.objs.size], _, _, H1, rfl, I1.kept (t' := s1.toks) fun b o e => Heap.get?_push_of_some _ e, turn_list a _, ⟨_, Heap.get?_push_size _ rfl, rfl, rfl⟩, fun b hb => ?_, q⟩
  have e : b = s1.heap.objs.size := by simpa using hb
  subst e
  exact I1.fpOk (Nat.le_refl _) (I1.hok.fresh (Nat.le_refl _))
theorem pi_tup {l : Expr} {tl : TE} (hl : PE X l tl) : PI X tg l (iTup X.K tl) := by
  intro pins s σ H R I h
  refine thn (hl pins s σ H _ I h) fun v s1 ⟨x, H1, I1, r1, q1⟩ => ?_
  obtain ⟨a, e, ⟨xs, hq⟩, q⟩ := q1
  subst e
  cases r1
  obtain ⟨its, rv, p, hz⟩ := I1.tuple hq
  refine wpAny_pyIter_tuple (show s1.heap.IsTuple a its.toArray from p) ?_
  refine ⟨s1.heap.objs.size, [s1.heap.objs.size], _, _, H1, rfl, I1.kept (t' := s1.toks) fun b o e => Heap.get?_push_of_some _ e, turn_tuple a _, ⟨_, Heap.get?_push_size _ rfl, rfl, rfl⟩, fun b hb => ?_, q⟩
  have e : b = s1.heap.objs.size := by simpa using hb
  subst e
  exact I1.fpOk (Nat.le_refl _) (I1.hok.fresh (Nat.le_refl _))
theorem range_it {pins : List (Addr × Obj)} {σ : St} {H : Hp} {s : Shared} {R : It → Hp → Prop} {E : Value → Shared → Prop} {lo hi : Int} {t u v : Tok} {tk : Nat} (I : Inv X pins σ H s) (h1 : -(2 ^ 62) ≤ lo) (h2 : lo < 2 ^ 62) (h3 : -(2 ^ 62) ≤ hi) (h4 : hi < 2 ^ 62)
    (q : R (Itr lo (hi - lo).toNat) H) : wpAny (model X.prog X.w) X.A (pyIter (.ref s.heap.objs.size)) (PIE X pins σ tg R) E { s with heap := s.heap.push { cls := .type "range", data := .fields #[.int lo t, .int hi u, .int 1 v] }, toks := tk } := by
  refine wpAny_pyIter_range (IsRange.new ..) (small_one h1 h2 h3 h4) ?_
  have I1 : Inv X pins σ H { s with heap := s.heap.push { cls := .type "range", data := .fields #[.int lo t, .int hi u, .int 1 v] }, toks := tk } := I.kept fun b o e => Heap.get?_push_of_some _ e
  refine ⟨(s.heap.push { cls := .type "range", data := .fields #[.int lo t, .int hi u, .int 1 v] }).objs.size, [(s.heap.push { cls := .type "range", data := .fields #[.int lo t, .int hi u, .int 1 v] }).objs.size], _, _, H, rfl,
    I1.kept (t' := tk) fun b o e => Heap.get?_push_of_some _ e, turn_range _ lo (hi - lo).toNat, ?_, fun b hb => ?_, q⟩
  · have e1 : lo + ((0 : Nat) : Int) * 1 = lo := by simp
    have e2 : (((hi - lo).toNat : Nat) : Int) - ((0 : Nat) : Int) = Builtin.Range.rangeSize lo hi 1 := by rw [rangeSize_one]; split <;> omega
    show IsRangeIter _ _ (lo + ((0 : Nat) : Int) * 1) ((((hi - lo).toNat : Nat) : Int) - ((0 : Nat) : Int)) 1
    rw [e1, e2]
    exact Heap.get?_push_size _ rfl
  · have e : b = (s.heap.push { cls := .type "range", data := .fields #[.int lo t, .int hi u, .int 1 v] }).objs.size := by simpa using hb
    subst e
    exact I1.fpOk (Nat.le_refl _) (I1.hok.fresh (Nat.le_refl _))
def iRng1 (ta : TA) : TI := fun σ H R => ta σ H fun vs H1 => ∃ j : Int, vs = [.int j] ∧ -(2 ^ 62) ≤ j ∧ j < 2 ^ 62 ∧ R (Itr 0 j.toNat) H1
def iRng2 (ta : TA) : TI := fun σ H R => ta σ H fun vs H1 => ∃ i j : Int, vs = [.int i, .int j] ∧ (-(2 ^ 62) ≤ i ∧ i < 2 ^ 62 ∧ -(2 ^ 62) ≤ j ∧ j < 2 ^ 62) ∧ R (Itr i (j - i).toNat) H1
theorem pi_range1 {a : Expr} {ta : TA} {p pos : Pos} (hg : Gl X "range") (hm : X.mg "range" = none) (ha : PA X [a] ta) (hs : starEach [a] X.env = [(false, eval a X.env)] := by rfl) : PI X tg (.Call (.Name "range" p) [a] [] pos) (iRng1 ta) := by
  intro pins s σ H R I h
  refine Call_ (ld_blt I hg hm boot_range (PyProof.Rows.callWith_type1 (thn (ha pos pins s σ H _ I h) fun us s1 ⟨vs, H1, I1, r1, q1⟩ => ?_) hs rfl))
  obtain ⟨j, e, q1, q2, q⟩ := q1
  subst e
  cases r1 with
  | cons r rr =>
    cases rr
    obtain ⟨t, rfl⟩ := r
    exact call_range_1 (range_it I1 (by omega) (by omega) q1 q2 (by simpa using q))
def tFor (wi : TI) (g : TG) (tb : TS) : TS := fun D σ H => wi σ H fun J H1 => ∃ W : Nat → Nat → St → Hp → Prop, (∃ m, W 0 m σ H1) ∧ ∀ i m σ H, W i m σ H →
  (J.stop i H ∧ D.nx σ H) ∨ (J.go i H ∧ ∃ N : St → Hp → Prop, (∀ σ' H', N σ' H' → ∃ m', m' < m ∧ W (i + 1) m' σ' H') ∧ ∀ x H', J.yld i H x H' → g x σ H' fun σ2 H2 => tb { D with nx := N, ct := N, bk := D.nx } σ2 H2)
def pinsAt (fp : List Addr) (h : Heap) : List (Addr × Obj) := fp.filterMap fun b => (h.get? b).map fun o => (b, o)
theorem mem_pinsAt {fp : List Addr} {h : Heap} {b : Addr} {o : Obj} (hb : b ∈ fp) (e : h.get? b = some o) : (b, o) ∈ pinsAt fp h := List.mem_filterMap.mpr ⟨b, hb, by rw [e]; rfl⟩
theorem of_pinsAt {fp : List Addr} {h : Heap} {p : Addr × Obj} (hp : p ∈ pinsAt fp h) : p.1 ∈ fp ∧ h.get? p.1 = some p.2 := by
  obtain ⟨b, hb, e⟩ := List.mem_filterMap.mp hp
  cases q : h.get? b with
  | none => rw [q] at e; cases e
  | some o =>
    rw [q] at e
    have e' : (b, o) = p := Option.some.inj e
    subst e'
    exact ⟨hb, q⟩
theorem Inv.pinned {pins : List (Addr × Obj)} {σ : St} {H : Hp} {s : Shared} {fp : List Addr} (I : Inv X pins σ H s) (hf : ∀ b ∈ fp, FpOk X pins H b) (ho : ∀ b ∈ fp, ∃ o, s.heap.get? b = some o ∧ ∀ v, o.data ≠ .cell v) : Inv X (pins ++ pinsAt fp s.heap) σ H s :=
  I.pins_of fun p hp => (List.mem_append.mp hp).elim (fun z => I.pin p (List.mem_append_right _ z)) fun z => by
    obtain ⟨hb, e⟩ := of_pinsAt z
    obtain ⟨f0, f1, f2, _⟩ := hf p.1 hb
    obtain ⟨o, e', d⟩ := ho p.1 hb
    rw [e] at e'; cases e'
    exact ⟨e, f0, f1, f2, d⟩
theorem Inv.unpinned {pins pl : List (Addr × Obj)} {σ : St} {H : Hp} {s : Shared} (I : Inv X (pins ++ pl) σ H s) : Inv X pins σ H s := I.pins_of fun p hp => I.pin p (List.mem_append_right _ (List.mem_append_left _ hp))
theorem ps_for {iter : Expr} {body : List Stmt} {wi : TI} {g : TG} {tb : TS} {pos : Pos} (hp : PassesOwn (model X.prog X.w) X.A X.env X.xe) (hc : X.calm = true) (hi : PI X tg iter wi) (hg : PG X tg g) (hb : PSs X body tb)
    (hs : ∀ x, foldedSetIterable iter X.env x = pure x := by intro _; rfl) : PS X (.For tg iter body [] pos) (tFor wi g tb) := by
  intro pins s σ H D I h
  refine wpAny_For (thn (hi pins s σ H _ I h) fun v s1 h1 => thn h1 fun itv s2 h2 => ?_) hs
  obtain ⟨it, fp, tn, J, H2, e, I2, T, st2, f2, W, ⟨m0, w0⟩, turn⟩ := h2
  subst e
  have stat : ∀ {H' : Hp}, (∀ b ∈ fp, H' b = none) → ∀ b ∈ fp, FpOk X pins H' b := fun hn b hb => ⟨hn b hb, (f2 b hb).2⟩
  refine codeAny_forLoop_any (fun n s' => ∃ i σ' H', Inv X pins σ' H' s' ∧ tn i s'.heap ∧ (∀ b ∈ fp, H' b = none) ∧ W i n σ' H') ?_ m0 ⟨0, σ, H2, I2, st2, fun b hb => (f2 b hb).1, w0⟩
  rintro n s3 ⟨i, σ3, H3, I3, st3, fr3, w3⟩
  rcases turn i n σ3 H3 w3 with ⟨stop, qn⟩ | ⟨go, N, hN, step⟩
  · refine wpAny_passesOwn hp (thn (T.done X rfl rfl rfl hc i pins s3 σ3 H3 X.xe I3 (stat fr3) st3 stop) fun r s4 ⟨hr, I4⟩ => ?_)
    subst hr
    exact wpAny_execs_nil ⟨σ3, H3, I4, qn⟩
  · refine wpAny_passesOwn hp (thn (T.item X rfl rfl rfl hc i pins s3 σ3 H3 X.xe I3 (stat fr3) st3 go) fun r s4 ⟨u, hr, h4⟩ => ?_)
    subst hr
    refine wpAny_passesOwn hp (thn h4 fun _ s5 ⟨x, H5, I5, r5, y5, st5, fr5⟩ => ?_)
    have I5' := I5.pinned (stat fr5) (T.obj _ _ st5)
    refine wpAny_passesOwn hp (thn (hg _ s5 σ3 H5 x u _ I5' r5 (step x H5 y5)) fun _ s6 ⟨σ6, H6, I6, q6⟩ => ?_)
    refine wpAny_passesOwn hp (thn (hb _ s6 σ6 H6 _ I6 q6) fun f s7 q7 => ?_)
    have again : ∀ {σ7 : St} {H7 : Hp}, Inv X (pins ++ pinsAt fp s5.heap) σ7 H7 s7 → N σ7 H7 → ∃ m, m < n ∧ ∃ i σ' H', Inv X pins σ' H' s7 ∧ tn i s7.heap ∧ (∀ b ∈ fp, H' b = none) ∧ W i m σ' H' := fun {σ7 H7} I7 n7 => by
      obtain ⟨m', hm, w7⟩ := hN σ7 H7 n7
      refine ⟨m', hm, i + 1, σ7, H7, I7.unpinned, T.keep _ _ _ st5 fun b hb o e => (I7.pin (b, o) (List.mem_append_right _ (List.mem_append_right _ (mem_pinsAt hb e)))).1, fun b hb => ?_, w7⟩
      obtain ⟨o, e, d⟩ := T.obj _ _ st5 b hb
      exact (I7.pin (b, o) (List.mem_append_right _ (List.mem_append_right _ (mem_pinsAt hb e)))).2.1
    cases f with
    | next => obtain ⟨σ7, H7, I7, n7⟩ := q7; exact again I7 n7
    | cont => obtain ⟨σ7, H7, I7, n7⟩ := q7; exact again I7 n7
    | brk => obtain ⟨σ7, H7, I7, q7⟩ := q7; exact ⟨σ7, H7, I7.unpinned, q7⟩
    | ret v => obtain ⟨x7, σ7, H7, I7, r7, q7⟩ := q7; exact ⟨x7, σ7, H7, I7.unpinned, r7, q7⟩
end
theorem for_list {K : PySem.W.Frag} {a : Addr} {xs : List V} {g : TG} {tb : TS} {D : Ends} {σ : St} {H : Hp} (Pv : Nat → St → Hp → Prop) (h0 : Pv 0 σ H) (hl : ∀ i σ H, i ≤ xs.length → Pv i σ H → SqL K H a xs)
    (hs : ∀ i x σ H, xs[i]? = some x → Pv i σ H → g x σ H fun σ2 H2 => tb { D with nx := Pv (i + 1), ct := Pv (i + 1), bk := D.nx } σ2 H2) (hd : ∀ σ H, Pv xs.length σ H → D.nx σ H) :
    ∃ W : Nat → Nat → St → Hp → Prop, (∃ m, W 0 m σ H) ∧ ∀ i m σ H, W i m σ H →
      ((Itl K a).stop i H ∧ D.nx σ H) ∨ ((Itl K a).go i H ∧ ∃ N : St → Hp → Prop, (∀ σ' H', N σ' H' → ∃ m', m' < m ∧ W (i + 1) m' σ' H') ∧ ∀ x H', (Itl K a).yld i H x H' → g x σ H' fun σ2 H2 => tb { D with nx := N, ct := N, bk := D.nx } σ2 H2) := by
  refine ⟨fun i m σ H => m = xs.length - i ∧ i ≤ xs.length ∧ Pv i σ H, ⟨xs.length, by simp, Nat.zero_le _, h0⟩, ?_⟩
  rintro i m σ H ⟨rfl, hi, p⟩
  have q := hl i σ H hi p
  by_cases hlt : i < xs.length
  · refine .inr ⟨⟨xs, xs[i], q, by simp [hlt]⟩, Pv (i + 1), fun σ' H' p' => ⟨xs.length - (i + 1), by omega, rfl, hlt, p'⟩, fun x H' y => ?_⟩
    obtain ⟨e, y⟩ := y
    subst e
    exact hs i x σ _ (y xs q) p
  · have e : i = xs.length := by omega
    subst e
    exact .inl ⟨⟨xs, q, Nat.le_refl _⟩, hd σ H p⟩
theorem for_tup {K : PySem.W.Frag} {a : Addr} {xs : List V} {g : TG} {tb : TS} {D : Ends} {σ : St} {H : Hp} (Pv : Nat → St → Hp → Prop) (h0 : Pv 0 σ H) (hl : ∀ i σ H, i ≤ xs.length → Pv i σ H → SqT K H a xs)
    (hs : ∀ i x σ H, xs[i]? = some x → Pv i σ H → g x σ H fun σ2 H2 => tb { D with nx := Pv (i + 1), ct := Pv (i + 1), bk := D.nx } σ2 H2) (hd : ∀ σ H, Pv xs.length σ H → D.nx σ H) :
    ∃ W : Nat → Nat → St → Hp → Prop, (∃ m, W 0 m σ H) ∧ ∀ i m σ H, W i m σ H →
      ((Itt K a).stop i H ∧ D.nx σ H) ∨ ((Itt K a).go i H ∧ ∃ N : St → Hp → Prop, (∀ σ' H', N σ' H' → ∃ m', m' < m ∧ W (i + 1) m' σ' H') ∧ ∀ x H', (Itt K a).yld i H x H' → g x σ H' fun σ2 H2 => tb { D with nx := N, ct := N, bk := D.nx } σ2 H2) := by
  refine ⟨fun i m σ H => m = xs.length - i ∧ i ≤ xs.length ∧ Pv i σ H, ⟨xs.length, by simp, Nat.zero_le _, h0⟩, ?_⟩
  rintro i m σ H ⟨rfl, hi, p⟩
  have q := hl i σ H hi p
  by_cases hlt : i < xs.length
  · refine .inr ⟨⟨xs, xs[i], q, by simp [hlt]⟩, Pv (i + 1), fun σ' H' p' => ⟨xs.length - (i + 1), by omega, rfl, hlt, p'⟩, fun x H' y => ?_⟩
    obtain ⟨e, y⟩ := y
    subst e
    exact hs i x σ _ (y xs q) p
  · have e : i = xs.length := by omega
    subst e
    exact .inl ⟨⟨xs, q, Nat.le_refl _⟩, hd σ H p⟩
theorem for_range {lo : Int} {n : Nat} {g : TG} {tb : TS} {D : Ends} {σ : St} {H : Hp} (Pv : Nat → St → Hp → Prop) (h0 : Pv 0 σ H)
    (hs : ∀ i σ H, i < n → Pv i σ H → g (.int (lo + i)) σ H fun σ2 H2 => tb { D with nx := Pv (i + 1), ct := Pv (i + 1), bk := D.nx } σ2 H2) (hd : ∀ σ H, Pv n σ H → D.nx σ H) :
    ∃ W : Nat → Nat → St → Hp → Prop, (∃ m, W 0 m σ H) ∧ ∀ i m σ H, W i m σ H →
      ((Itr lo n).stop i H ∧ D.nx σ H) ∨ ((Itr lo n).go i H ∧ ∃ N : St → Hp → Prop, (∀ σ' H', N σ' H' → ∃ m', m' < m ∧ W (i + 1) m' σ' H') ∧ ∀ x H', (Itr lo n).yld i H x H' → g x σ H' fun σ2 H2 => tb { D with nx := N, ct := N, bk := D.nx } σ2 H2) := by
  refine ⟨fun i m σ H => m = n - i ∧ i ≤ n ∧ Pv i σ H, ⟨n, by simp, Nat.zero_le _, h0⟩, ?_⟩
  rintro i m σ H ⟨rfl, hi, p⟩
  by_cases hlt : i < n
  · refine .inr ⟨hlt, Pv (i + 1), fun σ' H' p' => ⟨n - (i + 1), by omega, rfl, hlt, p'⟩, fun x H' y => ?_⟩
    obtain ⟨e, y⟩ := y
    subst e y
    exact hs i σ _ hlt p
  · have e : i = n := by omega
    subst e
    exact .inl ⟨Nat.le_refl _, hd σ H p⟩
end L2
namespace L2
open PySem PySem.Spec PyProof.Rows
abbrev R2 := V → V → Hp → VK → Prop
def OpR (X : Cx) (f : Value → Value → Sem Value) (r : R2) : Prop :=
  ∀ (pins : List (Addr × Obj)) (s : Shared) (σ : St) (H : Hp) (x y : V) (v u : Value) (Q : VK), Inv X pins σ H s → RelV x v → RelV y u → r x y H Q →
    wpAny (model X.prog X.w) X.A (f v u) (EP X pins σ Q) X.xe s
def UnR (X : Cx) (f : Value → Sem Value) (r : V → Hp → VK → Prop) : Prop :=
  ∀ (pins : List (Addr × Obj)) (s : Shared) (σ : St) (H : Hp) (x : V) (v : Value) (Q : VK), Inv X pins σ H s → RelV x v → r x H Q →
    wpAny (model X.prog X.w) X.A (f v) (EP X pins σ Q) X.xe s
def CallR (X : Cx) (f : Value) (r : List V → Hp → VK → Prop) : Prop :=
  ∀ (pins : List (Addr × Obj)) (s : Shared) (σ : St) (H : Hp) (xs : List V) (us : List Value) (Q : VK), Inv X pins σ H s → Vals xs us → r xs H Q →
    wpAny (model X.prog X.w) X.A (call f us) (EP X pins σ Q) X.xe s
def TruR (X : Cx) (r : V → Hp → (Bool → Hp → Prop) → Prop) : Prop :=
  ∀ (pins : List (Addr × Obj)) (s : Shared) (σ : St) (H : Hp) (x : V) (v : Value) (Q : Bool → Hp → Prop), Inv X pins σ H s → RelV x v → r x H Q →
    wpAny (model X.prog X.w) X.A (truthy v) (TP X pins σ Q) X.xe s
def tOp (r : R2) (ta tb : TE) : TE := fun σ H Q => ta σ H fun x H1 => tb σ H1 fun y H2 => r x y H2 Q
def tUn (r : V → Hp → VK → Prop) (ta : TE) : TE := fun σ H Q => ta σ H fun x H1 => r x H1 Q
def rI (C : Int → Int → Prop) (g : Int → Int → V) : R2 := fun x y H Q => ∃ i j, x = .int i ∧ y = .int j ∧ C i j ∧ Q (g i j) H
def rI0 (g : Int → Int → V) : R2 := fun x y H Q => ∃ i j, x = .int i ∧ y = .int j ∧ Q (g i j) H
def rU (g : Int → V) : V → Hp → VK → Prop := fun x H Q => ∃ i, x = .int i ∧ Q (g i) H
section
variable {X : Cx} {a b c : Expr} {ta tb tc : TE} {pos : Pos}
theorem binT (ha : PE X a ta) (hb : PE X b tb) {pins : List (Addr × Obj)} {s : Shared} {σ : St} {H : Hp} {R : V → V → Hp → Prop} (I : Inv X pins σ H s)
    (h : ta σ H fun x H1 => tb σ H1 fun y H2 => R x y H2) {Q : Value → Shared → Prop} {f : Value → Value → Sem Value}
    (hf : ∀ v u s2 x y H2, Inv X pins σ H2 s2 → RelV x v → RelV y u → R x y H2 → wpAny (model X.prog X.w) X.A (f v u) Q X.xe s2) :
    wpAny (model X.prog X.w) X.A (eval a X.env) (fun v s₁ => wpAny (model X.prog X.w) X.A (eval b X.env) (fun u s₂ => wpAny (model X.prog X.w) X.A (f v u) Q X.xe s₂) X.xe s₁) X.xe s := by
  refine thn (ha pins s σ H _ I h) fun v s1 ⟨x, H1, I1, r1, q1⟩ => ?_
  refine thn (hb pins s1 σ H1 _ I1 q1) fun u s2 ⟨y, H2, I2, r2, q2⟩ => ?_
  exact hf v u s2 x y H2 I2 r1 r2 q2
theorem pe_op {op : Operator} {r : R2} (ho : OpR X (binaryOp op) r) (ha : PE X a ta) (hb : PE X b tb) : PE X (.BinOp a op b pos) (tOp r ta tb) := by
  intro pins s σ H Q I h
  exact wpAny_BinOp (binT ha hb I h fun v u s2 x y H2 I2 rx ry q => ho pins s2 σ H2 x y v u Q I2 rx ry q)
theorem pe_un {op : UnaryOp} {r : V → Hp → VK → Prop} (ho : UnR X (unaryOp op) r) (ha : PE X a ta) : PE X (.UnaryOp op a pos) (tUn r ta) := by
  intro pins s σ H Q I h
  exact UnaryOp_ (thn (ha pins s σ H _ I h) fun v s1 ⟨x, H1, I1, r1, q1⟩ => ho pins s1 σ H1 x v Q I1 r1 q1)
theorem opI {f : Value → Value → Sem Value} {C : Int → Int → Prop} {g : Int → Int → Int}
    (rule : ∀ (i j : Int) (t u : Tok) (s : Shared) (Q : Value → Shared → Prop) (E : Value → Shared → Prop), C i j → Q (.int (g i j) s.toks) { s with toks := s.toks + 1 } → wpAny (model X.prog X.w) X.A (f (.int i t) (.int j u)) Q E s) :
    OpR X f (rI C fun i j => .int (g i j)) := by
  intro pins s σ H x y v u Q I rx ry h
  obtain ⟨i, j, rfl, rfl, hc, q⟩ := h
  obtain ⟨t, rfl⟩ := rx
  obtain ⟨t', rfl⟩ := ry
  exact rule i j t t' s _ _ hc ⟨.int (g i j), H, I.tok _, ⟨_, rfl⟩, q⟩
theorem opI0 {f : Value → Value → Sem Value} {g : Int → Int → Int}
    (rule : ∀ (i j : Int) (t u : Tok) (s : Shared) (Q : Value → Shared → Prop) (E : Value → Shared → Prop), Q (.int (g i j) s.toks) { s with toks := s.toks + 1 } → wpAny (model X.prog X.w) X.A (f (.int i t) (.int j u)) Q E s) :
    OpR X f (rI0 fun i j => .int (g i j)) := by
  intro pins s σ H x y v u Q I rx ry h
  obtain ⟨i, j, rfl, rfl, q⟩ := h
  obtain ⟨t, rfl⟩ := rx
  obtain ⟨t', rfl⟩ := ry
  exact rule i j t t' s _ _ ⟨.int (g i j), H, I.tok _, ⟨_, rfl⟩, q⟩
theorem opB0 {f : Value → Value → Sem Value} {g : Int → Int → Bool}
    (rule : ∀ (i j : Int) (t u : Tok) (s : Shared) (Q : Value → Shared → Prop) (E : Value → Shared → Prop), Q (.bool (g i j)) s → wpAny (model X.prog X.w) X.A (f (.int i t) (.int j u)) Q E s) :
    OpR X f (rI0 fun i j => .bl (g i j)) := by
  intro pins s σ H x y v u Q I rx ry h
  obtain ⟨i, j, rfl, rfl, q⟩ := h
  obtain ⟨t, rfl⟩ := rx
  obtain ⟨t', rfl⟩ := ry
  exact rule i j t t' s _ _ ⟨.bl (g i j), H, I, rfl, q⟩
def CDiv (i j : Int) : Prop := 0 < j ∧ j < 1073741824
def CPow (i j : Int) : Prop := 0 ≤ j ∧ j ≤ 1000000 ∧ i.natAbs < 2 ^ 64
def CMul (i j : Int) : Prop := (-(2 ^ 64) < i ∧ i < 2 ^ 64) ∨ (-(2 ^ 64) < j ∧ j < 2 ^ 64)
theorem CMul.ok {i j : Int} (h : CMul i j) : IntMulOk i j := by
  rcases h with ⟨h1, h2⟩ | ⟨h1, h2⟩
  · exact .of_left (intBits_le_64 h1 h2)
  · exact .of_right (intBits_le_64 h1 h2)
theorem op_add : OpR X (binaryOp .Add) (rI0 fun i j => .int (i + j)) := opI0 fun _ _ _ _ _ _ _ q => add_int q
theorem op_sub : OpR X (binaryOp .Sub) (rI0 fun i j => .int (i - j)) := opI0 fun _ _ _ _ _ _ _ q => sub_int q
theorem op_mul : OpR X (binaryOp .Mult) (rI CMul fun i j => .int (i * j)) := opI fun _ _ _ _ _ _ _ hc q => mul_int q hc.ok
theorem op_fdiv : OpR X (binaryOp .FloorDiv) (rI CDiv fun i j => .int (i / j)) := opI fun i j _ _ _ _ _ hc q => by
  have h1 : (0 : Int) < j := hc.1
  have h2 : j < 1073741824 := hc.2
  exact floordiv_int (by omega) (by rw [Int.fdiv_eq_ediv_of_nonneg i (by omega)]; exact q) (.inl (PyProof.noPylong_small (by omega)))
theorem op_mod : OpR X (binaryOp .Mod) (rI (fun _ j => 0 < j) fun i j => .int (i % j)) := opI fun i j _ _ _ _ _ hc q => by
  have h1 : (0 : Int) < j := hc
  exact mod_int' (by omega) (by rw [Int.fmod_eq_emod_of_nonneg i (by omega)]; exact q)
theorem op_pow : OpR X (binaryOp .Pow) (rI CPow fun i j => .int (i ^ j.toNat)) := opI fun _ _ _ _ _ _ _ hc q => pow_int_small hc.1 hc.2.1 hc.2.2 q
theorem unI {f : Value → Sem Value} {g : Int → Int}
    (rule : ∀ (i : Int) (t : Tok) (s : Shared) (Q : Value → Shared → Prop) (E : Value → Shared → Prop), Q (.int (g i) s.toks) { s with toks := s.toks + 1 } → wpAny (model X.prog X.w) X.A (f (.int i t)) Q E s) :
    UnR X f (rU fun i => .int (g i)) := by
  intro pins s σ H x v Q I rx h
  obtain ⟨i, rfl, q⟩ := h
  obtain ⟨t, rfl⟩ := rx
  exact rule i t s _ _ ⟨.int (g i), H, I.tok _, ⟨_, rfl⟩, q⟩
theorem un_neg : UnR X (unaryOp .USub) (rU fun i => .int (-i)) := unI fun _ _ _ _ _ q => neg_int q
end
def scal : V → V → Bool
  | .non, .non => true | .non, .int _ => true | .int _, .non => true | .non, .bl _ => true | .bl _, .non => true | .non, .str _ => true | .str _, .non => true
  | .int _, .int _ => true | .bl _, .bl _ => true | .str _, .str _ => true | .byt _, .byt _ => true
  | .int _, .str _ => true | .str _, .int _ => true | .bl _, .str _ => true | .str _, .bl _ => true
  | _, _ => false
def rEq : R2 := fun x y H Q => scal x y = true ∧ Q (.bl (decide (x = y))) H
def rNe : R2 := fun x y H Q => scal x y = true ∧ Q (.bl (!decide (x = y))) H
theorem dec_int {i j : Int} : decide (V.int i = V.int j) = (i == j) := by
  rw [Bool.eq_iff_iff]
  simp
theorem dec_bl {i j : Bool} : decide (V.bl i = V.bl j) = (i == j) := by
  rw [Bool.eq_iff_iff]
  simp
theorem dec_str {i j : Str} : decide (V.str i = V.str j) = (i == j) := by
  rw [Bool.eq_iff_iff]
  simp
theorem dec_byt {i j : Array UInt8} : decide (V.byt i = V.byt j) = (i.toList == j.toList) := by
  rw [Bool.eq_iff_iff]
  cases i
  cases j
  simp
section
variable {X : Cx} {a b c : Expr} {ta tb tc : TE} {pos : Pos}
theorem fin_bl {pins : List (Addr × Obj)} {σ : St} {H : Hp} {s : Shared} {Q : VK} {k k' : Bool} (I : Inv X pins σ H s) (q : Q (.bl k) H) (e : k = k') : EP X pins σ Q (.bool k') s := by
  subst e
  exact ⟨.bl k, H, I, rfl, q⟩
theorem op_eq : OpR X (compareOp .Eq) rEq := by
  intro pins s σ H x y v u Q I rx ry h
  obtain ⟨hs, q⟩ := h
  cases x with
  | non =>
    cases rx
    cases y with
    | non => cases ry; exact PySem.EqNone.eq_none_none (fin_bl I q (by simp))
    | bl j => cases ry; exact PySem.EqNone.eq_none_bool (fin_bl I q (by simp))
    | int j => obtain ⟨t', rfl⟩ := ry; exact PySem.EqNone.eq_none_int (fin_bl I q (by simp))
    | str j => obtain ⟨t', rfl⟩ := ry; exact PySem.EqNone.eq_none_str (fin_bl I q (by simp))
    | _ => exact absurd (show false = true from hs) Bool.false_ne_true
  | bl i =>
    cases rx
    cases y with
    | non => cases ry; exact PySem.EqNone.eq_bool_none (fin_bl I q (by simp))
    | bl j => cases ry; exact eq_bool (fin_bl I q dec_bl)
    | str j => obtain ⟨t', rfl⟩ := ry; exact PySem.EqMixed.eq_bool_str (fin_bl I q (by simp))
    | _ => exact absurd (show false = true from hs) Bool.false_ne_true
  | int i =>
    obtain ⟨t, rfl⟩ := rx
    cases y with
    | non => cases ry; exact PySem.EqNone.eq_int_none (fin_bl I q (by simp))
    | int j => obtain ⟨t', rfl⟩ := ry; exact eq_int (fin_bl I q dec_int)
    | str j => obtain ⟨t', rfl⟩ := ry; exact PySem.EqMixed.eq_int_str (fin_bl I q (by simp))
    | _ => exact absurd (show false = true from hs) Bool.false_ne_true
  | str i =>
    obtain ⟨t, rfl⟩ := rx
    cases y with
    | non => cases ry; exact PySem.EqNone.eq_str_none (fin_bl I q (by simp))
    | bl j => cases ry; exact PySem.EqMixed.eq_str_bool (fin_bl I q (by simp))
    | int j => obtain ⟨t', rfl⟩ := ry; exact PySem.EqMixed.eq_str_int (fin_bl I q (by simp))
    | str j => obtain ⟨t', rfl⟩ := ry; exact eq_str (fin_bl I q dec_str)
    | _ => exact absurd (show false = true from hs) Bool.false_ne_true
  | byt i =>
    obtain ⟨t, rfl⟩ := rx
    cases y with
    | byt j => obtain ⟨t', rfl⟩ := ry; exact PySem.W.eq_bytes (fin_bl I q dec_byt)
    | _ => exact absurd (show false = true from hs) Bool.false_ne_true
  | _ => cases y <;> exact absurd (show false = true from hs) Bool.false_ne_true
theorem op_ne : OpR X (compareOp .NotEq) rNe := by
  intro pins s σ H x y v u Q I rx ry h
  obtain ⟨hs, q⟩ := h
  cases x with
  | non =>
    cases rx
    cases y with
    | non => cases ry; exact PySem.EqNone.ne_none_none (fin_bl I q (by simp))
    | bl j => cases ry; exact PySem.EqNone.ne_none_bool (fin_bl I q (by simp))
    | int j => obtain ⟨t', rfl⟩ := ry; exact PySem.EqNone.ne_none_int (fin_bl I q (by simp))
    | str j => obtain ⟨t', rfl⟩ := ry; exact PySem.EqNone.ne_none_str (fin_bl I q (by simp))
    | _ => exact absurd (show false = true from hs) Bool.false_ne_true
  | bl i =>
    cases rx
    cases y with
    | non => cases ry; exact PySem.EqNone.ne_bool_none (fin_bl I q (by simp))
    | bl j => cases ry; exact ne_bool (fin_bl I q (congrArg not dec_bl))
    | str j => obtain ⟨t', rfl⟩ := ry; exact PySem.EqMixed.ne_bool_str (fin_bl I q (by simp))
    | _ => exact absurd (show false = true from hs) Bool.false_ne_true
  | int i =>
    obtain ⟨t, rfl⟩ := rx
    cases y with
    | non => cases ry; exact PySem.EqNone.ne_int_none (fin_bl I q (by simp))
    | int j => obtain ⟨t', rfl⟩ := ry; exact ne_int (fin_bl I q (congrArg not dec_int))
    | str j => obtain ⟨t', rfl⟩ := ry; exact PySem.EqMixed.ne_int_str (fin_bl I q (by simp))
    | _ => exact absurd (show false = true from hs) Bool.false_ne_true
  | str i =>
    obtain ⟨t, rfl⟩ := rx
    cases y with
    | non => cases ry; exact PySem.EqNone.ne_str_none (fin_bl I q (by simp))
    | bl j => cases ry; exact PySem.EqMixed.ne_str_bool (fin_bl I q (by simp))
    | int j => obtain ⟨t', rfl⟩ := ry; exact PySem.EqMixed.ne_str_int (fin_bl I q (by simp))
    | str j => obtain ⟨t', rfl⟩ := ry; exact ne_str (fin_bl I q (congrArg not dec_str))
    | _ => exact absurd (show false = true from hs) Bool.false_ne_true
  | byt i =>
    obtain ⟨t, rfl⟩ := rx
    cases y with
    | byt j => obtain ⟨t', rfl⟩ := ry; exact PySem.W.ne_bytes (fin_bl I q (congrArg not dec_byt))
    | _ => exact absurd (show false = true from hs) Bool.false_ne_true
  | _ => cases y <;> exact absurd (show false = true from hs) Bool.false_ne_true
theorem op_lt : OpR X (compareOp .Lt) (rI0 fun i j => .bl (decide (i < j))) := opB0 fun _ _ _ _ _ _ _ q => lt_int q
theorem op_le : OpR X (compareOp .LtE) (rI0 fun i j => .bl (decide (i ≤ j))) := opB0 fun _ _ _ _ _ _ _ q => le_int q
theorem op_gt : OpR X (compareOp .Gt) (rI0 fun i j => .bl (decide (j < i))) := opB0 fun _ _ _ _ _ _ _ q => gt_int q
theorem op_in_str : OpR X (compareOp .In) (fun x y H Q => ∃ i j, x = .str i ∧ y = .str j ∧ Q (.bl (!(Builtin.Str.occurrences j i 0 j.length 1).isEmpty)) H) := by
  intro pins s σ H x y v u Q I rx ry h
  obtain ⟨i, j, rfl, rfl, q⟩ := h
  obtain ⟨t, rfl⟩ := rx
  obtain ⟨t', rfl⟩ := ry
  exact in_str (fin_bl I q rfl)
theorem nomark (b : Expr) {op : CmpOp} (h : op ≠ .In := by decide) (h2 : op ≠ .NotIn := by decide) : behindInMarks op b = false := by
  have e1 : (op == CmpOp.In) = false := by cases op <;> first | rfl | exact absurd rfl h
  have e2 : (op == CmpOp.NotIn) = false := by cases op <;> first | rfl | exact absurd rfl h2
  cases b <;> simp [behindInMarks, e1, e2]
theorem pe_cmpR {op : CmpOp} {r : R2} (ho : OpR X (compareOp op) r) (ha : PE X a ta) (hb : PE X b tb) (hm : behindInMarks op b = false) : PE X (.Compare a [op] [b] pos) (tOp r ta tb) := by
  intro pins s σ H Q I h
  exact wpAny_Compare1 (binT ha hb I h fun v u s2 x y H2 I2 rx ry q => ho pins s2 σ H2 x y v u Q I2 rx ry q) hm
def tTest (t : TE) : TT := fun σ H Q => t σ H fun x H' => ∃ k, x = .bl k ∧ Q k H'
theorem pt_cmpR {op : CmpOp} {r : R2} (ho : OpR X (compareOp op) r) (ha : PE X a ta) (hb : PE X b tb) (hm : behindInMarks op b = false) : PT X (.Compare a [op] [b] pos) (tTest (tOp r ta tb)) := by
  intro pins s σ H Q I h
  refine wpAny_isTrue_Compare1 (thn (ha pins s σ H _ I h) fun v s1 ⟨x, H1, I1, r1, q1⟩ => thn (hb pins s1 σ H1 _ I1 q1) fun u s2 ⟨y, H2, I2, r2, q2⟩ =>
    thn (ho pins s2 σ H2 x y v u _ I2 r1 r2 q2) fun c s3 ⟨z, H3, I3, r3, k, e, q3⟩ => ?_) hm
  subst e
  cases r3
  exact wpAny_truthy_bool ⟨H3, I3, q3⟩
def tChain (r r' : R2) (ta tb tc : TE) : TE := fun σ H Q => ta σ H fun x H1 => tb σ H1 fun y H2 => r x y H2 fun z H3 => ∃ k, z = .bl k ∧
  (if k = true then tc σ H3 fun w' H4 => r' y w' H4 Q else Q (.bl false) H3)
theorem pt_chain {op op' : CmpOp} {r r' : R2} (ho : OpR X (compareOp op) r) (ho' : OpR X (compareOp op') r') (ha : PE X a ta) (hb : PE X b tb) (hc : PE X c tc)
    (hm : lastMarks [op, op'] [b, c] = false := by with_unfolding_all rfl) : PT X (.Compare a [op, op'] [b, c] pos) (tTest (tChain r r' ta tb tc)) := by
  intro pins s σ H Q I h
  refine isTrue_chain (thn (ha pins s σ H _ I h) fun v s1 ⟨x, H1, I1, r1, q1⟩ => test_link (thn (hb pins s1 σ H1 _ I1 q1) fun u s2 ⟨y, H2, I2, r2, q2⟩ =>
    thn (ho pins s2 σ H2 x y v u _ I2 r1 r2 q2) fun d s3 ⟨z, H3, I3, r3, k, e, q3⟩ => ?_)) hm
  subst e
  cases r3
  refine wpAny_truthy_bool ?_
  cases k with
  | false =>
    obtain ⟨k', e', q'⟩ := q3
    cases e'
    exact ite_ff ⟨H3, I3, q'⟩
  | true =>
    refine ite_tt (test_last (thn (hc pins s3 σ H3 _ I3 q3) fun w' s4 ⟨z', H4, I4, r4, q4⟩ => thn (ho' pins s4 σ H4 y z' u w' _ I4 r2 r4 q4) fun d' s5 ⟨z2, H5, I5, r5, k2, e2, q5⟩ => ?_))
    subst e2
    cases r5
    exact wpAny_truthy_bool ⟨H5, I5, q5⟩
def TruV (K : PySem.W.Frag) (x : V) (H : Hp) (k : Bool) : Prop :=
  match x with
  | .non => k = false
  | .bl b => k = b
  | .int i => k = (i != 0)
  | .str y => y.length ≤ sizeLine ∧ k = ((y.length : Int) != 0)
  | .byt y => y.size ≤ sizeLine ∧ k = ((y.size : Int) != 0)
  | .ref p => (∃ xs, SqL K H p xs ∧ k = !xs.isEmpty) ∨ (∃ xs, SqT K H p xs ∧ k = !xs.isEmpty) ∨ ∃ kvs, H p = some (.dK kvs) ∧ k = !kvs.isEmpty
  | _ => False
theorem isEmpty_kv {κ : Type} {kvs : List (κ × V)} {vs : List (κ × Value)} (r : KV kvs vs) : (!vs.isEmpty) = !kvs.isEmpty := by
  cases r <;> rfl
theorem isEmpty_of {xs : List V} {its : List Value} (r : Vals xs its) : (!its.toArray.isEmpty) = !xs.isEmpty := by
  cases r <;> simp
theorem line63 : (sizeLine : Nat) < 2 ^ 63 := by rw [sizeLine_eq]; decide
theorem tru_ok : TruR X (fun x H Q => ∃ k, TruV X.K x H k ∧ Q k H) := by
  intro pins s σ H x v Q I rx h
  obtain ⟨k, e, q⟩ := h
  have hl := line63
  have hs : sizeLine = 16777216 := sizeLine_eq
  cases x with
  | non =>
    cases rx
    have e' : k = false := e
    subst e'
    exact truthy_none ⟨H, I, q⟩
  | bl b =>
    cases rx
    have e' : k = b := e
    subst e'
    exact wpAny_truthy_bool ⟨H, I, q⟩
  | int i =>
    obtain ⟨t, rfl⟩ := rx
    have e' : k = (i != 0) := e
    subst e'
    exact PySem.P.truthy_int ⟨H, I, q⟩
  | str y =>
    obtain ⟨t, rfl⟩ := rx
    obtain ⟨hy, e'⟩ : y.length ≤ sizeLine ∧ k = ((y.length : Int) != 0) := e
    subst e'
    exact PySem.P.truthy_str (by omega) ⟨H, I.tok _, q⟩
  | byt y =>
    obtain ⟨t, rfl⟩ := rx
    obtain ⟨hy, e'⟩ : y.size ≤ sizeLine ∧ k = ((y.size : Int) != 0) := e
    subst e'
    exact PySem.W.truthy_bytes (by omega) ⟨H, I.tok _, q⟩
  | ref p =>
    cases rx
    have e' : (∃ xs, SqL X.K H p xs ∧ k = !xs.isEmpty) ∨ (∃ xs, SqT X.K H p xs ∧ k = !xs.isEmpty) ∨ ∃ kvs, H p = some (.dK kvs) ∧ k = !kvs.isEmpty := e
    rcases e' with ⟨xs, hx, e'⟩ | ⟨xs, hx, e'⟩ | ⟨kvs, hx, e'⟩
    · subst e'
      obtain ⟨its, r, pl, hz⟩ := I.list hx
      have hlen := r.length
      exact wpAny_truthy_list pl.isList (by simp only [List.size_toArray]; omega) ⟨H, I.tok _, by rw [isEmpty_of r]; exact q⟩
    · subst e'
      obtain ⟨its, r, pl, hz⟩ := I.tuple hx
      have hlen := r.length
      exact truthy_tuple pl (by simp only [List.size_toArray]; omega) ⟨H, I.tok _, by rw [isEmpty_of r]; exact q⟩
    · subst e'
      obtain ⟨hz, hS, vs, r, m⟩ : kvs.length ≤ sizeLine ∧ (p == sysModules) = false ∧ ∃ vs, KV kvs vs ∧ s.heap.DictOf (mixKind X.prog X.w) p vs := I.hok p _ hx
      have hlen : kvs.length = vs.length := Paired.length r
      exact wpAny_truthy_dict hS m (by omega) ⟨H, I.tok _, by rw [isEmpty_kv r]; exact q⟩
  | _ => exact (show False from e).elim
theorem pt_truth (ha : PE X a ta) (he : ∀ whole, isTrue a X.env whole = (do let v ← whole; standAt a.pos; holding [v] (truthy v))) :
    PT X a (fun σ H Q => ta σ H fun x H' => ∃ k, TruV X.K x H' k ∧ Q k H') := by
  intro pins s σ H Q I h
  exact isTrue_plain (thn (ha pins s σ H _ I h) fun v s1 ⟨x, H1, I1, r1, q1⟩ => tru_ok pins s1 σ H1 x v Q I1 r1 q1) (he _)
theorem op_add_str : OpR X (binaryOp .Add) (fun x y H Q => ∃ i j, x = .str i ∧ y = .str j ∧ i.length + j.length ≤ sizeLine ∧ Q (.str (i ++ j)) H) := by
  intro pins s σ H x y v u Q I rx ry h
  obtain ⟨i, j, rfl, rfl, hz, q⟩ := h
  obtain ⟨t, rfl⟩ := rx
  obtain ⟨t', rfl⟩ := ry
  exact add_str (fun t' tk => ⟨.str (i ++ j), H, I.tok _, ⟨_, rfl⟩, q⟩) hz
theorem vals1 {x : V} {us : List Value} (r : Vals [x] us) : ∃ u, us = [u] ∧ RelV x u := by
  cases r with
  | cons r1 r2 => cases r2; exact ⟨_, rfl, r1⟩
theorem vals2 {x y : V} {us : List Value} (r : Vals [x, y] us) : ∃ u w', us = [u, w'] ∧ RelV x u ∧ RelV y w' := by
  cases r with
  | cons r1 r2 =>
    cases r2 with
    | cons r3 r4 => cases r4; exact ⟨_, _, rfl, r1, r3⟩
theorem call_min2 (hc : X.calm = true) : CallR X (.builtin "min") (fun xs H Q => ∃ i j, xs = [.int i, .int j] ∧ Q (.int (if j < i then j else i)) H) := by
  intro pins s σ H xs us Q I r h
  obtain ⟨i, j, rfl, q⟩ := h
  obtain ⟨u, w', rfl, ⟨t, rfl⟩, ⟨t', rfl⟩⟩ := vals2 r
  refine min_two_ints (I.ok.hd hc) fun h' tk k => ⟨_, H, I.kept k, ?_, q⟩
  by_cases hj : j < i
  · rw [if_pos hj, if_pos hj]; exact ⟨_, rfl⟩
  · rw [if_neg hj, if_neg hj]; exact ⟨_, rfl⟩
end
end L2
namespace L2
open PySem PySem.Spec PyProof.Rows
structure ObjM (h : Heap) (x dx C : Addr) (mA : Str → Option Value) : Prop where
  obj : h.get? x = some (PySem.W.instObj C dx)
  ns : h.Ns1 dx mA
  ne : dx ≠ x
theorem lookIn_ns {h : Heap} {dx : Addr} {mA : Str → Option Value} (n : h.Ns1 dx mA) : ∃ od, h.get? dx = some od ∧ ∀ name, PySem.W.lookIn name od = some (mA name) := by
  obtain ⟨o, es, ep, ho, hd, hk, _, hm⟩ := n
  refine ⟨o, ho, fun name => ?_⟩
  have e := hm name
  unfold nsFind findBy at e
  rw [← Array.find?_toList] at e
  unfold PySem.W.lookIn
  rw [hd]
  dsimp only
  split
  · rename_i y q
    rw [q] at e
    exact congrArg some e
  · rename_i q
    rw [q] at e
    have a : es.toList.any (·.refKey) = false := by
      rw [List.any_eq_false]
      intro y hy
      obtain ⟨z, t, hkey⟩ := hk y (Array.mem_toList_iff.mp hy)
      simp [DictEntry.refKey, hkey]
    have a' : ¬ es.toList.any (·.refKey) = true := by rw [a]; exact Bool.false_ne_true
    rw [if_neg a']
    exact congrArg some e
theorem ObjM.look {h : Heap} {x dx C : Addr} {mA : Str → Option Value} (I : ObjM h x dx C mA) : ∃ od, PySem.W.InstAt h x (PySem.W.instObj C dx) C (some od) ∧ ∀ name, PySem.W.lookIn name od = some (mA name) :=
  let ⟨od, ho, hl⟩ := lookIn_ns I.ns
  ⟨od, ⟨I.obj, rfl, rfl, ho⟩, hl⟩
section
variable {prog : Program} {w : World} {A : Around} {E : Value → Shared → Prop} {s : Shared} {K : PySem.W.Frag} {x dx C f : Addr} {mA : Str → Option Value} {name : Str} {v : Value}
theorem get_map {expr : Bool} {Q : Value → Shared → Prop} (X : K.In s.heap) (I : ObjM s.heap x dx C mA) (hg : PySem.W.plainGet K C name = true) (hh : PySem.W.hasDictIn K C = true)
    (ha : PySem.W.findIn K (.ref C) name = some none) (hv : mA name = some v) (hv' : PySem.W.handedIn v = true) (h : Q v { s with toks := s.toks + 1 }) :
    wpAny (model prog w) A (getAttr (.ref x) name expr) Q E s := by
  obtain ⟨od, J, hl⟩ := I.look
  exact PySem.W.get_value X J (PySem.W.plainGet_of hg).1 (PySem.W.findObj_own hh ha rfl (by rw [hl, hv])) hv' h
theorem get_meth {pl : Sem Bool} {Q : Value × List Value → Shared → Prop} (X : K.In s.heap) (I : ObjM s.heap x dx C mA) (hg : PySem.W.plainGet K C name = true)
    (hf : PySem.W.findIn K (.ref C) name = some (some (.ref f))) (ht : PySem.W.isFn K (.ref f) = true) (hv : mA name = none) (h : Q (.ref f, [.ref x]) s) :
    wpAny (model prog w) A (getMethod (.ref x) name pl) Q E s := by
  obtain ⟨od, J, hl⟩ := I.look
  exact PySem.W.method_fn X J (PySem.W.plainGet_of hg).1 (PySem.W.plainGet_of hg).2 hf (beq_iff_eq.mp ht) (by show (PySem.W.lookIn name od).map (·.isSome) = some false; rw [hl, hv]; rfl) h
theorem set_map {ns : List Str} {Q : Unit → Shared → Prop} (X : K.In s.heap) (I : ObjM s.heap x dx C mA)
    (hs : PySem.W.findIn K (.ref C) "__setattr__" = some (some (.builtin "object.__setattr__"))) (hp : PySem.W.plainOver K C = true) (ht : PySem.W.takerIn K C name = some none) (hh : PySem.W.hasDictIn K C = true)
    (hw : PySem.Within mA ns) (hsz : ns.length ≤ sizeLine)
    (h : ∀ h', ObjM h' x dx C (fun y => if y = name then some v else mA y) → Heap.SameBut dx s.heap h' → Q () { s with heap := h', toks := s.toks + 2 }) :
    wpAny (model prog w) A (setAttr (.ref x) name v) Q E s := by
  obtain ⟨od, J, hl⟩ := I.look
  refine PySem.W.set_plain X J hs (PySem.W.osa_open (s := { s with toks := s.toks + 1 }) (r := none) X J hp ht fun b => ?_)
  obtain ⟨cd, hc, hd'⟩ := PySem.W.any_some hh
  have hx : s.heap.get? x = some ⟨.ref C, some dx, .plain, #[]⟩ := I.obj
  refine wpAny_bind (wpAny_pure (wpAny_bind (wpAny_bind (wpAny_loadPart hx (wpAny_bind (PySem.W.Looks.here (s := { s with toks := s.toks + 1 }) (PySem.W.looks_clsIn X hc) ?_))))))
  rw [hd']
  refine wpAny_pure (a := some dx) (wpAny_bind (wpAny_pure (wpAny_bind ?_)))
  refine wpAny_nsSet1 (s := { s with toks := s.toks + 1 }) I.ns fun h' hn2 hs2 => ?_
  obtain ⟨oD, esD, epD, hoD, hdD, hcD⟩ := hn2.count (PySem.Within.cons name v hw)
  refine wpAny_bind (wpAny_lookBehind hoD (by rw [hdD]; exact pastItsLine_dict (Nat.le_trans hcD (by rw [List.length_cons]; omega))) ?_)
  exact wpAny_pure (h _ ⟨(hs2.2 _ (Ne.symm I.ne)).trans I.obj, hn2, I.ne⟩ hs2)
theorem make_map {R : Result → Shared → Prop} {vs : List Value} {kw : List (Str × Value)} (X : K.In s.heap) (hm : PySem.W.makesIn K C = true)
    (hi : PySem.W.findIn K (.ref C) "__init__" = some (some (.ref f))) (hf : PySem.W.typeIn K (.ref f) = some (.type "function"))
    (h : codeAny (model prog w) (A.under (.builtin "type.__call__" ⟨.ref C :: vs, kw⟩)) (.call (.ref f) ⟨.ref (s.heap.objs.size + 1) :: vs, kw⟩) (PySem.W.InitBack (s.heap.objs.size + 1) R)
      { s with heap := (s.heap.push PySem.W.emptyDict).push (PySem.W.instObj C s.heap.objs.size) }) :
    codeAny (model prog w) A (.call (.ref C) ⟨vs, kw⟩) R s := by
  obtain ⟨hh, g, d, t, os⟩ := s
  exact PySem.W.make_core (PySem.W.makes_of X hm) (PySem.W.looks_findIn X hi) (fun self => PySem.W.bind_fn X self hf) (.inl rfl) h
end
def putF (f : Str) (v : V) : List (Str × V) → List (Str × V)
  | [] => [(f, v)]
  | (g, x) :: r => if g = f then (g, v) :: r else (g, x) :: putF f v r
theorem lookup_putF (f g : Str) (v : V) : ∀ fs : List (Str × V), (putF f v fs).lookup g = if g = f then some v else fs.lookup g
  | [] => by
    show List.lookup g [(f, v)] = _
    by_cases h : g = f
    · have hb : (g == f) = true := beq_iff_eq.mpr h
      simp only [List.lookup, hb, if_pos h]
    · have hb : (g == f) = false := beq_eq_false_iff_ne.mpr h
      simp only [List.lookup, hb, if_neg h]
  | (k, x) :: r => by
    have ih := lookup_putF f g v r
    rw [show putF f v ((k, x) :: r) = (if k = f then (k, v) :: r else (k, x) :: putF f v r) from rfl]
    by_cases hk : k = f
    · rw [if_pos hk]
      by_cases h : g = k
      · have hb : (g == k) = true := beq_iff_eq.mpr h
        simp only [List.lookup, hb, if_pos (h.trans hk)]
      · have hb : (g == k) = false := beq_eq_false_iff_ne.mpr h
        simp only [List.lookup, hb, if_neg (fun e : g = f => h (e.trans hk.symm))]
    · rw [if_neg hk]
      by_cases h : g = k
      · have hb : (g == k) = true := beq_iff_eq.mpr h
        simp only [List.lookup, hb, if_neg (fun e : g = f => hk (h.symm.trans e))]
      · have hb : (g == k) = false := beq_eq_false_iff_ne.mpr h
        simp only [List.lookup, hb]
        exact ih
theorem keys_putF (f : Str) (v : V) : ∀ fs : List (Str × V), f ∈ (putF f v fs).map (·.1) ∧ ∀ g, g ∈ fs.map (·.1) → g ∈ (putF f v fs).map (·.1)
  | [] => ⟨by simp [putF], fun g h => by simp at h⟩
  | (k, x) :: r => by
    obtain ⟨i1, i2⟩ := keys_putF f v r
    rw [show putF f v ((k, x) :: r) = (if k = f then (k, v) :: r else (k, x) :: putF f v r) from rfl]
    by_cases hk : k = f
    · rw [if_pos hk]
      subst hk
      exact ⟨by simp, fun g h => by simpa using h⟩
    · rw [if_neg hk]
      refine ⟨?_, fun g h => ?_⟩
      · rw [List.map_cons]
        exact List.mem_cons_of_mem _ i1
      · rw [List.map_cons] at h ⊢
        rcases List.mem_cons.mp h with e | e
        · exact List.mem_cons.mpr (.inl e)
        · exact List.mem_cons_of_mem _ (i2 g e)
theorem length_putF (f : Str) (v : V) : ∀ fs : List (Str × V), (putF f v fs).length ≤ fs.length + 1
  | [] => by simp [putF]
  | (k, x) :: r => by
    have ih := length_putF f v r
    rw [show putF f v ((k, x) :: r) = (if k = f then (k, v) :: r else (k, x) :: putF f v r) from rfl]
    by_cases hk : k = f
    · rw [if_pos hk, List.length_cons, List.length_cons]; omega
    · rw [if_neg hk, List.length_cons, List.length_cons]; omega
theorem RelO.some_of {v : V} {o : Option Value} (r : RelO (some v) o) : ∃ u, o = some u ∧ RelV v u := by
  cases o with
  | none => exact (show False from r).elim
  | some u => exact ⟨u, rfl, r⟩
theorem RelO.none_of {o : Option Value} (r : RelO none o) : o = none := by
  cases o with
  | none => rfl
  | some u => exact (show False from r).elim
theorem handed_of {v : V} {u : Value} (r : RelV v u) : PySem.W.handedIn u = true := by
  cases v with
  | non => cases (show u = Value.none from r); rfl
  | bl b => cases (show u = Value.bool b from r); rfl
  | int i => obtain ⟨t, e⟩ := (show ∃ t, u = Value.int i t from r); cases e; rfl
  | str x => obtain ⟨t, e⟩ := (show ∃ t, u = Value.str x t from r); cases e; rfl
  | byt b => obtain ⟨t, e⟩ := (show ∃ t, u = Value.bytes b t from r); cases e; rfl
  | flt b => obtain ⟨t, e⟩ := (show ∃ t, u = Value.float b t from r); cases e; rfl
  | ref a => cases (show u = Value.ref a from r); rfl
  | ty n => cases (show u = Value.type n from r); rfl
section
variable {P : Program} {w : World} {H H' : Hp} {h h' : Heap} {a C dx : Addr} {fs fs' : List (Str × V)}
theorem ins_get (hok : HOk P w H h) (e : H a = some (.ins C dx fs)) : ∃ mA, ObjM h a dx C mA ∧ (∀ f, RelO (fs.lookup f) (mA f)) ∧ PySem.Within mA (fs.map (·.1)) ∧ fs.length ≤ 1000 ∧ H dx = some (.own a) := by
  obtain ⟨d, z, ne, ob, mA, n, r, q⟩ := (show ObjOk P w H h a (.ins C dx fs) from hok a _ e)
  exact ⟨mA, ⟨ob, n, ne⟩, r, q, z, d⟩
end
structure Cls (K : PySem.W.Frag) (C : Addr) : Prop where
  pg : PySem.W.plainGet K C Str.empty = true
  hd : PySem.W.hasDictIn K C = true
  po : PySem.W.plainOver K C = true
  sa : PySem.W.findIn K (.ref C) "__setattr__" = some (some (.builtin "object.__setattr__"))
theorem Cls.get {K : PySem.W.Frag} {C : Addr} (c : Cls K C) (f : Str) : PySem.W.plainGet K C f = true := c.pg
def NoAttr (K : PySem.W.Frag) (C : Addr) (f : Str) : Prop := PySem.W.findIn K (.ref C) f = some none
theorem NoAttr.taker {K : PySem.W.Frag} {C : Addr} {f : Str} (n : NoAttr K C f) : PySem.W.takerIn K C f = some none := by
  unfold PySem.W.takerIn
  rw [show PySem.W.findIn K (.ref C) f = some none from n]
  rfl
structure Con (K : PySem.W.Frag) (C : Addr) (f : Str) (v : V) (u : Value) : Prop where
  at_ : PySem.W.findIn K (.ref C) f = some (some u)
  rel : RelV v u
  get : PySem.W.specialIn K u "__get__" = some none
  cp : PySem.W.copiedNames.contains f = false
structure Meth (K : PySem.W.Frag) (C : Addr) (m : Str) (f : Addr) : Prop where
  at_ : PySem.W.findIn K (.ref C) m = some (some (.ref f))
  fn : PySem.W.isFn K (.ref f) = true
  kp : PySem.W.keepIn K (.ref f) = true
section
variable {X : Cx} {pins : List (Addr × Obj)} {σ : St} {H : Hp} {s : Shared} {a C dx : Addr} {fs : List (Str × V)} {f : Str} {v : V} {A : Around} {E : Value → Shared → Prop}
theorem getattr_ok {b : Bool} {Q : Value → Shared → Prop} (I : Inv X pins σ H s) (e : H a = some (.ins C dx fs)) (c : Cls X.K C) (n : NoAttr X.K C f) (l : fs.lookup f = some v)
    (h : ∀ u s', Inv X pins σ H s' → RelV v u → Q u s') : wpAny (model X.prog X.w) A (getAttr (.ref a) f b) Q E s := by
  obtain ⟨mA, O, r, _, _, _⟩ := ins_get I.hok e
  obtain ⟨u, hu, ru⟩ := RelO.some_of (v := v) (o := mA f) (by rw [← l]; exact r f)
  exact get_map I.kIn O (c.get f) c.hd n hu (handed_of ru) (h u _ (I.tok _) ru)
theorem getmeth_ok {m : Str} {g : Addr} {pl : Sem Bool} {Q : Value × List Value → Shared → Prop} (I : Inv X pins σ H s) (e : H a = some (.ins C dx fs)) (c : Cls X.K C) (k : Meth X.K C m g) (l : fs.lookup m = none)
    (h : Q (.ref g, [.ref a]) s) : wpAny (model X.prog X.w) A (getMethod (.ref a) m pl) Q E s := by
  obtain ⟨mA, O, r, _, _, _⟩ := ins_get I.hok e
  have hn : mA m = none := RelO.none_of (by rw [← l]; exact r m)
  exact get_meth I.kIn O (c.get m) k.at_ k.fn hn h
theorem setattr_ok {y : V} {u : Value} {Q : Unit → Shared → Prop} (I : Inv X pins σ H s) (e : H a = some (.ins C dx fs)) (c : Cls X.K C) (n : NoAttr X.K C f) (hl : fs.length < 1000) (ry : RelV y u)
    (h : ∀ s', Inv X pins σ (upd H a (.ins C dx (putF f y fs))) s' → Q () s') : wpAny (model X.prog X.w) A (setAttr (.ref a) f u) Q E s := by
  obtain ⟨mA, O, r, wi, _, ho⟩ := ins_get I.hok e
  have hz : (fs.map (·.1)).length ≤ sizeLine := by rw [List.length_map, sizeLine_eq]; omega
  refine set_map I.kIn O c.sa c.po n.taker c.hd wi hz fun h' O' sb => h _ ?_
  have hd : ∃ o, h'.get? dx = some o := let ⟨o, _, _, e', _⟩ := O'.ns; ⟨o, e'⟩
  refine I.write (x := a) (e := dx) (by rw [e]; exact True.intro) (.inr ho) (fun b q hb z => (sb.2 b hb).trans z) hd ?_
  refine ⟨by rw [upd_ne O.ne]; exact ho, ?_, O.ne, O'.obj, _, O'.ns, fun g => ?_, fun g hg => ?_⟩
  · have := length_putF f y fs; omega
  · show RelO ((putF f y fs).lookup g) (if g = f then some u else mA g)
    rw [lookup_putF]
    by_cases q : g = f
    · rw [if_pos q, if_pos q]; exact ry
    · rw [if_neg q, if_neg q]; exact r g
  · by_cases q : g = f
    · rw [q]; exact (keys_putF f y fs).1
    · refine (keys_putF f y fs).2 g (wi g fun z => hg ?_)
      show (if g = f then some u else mA g) = none
      rw [if_neg q]; exact z
theorem Inv.made (I : Inv X pins σ H s) : Inv X pins σ (upd (upd H s.heap.objs.size (.own (s.heap.objs.size + 1))) (s.heap.objs.size + 1) (.ins C s.heap.objs.size []))
    { s with heap := (s.heap.push PySem.W.emptyDict).push (PySem.W.instObj C s.heap.objs.size) } := by
  have e1 : (s.heap.push PySem.W.emptyDict).get? s.heap.objs.size = some PySem.W.emptyDict := Heap.get?_push_size s.heap rfl
  have e2 : ((s.heap.push PySem.W.emptyDict).push (PySem.W.instObj C s.heap.objs.size)).get? (s.heap.objs.size + 1) = some (PySem.W.instObj C s.heap.objs.size) := by
    have := Heap.get?_push_size (s.heap.push PySem.W.emptyDict) (o := PySem.W.instObj C s.heap.objs.size) rfl
    rwa [Heap.size_push] at this
  have e3 : (s.heap.push PySem.W.emptyDict).Ns s.heap.objs.size (fun _ => none) := ⟨PySem.W.emptyDict, #[], _, e1, rfl, (fun e he => absurd he (by simp)), fun _ => rfl⟩
  have I1 := I.laid (a := s.heap.objs.size) (o := .own (s.heap.objs.size + 1)) (h' := s.heap.push PySem.W.emptyDict) (t' := s.toks) (fun b u q => Heap.get?_push_of_some _ q) (Nat.le_refl _) ⟨_, e1⟩
  refine I1.laid (a := s.heap.objs.size + 1) (o := .ins C s.heap.objs.size []) (t' := s.toks) (fun b u q => Heap.get?_push_of_some _ q) (Nat.le_of_eq (Heap.size_push _ _)) ?_
  have ne : s.heap.objs.size ≠ s.heap.objs.size + 1 := Nat.ne_of_lt (Nat.lt_succ_self _)
  refine ⟨by rw [upd_ne ne, upd_same], Nat.zero_le _, ne, e2, fun _ => none, (Heap.Ns1.of_empty e3).at fun o q => Heap.get?_push_of_some _ q, fun _ => True.intro, fun y hy => absurd rfl hy⟩
theorem attr_of {prog : Program} {w : World} {env : Env} {e : Expr} {f : Str} {pos : Pos} {s : Shared} {Q : Value → Shared → Prop} (hb : attributeBase e f env (eval e env) = eval e env)
    (h : wpAny (model prog w) A (eval e env) (fun o s₁ => wpAny (model prog w) A (getAttr o f true) Q E s₁) E s) : wpAny (model prog w) A (eval (.Attribute e f pos) env) Q E s :=
  Attribute_any_ h (by rw [arm_eval_Attribute, hb])
end
def tFld (K : PySem.W.Frag) (ta : TE) (f : Str) : TE := fun σ H Q => ta σ H fun x H1 => ∃ a C dx fs v, x = .ref a ∧ H1 a = some (.ins C dx fs) ∧ Cls K C ∧ NoAttr K C f ∧ fs.lookup f = some v ∧ Q v H1
def sFld (K : PySem.W.Frag) (ta tv : TE) (f : Str) : TS := fun D σ H => tv σ H fun y H1 => ta σ H1 fun x H2 => ∃ a C dx fs, x = .ref a ∧ H2 a = some (.ins C dx fs) ∧ Cls K C ∧ NoAttr K C f ∧ fs.length < 1000 ∧
  D.nx σ (upd H2 a (.ins C dx (putF f y fs)))
section
variable {X : Cx} {o e value : Expr} {f : Str} {pos pos' tpos : Pos} {ta tv : TE}
theorem pe_fld (he : PE X e ta) (hb : attributeBase e f X.env (eval e X.env) = eval e X.env) : PE X (.Attribute e f pos) (tFld X.K ta f) := by
  intro pins s σ H Q I h
  refine attr_of hb (thn (he pins s σ H _ I h) fun u s1 ⟨x, H1, I1, rx, a, C, dx, fs, v, ex, ea, c, n, l, q⟩ => ?_)
  subst ex
  obtain rfl : u = Value.ref a := rx
  exact getattr_ok I1 ea c n l fun u' s2 I2 ru => ⟨v, H1, I2, ru, q⟩
theorem ps_fld (ha : PE X o ta) (hv : PE X value tv) (hs : swapsWith value (some (.Attribute o f pos')) pos.line X.env = pure false) : PS X (.Assign [.Attribute o f pos'] value pos) (sFld X.K ta tv f) := by
  intro pins s σ H D I h
  refine plainObj_wpAny_Assign_Attribute (thn (hv pins s σ H _ I h) fun u s1 ⟨y, H1, I1, ry, q⟩ => thn (ha pins s1 σ H1 _ I1 q) fun ov s2 ⟨x, H2, I2, rx, a, C, dx, fs, ex, ea, c, n, l, q2⟩ => ?_) hs
  subst ex
  obtain rfl : ov = Value.ref a := rx
  exact setattr_ok I2 ea c n l ry fun s3 I3 => ⟨σ, _, I3, q2⟩
end
section
variable {X : Cx} {pins : List (Addr × Obj)} {σ : St} {H : Hp} {s : Shared} {A : Around} {E : Value → Shared → Prop} {Q : Value → Shared → Prop} {c : Value} {b : Bool}
inductive TyOf (K : PySem.W.Frag) (H : Hp) : V → Value → Prop where
  | non : TyOf K H .non (.type "NoneType")
  | bl (x : Bool) : TyOf K H (.bl x) (.type "bool")
  | int (i : Int) : TyOf K H (.int i) (.type "int")
  | str (x : Str) : TyOf K H (.str x) (.type "str")
  | flt (x : UInt64) : TyOf K H (.flt x) (.type "float")
  | lst {a : Addr} {xs : List V} (e : H a = some (.lst xs)) : TyOf K H (.ref a) (.type "list")
  | frz {a : Addr} {o : Obj} {xs : List V} (e : H a = some (.frz o (.lst xs))) : TyOf K H (.ref a) (.type "list")
  | tup {a : Addr} {xs : List V} (e : H a = some (.tup xs)) : TyOf K H (.ref a) (.type "tuple")
  | dK {a : Addr} {kvs : List (Key × V)} (e : H a = some (.dK kvs)) : TyOf K H (.ref a) (.type "dict")
  | dT {a : Addr} {kvs : List (List Key × V)} (e : H a = some (.dT kvs)) : TyOf K H (.ref a) (.type "dict")
  | ins {a C dx : Addr} {fs : List (Str × V)} (e : H a = some (.ins C dx fs)) (cl : Cls K C) (ha : PySem.W.findIn K (.ref C) "__class__" = some (some (.builtin "object.__class__")))
      (hn : PySem.W.specialIn K (.builtin "object.__class__") "__get__" = some (some (.builtin "getset_descriptor.__get__"))) (htk : PySem.W.takesIn K (.builtin "object.__class__") = some true)
      (hm : PySem.W.mroIn K C (.type "object") = some true) : TyOf K H (.ref a) (.ref C)
theorem isinst_ok {x : V} {u t : Value} (I : Inv X pins σ H s) (rx : RelV x u) (ty : TyOf X.K H x t) (e : PySem.W.kitOne X.K t c = some b) (h : ∀ tk, Q (.bool b) { s with toks := tk }) :
    wpAny (model X.prog X.w) A (call (.builtin "isinstance") [u, c]) Q E s := by
  cases ty with
  | non => cases (show u = Value.none from rx); exact PySem.W.kia_one PySem.W.kitx_none I.kIn True.intro e (fun z => nomatch z) h
  | bl y => cases (show u = Value.bool y from rx); exact PySem.W.kia_one PySem.W.kitx_bool I.kIn True.intro e (fun z => nomatch z) h
  | int i => obtain ⟨t, q⟩ := (show ∃ t, u = Value.int i t from rx); cases q; exact PySem.W.kia_one PySem.W.kitx_int I.kIn True.intro e (fun z => nomatch z) h
  | str y => obtain ⟨t, q⟩ := (show ∃ t, u = Value.str y t from rx); cases q; exact PySem.W.kia_one PySem.W.kitx_str I.kIn True.intro e (fun z => nomatch z) h
  | flt y => obtain ⟨t, q⟩ := (show ∃ t, u = Value.float y t from rx); cases q; exact PySem.W.kia_one PySem.W.kitx_float I.kIn True.intro e (fun z => nomatch z) h
  | @lst a xs ea =>
    cases (show u = Value.ref a from rx)
    obtain ⟨_, _, n, _, h1⟩ := (show ObjOk X.prog X.w H s.heap a (.lst xs) from I.hok a _ ea)
    exact PySem.W.kia_one PySem.W.kitx_list I.kIn ⟨_, h1, rfl⟩ e (fun z => nomatch z) h
  | @frz a ob xs ea =>
    cases (show u = Value.ref a from rx)
    obtain ⟨_, _, _, n, _, h1⟩ := (show ObjOk X.prog X.w H s.heap a (.frz ob (.lst xs)) from I.hok a _ ea)
    exact PySem.W.kia_one PySem.W.kitx_list I.kIn ⟨_, h1, rfl⟩ e (fun z => nomatch z) h
  | @tup a xs ea =>
    cases (show u = Value.ref a from rx)
    obtain ⟨_, _, _, p⟩ := (show ObjOk X.prog X.w H s.heap a (.tup xs) from I.hok a _ ea)
    obtain ⟨o, h1, h2, _⟩ := p
    exact PySem.W.kia_one PySem.W.kitx_tuple I.kIn ⟨o, h1, h2⟩ e (fun z => nomatch z) h
  | @dK a kvs ea =>
    cases (show u = Value.ref a from rx)
    obtain ⟨_, _, vs, _, p⟩ := (show ObjOk X.prog X.w H s.heap a (.dK kvs) from I.hok a _ ea)
    obtain ⟨o, es, ep, h1, h2, _⟩ := p
    exact PySem.W.kia_one PySem.W.kitx_dict I.kIn ⟨o, h1, h2.1⟩ e (fun z => nomatch z) h
  | @dT a kvs ea =>
    cases (show u = Value.ref a from rx)
    obtain ⟨_, _, xs, _, o, es, ep, h1, h2, _⟩ := (show ObjOk X.prog X.w H s.heap a (.dT kvs) from I.hok a _ ea)
    exact PySem.W.kia_one PySem.W.kitx_dict I.kIn ⟨o, h1, h2.1⟩ e (fun z => nomatch z) h
  | @ins a C dx fs ea cl ha hn htk hm =>
    cases (show u = Value.ref a from rx)
    obtain ⟨mA, O, _⟩ := ins_get I.hok ea
    obtain ⟨od, J, _⟩ := O.look
    exact PySem.W.kia_one (PySem.W.kitx_own (cl.get _) cl.hd ha hn htk hm) I.kIn J e (fun z => nomatch z) h
end
end L2
namespace L2
open PySem PySem.Spec PyProof.Rows
structure Room (k : Nat) (A : Around) : Prop where
  hd : A.handled = none
  dp : A.depth + 3 * k + 5 < recursionLimit
  un : A.units + 16 * k + 200 < cLine
theorem Room.mono {j k : Nat} {A : Around} (r : Room k A) (h : j ≤ k) : Room j A := ⟨r.hd, by have := r.dp; omega, by have := r.un; omega⟩
theorem Room.deeper {k : Nat} {A : Around} (r : Room (k + 1) A) (env : Env) : Room k (A.deeper env) :=
  ⟨r.hd, by have := r.dp; show A.depth + 1 + 3 * k + 5 < _; omega, by have := r.un; show A.units + 3 + 16 * k + 200 < _; omega⟩
theorem Room.in1 {k : Nat} {A : Around} (r : Room (k + 1) A) : Room k A.in1 :=
  ⟨r.hd, by have := r.dp; show A.depth + 3 * k + 5 < _; omega, by have := r.un; show A.units + 1 + 16 * k + 200 < _; omega⟩
theorem make_depth {A : Around} {C : Addr} {us : List Value} {kw : List (Str × Value)} : (A.under (.builtin "type.__call__" ⟨.ref C :: us, kw⟩)).depth = A.depth + 1 := by
  first | rfl | simp [Around.under, Code.weight, Code.isCreation, Code.isGuard, Code.isCaller, Code.frames, Code.isFrame, guardIds]
theorem make_units {A : Around} {C : Addr} {us : List Value} {kw : List (Str × Value)} : (A.under (.builtin "type.__call__" ⟨.ref C :: us, kw⟩)).units = A.units + 1 := by
  first | rfl | simp [Around.under, Code.cUnits, Code.frames, Code.isFrame]
theorem Room.make {k : Nat} {A : Around} (r : Room (k + 1) A) (C : Addr) (us : List Value) (kw : List (Str × Value)) : Room k (A.under (.builtin "type.__call__" ⟨.ref C :: us, kw⟩)) :=
  ⟨r.hd, by have := r.dp; rw [make_depth]; omega, by have := r.un; rw [make_units]; omega⟩
theorem Room.depth {k : Nat} {A : Around} (r : Room k A) : A.depth < recursionLimit := by have := r.dp; omega
theorem Room.units {k : Nat} {A : Around} (r : Room k A) : A.units + 64 < cLine := by have := r.un; omega
def tNil : TA := fun _ H Q => Q [] H
def tCons (ta : TE) (tr : TA) : TA := fun σ H Q => ta σ H fun x H1 => tr σ H1 fun xs H2 => Q (x :: xs) H2
section
variable {X : Cx} {e : Expr} {es : List Expr} {te : TE} {t : TA} {pos : Pos}
theorem pa_nil : PA X [] tNil := fun _ _ _ _ H Q I h => Calls.spliced_nil ⟨[], H, I, .nil, h⟩
theorem pa_cons (ha : PE X e te) (hr : PA X es t) (hs : starEach (e :: es) X.env = (false, eval e X.env) :: starEach es X.env := by rfl) : PA X (e :: es) (tCons te t) := by
  intro pos pins s σ H Q I h
  rw [hs]
  show wpAny _ _ (spliced ((false, eval e X.env) :: backTo pos (starEach es X.env))) _ _ s
  refine Calls.spliced_cons (thn (ha pins s σ H _ I h) fun u s1 ⟨x, H1, I1, r1, q1⟩ => ?_)
  exact thn (hr pos pins s1 σ H1 _ I1 q1) fun us s2 ⟨xs, H2, I2, r2, q2⟩ => ⟨x :: xs, H2, I2, .cons r1 r2, q2⟩
def tTup (t : TA) : TE := fun σ H Q => t σ H fun xs H1 => xs.length ≤ sizeLine ∧ ∀ p, H1 p = none → Q (.ref p) (upd H1 p (.tup xs))
def tLst (t : TA) : TE := fun σ H Q => t σ H fun xs H1 => xs.length ≤ sizeLine ∧ ∀ p, H1 p = none → Q (.ref p) (upd H1 p (.lst xs))
theorem pe_tup {x1} (h : PA X es t) : PE X (.Tuple es x1 pos) (tTup t) := by
  intro pins s σ H Q I hq
  refine wpAny_Tuple_spliced (thn (h pos pins s σ H _ I hq) fun us s1 ⟨xs, H1, I1, r, z, q⟩ => ⟨by rw [← r.length]; exact z, ?_⟩)
  have hf : H1 s1.heap.objs.size = none := I1.hok.fresh (Nat.le_refl _)
  refine ⟨.ref s1.heap.objs.size, upd H1 s1.heap.objs.size (.tup xs), I1.laid (t' := s1.toks) (fun b u e => Heap.get?_push_of_some _ e) (Nat.le_refl _) ?_, rfl, q _ hf⟩
  exact ⟨z, us, r, ⟨_, Heap.get?_push_size _ rfl, rfl, _, rfl⟩⟩
theorem pe_lst (h : PA X es t) : PE X (.List es pos) (tLst t) := by
  intro pins s σ H Q I hq
  refine wpAny_List_spliced (thn (h pos pins s σ H _ I hq) fun us s1 ⟨xs, H1, I1, r, z, q⟩ => ⟨by rw [← r.length]; exact z, ?_⟩)
  have hf : H1 s1.heap.objs.size = none := I1.hok.fresh (Nat.le_refl _)
  refine ⟨.ref s1.heap.objs.size, upd H1 s1.heap.objs.size (.lst xs), I1.laid (t' := s1.toks) (fun b u e => Heap.get?_push_of_some _ e) (Nat.le_refl _) ?_, rfl, q _ hf⟩
  exact ⟨z, us, 0, r, Heap.get?_push_size _ rfl⟩
end
abbrev Sp := List V → Hp → VK → XK → Prop
abbrev CXT := List Env → Hp → Shared → XK → Value → Shared → Prop
structure Env0 (P : Program) (w : World) (K : PySem.W.Frag) (mg : Str → Option Value) (base : Heap) (A : Around) (outer : List Env) (s : Shared) (H : Hp) : Prop where
  frames : A.frames = some outer
  mod : Mod K mg base
  bs : ∀ b o, base.get? b = some o → s.heap.get? b = some o ∧ H b = none
  bsz : base.objs.size ≤ s.heap.objs.size
  funs : s.heap.FunFrames base outer
  frf : ∀ b ∈ frs outer, H b = none
  hok : HOk P w H s.heap
  bare : AllBare s.gens
def CE (outer : List Env) (P : Program) (w : World) (H : Hp) (s : Shared) (Q : VK) (u : Value) (s' : Shared) : Prop :=
  ∃ v H', s'.os = s.os ∧ AllBare s'.gens ∧ Un (frs outer) [] H H' s.heap s'.heap ∧ HOk P w H' s'.heap ∧ RelV v u ∧ Q v H'
def CR (CX : CXT) (outer : List Env) (P : Program) (w : World) (H : Hp) (s : Shared) (Q : VK) (E : XK) (r : Result) (s' : Shared) : Prop :=
  match r with
  | .ok (.ret u) => CE outer P w H s Q u s'
  | .ok _ => False
  | .error e => CX outer H s E e s'
structure FnOk (P : Program) (w : World) (K : PySem.W.Frag) (mg : Str → Option Value) (base : Heap) (CX : CXT) (k : Nat) (f : Addr) (fd : FuncData) (ps : List Str) (sp : Sp) : Prop where
  len : ∀ vs H Q E, sp vs H Q E → vs.length = ps.length
  run : ∀ (A : Around) (outer : List Env) (s : Shared) (H : Hp) (args : Args) (us : List Value) (vs : List V) (Q : VK) (E : XK), Room k A → Env0 P w K mg base A outer s H → BindsTo s fd args (ps.zip us) → Vals vs us → sp vs H Q E →
    codeAny (model P w) A (.call (.ref f) args) (CR CX outer P w H s Q E) s
theorem FnOk.mono {P : Program} {w : World} {K : PySem.W.Frag} {mg : Str → Option Value} {base : Heap} {CX : CXT} {j k : Nat} {f : Addr} {fd : FuncData} {ps : List Str} {sp : Sp} (F : FnOk P w K mg base CX j f fd ps sp) (h : j ≤ k) :
    FnOk P w K mg base CX k f fd ps sp := ⟨F.len, fun A outer s H args us vs Q E hr => F.run A outer s H args us vs Q E (hr.mono h)⟩
theorem FnOk.imp {P : Program} {w : World} {K : PySem.W.Frag} {mg : Str → Option Value} {base : Heap} {CX : CXT} {k : Nat} {f : Addr} {fd : FuncData} {ps : List Str} {sp sp' : Sp} (F : FnOk P w K mg base CX k f fd ps sp)
    (h : ∀ vs H Q E, sp' vs H Q E → sp vs H Q E) : FnOk P w K mg base CX k f fd ps sp' :=
  ⟨fun vs H Q E q => F.len vs H Q E (h _ _ _ _ q), fun A outer s H args us vs Q E hr he hb hv hs => F.run A outer s H args us vs Q E hr he hb hv (h _ _ _ _ hs)⟩
theorem Env0.make {P : Program} {w : World} {K : PySem.W.Frag} {mg : Str → Option Value} {base : Heap} {A : Around} {outer : List Env} {s : Shared} {H : Hp} (e : Env0 P w K mg base A outer s H) (C : Addr) (us : List Value) (kw : List (Str × Value)) :
    Env0 P w K mg base (A.under (.builtin "type.__call__" ⟨.ref C :: us, kw⟩)) outer s H := ⟨by first | exact e.frames | (simpa [Around.under, Code.envs, Code.isFrame, pushEnvs] using e.frames), e.mod, e.bs, e.bsz, e.funs, e.frf, e.hok, e.bare⟩
theorem Env0.in1 {P : Program} {w : World} {K : PySem.W.Frag} {mg : Str → Option Value} {base : Heap} {A : Around} {outer : List Env} {s : Shared} {H : Hp} (e : Env0 P w K mg base A outer s H) :
    Env0 P w K mg base A.in1 outer s H := ⟨e.frames, e.mod, e.bs, e.bsz, e.funs, e.frf, e.hok, e.bare⟩
section
variable {X : Cx} {pins : List (Addr × Obj)} {σ : St} {H : Hp} {s s' : Shared}
theorem Inv.env0 (I : Inv X pins σ H s) : Env0 X.prog X.w X.K X.mg X.base X.A X.stack s H :=
  ⟨I.ok.frames, I.ok.mod, I.bs, Nat.le_trans I.ok.bsz I.sz, I.stack, I.stkFree, I.hok, I.bare⟩
theorem Inv.after {Q : VK} {u : Value} (I : Inv X pins σ H s) (h : CE X.stack X.prog X.w H s Q u s') : EP X pins σ Q u s' := by
  obtain ⟨v, H', os, bare, un, hok, r, q⟩ := h
  obtain ⟨hh, g, d, t, os'⟩ := s'
  obtain rfl : os' = s.os := os
  exact ⟨v, H', I.call (h' := hh) (g' := g) (d' := d) (t' := t) (ch := []) un hok bare (fun b z => absurd z (by simp)), r, q⟩
end
def tCall (sp : Sp) (dvs : List V) (E : XK) (t : TA) : TE := fun σ H Q => t σ H fun vs H1 => sp (vs ++ dvs) H1 Q E
def tMeth (C : Addr) (m : Str) (sp : Sp) (dvs : List V) (E : XK) (ta : TE) (t : TA) : TE := fun σ H Q => ta σ H fun x H1 => ∃ a dx fs, x = .ref a ∧ H1 a = some (.ins C dx fs) ∧ fs.lookup m = none ∧
  t σ H1 fun vs H2 => sp (x :: (vs ++ dvs)) H2 Q E
def tMake (C : Addr) (sp : Sp) (dvs : List V) (E : XK) (t : TA) : TE := fun σ H Q => t σ H fun vs H1 => ∀ x dx, H1 x = none → H1 dx = none → dx ≠ x →
  sp (.ref x :: (vs ++ dvs)) (upd (upd H1 dx (.own x)) x (.ins C dx [])) (fun v H2 => v = .non ∧ Q (.ref x) H2) E
def Binds (K : PySem.W.Frag) (fd : FuncData) (ps : List Str) (ds : List Value) : Prop :=
  ∀ (s : Shared) (us : List Value), K.In s.heap → (us ++ ds).length = ps.length → BindsTo s fd ⟨us, []⟩ (ps.zip (us ++ ds))
theorem Binds.all {K : PySem.W.Frag} {fd : FuncData} {ps : List Str} (h : ∀ us : List Value, us.length = ps.length → bindArgs fd ⟨us, []⟩ = pure (ps.zip us)) : Binds K fd ps [] := fun s us _ hl => by
  rw [List.append_nil] at hl ⊢
  exact .of_eq (h us hl)
def Passes (CX : CXT) (X : Cx) (E : XK) : Prop := ∀ (pins : List (Addr × Obj)) (σ : St) (H : Hp) (s : Shared) (e : Value) (s' : Shared), Inv X pins σ H s → CX X.stack H s E e s' → X.xe e s'
section
variable {X : Cx} {CX : CXT} {k : Nat} {f C : Addr} {fd : FuncData} {ps : List Str} {sp : Sp} {dvs : List V} {ds : List Value} {E : XK} {x m : Str} {p pos apos : Pos} {e o : Expr} {es : List Expr} {ta : TE} {t : TA}
theorem run_fn {pins : List (Addr × Obj)} {σ : St} {H : Hp} {s : Shared} {Q : VK} {us : List Value} {vs : List V} (F : FnOk X.prog X.w X.K X.mg X.base CX k f fd ps sp) (hr : Room k X.A) (hb : Binds X.K fd ps ds) (hd : Vals dvs ds) (hx : Passes CX X E)
    (I : Inv X pins σ H s) (r : Vals vs us) (h : sp (vs ++ dvs) H Q E) : wpAny (model X.prog X.w) X.A (call (.ref f) us) (EP X pins σ Q) X.xe s := by
  have r2 : Vals (vs ++ dvs) (us ++ ds) := r.append hd
  have hl : (us ++ ds).length = ps.length := by rw [← r2.length]; exact F.len _ _ _ _ h
  refine wpAny_call (codeAny_mono (F.run X.A X.stack s H ⟨us, []⟩ (us ++ ds) (vs ++ dvs) Q E hr I.env0 (hb s us I.kIn hl) r2 h) fun r s' hq => ?_)
  cases r with
  | error e => exact hx pins σ H s e s' I hq
  | ok fl =>
    cases fl with
    | ret u => exact I.after hq
    | next => exact False.elim hq
    | brk => exact False.elim hq
    | cont => exact False.elim hq
theorem pe_call (F : FnOk X.prog X.w X.K X.mg X.base CX k f fd ps sp) (hr : Room k X.A) (hg : Gl X x) (hm : X.mg x = some (.ref f)) (hk : PySem.W.keepIn X.K (.ref f) = true) (hb : Binds X.K fd ps ds) (hd : Vals dvs ds) (hx : Passes CX X E)
    (ha : PA X (e :: es) t) (hdb : (x == ("__debug__" : Str)) = false := by decide) (he : starEach (e :: es) X.env = (false, eval e X.env) :: starEach es X.env := by rfl) (hpl : (backTo pos (starEach es X.env)).any (·.1) = false := by rfl) :
    PE X (.Call (.Name x p) (e :: es) [] pos) (tCall sp dvs E t) := by
  intro pins s σ H Q I h
  refine wpAny_Call_Name_kw (ld_glob I hg hm ?_ hdb)
  refine PySem.W.callWith_K (h₀ := X.base) I.ok.mod.kin hk (thn (ha pos pins s σ H _ I h) fun us s1 ⟨vs, H1, I1, r, q⟩ => ⟨I1.kIn, ?_⟩) he hpl
  exact run_fn F hr hb hd hx I1 r q
theorem pe_meth {pl : Sem Bool} (he : PE X o ta) (c : Cls X.K C) (hm : Meth X.K C m f) (F : FnOk X.prog X.w X.K X.mg X.base CX k f fd ps sp) (hr : Room k X.A) (hb : Binds X.K fd ps ds) (hd : Vals dvs ds) (hx : Passes CX X E) (ha : PA X (e :: es) t)
    (hst : starEach (e :: es) X.env = (false, eval e X.env) :: starEach es X.env := by rfl) (hpl : (backTo pos (starEach es X.env)).any (·.1) = false := by rfl)
    (ht : eval (.Call (.Attribute o m apos) (e :: es) [] pos) X.env = (do
      let ov ← eval o X.env
      standAt apos.atName
      let (f, first) ← holding [ov] (getMethod ov m pl)
      callWith pos f first (backTo pos (starEach (e :: es) X.env)) (backToKw pos (keywordEach [] X.env))) := by rfl) :
    PE X (.Call (.Attribute o m apos) (e :: es) [] pos) (tMeth C m sp dvs E ta t) := by
  intro pins s σ H Q I h
  refine PySem.W.methodCall_KW (pl := pl) (thn (he pins s σ H _ I h) fun u s1 ⟨x, H1, I1, rx, a, dx, fs, ex, ea, l, q⟩ => ?_) ht
  subst ex
  obtain rfl : u = Value.ref a := rx
  refine getmeth_ok I1 ea c hm l ?_
  refine PySem.W.callWith_K (first := [.ref a]) (h₀ := X.base) I.ok.mod.kin hm.kp (thn (ha pos pins s1 σ H1 _ I1 q) fun us s2 ⟨vs, H2, I2, r, q2⟩ => ⟨I2.kIn, ?_⟩) hst hpl
  exact run_fn (us := .ref a :: us) (vs := .ref a :: vs) F hr hb hd hx I2 (.cons rfl r) q2
theorem pe_meth0 {pl : Sem Bool} (he : PE X o ta) (c : Cls X.K C) (hm : Meth X.K C m f) (F : FnOk X.prog X.w X.K X.mg X.base CX k f fd ps sp) (hr : Room k X.A) (hb : Binds X.K fd ps ds) (hd : Vals dvs ds) (hx : Passes CX X E)
    (ht : eval (.Call (.Attribute o m apos) [] [] pos) X.env = (do
      let ov ← eval o X.env
      standAt apos.atName
      let (f, first) ← holding [ov] (getMethod ov m pl)
      callWith pos f first (backTo pos (starEach [] X.env)) (backToKw pos (keywordEach [] X.env))) := by rfl) :
    PE X (.Call (.Attribute o m apos) [] [] pos) (tMeth C m sp dvs E ta tNil) := by
  intro pins s σ H Q I h
  refine PySem.W.methodCall_KW (pl := pl) (thn (he pins s σ H _ I h) fun u s1 ⟨x, H1, I1, rx, a, dx, fs, ex, ea, l, q⟩ => ?_) ht
  subst ex
  obtain rfl : u = Value.ref a := rx
  refine getmeth_ok I1 ea c hm l ?_
  exact PySem.W.callWith_K0 (first := [.ref a]) I1.kIn hm.kp (run_fn (us := [.ref a]) (vs := [.ref a]) F hr hb hd hx I1 (.cons rfl .nil) q)
structure Mk (K : PySem.W.Frag) (C f : Addr) : Prop where
  makes : PySem.W.makesIn K C = true
  init : PySem.W.findIn K (.ref C) "__init__" = some (some (.ref f))
  fn : PySem.W.isFn K (.ref f) = true
  kp : PySem.W.keepIn K (.ref C) = true
theorem run_make {pins : List (Addr × Obj)} {σ : St} {H : Hp} {s : Shared} {Q : VK} {us : List Value} {vs : List V} (M : Mk X.K C f) (F : FnOk X.prog X.w X.K X.mg X.base CX k f fd ps sp) (hr : Room (k + 1) X.A) (hb : Binds X.K fd ps ds) (hd : Vals dvs ds)
    (hx : Passes CX X E) (I : Inv X pins σ H s) (r : Vals vs us)
    (h : ∀ x dx, H x = none → H dx = none → dx ≠ x → sp (.ref x :: (vs ++ dvs)) (upd (upd H dx (.own x)) x (.ins C dx [])) (fun v H2 => v = .non ∧ Q (.ref x) H2) E) :
    wpAny (model X.prog X.w) X.A (call (.ref C) us) (EP X pins σ Q) X.xe s := by
  have hq := h (s.heap.objs.size + 1) s.heap.objs.size (I.hok.fresh (Nat.le_succ _)) (I.hok.fresh (Nat.le_refl _)) (Nat.ne_of_lt (Nat.lt_succ_self _))
  have I2 := Inv.made (C := C) I
  have r2 : Vals (V.ref (s.heap.objs.size + 1) :: (vs ++ dvs)) (Value.ref (s.heap.objs.size + 1) :: (us ++ ds)) := .cons rfl (r.append hd)
  have hl : (Value.ref (s.heap.objs.size + 1) :: us ++ ds).length = ps.length := by
    have e := r2.length
    rw [F.len _ _ _ _ hq] at e
    exact e.symm
  refine wpAny_call (make_map (f := f) I.kIn M.makes M.init (beq_iff_eq.mp M.fn) (codeAny_mono (F.run _ X.stack _ _ ⟨Value.ref (s.heap.objs.size + 1) :: us, []⟩ (Value.ref (s.heap.objs.size + 1) :: (us ++ ds)) _ _ E (hr.make C us [])
    (I2.env0.make C us []) (hb _ (Value.ref (s.heap.objs.size + 1) :: us) I2.kIn hl) r2 hq) fun r s' hq' => ?_))
  cases r with
  | error e => exact hx pins σ _ _ e s' I2 hq'
  | ok fl =>
    cases fl with
    | ret u =>
      obtain ⟨v, H', I3, rv, ev, q3⟩ := I2.after hq'
      subst ev
      exact ⟨rv, ⟨V.ref (s.heap.objs.size + 1), H', I3, rfl, q3⟩⟩
    | next => exact False.elim hq'
    | brk => exact False.elim hq'
    | cont => exact False.elim hq'
theorem pe_make (M : Mk X.K C f) (F : FnOk X.prog X.w X.K X.mg X.base CX k f fd ps sp) (hr : Room (k + 1) X.A) (hg : Gl X x) (hm : X.mg x = some (.ref C)) (hb : Binds X.K fd ps ds) (hd : Vals dvs ds) (hx : Passes CX X E)
    (ha : PA X (e :: es) t) (hdb : (x == ("__debug__" : Str)) = false := by decide) (he : starEach (e :: es) X.env = (false, eval e X.env) :: starEach es X.env := by rfl) (hpl : (backTo pos (starEach es X.env)).any (·.1) = false := by rfl) :
    PE X (.Call (.Name x p) (e :: es) [] pos) (tMake C sp dvs E t) := by
  intro pins s σ H Q I h
  refine wpAny_Call_Name_kw (ld_glob I hg hm ?_ hdb)
  refine PySem.W.callWith_K (h₀ := X.base) I.ok.mod.kin M.kp (thn (ha pos pins s σ H _ I h) fun us s1 ⟨vs, H1, I1, r, q⟩ => ⟨I1.kIn, ?_⟩) he hpl
  exact run_make M F hr hb hd hx I1 r q
end
section
variable {X : Cx} {CX : CXT} {k : Nat} {f C : Addr} {fd : FuncData} {ps ks : List Str} {sp : Sp} {E : XK} {x m : Str} {p pos apos kpos : Pos} {e o : Expr} {es : List Expr} {kws : List Keyword} {te ta : TE} {t tk : TA} {nm : Option Str}
structure KBinds (K : PySem.W.Frag) (fd : FuncData) (ps ks : List Str) (g : List Value → List Value → List Value) (gV : List V → List V → List V) : Prop where
  to : ∀ (s : Shared) (us ws : List Value), K.In s.heap → (g us ws).length = ps.length → BindsTo s fd ⟨us, ks.zip ws⟩ (ps.zip (g us ws))
  rel : ∀ {vs : List V} {us : List Value} {zs : List V} {ws : List Value}, Vals vs us → Vals zs ws → Vals (gV vs zs) (g us ws)
variable {g : List Value → List Value → List Value} {gV : List V → List V → List V}
end
structure FnScope (N P : List Str) (sc : Scope) : Prop where
  kind : sc.kind = .function
  co : sc.isCoroutine = false
  gen : sc.isGenerator = false
  nd : N.Nodup
  pre : N.take P.length = P
  par : ∀ x ∈ P, sc.names.lookup x = some .local ∨ sc.names.lookup x = some .cell
  nofree : ∀ y ∈ sc.names, y.2 ≠ .free
theorem bindL_out {kindOf : Str → Option NameKind} {x : Str} : ∀ {binds : List (Str × Value)} {m : Str → Option Value}, (∀ v, (x, v) ∉ binds) → bindL kindOf binds m x = m x
  | [], _, _ => rfl
  | (n, v) :: r, m, h => by
    unfold bindL
    rw [bindL_out fun w hw => h w (List.mem_cons_of_mem _ hw)]
    split
    · have : x ≠ n := by rintro rfl; exact h v List.mem_cons_self
      simp [this]
    · rfl
theorem bindC_out {kindOf : Str → Option NameKind} {x : Str} : ∀ {binds : List (Str × Value)} {m : Str → Option Value}, (∀ v, (x, v) ∉ binds) → bindC kindOf binds m x = m x
  | [], _, _ => rfl
  | (n, v) :: r, m, h => by
    unfold bindC
    rw [bindC_out fun w hw => h w (List.mem_cons_of_mem _ hw)]
    split
    · rfl
    · have : x ≠ n := by rintro rfl; exact h v List.mem_cons_self
      simp [this]
theorem bindL_get {kindOf : Str → Option NameKind} {x : Str} {v : Value} : ∀ {P : List Str} {vs : List Value} {i : Nat} {m : Str → Option Value}, P.Nodup → P[i]? = some x → vs[i]? = some v → kindOf x = some .local →
    bindL kindOf (P.zip vs) m x = some v
  | [], _, _, _, _, h, _, _ => by simp at h
  | _ :: _, [], _, _, _, _, h, _ => by simp at h
  | p :: P, w :: vs, 0, m, nd, h1, h2, hk => by
    simp at h1 h2; subst h1; subst h2
    show bindL kindOf ((p, w) :: P.zip vs) m p = _
    unfold bindL
    rw [bindL_out fun v hv => (List.nodup_cons.mp nd).1 (List.of_mem_zip hv).1, if_pos hk]
    simp
  | p :: P, w :: vs, i + 1, m, nd, h1, h2, hk => by
    show bindL kindOf ((p, w) :: P.zip vs) m x = _
    unfold bindL
    exact bindL_get (i := i) (List.nodup_cons.mp nd).2 (by simpa using h1) (by simpa using h2) hk
theorem bindC_get {kindOf : Str → Option NameKind} {x : Str} {v : Value} : ∀ {P : List Str} {vs : List Value} {i : Nat} {m : Str → Option Value}, P.Nodup → P[i]? = some x → vs[i]? = some v → kindOf x ≠ some .local →
    bindC kindOf (P.zip vs) m x = some v
  | [], _, _, _, _, h, _, _ => by simp at h
  | _ :: _, [], _, _, _, _, h, _ => by simp at h
  | p :: P, w :: vs, 0, m, nd, h1, h2, hk => by
    simp at h1 h2; subst h1; subst h2
    show bindC kindOf ((p, w) :: P.zip vs) m p = _
    unfold bindC
    rw [bindC_out fun v hv => (List.nodup_cons.mp nd).1 (List.of_mem_zip hv).1, if_neg hk]
    simp
  | p :: P, w :: vs, i + 1, m, nd, h1, h2, hk => by
    show bindC kindOf ((p, w) :: P.zip vs) m x = _
    unfold bindC
    exact bindC_get (i := i) (List.nodup_cons.mp nd).2 (by simpa using h1) (by simpa using h2) hk
def start (N : List Str) (vs : List V) : St := vs.map some ++ List.replicate (N.length - vs.length) none
def cxOf (CX : CXT) (P : Program) (w : World) (K : PySem.W.Frag) (mg : Str → Option Value) (base : Heap) (N : List Str) (qual : Str) (scope : Scope) (f : Addr) (cd : Value) (A : Around) (outer : List Env) (s : Shared) (H : Hp) (E : XK) : Cx where
  prog := P
  w := w
  K := K
  mg := mg
  base := base
  A := A.deeper (envOfC qual scope s.heap.objs.size f cd)
  N := N
  s₀ := s
  H₀ := H
  env := envOfC qual scope s.heap.objs.size f cd
  outer := outer
  stack := envOfC qual scope s.heap.objs.size f cd :: outer
  ex := []
  calm := true
  fn := fun _ => true
  pn := []
  xe := fun e s' => wpAny (model P w) (A.deeper (envOfC qual scope s.heap.objs.size f cd)) (leaving (envOfC qual scope s.heap.objs.size f cd) e) (fun _ s'' => CX outer H s E e s'') (fun e' s'' => CX outer H s E e' s'') s'
theorem cell_has {sc : Scope} {n : Nat} {x : Str} (h : sc.names.lookup x = some .cell) : ∃ c, (cellsFrom n sc.names []).lookup x = some c := by
  have q := PySem.W.cellsFrom_some sc.names n [] (.inl h)
  exact Option.isSome_iff_exists.mp q
theorem inv_start {CX : CXT} {P : Program} {w : World} {K : PySem.W.Frag} {mg : Str → Option Value} {base : Heap} {N ps : List Str} {qual : Str} {scope : Scope} {f : Addr} {cd : Value} {A : Around} {outer : List Env} {s s1 : Shared} {H : Hp} {E : XK} {us : List Value} {vs : List V}
    (S : FnScope N ps scope) (hd : A.handled = none) (e0 : Env0 P w K mg base A outer s H) (hl : vs.length = ps.length) (r : Vals vs us)
    (x : InCallC s s.heap.objs.size (bindL (envOfC qual scope s.heap.objs.size f cd).kindOf (ps.zip us) fun _ => none) (cellsFrom (s.heap.objs.size + 1) scope.names []) (bindC (envOfC qual scope s.heap.objs.size f cd).kindOf (ps.zip us) fun _ => none) s1) :
    Inv (cxOf CX P w K mg base N qual scope f cd A outer s H E) [] (start N vs) H s1 := by
  have hpl : ps.length ≤ N.length := by have := congrArg List.length S.pre; rw [List.length_take] at this; omega
  obtain ⟨h1, tk, rfl, hk⟩ := x.done
  have noA : ∀ b : Addr, b ∉ (cxOf CX P w K mg base N qual scope f cd A outer s H E).ex := fun b z => absurd (show b ∈ ([] : List Addr) from z) (by simp)
  refine ⟨⟨e0.mod, S.kind, rfl, rfl, Nat.le_refl _, fun y z c h1 h2 => ?_, fun y hy => ?_, fun y c _ h => ?_, fun _ => hd, Around.frames_deeper e0.frames, .inr ⟨rfl, rfl⟩, fun b z => absurd z (noA b), e0.bs, e0.bsz, fun b _ _ => noA b, fun b z => absurd z (noA b), e0.funs, e0.frf⟩,
    rfl, e0.bare, Un.kept hk, ⟨_, x.toInCall.ns, fun i y v h1 h2 h3 => ?_⟩, fun y c h => ⟨_, x.cell y c h⟩, e0.hok.fresh (Nat.le_refl _), fun y c h => ?_, fun p hp => absurd (show p ∈ ([] : List (Addr × Obj)) from hp) (by simp), e0.hok.kept hk, ?_⟩
  · exact name_of_addr x.apart (PySem.mem_of_lookup h1) (PySem.mem_of_lookup h2)
  · have hy : scope.names.lookup y = some .cell ∨ scope.names.lookup y = some .free := hy
    rcases hy with hy | hy
    · exact cell_has hy
    · exact absurd rfl (S.nofree _ (PySem.mem_of_lookup hy))
  · exact Nat.le_of_lt (x.above y c (PySem.mem_of_lookup h))
  · have hi : i < vs.length := by
      unfold start at h2
      by_cases hi : i < vs.length
      · exact hi
      · rw [List.getElem?_append_right (by simpa using hi)] at h2
        rw [List.getElem?_replicate] at h2
        split at h2 <;> cases h2
    have ha : vs[i]? = some v := by
      unfold start at h2
      rw [List.getElem?_append_left (by simpa using hi), List.getElem?_map] at h2
      cases e : vs[i]? with
      | none => rw [e] at h2; cases h2
      | some a => rw [e] at h2; cases h2; rfl
    obtain ⟨u, hu, rv⟩ := r.get ha
    have hp : ps[i]? = some y := by
      rw [← S.pre, List.getElem?_take_of_lt (by omega)]; exact h1
    have ndP : ps.Nodup := by rw [← S.pre]; exact S.nd.sublist (List.take_sublist _ _)
    refine ⟨u, rv, ?_⟩
    rcases S.par y (List.mem_of_getElem? hp) with k | k
    · exact .inl ⟨k, bindL_get ndP hp hu k⟩
    · obtain ⟨c, e⟩ := cell_has (n := s.heap.objs.size + 1) k
      refine .inr ⟨.inl k, c, e, ?_⟩
      have q := x.cell y c e
      rw [bindC_get ndP hp hu (by show scope.names.lookup y ≠ _; rw [k]; decide)] at q
      exact q
  · exact e0.hok.fresh (Nat.le_of_lt (x.above y c (PySem.mem_of_lookup h)))
  · unfold start
    show _ = N.length
    rw [List.length_append, List.length_map, List.length_replicate]
    omega
theorem fn_of {CX : CXT} {P : Program} {w : World} {K : PySem.W.Frag} {mg : Str → Option Value} {base : Heap} {k : Nat} {f : Addr} {name qual : Str} {params : Arguments} {body : List Stmt} {scope : Scope} {dV kV doc pm cdv ct oc : Value} {an od : Option Addr}
    {osl : Array (Option Value)} {N ps : List Str} {sp : Sp} (lk : K.lookup f = some ⟨oc, od, .func (PySem.W.fnOf name qual params body scope dV kV doc pm an cdv ct), osl⟩) (hcd : PySem.W.codeIn K cdv qual = true) (S : FnScope N ps scope)
    (len : ∀ vs H Q E, sp vs H Q E → vs.length = ps.length)
    (hbody : ∀ (A : Around) (outer : List Env) (s : Shared) (H : Hp) (vs : List V) (Q : VK) (E : XK), Room k (A.deeper (envOfC qual scope s.heap.objs.size f cdv)) → sp vs H Q E →
      ∃ t, PSs (cxOf CX P w K mg base N qual scope f cdv A outer s H E) body t ∧ t { nx := fun _ H' => Q .non H', rt := Q } (start N vs) H) :
    FnOk P w K mg base CX (k + 1) f (PySem.W.fnOf name qual params body scope dV kV doc pm an cdv ct) ps sp := by
  refine ⟨len, fun A outer s H args us vs Q E hr e0 hb r hsp => ?_⟩
  have hl := len _ _ _ _ hsp
  have KX : K.In s.heap := e0.mod.kin.keeps fun b o e => (e0.bs b o e).1
  have lim : s.heap.NoLimit := e0.mod.nolimit.keeps fun b o e => (e0.bs b o e).1
  have hkind : ∀ y ∈ ps.zip us, scope.names.lookup y.1 = some .local ∨ (scope.names.lookup y.1 = some .cell ∧ ((cellsFrom (s.heap.objs.size + 1) scope.names []).lookup y.1).isSome = true) := fun ⟨n, v⟩ hy => by
    rcases S.par n (List.of_mem_zip hy).1 with q | q
    · exact .inl q
    · exact .inr ⟨q, PySem.W.cellsFrom_some _ _ _ (.inl q)⟩
  refine codeAny_call_function hr.depth (KX _ _ lk) rfl S.co S.gen rfl (PySem.W.codeRec_of KX hcd) (hb _ _ _ _ ?_)
  refine wpAny_newFunctionEnv_cells S.kind hkind fun env he s1 x => ?_
  subst he
  refine ⟨lim.keeps x.toInCall.keep, codeAny_func ?_⟩
  obtain ⟨t, ht, hq⟩ := hbody A outer s H vs Q E (hr.deeper _) hsp
  have I : Inv (cxOf CX P w K mg base N qual scope f cdv A outer s H E) [] (start N vs) H s1 := inv_start S hr.hd e0 hl r x
  refine wpAny_mono (ht [] s1 (start N vs) H _ I hq) (fun fl s' hs => ?_) fun e s' hs => hs
  have fin : ∀ {σ' : St} {H' : Hp} {v : V} {u : Value}, Inv (cxOf CX P w K mg base N qual scope f cdv A outer s H E) [] σ' H' s' → RelV v u → Q v H' → CE outer P w H s Q u s' :=
    fun {σ' H' v u} J rv q => ⟨v, H', J.os, J.bare, J.base, J.hok, rv, q⟩
  cases fl with
  | ret u =>
    obtain ⟨v, σ', H', J, rv, q⟩ := hs
    exact fin J rv q
  | next =>
    obtain ⟨σ', H', J, q⟩ := hs
    exact fin (v := V.non) (u := Value.none) J rfl q
  | brk =>
    obtain ⟨_, _, _, q⟩ := hs
    exact False.elim q
  | cont =>
    obtain ⟨_, _, _, q⟩ := hs
    exact False.elim q
end L2
namespace L2
open PySem PySem.Spec PyProof.Rows
section
variable {X : Cx} {x : Str} {p pos : Pos} {e : Expr} {es : List Expr} {t : TA} {id T : String} {r : List V → Hp → VK → Prop}
def tCB (r : List V → Hp → VK → Prop) (t : TA) : TE := fun σ H Q => t σ H fun vs H1 => r vs H1 Q
theorem pe_callB (hc : CallR X (.builtin id) r) (hg : Gl X x) (hm : X.mg x = none) (hv : bootBuiltins x = some (.builtin id)) (ha : PA X (e :: es) t) (hn : x ≠ "__name__" := by decide) (hdb : (x == ("__debug__" : Str)) = false := by decide)
    (he : starEach (e :: es) X.env = (false, eval e X.env) :: starEach es X.env := by rfl) (hpl : (backTo pos (starEach es X.env)).any (·.1) = false := by rfl) : PE X (.Call (.Name x p) (e :: es) [] pos) (tCB r t) := by
  intro pins s σ H Q I h
  refine wpAny_Call_Name_kw (ld_blt I hg hm hv ?_ hn hdb)
  exact PyProof.Rows.callWith_builtin1 (thn (ha pos pins s σ H _ I h) fun us s1 ⟨vs, H1, I1, r1, q1⟩ => hc pins s1 σ H1 vs us Q I1 r1 q1) he hpl
theorem pe_callTy (hc : CallR X (.type T) r) (hg : Gl X x) (hm : X.mg x = none) (hv : bootBuiltins x = some (.type T)) (ha : PA X (e :: es) t) (hn : x ≠ "__name__" := by decide) (hdb : (x == ("__debug__" : Str)) = false := by decide)
    (he : starEach (e :: es) X.env = (false, eval e X.env) :: starEach es X.env := by rfl) (hpl : (backTo pos (starEach es X.env)).any (·.1) = false := by rfl) : PE X (.Call (.Name x p) (e :: es) [] pos) (tCB r t) := by
  intro pins s σ H Q I h
  refine wpAny_Call_Name_kw (ld_blt I hg hm hv ?_ hn hdb)
  exact PyProof.Rows.callWith_type1 (thn (ha pos pins s σ H _ I h) fun us s1 ⟨vs, H1, I1, r1, q1⟩ => hc pins s1 σ H1 vs us Q I1 r1 q1) he hpl
end
end L2
namespace HT
open PySem PyProof.Rows
section
open PySem.SeqAt
open PySem.AutoSeq1 (wpAny_loadPart')
open PySem.MeetsSeq PySem.MeetsSeq2 PySem.MeetsSeq3
end
section
variable {prog : Program} {w : World} {A : Around} {E : Value → Shared → Prop} {s : Shared}
def sIx (n d : Nat) : Option Int → Nat
  | none => d
  | some v => if v < 0 then (v + (n : Int)).toNat else min v.toNat n
theorem sIx_none (n d : Nat) : sIx n d none = d := rfl
theorem sIx_nat (n d k : Nat) : sIx n d (some (k : Int)) = min k n := by
  show (if (k : Int) < 0 then ((k : Int) + (n : Int)).toNat else min (k : Int).toNat n) = min k n
  rw [if_neg (by omega), Int.toNat_natCast]
end
end HT
namespace L2
open PySem PySem.Spec PyProof.Rows
abbrev TO := St → Hp → (Option Int → Hp → Prop) → Prop
def PO (X : Cx) (e : Option Expr) (t : TO) : Prop :=
  ∀ (pins : List (Addr × Obj)) (s : Shared) (σ : St) (H : Hp) (Q : Option Int → Hp → Prop), Inv X pins σ H s → t σ H Q →
    wpAny (model X.prog X.w) X.A (evalPart e X.env) (fun u s' => ∃ o H', Inv X pins σ H' s' ∧ IsPart u o ∧ Q o H') X.xe s
def tNoPart : TO := fun _ H Q => Q none H
def tPart (t : TE) : TO := fun σ H Q => t σ H fun x H1 => ∃ i, x = .int i ∧ Q (some i) H1
section
variable {X : Cx} {e : Expr} {te : TE} {lo hi : Option Expr} {tl th : TO} {pos p2 : Pos}
theorem po_none : PO X none tNoPart := by
  intro pins s σ H Q I h
  rw [evalPart_none]
  exact wpAny_pure ⟨none, H, I, .none, h⟩
theorem po_some (h : PE X e te) : PO X (some e) (tPart te) := by
  intro pins s σ H Q I hw
  rw [evalPart_some]
  refine thn (h pins s σ H _ I hw) fun u s1 ⟨x, H1, I1, r1, q1⟩ => ?_
  obtain ⟨i, rfl, q⟩ := q1
  obtain ⟨t, rfl⟩ := r1
  exact ⟨some i, H1, I1, .int i t, q⟩
def SlR (X : Cx) (r : V → Option Int → Option Int → Hp → VK → Prop) : Prop :=
  ∀ (pins : List (Addr × Obj)) (s : Shared) (σ : St) (H : Hp) (x : V) (v vl vu : Value) (lo hi : Option Int) (sl : Addr) (Q : VK), Inv X pins σ H s → RelV x v → s.heap.IsSliceOf sl vl vu .none → IsPart vl lo → IsPart vu hi → r x lo hi H Q →
    ∃ T id, typeLookup (.type T) "__getitem__" = pure (some (.builtin id)) ∧ s.TypeIs v T ∧ wpAny (model X.prog X.w) X.A (getItem v (.ref sl)) (EP X pins σ Q) X.xe s
def tSl (r : V → Option Int → Option Int → Hp → VK → Prop) (te : TE) (tl th : TO) : TE := fun σ H Q => te σ H fun x H1 => tl σ H1 fun l H2 => th σ H2 fun u H3 => r x l u H3 Q
theorem pe_slice {r : V → Option Int → Option Int → Hp → VK → Prop} (hr : SlR X r) (he : PE X e te) (hl : PO X lo tl) (hu : PO X hi th) : PE X (.Subscript e (.Slice lo hi none p2) pos) (tSl r te tl th) := by
  intro pins s σ H Q I h
  refine Subscript_ (thn (he pins s σ H _ I h) fun v s1 ⟨x, H1, I1, r1, q1⟩ => ?_)
  refine wpAny_Slice (thn (hl pins s1 σ H1 _ I1 q1) fun vl s2 ⟨l, H2, I2, pl, q2⟩ => thn (hu pins s2 σ H2 _ I2 q2) fun vu s3 ⟨u, H3, I3, pu, q3⟩ => ?_)
  rw [evalPart_none]
  refine wpAny_pure ?_
  have I4 : Inv X pins σ H3 { s3 with heap := s3.heap.push { cls := .type "slice", data := .fields #[vl, vu, .none] } } := I3.kept (t' := s3.toks) fun b ob q => Heap.get?_push_of_some _ q
  obtain ⟨T, id, hT, ht, hg⟩ := hr pins { s3 with heap := s3.heap.push { cls := .type "slice", data := .fields #[vl, vu, .none] } } σ H3 x v vl vu l u s3.heap.objs.size Q I4 r1 (Heap.IsSliceOf.new ..) pl pu q3
  show wpAny (model X.prog X.w) X.A (subscriptTail e (.Slice lo hi none p2) v (.ref s3.heap.objs.size)) (EP X pins σ Q) X.xe { s3 with heap := s3.heap.push { cls := .type "slice", data := .fields #[vl, vu, .none] } }
  exact tail_any (ops := [.ref s3.heap.objs.size, v]) ht hT hg (by with_unfolding_all rfl)
def cutV (xs : List V) (lo hi : Option Int) : List V := (xs.drop (HT.sIx xs.length 0 lo)).take (HT.sIx xs.length xs.length hi - HT.sIx xs.length 0 lo)
theorem cutV_length (xs : List V) (lo hi : Option Int) : (cutV xs lo hi).length ≤ xs.length := by
  unfold cutV
  rw [List.length_take, List.length_drop]
  omega
end
end L2
namespace L2
open PySem PySem.Spec PyProof.Rows
def ixN (n : Nat) (i : Int) : Option Nat := if 0 ≤ i then (if i < n then some i.toNat else none) else if -(n : Int) ≤ i then some (i + n).toNat else none
def atI {α : Type} (xs : List α) (i : Int) : Option α := (ixN xs.length i).bind fun j => xs[j]?
theorem ixN_seq {n : Nat} {i : Int} {j : Nat} (h : ixN n i = some j) : seqIndex? i n = some j ∧ j < n ∧ -(n : Int) ≤ i ∧ i < n := by
  unfold ixN at h
  by_cases h0 : 0 ≤ i
  · rw [if_pos h0] at h
    by_cases h1 : i < n
    · rw [if_pos h1] at h
      have e : i.toNat = j := Option.some.inj h
      exact ⟨by rw [seqIndex_of h0 h1, e], by omega, by omega, h1⟩
    · rw [if_neg h1] at h; cases h
  · rw [if_neg h0] at h
    by_cases h1 : -(n : Int) ≤ i
    · rw [if_pos h1] at h
      have e : (i + n).toNat = j := Option.some.inj h
      exact ⟨by rw [seqIndex_neg (by omega) h1, e], by omega, h1, by omega⟩
    · rw [if_neg h1] at h; cases h
theorem atI_get {α : Type} {xs : List α} {i : Int} {v : α} (h : atI xs i = some v) : ∃ j, seqIndex? i xs.length = some j ∧ xs[j]? = some v ∧ j < xs.length ∧ -(xs.length : Int) ≤ i ∧ i < xs.length := by
  unfold atI at h
  cases e : ixN xs.length i with
  | none => rw [e] at h; cases h
  | some j =>
    rw [e] at h
    obtain ⟨h1, h2, h3, h4⟩ := ixN_seq e
    exact ⟨j, h1, h, h2, h3, h4⟩
theorem atI_nat {α : Type} {xs : List α} {j : Nat} {v : α} (h : xs[j]? = some v) : atI xs (j : Int) = some v := by
  have hj : j < xs.length := (List.getElem?_eq_some_iff.mp h).1
  have e : ixN xs.length (j : Int) = some j := by
    unfold ixN
    rw [if_pos (by omega), if_pos (by omega)]; simp
  unfold atI; rw [e]; exact h
theorem atI_last {α : Type} (xs : List α) (v : α) : atI (xs ++ [v]) (-1) = some v := by
  have hl : (xs ++ [v]).length = xs.length + 1 := by simp
  have e : ixN (xs ++ [v]).length (-1) = some xs.length := by
    unfold ixN
    rw [hl, if_neg (by decide), if_pos (by omega)]
    congr 1
    omega
  unfold atI
  rw [e]
  show (xs ++ [v])[xs.length]? = some v
  simp
def PlainIx (b : Expr) : Prop := ∀ o i, subscripted b false o i = operate [o, i] (getItem o i)
def IxR (X : Cx) (r : R2) : Prop :=
  ∀ (value slice : Expr) (pins : List (Addr × Obj)) (s : Shared) (σ : St) (H : Hp) (x y : V) (v u : Value) (Q : VK), Inv X pins σ H s → RelV x v → RelV y u → r x y H Q →
    subscripted slice false v u = operate [v, u] (getItem v u) → wpAny (model X.prog X.w) X.A (subscriptTail value slice v u) (EP X pins σ Q) X.xe s
def MtR (X : Cx) (id : String) (r : V → List V → Hp → VK → Prop) : Prop :=
  ∀ (pins : List (Addr × Obj)) (s : Shared) (σ : St) (H : Hp) (x : V) (xs : List V) (v : Value) (us : List Value) (Q : VK), Inv X pins σ H s → RelV x v → Vals xs us → r x xs H Q →
    wpAny (model X.prog X.w) X.A (call (.builtin id) (v :: us)) (EP X pins σ Q) X.xe s
section
variable {X : Cx} {a b : Expr} {ta tb : TE} {pos : Pos}
theorem pe_ix {r : R2} (hr : IxR X r) (ha : PE X a ta) (hb : PE X b tb) (hs : PlainIx b) : PE X (.Subscript a b pos) (tOp r ta tb) := by
  intro pins s σ H Q I h
  exact Subscript_ (binT ha hb I h fun v u s2 x y H2 I2 rx ry q => hr a b pins s2 σ H2 x y v u Q I2 rx ry q (hs _ _))
def rIxL (K : PySem.W.Frag) : R2 := fun x y H Q => ∃ p xs i v, x = .ref p ∧ y = .int i ∧ SqL K H p xs ∧ atI xs i = some v ∧ Q v H
def rIxT (K : PySem.W.Frag) : R2 := fun x y H Q => ∃ p xs i v, x = .ref p ∧ y = .int i ∧ SqT K H p xs ∧ atI xs i = some v ∧ Q v H
def rIxS : R2 := fun x y H Q => ∃ z i c, x = .str z ∧ y = .int i ∧ z.length ≤ sizeLine ∧ atI z.cps.toList i = some c ∧ Q (.str ⟨#[c]⟩) H
theorem ix_list : IxR X (rIxL X.K) := by
  intro value slice pins s σ H x y v u Q I rx ry h hs
  obtain ⟨p, xs, i, z, rfl, rfl, hq, he, q⟩ := h
  cases rx
  obtain ⟨t, rfl⟩ := ry
  obtain ⟨its, r, pl, hz⟩ := I.list hq
  obtain ⟨j, h1, h2, h3, h4, h5⟩ := atI_get he
  obtain ⟨w, ew, rw'⟩ := r.get h2
  have hl := r.length
  have hn := line63
  have fin : EP X pins σ Q w s := ⟨z, H, I, rw', q⟩
  by_cases h0 : 0 ≤ i
  · have hj : i.toNat = j := by
      rw [seqIndex_of h0 h5] at h1
      exact Option.some.inj h1
    exact item_listR pl.isList h0 (by omega) (by rw [hj]; simpa using ew) fin hs
  · have hj : (i + (its.toArray.size : Int)).toNat = j := by
      rw [seqIndex_neg (by omega) h4] at h1
      rw [List.size_toArray, ← hl]
      exact Option.some.inj h1
    exact subscriptTail_builtinR (x := w) pl.isList.typeIs slot_list_getitem.lookup
      (wpAny_getItem_list_neg (Q := fun r s' => r = w ∧ EP X pins σ Q r s') pl.isList (by omega) (by rw [List.size_toArray] <;> omega) (by omega) (by rw [hj]; simpa using ew) ⟨rfl, fin⟩) hs
theorem ix_tup : IxR X (rIxT X.K) := by
  intro value slice pins s σ H x y v u Q I rx ry h hs
  obtain ⟨p, xs, i, z, rfl, rfl, hq, he, q⟩ := h
  cases rx
  obtain ⟨t, rfl⟩ := ry
  obtain ⟨its, r, pl, hz⟩ := I.tuple hq
  obtain ⟨j, h1, h2, h3, h4, h5⟩ := atI_get he
  obtain ⟨w, ew, rw'⟩ := r.get h2
  have hl := r.length
  have hn := line63
  have fin : EP X pins σ Q w s := ⟨z, H, I, rw', q⟩
  exact subscriptTail_builtinR (x := w) pl.typeIs slot_tuple_getitem.lookup
    (getItem_tuple (j := j) (Q := fun r s' => r = w ∧ EP X pins σ Q r s') pl (by omega) (by omega) (by rw [List.size_toArray, ← hl]; exact h1) (by simpa using ew) ⟨rfl, fin⟩) hs
theorem ix_str : IxR X rIxS := by
  intro value slice pins s σ H x y v u Q I rx ry h hs
  obtain ⟨z, i, c, rfl, rfl, hz, he, q⟩ := h
  obtain ⟨t, rfl⟩ := rx
  obtain ⟨t', rfl⟩ := ry
  obtain ⟨j, h1, h2, h3, h4, h5⟩ := atI_get he
  have hl : z.cps.toList.length = z.length := by simp [Str.length]
  rw [hl] at h1 h4 h5
  have hn := line63
  exact tail_any (typeIs_str s z t) slot_str_getitem.lookup (getItem_str (c := c) (by
    have e1 : decide (i < -(2 ^ 63 : Int)) = false := decide_eq_false (by omega)
    have e2 : decide (i ≥ 2 ^ 63) = false := decide_eq_false (by omega)
    rw [e1, e2, Bool.or_false]) (by rw [h1]; simpa using h2) ⟨.str ⟨#[c]⟩, H, I.tok _, ⟨_, rfl⟩, q⟩) hs
theorem Inv.lst {pins : List (Addr × Obj)} {σ : St} {H : Hp} {s : Shared} {p : Addr} {xs : List V} (I : Inv X pins σ H s) (h : H p = some (.lst xs)) :
    ∃ (its : List Value) (n : Nat), Vals xs its ∧ s.heap.get? p = some { cls := .type "list", data := .seq its.toArray n } ∧ xs.length ≤ sizeLine := by
  obtain ⟨z, its, n, r, e⟩ := I.hok p _ h
  exact ⟨its, n, r, e, z⟩
def rSetL : V → V → V → Hp → (Hp → Prop) → Prop := fun o i v H Q => ∃ p xs k j, o = .ref p ∧ i = .int k ∧ H p = some (.lst xs) ∧ ixN xs.length k = some j ∧ Q (upd H p (.lst (xs.set j v)))
theorem slice_bounds (lo hi : Option Int) (n : Nat) : (sliceBounds lo hi none n).1 = ((HT.sIx n 0 lo : Nat) : Int) ∧ (sliceBounds lo hi none n).2.1 = ((HT.sIx n n hi : Nat) : Int) ∧ (sliceBounds lo hi none n).2.2 = 1 := by
  refine ⟨?_, ?_, rfl⟩
  · cases lo with
    | none => simp [sliceBounds, HT.sIx]
    | some i =>
      simp only [sliceBounds, HT.sIx, Option.getD_none, show (1 : Int) > 0 by decide, if_true]
      by_cases h : i < 0
      · simp only [h, if_true] <;> omega
      · simp only [h, if_false] <;> omega
  · cases hi with
    | none => simp [sliceBounds, HT.sIx]
    | some i =>
      simp only [sliceBounds, HT.sIx, Option.getD_none, show (1 : Int) > 0 by decide, if_true]
      by_cases h : i < 0
      · simp only [h, if_true] <;> omega
      · simp only [h, if_false] <;> omega
theorem slicePick_cut (its : List Value) (lo hi : Option Int) : slicePick its.toArray lo hi none = ((its.drop (HT.sIx its.length 0 lo)).take (HT.sIx its.length its.length hi - HT.sIx its.length 0 lo)).toArray := by
  obtain ⟨h1, h2, h3⟩ := slice_bounds lo hi its.toArray.size
  unfold slicePick
  rw [h1, h2, h3]
  simp only [sliceRange_one, pick_run, List.size_toArray] <;> rfl
def rSlL (K : PySem.W.Frag) : V → Option Int → Option Int → Hp → VK → Prop := fun x lo hi H Q => ∃ a xs, x = .ref a ∧ SqL K H a xs ∧ ∀ p, H p = none → Q (.ref p) (upd H p (.lst (cutV xs lo hi)))
theorem sl_list : SlR X (rSlL X.K) := by
  intro pins s σ H x v vl vu lo hi sl Q I rx hs pl pu h
  obtain ⟨a, xs, rfl, hx, q⟩ := h
  cases rx
  obtain ⟨its, r, ht, hz⟩ := I.list hx
  have hlen := r.length
  refine ⟨"list", _, slot_list_getitem.lookup, ht.isList.typeIs, ?_⟩
  refine wpAny_getItem_list_slice ht.isList hs pl pu .none (by simp) ?_ (by rw [List.size_toArray] <;> omega)
  rw [slicePick_cut, ← hlen]
  refine ⟨.ref s.heap.objs.size, _, I.laid (t' := s.toks) (o := .lst (cutV xs lo hi)) (fun b ob q => Heap.get?_push_of_some _ q) (Nat.le_refl _) ?_, rfl, q _ (I.hok.fresh (Nat.le_refl _))⟩
  exact ⟨Nat.le_trans (cutV_length xs lo hi) hz, _, 0, (r.drop (HT.sIx xs.length 0 lo)).take (HT.sIx xs.length xs.length hi - HT.sIx xs.length 0 lo), Heap.get?_push_size _ rfl⟩
theorem call_len_seq : CallR X (.builtin "len") (fun xs H Q => ∃ p ys, xs = [.ref p] ∧ (SqL X.K H p ys ∨ SqT X.K H p ys) ∧ Q (.int ys.length) H) := by
  intro pins s σ H xs us Q I r h
  obtain ⟨p, ys, rfl, hq, q⟩ := h
  obtain ⟨u, rfl, rx⟩ := vals1 r
  cases rx
  have hn := line63
  rcases hq with hq | hq
  · obtain ⟨its, r', pl, hz⟩ := I.list hq
    have hlen := r'.length
    exact Calls.call_len_list pl.isList (by simp only [List.size_toArray] <;> omega) ⟨.int ys.length, H, I.tok _, ⟨s.toks + 1, by rw [List.size_toArray, hlen]⟩, q⟩
  · obtain ⟨its, r', pl, hz⟩ := I.tuple hq
    have hlen := r'.length
    exact len_tuple pl (by simp only [List.size_toArray] <;> omega) ⟨.int ys.length, H, I.tok _, ⟨s.toks + 1, by rw [List.size_toArray, hlen]⟩, q⟩
theorem call_len_str : CallR X (.builtin "len") (fun xs H Q => ∃ z, xs = [.str z] ∧ z.length ≤ sizeLine ∧ Q (.int z.length) H) := by
  intro pins s σ H xs us Q I r h
  obtain ⟨z, rfl, hz, q⟩ := h
  obtain ⟨u, rfl, t, rfl⟩ := vals1 r
  have hn := line63
  exact len_str (by omega) ⟨.int z.length, H, I.tok _, ⟨_, rfl⟩, q⟩
theorem call_tuple_of : CallR X (.type "tuple") (fun xs H Q => ∃ p ys, xs = [.ref p] ∧ ((SqL X.K H p ys ∧ ∀ l, H l = none → Q (.ref l) (upd H l (.tup ys))) ∨ (SqT X.K H p ys ∧ Q (.ref p) H))) := by
  intro pins s σ H xs us Q I r h
  obtain ⟨p, ys, rfl, h⟩ := h
  obtain ⟨u, rfl, rx⟩ := vals1 r
  cases rx
  rcases h with ⟨hq, q⟩ | ⟨hq, q⟩
  · obtain ⟨its, r', pl, hz⟩ := I.list hq
    have hlen := r'.length
    refine call_tuple_list pl.isList (fun h' kp => ?_) (by simp only [List.size_toArray] <;> omega)
    have I1 : Inv X pins σ H { s with heap := h' } := I.kept (t' := s.toks) kp
    have I2 : Inv X pins σ (upd H h'.objs.size (.tup ys)) { s with heap := h'.push { cls := .type "tuple", data := .seq its.toArray } } :=
      I1.laid (t' := s.toks) (fun b o e => Heap.get?_push_of_some _ e) (Nat.le_refl _) (show ObjOk X.prog X.w _ _ _ (.tup ys) from ⟨hz, its, r', IsTup.new _ _⟩)
    exact ⟨.ref h'.objs.size, _, I2, rfl, q _ (I1.hok.fresh (Nat.le_refl _))⟩
  · obtain ⟨its, r', pl, hz⟩ := I.tuple hq
    exact call_tuple_same pl ⟨.ref p, H, I, rfl, q⟩
def tyV (K : PySem.W.Frag) (T : String) (x : V) (H : Hp) : Prop := match x with
  | .str _ => T = "str"
  | .int _ => T = "int"
  | .ref p => (T = "list" ∧ ∃ xs, SqL K H p xs) ∨ (T = "tuple" ∧ ∃ o, K.lookup p = some o ∧ o.cls = .type "tuple" ∧ o.dict = none) ∨
      (T = "dict" ∧ ((∃ kvs, H p = some (.dK kvs)) ∨ ∃ kvs, H p = some (.dT kvs))) ∨ (T = "set" ∧ ∃ S n, H p = some (.set S n))
  | _ => False
theorem tyV_is {pins : List (Addr × Obj)} {σ : St} {H : Hp} {s : Shared} {T : String} {x : V} {v : Value} (I : Inv X pins σ H s) (r : RelV x v) (ty : tyV X.K T x H) :
    s.TypeIs v T ∧ ∀ a, v = .ref a → ∃ ob, s.heap.get? a = some ob ∧ ob.dict = none := by
  cases x with
  | str z =>
    obtain ⟨t, rfl⟩ := r
    cases (show T = "str" from ty)
    exact ⟨typeIs_str s z t, fun _ e => nomatch e⟩
  | int i =>
    obtain ⟨t, rfl⟩ := r
    cases (show T = "int" from ty)
    exact ⟨typeIs_int s i t, fun _ e => nomatch e⟩
  | ref p =>
    cases r
    rcases ty with ⟨rfl, xs, hq⟩ | ⟨rfl, o, hk, hc, hd⟩ | ⟨rfl, hk⟩ | ⟨rfl, S, n, hk⟩
    · obtain ⟨its, _, pl, _⟩ := I.list hq
      refine ⟨pl.isList.typeIs, fun a e => ?_⟩
      cases e
      obtain ⟨o, n, e, c, hd, _⟩ := pl
      exact ⟨o, e, hd⟩
    · refine ⟨⟨o, I.kIn p o hk, hc⟩, fun a e => ?_⟩
      cases e
      exact ⟨o, I.kIn _ o hk, hd⟩
    · have z : ∃ o, s.heap.get? p = some o ∧ o.ExactDict := by
        rcases hk with ⟨kvs, hk⟩ | ⟨kvs, hk⟩
        · obtain ⟨_, _, _, _, o, _, _, e, ex, _⟩ := I.hok p _ hk
          exact ⟨o, e, ex⟩
        · obtain ⟨_, _, _, _, o, _, _, e, ex, _⟩ := I.hok p _ hk
          exact ⟨o, e, ex⟩
      obtain ⟨o, e, ex⟩ := z
      refine ⟨⟨o, e, ex.1⟩, fun a e2 => ?_⟩
      cases e2
      exact ⟨o, e, ex.2.1⟩
    · obtain ⟨o, _, _, _, e, ex, _⟩ := I.hok p _ hk
      refine ⟨⟨o, e, ex.1⟩, fun a e2 => ?_⟩
      cases e2
      exact ⟨o, e, ex.2.1⟩
  | _ => exact False.elim ty
def tBM0 (K : PySem.W.Frag) (T : String) (r : V → List V → Hp → VK → Prop) (to : TE) : TE := fun σ H Q => to σ H fun x H1 => tyV K T x H1 ∧ r x [] H1 Q
def tBM (K : PySem.W.Frag) (T : String) (r : V → List V → Hp → VK → Prop) (to : TE) (t : TA) : TE := fun σ H Q => to σ H fun x H1 => tyV K T x H1 ∧ t σ H1 fun xs H2 => r x xs H2 Q
variable {o e : Expr} {es : List Expr} {to : TE} {t : TA} {name : Str} {apos cpos : Pos} {T id : String} {r : V → List V → Hp → VK → Prop}
theorem pe_bm (pa : PlainAttrs T) (slot : Slot T name id) (hty : typeOf (.builtin id) = pure (.type "method_descriptor")) (hm : MtR X id r) (ho : PE X o to) (ha : PA X (e :: es) t)
    (hbase : attributeBase o name X.env (eval o X.env) = eval o X.env := by rfl)
    (hfew : ((backTo cpos (starEach (e :: es) X.env)).all (fun x => !x.1) && (backToKw cpos (keywordEach [] X.env)).all (fun x => x.1.isSome)
      && decide ((e :: es).length + ([] : List Keyword).length + (if ([] : List Keyword).isEmpty then 0 else 1) < 30)) = true := by rfl)
    (hline : (apos.endLine == cpos.line) = true := by rfl) (hs : starEach (e :: es) X.env = (false, eval e X.env) :: starEach es X.env := by rfl) (hplain : (backTo cpos (starEach es X.env)).any (·.1) = false := by rfl) :
    PE X (.Call (.Attribute o name apos) (e :: es) [] cpos) (tBM X.K T r to t) := by
  intro pins s σ H Q I h
  refine wpAny_Call_method_late hbase hfew hline rfl (thn (ho pins s σ H _ I h) fun v s1 ⟨x, H1, I1, r1, ty, q1⟩ => ?_)
  obtain ⟨h1, h2⟩ := tyV_is I1 r1 ty
  refine ⟨T, id, pa, slot, hty, h1, h2, ?_⟩
  have hA := ha cpos pins s1 σ H1 _ I1 q1
  rw [hs] at hA ⊢
  refine Calls.callWith_builtin (by show (false || (backTo cpos (starEach es X.env)).any (·.1)) = false; rw [hplain] <;> rfl) (Calls.evalArgs_plain ?_)
  exact thn hA fun us s2 ⟨vs, H2, I2, r2, q2⟩ => hm pins s2 σ H2 x vs v us Q I2 r1 r2 q2
end
end L2
namespace L2
open PySem PySem.Spec PyProof.Rows
def MtM (X : Cx) (id : String) (r : V → List V → Hp → VK → Prop) : Prop :=
  ∀ (pins : List (Addr × Obj)) (s : Shared) (σ : St) (H : Hp) (x : V) (xs : List V) (v : Value) (us : List Value) (Q : VK), Inv X pins σ H s → RelV x v → Vals xs us → r x xs H Q →
    wpAny (model X.prog X.w) X.A (call (.builtin id) (v :: us)) (EP X pins σ Q) X.xe s
theorem Vals.one : ∀ {x : V} {us : List Value}, Vals [x] us → ∃ u, us = [u] ∧ RelV x u
  | _, _, .cons r .nil => ⟨_, rfl, r⟩
theorem Vals.zero : ∀ {us : List Value}, Vals [] us → us = []
  | _, .nil => rfl
section
variable {X : Cx} {pins : List (Addr × Obj)} {σ : St} {H : Hp} {s : Shared} {l b : Addr} {xs ys zs : List V}
theorem Inv.lset {its its' : List Value} {n : Nat} {f : Array Value → Array Value} {t' : Nat} (I : Inv X pins σ H s) (hH : H l = some (.lst xs))
    (e : s.heap.get? l = some { cls := .type "list", data := .seq its.toArray n }) (hf : f its.toArray = its'.toArray) (hv : Vals ys its') (hz : ys.length ≤ sizeLine) :
    Inv X pins σ (upd H l (.lst ys)) { s with heap := s.heap.update l (Obj.mapSeq f), toks := t' } := by
  have q := PySem.IsL.update e f
  rw [hf] at q
  refine I.write (x := l) (e := l) (by rw [hH]; exact trivial) (.inl rfl) (fun b' u hb hu => (Heap.get?_update_other s.heap (Obj.mapSeq f) (Ne.symm hb)).trans hu) ⟨_, q⟩ ?_
  exact ⟨hz, its', _, hv, q⟩
theorem Inv.lnew {its : List Value} {t' : Nat} (I : Inv X pins σ H s) (hv : Vals ys its) (hz : ys.length ≤ sizeLine) :
    Inv X pins σ (upd H s.heap.objs.size (.lst ys)) { s with heap := s.heap.push { cls := .type "list", data := .seq its.toArray }, toks := t' } :=
  I.laid (fun _ _ q => Heap.get?_push_of_some _ q) (Nat.le_refl _) ⟨hz, its, 0, hv, Heap.get?_push_size _ rfl⟩
theorem Inv.fresh (I : Inv X pins σ H s) : H s.heap.objs.size = none := I.hok.fresh (Nat.le_refl _)
theorem Inv.lstM (I : Inv X pins σ H s) (hH : H l = some (.lst xs)) : xs.length ≤ sizeLine ∧ ∃ (its : List Value) (n : Nat), Vals xs its ∧ xs.length = its.length ∧ s.heap.get? l = some { cls := .type "list", data := .seq its.toArray n } := by
  obtain ⟨z, its, n, r, e⟩ := I.hok l _ hH
  exact ⟨z, its, n, r, r.length, e⟩
end
section
variable {X : Cx}
def rAppend : V → List V → Hp → VK → Prop := fun x vs H Q => ∃ l xs y, x = .ref l ∧ vs = [y] ∧ H l = some (.lst xs) ∧ xs.length < sizeLine ∧ Q .non (upd H l (.lst (xs ++ [y])))
theorem mt_append : MtM X "list.append" rAppend := by
  intro pins s σ H x vs v us Q I rx rv h
  obtain ⟨l, xs, y, rfl, rfl, hH, hz, q⟩ := h
  cases rx
  obtain ⟨u, rfl, ru⟩ := rv.one
  obtain ⟨z, its, n, r, hl, e⟩ := I.lstM hH
  refine call_meets F.slot_list_append ⟨_, e, rfl⟩ F.entry_list_append (F.args_list_append_2 _ _) (PySem.list_append l its.toArray n u (by rw [List.size_toArray]; omega)) ⟨e, ?_⟩
  refine ⟨.non, _, I.lset (its' := its ++ [u]) hH e (by simp) (r.append (.cons ru .nil)) ?_, rfl, q⟩
  rw [List.length_append, List.length_singleton]
  omega
def rExtend : V → List V → Hp → VK → Prop := fun x vs H Q => ∃ l b xs zs, x = .ref l ∧ vs = [.ref b] ∧ H l = some (.lst xs) ∧ H b = some (.lst zs) ∧ xs.length + zs.length ≤ sizeLine ∧ Q .non (upd H l (.lst (xs ++ zs)))
end
section
variable {prog : Program} {w : World} {A : Around} {E : Value → Shared → Prop} {s : Shared}
set_option maxRecDepth 100000 in
end
section
variable {X : Cx}
end
end L2
namespace Att
open PySem PySem.W PySem.Calls PyProof.Rows
theorem ints_of_wellAll {P : Params} {h : Heap} : ∀ (ns : List Int) (vs : List Value), WellAll P h vs (ns.map WData.int) → IntsAre vs ns := by
  intro ns
  induction ns with
  | nil =>
    intro vs w
    rw [List.map_nil] at w
    cases w
    exact .nil
  | cons n ns ih =>
    intro vs w
    rw [List.map_cons] at w
    cases w with
    | cons a b =>
      cases a
      exact .cons _ _ (ih _ b)
theorem script_of {l : OpenLaw} {n : Nat} (hn : l.most = some n) {P : Params} {h : Heap} {args : List WData} {vals : List Value}
    (hpre : l.row.toRowW.claim.pre args = true) (hwl : WellAll P h vals args) :
    ∃ a vs ns, vals = [Value.ref a] ∧ args = [WData.list (ns.map WData.int)] ∧ h.get? a = some { cls := .type "list", data := .seq vs.toArray } ∧ IntsAre vs ns ∧ ns.length ≤ n := by
  have hsh : WShape.hasAll [] args [.list .int] = true := (pre_splitW hpre).1
  have hc : l.pre.holds [] { args := args } = true := (pre_splitW hpre).2
  obtain ⟨d, r, rfl, h1, h2⟩ := hasAllW_cons hsh
  obtain rfl := hasAllW_nil h2
  obtain ⟨xs, rfl, h3⟩ := hasW_list h1
  obtain ⟨ns, rfl⟩ := items_int h3
  have hlen : ns.length ≤ n := by
    unfold OpenLaw.pre at hc
    have h4 : (WTm.not (.lt (.lit (.int (n : Int))) (.len (.arg 0)))).holds [] { args := [.list (ns.map .int)] } = true := by
      have h4 := (holds_andW hc).1
      rw [hn] at h4
      exact h4
    have h5 := condW_of h4 (w_not (w_lt w_lit (w_len_list (w_arg rfl))))
    rw [List.length_map] at h5
    refine Nat.le_of_not_lt fun q => ?_
    have q' : (n : Int) < ((ns.length : Nat) : Int) := by omega
    first
      | (rw [decide_eq_true q'] at h5; exact absurd h5 (by decide))
      | (simp at h5; omega)
  cases hwl with
  | cons w1 w2 =>
    cases w2
    cases w1 with
    | list ho hall => exact ⟨_, _, ns, rfl, rfl, ho, ints_of_wellAll ns _ hall, hlen⟩
theorem post_true (l : OpenLaw) (args : List WData) : l.row.toRowW.claim.post args (.bool true) args = true :=
  postW_of (r := l.row.toRowW) (X := (true == true))
    (show WShape.has [] (.bool true) .bool = true by first | rfl | decide | simp [WShape.has, WShape.arms, WShape.armsAll])
    (show (WTm.eq .res (.lit (.bool true))).value [] { args := args, res := some (.bool true), after := args } = some (.bool (true == true)) from w_eq_bool (w_res rfl) w_lit) rfl
theorem attach_call {l : OpenLaw} {n : Nat} {q : Program} {loose : List Str} {XP : (Str → Option Value) → Heap → Prop} {YP : World → Heap → Prop} {d : DefRec}
    (hn : l.most = some n) (hdf : d.params.defaults = [])
    (call : ∀ (w : World) (s₀ s₁ : Shared) (mg mb : Str → Option Value) (fa : Addr) (o : Obj) (pm cd doc : Value) (a : Addr) (vs : List Value) (ns : List Int),
      Ground q loose [] XP w s₀ mg mb s₁.heap → YP w s₁.heap →
      s₁.heap.get? fa = some o → o.data = .func (docDef d.name d.params d.body d.scope pm cd doc) → s₁.heap.CodeRec cd d.name → mg d.name = some (.ref fa) →
      s₁.heap.get? a = some { cls := .type "list", data := .seq vs.toArray } → IntsAre vs ns → ns.length ≤ n → s₁.gens = #[] →
      codeAny (model l.prog w) callerA (.call (.ref fa) ⟨[.ref a], []⟩) (fun r s' => r = .ok (.ret (.bool true)) ∧ OldK s₁.heap s'.heap ∧ s'.os = s₁.os ∧ AllBare s'.gens) s₁) :
    WalkO q loose XP YP l.row.toRowW d [] (fun f vs => PySem.call f vs) := by
  intro w s₀ s₁ mg mb G Y fa o pm cd doc dV kV ho hd hcd hD hmg hg args vals as hpre hlay hrd hwl hlo
  obtain rfl : dV = .none := Dflts.none hD hdf
  obtain rfl : kV = .none := Dflts.noKw hD
  obtain ⟨a, vs, ns, rfl, rfl, hobj, hints, hlen⟩ := script_of hn hpre hwl
  refine enter_call (codeAny_mono (call w s₀ s₁ mg mb fa o pm cd doc a vs ns G Y ho (fd_plain hd) hcd hmg hobj hints hlen hg) fun r s' hq => ?_)
  obtain ⟨rfl, h2, h3, h4⟩ := hq
  exact ⟨.inl ⟨.bool true, .bool true, [], rfl, fun _ => rfl, .bool true, post_true l _, fun _ => ⟨List.Pairwise.nil, fun _ hm => (nomatch hm)⟩⟩, h2, h3, h4⟩
section
variable {prog : Program} {w : World} {A : Around} {E : Value → Shared → Prop} {s : Shared} {K : Frag}
end
end Att
namespace L2
open PySem PySem.Spec PyProof.Rows
theorem vals_ints : ∀ {vs : List Value} {ns : List Int}, IntsAre vs ns → Vals (ns.map V.int) vs
  | _, _, .nil => .nil
  | _, _, .cons n t h => .cons ⟨t, rfl⟩ (vals_ints h)
def Only (H : Hp) : Prop := ∀ b, H b = none ∨ ∃ o xs, H b = some (.frz o (.lst xs))
theorem law_call {P : Program} {w : World} {K : PySem.W.Frag} {mg mb : Str → Option Value} {CX : CXT} {k : Nat} {fa a : Addr} {fd : FuncData} {x : Str} {sp : Sp} {s₁ : Shared} {vs : List Value} {ns : List Int}
    (KX : K.In s₁.heap) (hns : s₁.heap.Ns mainGlobals mg) (hb : s₁.heap.Ns builtinsNs mb) (hbb : ∀ x : Str, x ≠ "__name__" → mb x = bootBuiltins x) (hlim : s₁.heap.NoLimit) (hg : s₁.gens = #[])
    (ha : s₁.heap.get? a = some { cls := .type "list", data := .seq vs.toArray }) (hi : IntsAre vs ns) (hl : ns.length ≤ sizeLine) (hr : Room k callerA)
    (F : ∀ base : Heap, K.In base → base.Ns mainGlobals mg → FnOk P w K mg base CX k fa fd [x] sp) (hbind : ∀ (s : Shared) (u : Value), BindsTo s fd ⟨[u], []⟩ [(x, u)])
    (hsp : ∀ H : Hp, Only H → SqL K H a (ns.map V.int) → sp [.ref a] H (fun v _ => v = .bl true) fun _ _ _ => False)
    (hCX : ∀ H e s', CX [] H s₁ (fun _ _ _ => False) e s' → False) :
    codeAny (model P w) callerA (.call (.ref fa) ⟨[.ref a], []⟩) (fun r s' => r = .ok (.ret (.bool true)) ∧ OldK s₁.heap s'.heap ∧ s'.os = s₁.os ∧ AllBare s'.gens) s₁ := by
  have rv := vals_ints hi
  have lenV := hi.length
  have core : ∀ H : Hp, Only H → SqL K H a (ns.map V.int) → HOk P w H s₁.heap → (∀ b, H b ≠ none → b = a) → (H a ≠ none → K.lookup a = none) →
      codeAny (model P w) callerA (.call (.ref fa) ⟨[.ref a], []⟩) (fun r s' => r = .ok (.ret (.bool true)) ∧ OldK s₁.heap s'.heap ∧ s'.os = s₁.os ∧ AllBare s'.gens) s₁ := by
    intro H hO hS hok hA hK
    have base_of : ∀ {b : Addr} {o : Obj}, s₁.heap.get? b = some o → H b = none → (hidT s₁.heap H).get? b = some o := fun e n => hidT_get e n
    have noA : ∀ {b : Addr} {o : Obj} {es : Array DictEntry} {ep : Nat}, s₁.heap.get? b = some o → o.data = .dict es ep → H b = none := fun {b o es ep} e d => by
      cases q : H b with
      | none => rfl
      | some u =>
        have e' : b = a := hA b (by rw [q]; simp)
        subst e'
        rw [ha] at e; cases e
        have d' : Data.seq vs.toArray _ = Data.dict es ep := d
        cases d'
    have nsK : ∀ {b : Addr} {m : Str → Option Value}, s₁.heap.Ns b m → (hidT s₁.heap H).Ns b m := fun {b m} ⟨o, es, ep, e, d, r⟩ => ⟨o, es, ep, base_of e (noA e d), d, r⟩
    have hKb : K.In (hidT s₁.heap H) := fun b o e => base_of (KX b o e) (by
      cases q : H b with
      | none => rfl
      | some u =>
        have e' : b = a := hA b (by rw [q]; simp)
        subst e'
        rw [hK (by rw [q]; simp)] at e; cases e)
    have hM : Mod K mg (hidT s₁.heap H) := ⟨hKb, nsK hns, ⟨mb, nsK hb, hbb⟩, let ⟨mc, h1, h2⟩ := hlim; ⟨mc, nsK h1, h2⟩⟩
    have e0 : Env0 P w K mg (hidT s₁.heap H) callerA [] s₁ H := ⟨rfl, hM, fun b o e => of_hidT e, Nat.le_of_eq (hidT_size _ _), trivial, fun b hb => absurd (show b ∈ ([] : List Addr) from hb) (by simp), hok, .of_eq hg⟩
    refine codeAny_mono ((F _ hKb (nsK hns)).run callerA [] s₁ H ⟨[.ref a], []⟩ [.ref a] [.ref a] _ _ hr e0 (hbind s₁ (.ref a)) (.cons rfl .nil) (hsp H hO hS)) fun r s' h => ?_
    cases r with
    | error e => exact (hCX H e s' h).elim
    | ok fl =>
      cases fl with
      | next => exact False.elim h
      | brk => exact False.elim h
      | cont => exact False.elim h
      | ret u =>
        obtain ⟨v, H', os, bare, un, hok', r', q⟩ := h
        have q' : v = .bl true := q
        subst q'
        obtain rfl : u = Value.bool true := r'
        refine ⟨rfl, OldK.of_keep fun b o e => ?_, os, bare⟩
        cases q : H b with
        | none => exact un.keep b o e q (by intro z; exact absurd (show b ∈ ([] : List Addr) from z) (by simp)) (by simp)
        | some u =>
          rcases hO b with z | ⟨ob, xs, z⟩
          · rw [q] at z; cases z
          · have z2 := un.frzs b ob _ z
            obtain ⟨e1, _⟩ := hok b _ z
            obtain ⟨e2, _⟩ := hok' b _ z2
            rw [e] at e1; cases e1
            exact e2
  cases hk : K.lookup a with
  | some o =>
    have e := KX a o hk
    rw [ha] at e
    cases e
    refine core (fun _ => none) (fun _ => .inl rfl) (.inr ⟨_, vs.toArray, _, hk, rfl, rfl, rfl, by rw [List.size_toArray, lenV]; exact hl, by simpa using rv⟩) (fun b u z => by have z' : (none : Option HO) = some u := z; cases z') (fun b z => absurd rfl z) fun z => absurd rfl z
  | none =>
    refine core (fun b => if b = a then some (.frz { cls := .type "list", data := .seq vs.toArray } (.lst (ns.map V.int))) else none) (fun b => ?_) (.inl (.inr ⟨{ cls := .type "list", data := .seq vs.toArray }, if_pos rfl⟩)) (fun b u z => ?_) (fun b z => ?_) fun _ => hk
    · by_cases hb : b = a
      · exact .inr ⟨_, _, if_pos hb⟩
      · exact .inl (if_neg hb)
    · by_cases hb : b = a
      · have z' := (if_pos hb).symm.trans z
        cases z'
        subst hb
        exact ⟨ha, by rw [List.length_map]; exact hl, vs, _, rv, ha⟩
      · have z' := (if_neg hb).symm.trans z
        cases z'
    · by_cases hb : b = a
      · exact hb
      · exact absurd (if_neg hb) z
end L2
namespace L2
open PySem PySem.Spec PyProof.Rows
abbrev KOf {K : PySem.W.Frag} {h : Heap} (_ : K.In h) : PySem.W.Frag := K
theorem walk_of {l : PySem.W.OpenLaw} {n k : Nat} {q : Program} {loose : List Str} {XP : (Str → Option Value) → Heap → Prop} {YP : World → Heap → Prop} {d : DefRec} {K : Params → PySem.W.Frag} {CX : World → CXT} {sp : World → Sp} {x : Str}
    (hn : l.most = some n) (hn2 : n ≤ sizeLine) (hdf : d.params.defaults = []) (hr : Room k callerA)
    (hY : ∀ (w : World) (h : Heap), YP w h → (K w.params).In h)
    (F : ∀ (w : World) (mg : Str → Option Value) (fa : Addr) (h : Heap), (K w.params).In h → h.Ns mainGlobals mg → mg d.name = some (.ref fa) →
      ∃ fd : FuncData, (∀ (s : Shared) (u : Value), BindsTo s fd ⟨[u], []⟩ [(x, u)]) ∧
        ∀ base : Heap, (K w.params).In base → base.Ns mainGlobals mg → FnOk l.prog w (K w.params) mg base (CX w) k fa fd [x] (sp w))
    (hsp : ∀ (w : World) (H : Hp) (a : Addr) (ns : List Int), ns.length ≤ n → Only H → SqL (K w.params) H a (ns.map V.int) → sp w [.ref a] H (fun v _ => v = .bl true) fun _ _ _ => False)
    (hCX : ∀ (w : World) (H : Hp) (s : Shared) (e : Value) (s' : Shared), CX w [] H s (fun _ _ _ => False) e s' → False) :
    PySem.W.WalkO q loose XP YP l.row.toRowW d [] (fun f vs => PySem.call f vs) := by
  refine Att.attach_call hn hdf fun w s₀ s₁ mg mb fa o pm cd doc a vs ns G Y ho hd hcd hmg hobj hints hlen hg => ?_
  have KX := hY w _ Y
  obtain ⟨fd, hb, hF⟩ := F w mg fa _ KX G.T.g hmg
  exact law_call KX G.T.g G.T.b G.T.builtins G.T.nolimit hg hobj hints (Nat.le_trans hlen hn2) hr hF hb (fun H hO hS => hsp w H a ns hlen hO hS) fun H e s' => hCX w H s₁ e s'
end L2
namespace L2
open PySem PySem.Spec PyProof.Rows
def inClass (s : Stmt) (j : Nat) : Stmt := match s with
  | .ClassDef _ _ _ body _ _ _ _ _ _ _ => body.getD j (.Pass ⟨0, 0, 0, 0⟩)
  | _ => .Pass ⟨0, 0, 0, 0⟩
def defArgs (s : Stmt) : Arguments := match s with
  | .FunctionDef _ a _ _ _ _ _ _ _ _ => a
  | _ => { posonlyargs := [], args := [], vararg := none, kwonlyargs := [], kw_defaults := [], kwarg := none, defaults := [] }
def defBody (s : Stmt) : List Stmt := match s with
  | .FunctionDef _ _ b _ _ _ _ _ _ _ => b
  | _ => []
def defScope (s : Stmt) : Scope := match s with
  | .FunctionDef _ _ _ _ _ _ sc _ _ _ => sc
  | _ => { kind := .function, names := [], isGenerator := false, isCoroutine := false }
abbrev CX0 : CXT := fun _ _ _ _ _ _ => False
abbrev E0 : XK := fun _ _ _ => False
theorem pass0 {X : Cx} : Passes CX0 X E0 := fun _ _ _ _ _ _ _ h => h.elim
structure Fun (K : PySem.W.Frag) (x qual : Str) (st : Stmt) (f : Addr) (fd : FuncData) : Prop where
  ex : ∃ (oc : Value) (od : Option Addr) (kV doc pm : Value) (an : Option Addr) (cdv ct : Value) (osl : Array (Option Value)),
    fd = PySem.W.fnOf x qual (defArgs st) (defBody st) (defScope st) .none kV doc pm an cdv ct ∧ K.lookup f = some ⟨oc, od, .func fd, osl⟩ ∧ PySem.W.codeIn K cdv qual = true
  kp : PySem.W.keepIn K (.ref f) = true
section
variable {P : Program} {w : World} {K : PySem.W.Frag} {mg : Str → Option Value} {base : Heap}
theorem Fun.ok {x qual : Str} {st : Stmt} {f : Addr} {fd : FuncData} {N ps : List Str} {k : Nat} {sp : Sp} (F : Fun K x qual st f fd) (S : FnScope N ps (defScope st)) (len : ∀ vs H Q E, sp vs H Q E → vs.length = ps.length)
    (hbody : ∀ (cdv : Value) (A : Around) (outer : List Env) (s : Shared) (H : Hp) (vs : List V) (Q : VK) (E : XK), Room k (A.deeper (envOfC qual (defScope st) s.heap.objs.size f cdv)) → sp vs H Q E →
      ∃ t, PSs (cxOf CX0 P w K mg base N qual (defScope st) f cdv A outer s H E).nox (defBody st) t ∧ t { nx := fun _ H' => Q .non H', rt := Q } (start N vs) H) : FnOk P w K mg base CX0 (k + 1) f fd ps sp := by
  obtain ⟨oc, od, kV, doc, pm, an, cdv, ct, osl, rfl, lk, hcd⟩ := F.ex
  refine fn_of lk hcd S len fun A outer s H vs Q E hr hsp => ?_
  obtain ⟨t, h, q⟩ := hbody cdv A outer s H vs Q E hr hsp
  exact ⟨t, h.nox, q⟩
theorem Fun.binds {x qual : Str} {st : Stmt} {f : Addr} {fd : FuncData} {ps : List Str} (F : Fun K x qual st f fd)
    (h : ∀ (kV doc pm : Value) (an : Option Addr) (cdv ct : Value) (us : List Value), us.length = ps.length → bindArgs (PySem.W.fnOf x qual (defArgs st) (defBody st) (defScope st) .none kV doc pm an cdv ct) ⟨us, []⟩ = pure (ps.zip us)) : Binds K fd ps [] := by
  obtain ⟨oc, od, kV, doc, pm, an, cdv, ct, osl, rfl, lk, hcd⟩ := F.ex
  exact .all (h kV doc pm an cdv ct)
theorem fun_mk {x qual : Str} {st : Stmt} {f : Addr} {oc : Value} {od an : Option Addr} {osl : Array (Option Value)} {kV doc pm cdv ct : Value} (l : K.lookup f = some ⟨oc, od, .func (PySem.W.fnOf x qual (defArgs st) (defBody st) (defScope st) .none kV doc pm an cdv ct), osl⟩)
    (c : PySem.W.codeIn K cdv qual = true) (k : PySem.W.keepIn K (.ref f) = true) : Fun K x qual st f (PySem.W.fnOf x qual (defArgs st) (defBody st) (defScope st) .none kV doc pm an cdv ct) := ⟨⟨oc, od, kV, doc, pm, an, cdv, ct, osl, rfl, l, c⟩, k⟩
end
theorem small1000 {n : Nat} (h : n ≤ 1000) : n < sizeLine := Nat.lt_of_le_of_lt h (by decide)
section
variable {X : Cx}
theorem pv (i : Nat) {x : Str} {pos : Pos} (hN : X.N[i]? = some x := by rfl) (hv : Vis X.env.scope x := by first | exact Or.inl rfl | exact Or.inr (Or.inl rfl) | exact Or.inr (Or.inr rfl)) (hd : (x == ("__debug__" : Str)) = false := by decide)
    (hcd : (x == ("__classdict__" : Str)) = false := by decide) : PE X (.Name x pos) (tVar i) := pe_var hN hv hd hcd
end
theorem iteF {A B : Prop} (h : B) : if false = true then A else B := by
  rw [if_neg Bool.false_ne_true]
  exact h
theorem iteT {A B : Prop} (h : A) : if true = true then A else B := by
  rw [if_pos rfl]
  exact h
theorem ite2 {c A B : Prop} [Decidable c] (h1 : c → A) (h2 : ¬ c → B) : if c then A else B := by
  by_cases h : c
  · rw [if_pos h]
    exact h1 h
  · rw [if_neg h]
    exact h2 h
def Same (H H' : Hp) : Prop := ∀ b o, H b = some o → H' b = some o
theorem Same.refl (H : Hp) : Same H H := fun _ _ h => h
theorem Same.trans {H H1 H2 : Hp} (a : Same H H1) (b : Same H1 H2) : Same H H2 := fun c o h => b c o (a c o h)
theorem Same.free {H H' : Hp} (e : Same H H') {l : Addr} (h : H' l = Option.none) : H l = Option.none := by
  cases q : H l with
  | none => rfl
  | some o =>
    rw [e l o q] at h
    cases h
theorem Same.seq {K : PySem.W.Frag} {H H' : Hp} {a : Addr} {xs : List V} (e : Same H H') (h : SqL K H a xs) : SqL K H' a xs := by
  rcases h with (h | ⟨o, h⟩) | h
  · exact .inl (.inl (e _ _ h))
  · exact .inl (.inr ⟨o, e _ _ h⟩)
  · exact .inr h
end L2
namespace L2
open PySem PySem.Spec PyProof.Rows
section
variable {P : Program} {w : World} {H : Hp} {h : Heap} {a : Addr} {o : HO}
theorem HOk.track (x : HOk P w H h) (hn : H a = none) (new : ObjOk P w (upd H a o) h a o) : HOk P w (upd H a o) h := fun b u e => by
  by_cases hb : b = a
  · subst hb; rw [upd_same] at e; cases e; exact new
  · rw [upd_ne hb] at e
    exact (x b u e).stay (fun c v _ q => q) (fun c q => by rw [upd_ne (ne_of_none q hn)]; exact q) fun c xs q => by rw [upd_ne (ne_of_none q hn)]; exact q
end
def Its (x : Str) : It := ⟨fun i _ => i < x.cps.size, fun i H v H' => H' = H ∧ ∃ c, x.cps[i]? = some c ∧ v = .str ⟨#[c]⟩, fun i _ => i = x.cps.size⟩
theorem walks_str {prog : Program} {w : World} {A : Around} (hh : A.handled = none) (I : Addr) (x : Str) (t : Tok) : Walks prog w A I [I] [I] x.cps.size (SignAt x) (fun i h => h.IsStrIter I (strIterType x) x t i) := by
  cases ha : x.cps.all (· < 128)
  · have e : strIterType x = "str_iterator" := by simp [strIterType, ha]
    rw [e]; exact Walks.strWide hh I x t
  · have e : strIterType x = "str_ascii_iterator" := by simp [strIterType, ha]
    rw [e]; exact Walks.strAscii hh I x t
theorem turn_str {P : Program} {w : World} {K : PySem.W.Frag} {tg : Expr} (it : Addr) (x : Str) (t : Tok) : Turn P w K tg (Its x) [it] it (fun i h => h.IsStrIter it (strIterType x) x t i) where
  mem := by simp
  obj := fun i h st b hb => by
    have e : b = it := by simpa using hb
    subst e
    obtain ⟨o, ho, _, hd⟩ := st
    exact ⟨o, ho, fun v q => by rw [hd] at q; cases q⟩
  keep := fun i h h' st k => by
    obtain ⟨o, ho, r⟩ := st
    exact ⟨o, k it (by simp) o ho, r⟩
  item := by
    intro X hP hw hK hc i pins s σ H E I hf st hg
    subst hP hw hK
    obtain ⟨f0, f1, f2, f3, f4, f5⟩ := hf it (by simp)
    refine (walks_str (I.ok.hd hc) it x t).item i s _ _ hg st fun v h' tk hv st' kk => ?_
    obtain ⟨c, u, hx, rfl⟩ := hv
    have I1 : Inv X pins σ H { s with heap := h', toks := tk } := I.turned (fun b o hb e => kk b o (by simpa using hb) e) f0 f1 f3 f4 f5
    obtain ⟨o, ho, hcl, hd⟩ := id st'
    refine ⟨_, rfl, go_of (s := { s with heap := h', toks := tk }) (n := strIterType x) ho hcl hd ?_ ⟨.str ⟨#[c]⟩, H, I1, ⟨u, rfl⟩, ⟨rfl, c, hx, rfl⟩, st', fun b hb => (hf b hb).1⟩⟩
    unfold strIterType; split <;> decide
  done := by
    intro X hP hw hK hc i pins s σ H E I hf st hg
    subst hP hw hK
    obtain ⟨f0, f1, f2, f3, f4, f5⟩ := hf it (by simp)
    have hg' : i = x.cps.size := hg
    subst hg'
    exact (walks_str (I.ok.hd hc) it x t).done s _ _ st fun h' tk kk => ⟨rfl, I.turned (fun b o hb e => kk b o (by simpa using hb) e) f0 f1 f3 f4 f5⟩
  self := fun A i s Q E st h => by
    cases ha : x.cps.all (· < 128)
    · have e : strIterType x = "str_iterator" := by simp [strIterType, ha]
      rw [e] at st; exact wpAny_pyIter_striter_wide st h
    · have e : strIterType x = "str_ascii_iterator" := by simp [strIterType, ha]
      rw [e] at st; exact wpAny_pyIter_striter_ascii st h
def iStr (tl : TE) : TI := fun σ H R => tl σ H fun x H1 => ∃ z, x = .str z ∧ R (Its z) H1
theorem pi_str {X : Cx} {tg l : Expr} {tl : TE} (hl : PE X l tl) : PI X tg l (iStr tl) := by
  intro pins s σ H R I h
  refine thn (hl pins s σ H _ I h) fun v s1 ⟨x, H1, I1, r1, q1⟩ => ?_
  obtain ⟨z, e, q⟩ := q1
  subst e
  obtain ⟨t, rfl⟩ := r1
  refine wpAny_pyIter_strU ?_
  refine ⟨s1.heap.objs.size, [s1.heap.objs.size], _, _, H1, rfl, I1.kept (t' := s1.toks) fun b o e => Heap.get?_push_of_some _ e, turn_str _ z t, ⟨_, Heap.get?_push_size _ rfl, rfl, rfl⟩, fun b hb => ?_, q⟩
  have e : b = s1.heap.objs.size := by simpa using hb
  subst e
  exact I1.fpOk (Nat.le_refl _) (I1.hok.fresh (Nat.le_refl _))
section
variable {prog : Program} {w : World} {A : Around} {R : Result → Shared → Prop} {s : Shared}
theorem compLoop_go {elt target iter : Expr} {ifs : List Expr} {scope : Scope} {pos : Pos} {it acc : Value} {env : Env} (I : Nat → Shared → Prop)
    (turn : ∀ n s, I n s → wpAny (model prog w) A (pyNext it) (fun r s₁ => match r with
      | none => R (.ok .next) s₁
      | some v => wpAny (model prog w) A (letOwnedTupleGo target it v) (fun _ s₁' => wpAny (model prog w) A (assign target env v) (fun _ s₂ =>
          wpAny (model prog w) A (forIn ifs true fun c r => if r = true then do let ok ← isTrue c env (eval c env); pure (ForInStep.yield ok) else pure (ForInStep.yield r)) (fun ok s₃ =>
            if ok = true then wpAny (model prog w) A (eval elt env) (fun x s₄ =>
              wpAny (model prog w) A (call (.builtin "list.append") [acc, x]) (fun _ s₅ => ∃ m, m < n ∧ I m s₅) (fun _ _ => False) s₄) (fun _ _ => False) s₃
            else ∃ m, m < n ∧ I m s₃) (fun _ _ => False) s₂) (fun _ _ => False) s₁') (fun _ _ => False) s₁) (fun _ _ => False) s)
    (n : Nat) (h : I n s) :
    codeAny (model prog w) A (.compLoop (.ListComp elt [⟨target, iter, ifs, 0⟩] scope pos) 0 it acc env) R s := by
  refine codeAny_loop rfl I (fun n s hI => ?_) n h
  show wpAny _ A ((compTurn (.ListComp elt [⟨target, iter, ifs, 0⟩] scope pos) 0 it acc env).onRaise (fun x => do noteFrame x env; theTreesLotGoes x)) _ _ s
  refine wpAny_noted ?_
  rw [compTurn_list]
  refine wpAny_bind (wpAny_standAt (wpAny_bind (wpAny_mono (turn n s hI) (fun r s₁ h₁ => ?_) fun _ _ h' => h'.elim)))
  cases r with
  | none => exact wpAny_pure h₁
  | some v =>
    refine wpAny_bind (wpAny_mono h₁ (fun _ s₁' h₁' => wpAny_bind (wpAny_mono h₁' (fun _ s₂ h₂ => wpAny_bind (wpAny_mono h₂ (fun ok s₃ h₃ => ?_) fun _ _ h' => h'.elim)) fun _ _ h' => h'.elim)) fun _ _ h' => h'.elim)
    cases ok with
    | false => exact wpAny_pure ⟨rfl, h₃⟩
    | true =>
      exact wpAny_bind (wpAny_bind (wpAny_mono h₃ (fun x s₄ h₄ => wpAny_bind (wpAny_mono h₄ (fun _ s₅ h₅ => wpAny_pure (wpAny_pure ⟨rfl, h₅⟩)) fun _ _ h' => h'.elim)) fun _ _ h' => h'.elim))
end
def clos (env : Env) : List (Str × NameKind) → List (Str × Addr) → List (Str × Addr)
  | [], acc => acc
  | (n, k) :: r, acc => clos env r (if k == .free then (n, (env.cells.lookup n).getD 0) :: acc else acc)
theorem closureFor_clos {scope : Scope} {env : Env} (h : ∀ y ∈ scope.names, y.2 = .free → ∃ c, env.cells.lookup y.1 = some c) : closureFor scope env = pure (clos env scope.names []) := by
  simp only [closureFor]
  suffices hh : ∀ (l : List (Str × NameKind)) (acc : List (Str × Addr)), (∀ y ∈ l, y.2 = .free → ∃ c, env.cells.lookup y.1 = some c) →
      (forIn l acc fun x r => if (x.2 == NameKind.free) = true then do let a ← cellOf env x.1; pure (ForInStep.yield ((x.1, a) :: r)) else pure (ForInStep.yield r) : Sem (List (Str × Addr))) = pure (clos env l acc) by
    have := hh scope.names [] h
    simp only [bind_pure]
    exact this
  intro l
  induction l with
  | nil => intro acc _; rfl
  | cons y r ih =>
    intro acc hy
    obtain ⟨n, k⟩ := y
    rw [List.forIn_cons]
    cases hk : (k == NameKind.free) with
    | true =>
      obtain ⟨c, hc⟩ := hy (n, k) List.mem_cons_self (by simpa using hk)
      have e1 : cellOf env n = pure c := by unfold cellOf; rw [hc]
      simp only [hk, if_true, e1, pure_bind]
      rw [ih _ fun z hz => hy z (List.mem_cons_of_mem _ hz)]
      simp only [clos, hk, if_true, hc, Option.getD_some]
    | false =>
      simp only [hk, Bool.false_eq_true, if_false, pure_bind]
      rw [ih _ fun z hz => hy z (List.mem_cons_of_mem _ hz)]
      simp only [clos, hk, Bool.false_eq_true, if_false]
theorem clos_val {env : Env} {x : Str} {c : Addr} : ∀ {l : List (Str × NameKind)} {acc : List (Str × Addr)}, (∀ y ∈ l, y.2 = .free → ∃ c, env.cells.lookup y.1 = some c) → (acc.lookup x = some c → env.cells.lookup x = some c) → (clos env l acc).lookup x = some c → env.cells.lookup x = some c
  | [], _, _, ha, e => ha e
  | (n, k) :: r, acc, hl, ha, e => by
    refine clos_val (l := r) (fun z hz => hl z (List.mem_cons_of_mem _ hz)) (fun q => ?_) e
    cases hk : (k == NameKind.free) with
    | false => rw [hk] at q; exact ha q
    | true =>
      rw [hk] at q
      obtain ⟨c', hc⟩ := hl (n, k) List.mem_cons_self (by simpa using hk)
      simp only [if_true, hc, Option.getD_some, List.lookup_cons] at q
      cases hx : (x == n) with
      | true => rw [hx] at q; cases q; rw [show x = n from by simpa using hx]; exact hc
      | false => rw [hx] at q; exact ha q
theorem clos_mem {env : Env} {x : Str} {c : Addr} : ∀ {l : List (Str × NameKind)} {acc : List (Str × Addr)}, (clos env l acc).lookup x = some c → acc.lookup x = some c ∨ (x, NameKind.free) ∈ l
  | [], _, e => .inl e
  | (n, k) :: r, acc, e => by
    rcases clos_mem (l := r) e with q | q
    · cases hk : (k == NameKind.free) with
      | false => rw [hk] at q; exact .inl q
      | true =>
        rw [hk] at q
        simp only [if_true, List.lookup_cons] at q
        cases hx : (x == n) with
        | true =>
          have e1 : x = n := by simpa using hx
          have e2 : k = NameKind.free := by simpa using hk
          subst e1 e2
          exact .inr List.mem_cons_self
        | false => rw [hx] at q; exact .inl q
    · exact .inr (List.mem_cons_of_mem _ q)
theorem clos_has {env : Env} {x : Str} : ∀ {l : List (Str × NameKind)} {acc : List (Str × Addr)}, (∃ c, acc.lookup x = some c) ∨ (x, NameKind.free) ∈ l → ∃ c, (clos env l acc).lookup x = some c
  | [], _, h => h.elim (fun z => z) fun z => nomatch z
  | (n, k) :: r, acc, h => by
    refine clos_has (l := r) ?_
    rcases h with ⟨c, h⟩ | h
    · refine .inl ?_
      cases hk : (k == NameKind.free) with
      | false => exact ⟨c, h⟩
      | true =>
        simp only [if_true, List.lookup_cons]
        cases hx : (x == n) with
        | true => exact ⟨_, rfl⟩
        | false => exact ⟨c, h⟩
    · rcases List.mem_cons.mp h with h | h
      · cases h
        refine .inl ?_
        rw [if_pos (by rfl), List.lookup_cons]
        exact ⟨_, by rw [show (x == x) = true from by simp]⟩
      · exact .inr h
theorem lookup_mem {α : Type} {x : Str} {k : α} : ∀ {l : List (Str × α)}, l.lookup x = some k → (x, k) ∈ l
  | (n, z) :: r, e => by
    rw [List.lookup_cons] at e
    cases hx : (x == n) with
    | true => rw [hx] at e; cases e; rw [show x = n from by simpa using hx]; exact List.mem_cons_self
    | false => rw [hx] at e; exact List.mem_cons_of_mem _ (lookup_mem e)
theorem relab_one (env : Env) (n : Str) (z : NameKind) : ∃ z', (if (z == NameKind.free && env.scope.kind == .function && env.kindOf n == some .cell) = true then (n, NameKind.cell) else (n, z)) = (n, z') ∧ (z' = z ∨ (z = .free ∧ z' = .cell)) := by
  by_cases hc : (z == NameKind.free && env.scope.kind == .function && env.kindOf n == some .cell) = true
  · rw [if_pos hc]
    simp only [Bool.and_eq_true] at hc
    exact ⟨_, rfl, .inr ⟨by simpa using hc.1.1, rfl⟩⟩
  · rw [if_neg hc]; exact ⟨_, rfl, .inl rfl⟩
theorem relabel_kind {env : Env} {x : Str} : ∀ {l : List (Str × NameKind)} {k : NameKind}, l.lookup x = some k →
    ((l.map fun (n, k) => if (k == NameKind.free && env.scope.kind == .function && env.kindOf n == some .cell) then (n, NameKind.cell) else (n, k)).lookup x = some k) ∨
    (k = .free ∧ (l.map fun (n, k) => if (k == NameKind.free && env.scope.kind == .function && env.kindOf n == some .cell) then (n, NameKind.cell) else (n, k)).lookup x = some .cell)
  | (n, z) :: r, k, e => by
    obtain ⟨z', e1, e2⟩ := relab_one env n z
    have ih := fun h => relabel_kind (env := env) (x := x) (l := r) (k := k) h
    rw [List.lookup_cons] at e
    rw [List.map_cons]
    dsimp only
    rw [e1, List.lookup_cons]
    cases hx : (x == n) with
    | true =>
      rw [hx] at e
      cases e
      rcases e2 with e2 | ⟨e2, e3⟩
      · rw [e2]; exact .inl rfl
      · rw [e3]; exact .inr ⟨e2, rfl⟩
    | false => rw [hx] at e; exact ih e
theorem relabel_none {env : Env} {x : Str} : ∀ {l : List (Str × NameKind)}, l.lookup x = none →
    (l.map fun (n, k) => if (k == NameKind.free && env.scope.kind == .function && env.kindOf n == some .cell) then (n, NameKind.cell) else (n, k)).lookup x = none
  | [], _ => rfl
  | (n, z) :: r, e => by
    obtain ⟨z', e1, e2⟩ := relab_one env n z
    have ih := fun h => relabel_none (env := env) (x := x) (l := r) h
    rw [List.lookup_cons] at e
    rw [List.map_cons]
    dsimp only
    rw [e1, List.lookup_cons]
    cases hx : (x == n) with
    | true => rw [hx] at e; cases e
    | false => rw [hx] at e; exact ih e
structure CompScope (N : List Str) (osc scope : Scope) (own cap : List Str) (ix : List Nat) : Prop where
  kind : scope.kind = .function
  cell : ∀ y ∈ scope.names, y.2 ≠ .cell
  names : ∀ y ∈ scope.names, y.2 = .local → scope.names.lookup y.1 = some .local
  free : ∀ y ∈ scope.names, y.2 = .free → y.1 ∈ cap
  ownL : ∀ x ∈ own, scope.names.lookup x = some .local
  capL : ∀ x ∈ cap, scope.names.lookup x = some .free
  out : ∀ x ∈ cap, osc.names.lookup x = some .cell ∨ osc.names.lookup x = some .free
  ixL : ix.map (fun i => N[i]?) = cap.map some
  nd : (own ++ cap).Nodup
def Cx.comp (X : Cx) (scope : Scope) (own cap : List Str) (C : Addr) (s₀ : Shared) (H₀ : Hp) (ex : List Addr) (pn : List (Addr × Obj)) : Cx :=
  { X with N := own ++ cap, s₀ := s₀, H₀ := H₀, env := compEnvC scope (clos X.env scope.names []) C X.env, outer := X.stack, ex := ex, fn := fun x => own.contains x, pn := pn, xe := fun _ _ => False }
def capS (σ : St) (own : List Str) (ix : List Nat) : St := own.map (fun _ => none) ++ ix.map (fun i => (σ[i]?).join)
section
variable {X : Cx} {pins : List (Addr × Obj)} {σ : St} {H : Hp} {s : Shared} {scope : Scope} {own cap : List Str} {ix : List Nat}
theorem CompScope.has (S : CompScope X.N X.env.scope scope own cap ix) (ok : X.Ok) : ∀ y ∈ scope.names, y.2 = .free → ∃ c, X.env.cells.lookup y.1 = some c := fun y hy hf => ok.has y.1 (S.out y.1 (S.free y hy hf))
theorem Inv.comp (I : Inv X pins σ H s) (S : CompScope X.N X.env.scope scope own cap ix) {fp : List Addr} (hf : ∀ b ∈ fp, FpOk X pins H b) (ho : ∀ b ∈ fp, ∃ o, s.heap.get? b = some o)
    {h₁ : Heap} {tk : Nat} {C : Addr} {m : Str → Option Value} (hC : s.heap.objs.size ≤ C) (old : ∀ b o, s.heap.get? b = some o → h₁.get? b = some o) (hns : h₁.Ns C m) :
    Inv (X.comp scope own cap C s H fp (X.pn ++ pins)) [] (capS σ own ix) H { s with heap := h₁, toks := tk } := by
  have cv : ∀ x c, (clos X.env scope.names []).lookup x = some c → X.env.cells.lookup x = some c := fun x c e => clos_val (S.has I.ok) (fun q => by simp at q) e
  have cc : ∀ x c, (clos X.env scope.names []).lookup x = some c → x ∈ cap := fun x c e => by
    rcases clos_mem e with q | q
    · cases q
    · exact S.free _ q rfl
  have kk : ∀ x, ((compEnvC scope (clos X.env scope.names []) C X.env).kindOf x = some .cell ∨ (compEnvC scope (clos X.env scope.names []) C X.env).kindOf x = some .free) → x ∈ cap := fun x hx => by
    cases e : scope.names.lookup x with
    | none =>
      have q := relabel_none (env := X.env) e
      rcases hx with hx | hx
      · have hx' : _ = some NameKind.cell := hx
        exact nomatch q.symm.trans hx'
      · have hx' : _ = some NameKind.free := hx
        exact nomatch q.symm.trans hx'
    | some k =>
      have nc : k ≠ .cell := S.cell _ (lookup_mem e)
      rcases relabel_kind (env := X.env) e with q | ⟨q, _⟩
      · rcases hx with hx | hx
        · have hx' : _ = some NameKind.cell := hx
          exact absurd (Option.some.inj (q.symm.trans hx')) nc
        · have hx' : _ = some NameKind.free := hx
          exact S.free _ (lookup_mem e) (Option.some.inj (q.symm.trans hx'))
      · exact S.free _ (lookup_mem e) q
  have capk : ∀ x ∈ cap, (compEnvC scope (clos X.env scope.names []) C X.env).kindOf x = some .cell ∨ (compEnvC scope (clos X.env scope.names []) C X.env).kindOf x = some .free := fun x hx => by
    rcases relabel_kind (env := X.env) (S.capL x hx) with q | ⟨_, q⟩
    · exact .inr q
    · exact .inl q
  have lt : ∀ {b : Addr} {o : Obj}, s.heap.get? b = some o → b ≠ C := fun e => Nat.ne_of_lt (Nat.lt_of_lt_of_le (Heap.lt_size e) hC)
  have hfs : ∀ b, b ∈ frs X.stack → b ∈ X.env.locals :: X.fs := I.stkSub
  refine ⟨⟨I.ok.mod, S.kind, I.ok.glob, I.ok.blt, hC, fun x y c e1 e2 => I.ok.inj x y c (cv x c e1) (cv y c e2), fun x hx => clos_has (.inr (lookup_mem (S.capL x (kk x hx)))), fun x c hx e => ?_, I.ok.hd, I.ok.frames, .inl rfl, fun b hb => ?_,
    I.bs, Nat.le_trans I.ok.bsz I.sz, fun b o e hb => ?_, fun b hb hb' => ?_, I.stack, I.stkFree⟩, rfl, I.bare, Un.kept old, ?_, fun x c e => ?_, I.hok.fresh hC, fun x c e => I.freeC x c (cv x c e), fun p hp => ?_, I.hok.kept old, ?_⟩
  · exfalso
    have h1 : x ∈ own := by simpa [Cx.comp] using hx
    have h2 : x ∈ cap := cc x c e
    exact (List.nodup_append.mp S.nd).2.2 x h1 x h2 rfl
  · obtain ⟨o, e⟩ := ho b hb
    exact ⟨lt e, fun x c q => (hf b hb).2.2.2.2.1 x c (cv x c q)⟩
  · rcases (hf b hb).2.2.2.1 with z | z
    · exact I.ok.noex b o e z
    · exact absurd (Nat.lt_of_lt_of_le (Heap.lt_size e) (Nat.le_trans I.ok.bsz z)) (Nat.lt_irrefl _)
  · rcases List.mem_cons.mp (hfs b hb') with z | z
    · exact (hf b hb).2.1 z
    · exact (hf b hb).2.2.1 z
  · refine ⟨m, hns, fun i x v e1 e2 _ => ?_⟩
    by_cases hi : i < own.length
    · have e3 : (capS σ own ix)[i]? = some none := by
        unfold capS
        rw [List.getElem?_append_left (by simpa using hi), List.getElem?_map]
        rw [List.getElem?_eq_getElem hi]; rfl
      rw [e3] at e2; cases e2
    · have hj : own.length ≤ i := Nat.not_lt.mp hi
      have e1' : cap[i - own.length]? = some x := by
        have : (own ++ cap)[i]? = some x := e1
        rwa [List.getElem?_append_right hj] at this
      have e4 : (ix.map (fun i => X.N[i]?))[i - own.length]? = some (some x) := by rw [S.ixL, List.getElem?_map, e1']; rfl
      rw [List.getElem?_map] at e4
      cases q : ix[i - own.length]? with
      | none => rw [q] at e4; cases e4
      | some j =>
        rw [q] at e4
        have hNj : X.N[j]? = some x := Option.some.inj e4
        have e5 : (σ[j]?).join = some v := by
          unfold capS at e2
          rw [List.getElem?_append_right (by simpa using hj), List.getElem?_map, List.length_map, q] at e2
          exact Option.some.inj e2
        have e6 : σ[j]? = some (some v) := by
          cases r : σ[j]? with
          | none => rw [r] at e5; cases e5
          | some z => rw [r] at e5; exact congrArg some e5
        have hx : x ∈ cap := List.mem_of_getElem? e1'
        obtain ⟨mo, hn, hl⟩ := I.loc
        obtain ⟨u, ru, lu⟩ := hl j x v hNj e6 (.inr (S.out x hx))
        refine ⟨u, ru, .inr ⟨capk x hx, ?_⟩⟩
        rcases lu with ⟨kx, _⟩ | ⟨_, c, hc, hcell⟩
        · have kx' : X.env.scope.names.lookup x = some .local := kx
          rcases S.out x hx with z | z
          · exact nomatch kx'.symm.trans z
          · exact nomatch kx'.symm.trans z
        · obtain ⟨c', hc'⟩ := clos_has (env := X.env) (x := x) (l := scope.names) (acc := []) (.inr (lookup_mem (S.capL x hx)))
          have : c' = c := Option.some.inj ((cv x c' hc').symm.trans hc)
          subst this
          obtain ⟨oc, hoc, hdc⟩ := hcell
          exact ⟨c', hc', oc, old _ _ hoc, hdc⟩
  · obtain ⟨v, oc, hoc, hdc⟩ := I.cell x c (cv x c e)
    exact ⟨v, oc, old _ _ hoc, hdc⟩
  · have hp' : p ∈ X.pn ++ pins := by simpa [Cx.comp] using hp
    obtain ⟨q1, q2, q3, q4, q5⟩ := I.pin p hp'
    refine ⟨old _ _ q1, q2, lt q1, fun z => ?_, q5⟩
    rcases List.mem_cons.mp (hfs p.1 z) with y | y
    · exact q3 y
    · exact q4 y
  · show (capS σ own ix).length = (own ++ cap).length
    have := congrArg List.length S.ixL
    rw [List.length_map, List.length_map] at this
    unfold capS
    rw [List.length_append, List.length_append, List.length_map, List.length_map, this]
end
def PIfs (X : Cx) (ifs : List Expr) (t : TT) : Prop :=
  ∀ (pins : List (Addr × Obj)) (s : Shared) (σ : St) (H : Hp) (Q : Bool → Hp → Prop), Inv X pins σ H s → t σ H Q →
    wpAny (model X.prog X.w) X.A (forIn ifs true fun c r => if r = true then do let ok ← isTrue c X.env (eval c X.env); pure (ForInStep.yield ok) else pure (ForInStep.yield r)) (TP X pins σ Q) X.xe s
def tYes : TT := fun _ H Q => Q true H
theorem pifs_nil {X : Cx} : PIfs X [] tYes := fun _ _ _ H _ I h => wpAny_tests_nil ⟨H, I, h⟩
def tComp (own : List Str) (ix : List Nat) (wi : TI) (g : TG) (ti : TT) (te : TE) : TE := fun σ H Q => wi σ H fun J H1 =>
  ∃ W : Nat → Nat → List V → St → Hp → Prop, (∃ m, W 0 m [] (capS σ own ix) H1) ∧ ∀ i m ys σ' H, W i m ys σ' H →
    (J.stop i H ∧ ys.length ≤ sizeLine ∧ ∀ D, H D = none → Q (.ref D) (upd H D (.lst ys))) ∨
    (J.go i H ∧ ∀ x H', J.yld i H x H' → g x σ' H' fun σ2 H2 => ti σ2 H2 fun b H3 => if b = true then te σ2 H3 fun y H4 => ys.length < sizeLine ∧ ∃ m', m' < m ∧ W (i + 1) m' (ys ++ [y]) σ2 H4 else ∃ m', m' < m ∧ W (i + 1) m' ys σ2 H3)
section
variable {X : Cx} {pins : List (Addr × Obj)} {σ : St} {scope : Scope} {own cap : List Str} {ix : List Nat} {tg iter elt : Expr} {ifs : List Expr} {pos : Pos}
set_option maxHeartbeats 4000000 in
theorem comp_block {s : Shared} {H : Hp} {it : Addr} {fp : List Addr} {tn : Nat → Heap → Prop} {J : It} {g : TG} {ti : TT} {te : TE} {Q : VK} {W : Nat → Nat → List V → St → Hp → Prop} {E : Value → Shared → Prop} {RR : Value → Addr → Result → Shared → Prop} (hc : X.calm = true)
    (I : Inv X pins σ H s) (S : CompScope X.N X.env.scope scope own cap ix) (T : Turn X.prog X.w X.K tg J fp it tn) (st : tn 0 s.heap) (hf : ∀ b ∈ fp, FpOk X pins H b)
    (hb : ∀ (C : Addr) (s₀ : Shared) (H₀ : Hp) (ex : List Addr) (pn : List (Addr × Obj)), PG (X.comp scope own cap C s₀ H₀ ex pn) tg g ∧ PIfs (X.comp scope own cap C s₀ H₀ ex pn) ifs ti ∧ PE (X.comp scope own cap C s₀ H₀ ex pn) elt te)
    (h0 : ∃ m, W 0 m [] (capS σ own ix) H)
    (turn : ∀ i m ys σ' H, W i m ys σ' H → (J.stop i H ∧ ys.length ≤ sizeLine ∧ ∀ D, H D = none → Q (.ref D) (upd H D (.lst ys))) ∨
      (J.go i H ∧ ∀ x H', J.yld i H x H' → g x σ' H' fun σ2 H2 => ti σ2 H2 fun b H3 => if b = true then te σ2 H3 fun y H4 => ys.length < sizeLine ∧ ∃ m', m' < m ∧ W (i + 1) m' (ys ++ [y]) σ2 H4 else ∃ m', m' < m ∧ W (i + 1) m' ys σ2 H3))
    (hRR : ∀ (D C : Addr) (oC : Obj) (m : Str → Option Value) (H' : Hp) (s' : Shared), s'.heap.get? C = some oC → s'.heap.Ns C m → C ≠ X.env.locals → (X.s₀.heap.objs.size ≤ C) → (∀ x c, X.env.cells.lookup x = some c → c ≠ C) → (∀ p ∈ X.pn ++ pins, p.1 ≠ C) → C ∉ X.fs → H' C = none →
      Inv X pins σ H' s' → Q (.ref D) H' → RR (.ref D) C (.ok .next) s') :
    wpAny (model X.prog X.w) X.A (newList []) (fun acc s₃ => wpAny (model X.prog X.w) X.A (newFunctionEnv scope X.env.globals (clos X.env scope.names []) [] X.env.qual none .none (some X.env)) (fun cenv s₄ =>
      codeAny (model X.prog X.w) X.A (.compStart (.ListComp elt [⟨tg, iter, ifs, 0⟩] scope pos) 0 (.ref it) acc { cenv with scope := relabel scope X.env }) (RR acc cenv.locals) s₄) E s₃) E s := by
  refine wpAny_newObj_type (wpAny_newFunctionEnv S.cell (by intro y hy; simp at hy) (fun h₁ hns₁ hsb₁ => ?_) S.kind)
  dsimp only at hns₁ hsb₁ ⊢
  generalize hH2 : s.heap.push { cls := .type "list", dict := none, data := .seq ([] : List Value).toArray } = HH at hns₁ hsb₁ ⊢
  generalize hCn : HH.objs.size = C at hns₁ hsb₁ ⊢
  generalize hDn : s.heap.objs.size = D
  have hC : C = D + 1 := by rw [← hCn, ← hH2, Heap.size_push, hDn]
  have hDC : D ≠ C := by rw [hC]; exact Nat.ne_of_lt (Nat.lt_succ_self _)
  have below : ∀ b, b < s.heap.objs.size → b ≠ C ∧ b ≠ D := fun b hb => by rw [hDn] at hb; exact ⟨by rw [hC]; exact Nat.ne_of_lt (Nat.lt_succ_of_lt hb), Nat.ne_of_lt hb⟩
  have old : ∀ b o, s.heap.get? b = some o → h₁.get? b = some o := fun b o e => hsb₁.extBut b o (below b (Heap.lt_size e)).1 (Heap.get?_push_of_some _ (hH2 ▸ Heap.get?_push_of_some _ e))
  have hacc : h₁.get? D = some { cls := .type "list", data := .seq ([] : List Value).toArray 0 } := hsb₁.extBut _ _ hDC (Heap.get?_push_of_some _ (by rw [← hH2, ← hDn]; exact Heap.get?_push_size _ rfl))
  have hCs : s.heap.objs.size ≤ C := by rw [hDn, hC]; exact Nat.le_succ _
  have hDs : s.heap.objs.size ≤ D := Nat.le_of_eq hDn
  have hDf : D ∉ fp := fun hm => by
    obtain ⟨o, e, _⟩ := T.obj _ _ st D hm
    exact (below D (Heap.lt_size e)).2 rfl
  have hD0 : H D = none := I.hok.fresh hDs
  obtain ⟨gG, gI, gE⟩ := hb C s H fp (X.pn ++ pins)
  have I0 : ∀ tk, Inv (X.comp scope own cap C s H fp (X.pn ++ pins)) [] (capS σ own ix) H { s with heap := h₁, toks := tk } := fun tk => I.comp S hf (fun b hb => (T.obj _ _ st b hb).imp fun o e => e.1) hCs old hns₁
  have cvX : ∀ x c, (X.comp scope own cap C s H fp (X.pn ++ pins)).env.cells.lookup x = some c → X.env.cells.lookup x = some c := fun x c e => clos_val (S.has I.ok) (fun q => by simp at q) e
  have cellLt : ∀ x c, X.env.cells.lookup x = some c → c < s.heap.objs.size := fun x c e => by obtain ⟨v, q⟩ := I.cell x c e; exact q.lt
  have frsLt : ∀ b ∈ frs X.stack, b < s.heap.objs.size := fun b hb => by
    rcases List.mem_cons.mp (I.stkSub b hb) with z | z
    · rw [z]; exact I.lt
    · obtain ⟨_, o, ho, _⟩ := I.funs.mem z
      exact Heap.lt_size ho
  have fpB : ∀ (H' : Hp) (ps : List (Addr × Obj)), (∀ p ∈ ps, p.1 = D) → (∀ b ∈ fp, H' b = none) → ∀ b ∈ fp, FpOk (X.comp scope own cap C s H fp (X.pn ++ pins)) ps H' b := fun H' ps hps hn b hb => by
    obtain ⟨o, e, _⟩ := T.obj _ _ st b hb
    obtain ⟨f0, f1, f2, f3, f4, f5⟩ := hf b hb
    refine ⟨hn b hb, (below b (Heap.lt_size e)).1, fun z => ?_, .inl hb, fun x c q => f4 x c (cvX x c q), fun p hp => ?_⟩
    · rcases List.mem_cons.mp (I.stkSub b z) with y | y
      · exact f1 y
      · exact f2 y
    · rcases List.mem_append.mp hp with z | z
      · exact f5 p z
      · intro y
        exact hDf (by rw [← hps p z, y]; exact hb)
  have pinD : ∀ {H' : Hp} {σ' : St} {s' : Shared} {o : Obj}, Inv (X.comp scope own cap C s H fp (X.pn ++ pins)) [] σ' H' s' → s'.heap.get? D = some o → (∀ v, o.data ≠ .cell v) → H' D = none → Inv (X.comp scope own cap C s H fp (X.pn ++ pins)) [(D, o)] σ' H' s' := fun {H' σ' s' o} I' e hd hn =>
    I'.pins_of fun p hp => by
      have e1 : p = (D, o) := by simpa using hp
      subst e1
      exact ⟨e, hn, hDC, fun z => Nat.lt_irrefl _ (Nat.lt_of_lt_of_le (frsLt D z) hDs), hd⟩
  have loop : ∀ s₃ : Shared, s₃ = { s with heap := h₁, toks := s.toks + ([] : List (Str × Value)).length } →
      codeAny (model X.prog X.w) X.A (.compLoop (.ListComp elt [⟨tg, iter, ifs, 0⟩] scope pos) 0 (.ref it) (.ref D) (compEnvC scope (clos X.env scope.names []) C X.env)) (RR (.ref D) C) s₃ := by
    rintro s₃ rfl
    obtain ⟨m0, w0⟩ := h0
    refine compLoop_go (fun n s' => ∃ i ys σ' H', Inv (X.comp scope own cap C s H fp (X.pn ++ pins)) [] σ' H' s' ∧ tn i s'.heap ∧ (∀ b ∈ fp, H' b = none) ∧ H' D = none ∧
      (∃ (its : List Value) (k : Nat), Vals ys its ∧ s'.heap.get? D = some { cls := .type "list", data := .seq its.toArray k }) ∧ ys.length ≤ sizeLine ∧ W i n ys σ' H') ?_ m0
      ⟨0, [], _, H, I0 _, T.keep _ _ _ st fun b _ o e => old b o e, fun b hb => (hf b hb).1, hD0, ⟨[], 0, .nil, hacc⟩, Nat.zero_le _, w0⟩
    rintro n s' ⟨i, ys, σ', H', I', st', fr', hD', ⟨its, k, hv, hDo⟩, hyl, w'⟩
    have ID := pinD I' hDo (fun v q => nomatch q) hD'
    rcases turn i n ys σ' H' w' with ⟨stop, hz, q⟩ | ⟨go, step⟩
    · refine thn (T.done (X.comp scope own cap C s H fp (X.pn ++ pins)) rfl rfl rfl hc i [(D, _)] s' σ' H' _ ID (fpB H' _ (fun p hp => by rw [List.mem_singleton.mp hp]) fr') st' stop) fun r s'' ⟨hr, I2⟩ => ?_
      subst hr
      show RR (.ref D) C (.ok .next) s''
      have hDo2 : s''.heap.get? D = some { cls := .type "list", data := .seq its.toArray k } := (I2.pin (D, _) (List.mem_append_right _ (List.mem_singleton.mpr rfl))).1
      obtain ⟨m2, hn2, _⟩ := I2.loc
      obtain ⟨oC, es, ep, hoC, _⟩ := id hn2
      have hok2 : HOk X.prog X.w (upd H' D (.lst ys)) s''.heap := I2.hok.track hD' ⟨hyl, its, k, hv, hDo2⟩
      have un : Un (frs X.stack) fp H (upd H' D (.lst ys)) s.heap s''.heap := by
        have u0 : Un (frs X.stack) fp H H' s.heap s''.heap := I2.base
        refine ⟨u0.keep, u0.slot, fun b o e hn hx => ?_, u0.there, fun b xs e => ?_, fun b o u e => ?_, fun b ps e => ?_⟩
        · rw [upd_ne (below b (Heap.lt_size e)).2]; exact u0.free b o e hn hx
        · rw [upd_ne (ne_of_none (u0.tups b xs e) hD')]; exact u0.tups b xs e
        · rw [upd_ne (ne_of_none (u0.frzs b o u e) hD')]; exact u0.frzs b o u e
        · obtain ⟨more, e'⟩ := u0.tbls b ps e
          exact ⟨more, by rw [upd_ne (ne_of_none e' hD')]; exact e'⟩
      have IX : Inv X pins σ (upd H' D (.lst ys)) s'' := I.call' (ch := fp) I2.os un hok2 I2.bare fun b hb => ⟨(hf b hb).2.2.2.1, (hf b hb).2.1, (hf b hb).2.2.2.2.1, (hf b hb).2.2.2.2.2⟩
      refine hRR D C oC m2 _ s'' hoC hn2 ?_ ?_ (fun x c e z => ?_) (fun p hp z => ?_) (fun z => ?_) ?_ IX (q D hD')
      · exact fun z => Nat.lt_irrefl _ (Nat.lt_of_lt_of_le I.lt (by rw [← z]; exact hCs))
      · exact Nat.le_trans I.sz hCs
      · exact Nat.lt_irrefl _ (Nat.lt_of_lt_of_le (cellLt x c e) (by rw [z]; exact hCs))
      · exact Nat.lt_irrefl _ (Nat.lt_of_lt_of_le (Heap.lt_size (I.pin p hp).1) (by rw [z]; exact hCs))
      · obtain ⟨_, o, ho, _⟩ := I.funs.mem z
        exact Nat.lt_irrefl _ (Nat.lt_of_lt_of_le (Heap.lt_size ho) hCs)
      · rw [upd_ne hDC.symm]; exact I2.free
    · refine thn (T.item (X.comp scope own cap C s H fp (X.pn ++ pins)) rfl rfl rfl hc i [(D, _)] s' σ' H' _ ID (fpB H' _ (fun p hp => by rw [List.mem_singleton.mp hp]) fr') st' go) fun r s4 ⟨u, hr, h4⟩ => ?_
      subst hr
      refine thn h4 fun _ s5 ⟨x, H5, I5, r5, y5, st5, fr5⟩ => ?_
      have hDp5 := I5.pin (D, _) (List.mem_append_right _ (List.mem_singleton.mpr rfl))
      have I5' := I5.pinned (fpB H5 _ (fun p hp => by rw [List.mem_singleton.mp hp]) fr5) (T.obj _ _ st5)
      refine thn (gG _ s5 σ' H5 x u _ I5' r5 (step x H5 y5)) fun _ s6 ⟨σ6, H6, I6, q6⟩ => ?_
      refine thn (gI _ s6 σ6 H6 _ I6 q6) fun ok s7 ⟨H7, I7, q7⟩ => ?_
      have fpK : ∀ {σ8 : St} {H8 : Hp} {s8 : Shared}, Inv (X.comp scope own cap C s H fp (X.pn ++ pins)) ([(D, ({ cls := .type "list", data := .seq its.toArray k } : Obj))] ++ pinsAt fp s5.heap) σ8 H8 s8 → tn (i + 1) s8.heap ∧ (∀ b ∈ fp, H8 b = none) := fun {σ8 H8 s8} I8 => by
        refine ⟨T.keep _ _ _ st5 fun b hb o e => (I8.pin (b, o) (List.mem_append_right _ (List.mem_append_right _ (mem_pinsAt hb e)))).1, fun b hb => ?_⟩
        obtain ⟨o, e, d⟩ := T.obj _ _ st5 b hb
        exact (I8.pin (b, o) (List.mem_append_right _ (List.mem_append_right _ (mem_pinsAt hb e)))).2.1
      have dK : ∀ {σ8 : St} {H8 : Hp} {s8 : Shared}, Inv (X.comp scope own cap C s H fp (X.pn ++ pins)) ([(D, ({ cls := .type "list", data := .seq its.toArray k } : Obj))] ++ pinsAt fp s5.heap) σ8 H8 s8 → s8.heap.get? D = some { cls := .type "list", data := .seq its.toArray k } ∧ H8 D = none := fun {σ8 H8 s8} I8 => by
        have z := I8.pin (D, _) (List.mem_append_right _ (List.mem_append_left _ (List.mem_singleton.mpr rfl)))
        exact ⟨z.1, z.2.1⟩
      cases ok with
      | false =>
        obtain ⟨m', hm, w7⟩ := q7
        obtain ⟨st7, fr7⟩ := fpK I7
        obtain ⟨hD7, hn7⟩ := dK I7
        exact ⟨m', hm, i + 1, ys, σ6, H7, I7.pins_of (fun p hp => nomatch hp), st7, fr7, hn7, ⟨its, k, hv, hD7⟩, hyl, w7⟩
      | true =>
        refine thn (gE _ s7 σ6 H7 _ I7 q7) fun xv s8 ⟨y, H8, I8, r8, hl8, m', hm, w8⟩ => ?_
        obtain ⟨st8, fr8⟩ := fpK I8
        obtain ⟨hD8, hn8⟩ := dK I8
        refine append_at (hsz := by rw [List.size_toArray, ← hv.length]; exact Nat.le_of_lt hl8) hD8 fun h9 hs9 hD9 => ?_
        have I9 : Inv (X.comp scope own cap C s H fp (X.pn ++ pins)) [] σ6 H8 { s8 with heap := h9 } := by
          refine (I8.pins_of (pins' := []) fun p hp => nomatch hp).turned (t' := s8.toks) (it := D) (fun b o hb e => hs9.extBut b o hb e) hn8 hDC (.inr hDs) (fun x c e z => ?_) (fun p hp z => ?_)
          · exact Nat.lt_irrefl _ (Nat.lt_of_lt_of_le (cellLt x c (cvX x c e)) (by rw [z]; exact hDs))
          · have hp' : p ∈ X.pn ++ pins := by simpa [Cx.comp] using hp
            exact Nat.lt_irrefl _ (Nat.lt_of_lt_of_le (Heap.lt_size (I.pin p hp').1) (by rw [z]; exact hDs))
        refine ⟨m', hm, i + 1, ys ++ [y], σ6, H8, I9, T.keep _ _ _ st8 fun b hb o e => hs9.extBut b o (fun z => hDf (by rw [← z]; exact hb)) e, fr8, hn8, ⟨its ++ [xv], k + 1, hv.append (.cons r8 .nil), ?_⟩, by rw [List.length_append, List.length_singleton]; exact hl8, w8⟩
        rw [hD9, List.push_toArray]
  exact codeAny_compStart_list (loop _ rfl) (T.self _ 0 _ _ _ (T.keep _ _ _ st fun b _ o e => old b o e) (loop _ rfl))
theorem pe_comp {wi : TI} {g : TG} {ti : TT} {te : TE} (hc : X.calm = true) (S : CompScope X.N X.env.scope scope own cap ix) (hi : PI X tg iter wi)
    (hb : ∀ (C : Addr) (s₀ : Shared) (H₀ : Hp) (ex : List Addr) (pn : List (Addr × Obj)), PG (X.comp scope own cap C s₀ H₀ ex pn) tg g ∧ PIfs (X.comp scope own cap C s₀ H₀ ex pn) ifs ti ∧ PE (X.comp scope own cap C s₀ H₀ ex pn) elt te)
    (hs : ∀ x, foldedSetIterable iter X.env x = pure x := by intro _; rfl) : PE X (.ListComp elt [⟨tg, iter, ifs, 0⟩] scope pos) (tComp own ix wi g ti te) := by
  intro pins s σ H Q I h
  rw [eval_ListComp]
  refine wpAny_comprehension_free (use := none) rfl hs (closureFor_clos (S.has I.ok)) S.kind S.names (thn (hi pins s σ H _ I h) fun xv s₁ h₁ => thn h₁ fun itv s₂ h₂ => ?_)
  obtain ⟨it, fp, tn, J, H2, e, I2, T, st2, f2, W, h0, turn⟩ := h₂
  subst e
  refine comp_block (Q := Q) (RR := fun acc C => compPost (model X.prog X.w) X.A X.xe none (EP X pins σ Q) acc C) hc I2 S T st2 f2 hb h0 turn ?_
  intro D C oC m H' s' hoC hn h1 h2 h3 h4 h5 h6 I' q
  refine ⟨m, hn, fun h' hs' => ⟨.ref D, H', I'.turned (t' := s'.toks) (it := C) (fun b o hb e => hs'.extBut b o hb e) h6 (Ne.symm h1.symm) (.inr h2) h3 h4, rfl, q⟩⟩
end
theorem comp_list {K : PySem.W.Frag} {a : Addr} {xs : List V} {x0 : Str} {ix : List Nat} {ti : TT} {te : TE} {Q : VK} {σ : St} {H : Hp} (Pv : Nat → List V → Hp → Prop) (h0 : Pv 0 [] H) (hl : ∀ i ys H, i ≤ xs.length → Pv i ys H → SqL K H a xs)
    (hs : ∀ i x ys H (R : List V → Hp → Prop), xs[i]? = some x → Pv i ys H → (∀ ys' H', Pv (i + 1) ys' H' → R ys' H') → ti (some x :: ix.map fun j => (σ[j]?).join) H fun b H3 => if b = true then te (some x :: ix.map fun j => (σ[j]?).join) H3 fun y H4 => ys.length < sizeLine ∧ R (ys ++ [y]) H4 else R ys H3)
    (hd : ∀ ys H, Pv xs.length ys H → ys.length ≤ sizeLine ∧ ∀ D, H D = none → Q (.ref D) (upd H D (.lst ys))) :
    ∃ W : Nat → Nat → List V → St → Hp → Prop, (∃ m, W 0 m [] (capS σ [x0] ix) H) ∧ ∀ i m ys σ' H, W i m ys σ' H →
      ((Itl K a).stop i H ∧ ys.length ≤ sizeLine ∧ ∀ D, H D = none → Q (.ref D) (upd H D (.lst ys))) ∨
      ((Itl K a).go i H ∧ ∀ x H', (Itl K a).yld i H x H' → gName 0 x σ' H' fun σ2 H2 => ti σ2 H2 fun b H3 => if b = true then te σ2 H3 fun y H4 => ys.length < sizeLine ∧ ∃ m', m' < m ∧ W (i + 1) m' (ys ++ [y]) σ2 H4 else ∃ m', m' < m ∧ W (i + 1) m' ys σ2 H3) := by
  refine ⟨fun i m ys σ' H => m = xs.length - i ∧ i ≤ xs.length ∧ (∃ o, σ' = o :: ix.map fun j => (σ[j]?).join) ∧ Pv i ys H, ⟨xs.length, by simp, Nat.zero_le _, ⟨none, rfl⟩, h0⟩, ?_⟩
  rintro i m ys σ' H ⟨rfl, hi, ⟨o, rfl⟩, p⟩
  have q := hl i ys H hi p
  by_cases hlt : i < xs.length
  · refine .inr ⟨⟨xs, xs[i], q, by simp [hlt]⟩, fun x H' y => ?_⟩
    obtain ⟨e, y⟩ := y
    subst e
    exact hs i x ys _ (fun ys' H4 => ∃ m', m' < xs.length - i ∧ m' = xs.length - (i + 1) ∧ i + 1 ≤ xs.length ∧ (∃ o', some x :: (ix.map fun j => (σ[j]?).join) = o' :: ix.map fun j => (σ[j]?).join) ∧ Pv (i + 1) ys' H4) (y xs q) p
      fun ys' H4 z => ⟨xs.length - (i + 1), by omega, rfl, hlt, ⟨_, rfl⟩, z⟩
  · have e : i = xs.length := by omega
    subst e
    exact .inl ⟨⟨xs, q, Nat.le_refl _⟩, hd ys H p⟩
theorem comp_str {z : Str} {x0 : Str} {ix : List Nat} {ti : TT} {te : TE} {Q : VK} {σ : St} {H : Hp} (Pv : Nat → List V → Hp → Prop) (h0 : Pv 0 [] H)
    (hs : ∀ i c ys H (R : List V → Hp → Prop), z.cps[i]? = some c → Pv i ys H → (∀ ys' H', Pv (i + 1) ys' H' → R ys' H') → ti (some (.str ⟨#[c]⟩) :: ix.map fun j => (σ[j]?).join) H fun b H3 => if b = true then te (some (.str ⟨#[c]⟩) :: ix.map fun j => (σ[j]?).join) H3 fun y H4 => ys.length < sizeLine ∧ R (ys ++ [y]) H4 else R ys H3)
    (hd : ∀ ys H, Pv z.cps.size ys H → ys.length ≤ sizeLine ∧ ∀ D, H D = none → Q (.ref D) (upd H D (.lst ys))) :
    ∃ W : Nat → Nat → List V → St → Hp → Prop, (∃ m, W 0 m [] (capS σ [x0] ix) H) ∧ ∀ i m ys σ' H, W i m ys σ' H →
      ((Its z).stop i H ∧ ys.length ≤ sizeLine ∧ ∀ D, H D = none → Q (.ref D) (upd H D (.lst ys))) ∨
      ((Its z).go i H ∧ ∀ x H', (Its z).yld i H x H' → gName 0 x σ' H' fun σ2 H2 => ti σ2 H2 fun b H3 => if b = true then te σ2 H3 fun y H4 => ys.length < sizeLine ∧ ∃ m', m' < m ∧ W (i + 1) m' (ys ++ [y]) σ2 H4 else ∃ m', m' < m ∧ W (i + 1) m' ys σ2 H3) := by
  refine ⟨fun i m ys σ' H => m = z.cps.size - i ∧ i ≤ z.cps.size ∧ (∃ o, σ' = o :: ix.map fun j => (σ[j]?).join) ∧ Pv i ys H, ⟨z.cps.size, by simp, Nat.zero_le _, ⟨none, rfl⟩, h0⟩, ?_⟩
  rintro i m ys σ' H ⟨rfl, hi, ⟨o, rfl⟩, p⟩
  by_cases hlt : i < z.cps.size
  · refine .inr ⟨hlt, fun x H' y => ?_⟩
    obtain ⟨e, c, hc, rfl⟩ := y
    subst e
    exact hs i c ys _ (fun ys' H4 => ∃ m', m' < z.cps.size - i ∧ m' = z.cps.size - (i + 1) ∧ i + 1 ≤ z.cps.size ∧ (∃ o', some (V.str ⟨#[c]⟩) :: (ix.map fun j => (σ[j]?).join) = o' :: ix.map fun j => (σ[j]?).join) ∧ Pv (i + 1) ys' H4) hc p
      fun ys' H4 q => ⟨z.cps.size - (i + 1), by omega, rfl, hlt, ⟨_, rfl⟩, q⟩
  · have e : i = z.cps.size := by omega
    subst e
    exact .inl ⟨rfl, hd ys H p⟩
theorem comp_range {lo : Int} {n : Nat} {x0 : Str} {ix : List Nat} {ti : TT} {te : TE} {Q : VK} {σ : St} {H : Hp} (Pv : Nat → List V → Hp → Prop) (h0 : Pv 0 [] H)
    (hs : ∀ i ys H (R : List V → Hp → Prop), i < n → Pv i ys H → (∀ ys' H', Pv (i + 1) ys' H' → R ys' H') → ti (some (.int (lo + i)) :: ix.map fun j => (σ[j]?).join) H fun b H3 => if b = true then te (some (.int (lo + i)) :: ix.map fun j => (σ[j]?).join) H3 fun y H4 => ys.length < sizeLine ∧ R (ys ++ [y]) H4 else R ys H3)
    (hd : ∀ ys H, Pv n ys H → ys.length ≤ sizeLine ∧ ∀ D, H D = none → Q (.ref D) (upd H D (.lst ys))) :
    ∃ W : Nat → Nat → List V → St → Hp → Prop, (∃ m, W 0 m [] (capS σ [x0] ix) H) ∧ ∀ i m ys σ' H, W i m ys σ' H →
      ((Itr lo n).stop i H ∧ ys.length ≤ sizeLine ∧ ∀ D, H D = none → Q (.ref D) (upd H D (.lst ys))) ∨
      ((Itr lo n).go i H ∧ ∀ x H', (Itr lo n).yld i H x H' → gName 0 x σ' H' fun σ2 H2 => ti σ2 H2 fun b H3 => if b = true then te σ2 H3 fun y H4 => ys.length < sizeLine ∧ ∃ m', m' < m ∧ W (i + 1) m' (ys ++ [y]) σ2 H4 else ∃ m', m' < m ∧ W (i + 1) m' ys σ2 H3) := by
  refine ⟨fun i m ys σ' H => m = n - i ∧ i ≤ n ∧ (∃ o, σ' = o :: ix.map fun j => (σ[j]?).join) ∧ Pv i ys H, ⟨n, by simp, Nat.zero_le _, ⟨none, rfl⟩, h0⟩, ?_⟩
  rintro i m ys σ' H ⟨rfl, hi, ⟨o, rfl⟩, p⟩
  by_cases hlt : i < n
  · refine .inr ⟨hlt, fun x H' y => ?_⟩
    obtain ⟨e, y⟩ := y
    subst e y
    exact hs i ys _ (fun ys' H4 => ∃ m', m' < n - i ∧ m' = n - (i + 1) ∧ i + 1 ≤ n ∧ (∃ o', some (V.int (lo + i)) :: (ix.map fun j => (σ[j]?).join) = o' :: ix.map fun j => (σ[j]?).join) ∧ Pv (i + 1) ys' H4) hlt p
      fun ys' H4 q => ⟨n - (i + 1), by omega, rfl, hlt, ⟨_, rfl⟩, q⟩
  · have e : i = n := by omega
    subst e
    exact .inl ⟨Nat.le_refl _, hd ys H p⟩
theorem tcomp_list {K : PySem.W.Frag} {a : Addr} {xs : List V} {x0 : Str} {ix : List Nat} {wi : TI} {ti : TT} {te : TE} {Q : VK} {σ : St} {H H1 : Hp} (hi : ∀ R : It → Hp → Prop, R (Itl K a) H1 → wi σ H R) (Pv : Nat → List V → Hp → Prop) (h0 : Pv 0 [] H1) (hl : ∀ i ys H, i ≤ xs.length → Pv i ys H → SqL K H a xs)
    (hs : ∀ i x ys H (R : List V → Hp → Prop), xs[i]? = some x → Pv i ys H → (∀ ys' H', Pv (i + 1) ys' H' → R ys' H') → ti (some x :: ix.map fun j => (σ[j]?).join) H fun b H3 => if b = true then te (some x :: ix.map fun j => (σ[j]?).join) H3 fun y H4 => ys.length < sizeLine ∧ R (ys ++ [y]) H4 else R ys H3)
    (hd : ∀ ys H, Pv xs.length ys H → ys.length ≤ sizeLine ∧ ∀ D, H D = none → Q (.ref D) (upd H D (.lst ys))) : tComp [x0] ix wi (gName 0) ti te σ H Q := hi _ (comp_list Pv h0 hl hs hd)
theorem tcomp_str {z : Str} {x0 : Str} {ix : List Nat} {wi : TI} {ti : TT} {te : TE} {Q : VK} {σ : St} {H H1 : Hp} (hi : ∀ R : It → Hp → Prop, R (Its z) H1 → wi σ H R) (Pv : Nat → List V → Hp → Prop) (h0 : Pv 0 [] H1)
    (hs : ∀ i c ys H (R : List V → Hp → Prop), z.cps[i]? = some c → Pv i ys H → (∀ ys' H', Pv (i + 1) ys' H' → R ys' H') → ti (some (.str ⟨#[c]⟩) :: ix.map fun j => (σ[j]?).join) H fun b H3 => if b = true then te (some (.str ⟨#[c]⟩) :: ix.map fun j => (σ[j]?).join) H3 fun y H4 => ys.length < sizeLine ∧ R (ys ++ [y]) H4 else R ys H3)
    (hd : ∀ ys H, Pv z.cps.size ys H → ys.length ≤ sizeLine ∧ ∀ D, H D = none → Q (.ref D) (upd H D (.lst ys))) : tComp [x0] ix wi (gName 0) ti te σ H Q := hi _ (comp_str Pv h0 hs hd)
theorem tcomp_range {lo : Int} {n : Nat} {x0 : Str} {ix : List Nat} {wi : TI} {ti : TT} {te : TE} {Q : VK} {σ : St} {H H1 : Hp} (hi : ∀ R : It → Hp → Prop, R (Itr lo n) H1 → wi σ H R) (Pv : Nat → List V → Hp → Prop) (h0 : Pv 0 [] H1)
    (hs : ∀ i ys H (R : List V → Hp → Prop), i < n → Pv i ys H → (∀ ys' H', Pv (i + 1) ys' H' → R ys' H') → ti (some (.int (lo + i)) :: ix.map fun j => (σ[j]?).join) H fun b H3 => if b = true then te (some (.int (lo + i)) :: ix.map fun j => (σ[j]?).join) H3 fun y H4 => ys.length < sizeLine ∧ R (ys ++ [y]) H4 else R ys H3)
    (hd : ∀ ys H, Pv n ys H → ys.length ≤ sizeLine ∧ ∀ D, H D = none → Q (.ref D) (upd H D (.lst ys))) : tComp [x0] ix wi (gName 0) ti te σ H Q := hi _ (comp_range Pv h0 hs hd)
end L2
namespace L2
open PySem PySem.Spec PyProof.Rows
section
variable {X : Cx}
theorem call_isiT : CallR X (.builtin "isinstance") (fun xs H Q => ∃ x n t b, xs = [x, .ty n] ∧ TyOf X.K H x t ∧ PySem.W.kitOne X.K t (.type n) = some b ∧ Q (.bl b) H) := by
  intro pins s σ H xs us Q I r h
  obtain ⟨x, n, t, b, rfl, ty, e, q⟩ := h
  obtain ⟨u, w', rfl, rx, rc⟩ := vals2 r
  cases (show w' = Value.type n from rc)
  exact isinst_ok I rx ty e fun tk => ⟨.bl b, H, I.tok tk, rfl, q⟩
theorem pe_ty {x : Str} {n : String} {pos : Pos} (hg : Gl X x) (hm : X.mg x = none) (hv : bootBuiltins x = some (.type n)) (hn : x ≠ "__name__" := by decide) (hd : (x == ("__debug__" : Str)) = false := by decide) : PE X (.Name x pos) (tC (.ty n)) :=
  pe_bltn (v := .ty n) hg hm hv rfl hn hd
theorem truth_bools {prog : Program} {w : World} {A : Around} {bs : List Bool} {its : List Value} (r : Vals (bs.map V.bl) its) : TruthOf prog w A (fun i v => its.toArray[i]? = some v) (fun i => bs.getD i false) := by
  intro i v s Q E hv q
  have hv' : its[i]? = some v := by simpa using hv
  have hl := r.length
  rw [List.length_map] at hl
  have hi : i < its.length := (List.getElem?_eq_some_iff.mp hv').1
  have hb : (bs.map V.bl)[i]? = some (.bl (bs.getD i false)) := by
    rw [List.getElem?_map, List.getD_eq_getElem?_getD, List.getElem?_eq_getElem (show i < bs.length by omega)]
    rfl
  obtain ⟨u, hu, ru⟩ := Vals.get r hb
  rw [hv'] at hu
  cases hu
  cases (show v = Value.bool _ from ru)
  exact wpAny_truthy_bool q
theorem range_all (bs : List Bool) : (List.range bs.length).all (fun i => bs.getD i false) = bs.all id := by
  rw [Bool.eq_iff_iff, List.all_eq_true, List.all_eq_true]
  constructor
  · intro h b hb
    obtain ⟨i, hi, e⟩ := List.mem_iff_getElem.mp hb
    have := h i (List.mem_range.mpr hi)
    rw [List.getD_eq_getElem?_getD, List.getElem?_eq_getElem hi, e] at this
    exact this
  · intro h i hi
    have hi' := List.mem_range.mp hi
    rw [List.getD_eq_getElem?_getD, List.getElem?_eq_getElem hi']
    exact h _ (List.getElem_mem hi')
theorem call_all (hc : X.calm = true) : CallR X (.builtin "all") (fun xs H Q => ∃ (p : Addr) (bs : List Bool), xs = [.ref p] ∧ SqL X.K H p (bs.map V.bl) ∧ Q (.bl (bs.all id)) H) := by
  intro pins s σ H xs us Q I r h
  obtain ⟨p, bs, rfl, hq, q⟩ := h
  obtain ⟨u, rfl, rx⟩ := vals1 r
  cases (show u = Value.ref p from rx)
  obtain ⟨its, rv, pl, hz⟩ := I.list hq
  have hlt : p < s.heap.objs.size := by obtain ⟨_, e, _⟩ := pl.isList; exact Heap.lt_size e
  have hl := rv.length
  rw [List.length_map] at hl
  refine call_all_walk (wpAny_pyIter_list pl.isList ⟨s.heap.objs.size, _, _, _, _, _, _, rfl, Walks.list (A := X.A.in1) (show X.A.in1.handled = none from I.ok.hd hc) s.heap.objs.size p (Nat.ne_of_lt hlt) its.toArray, ⟨⟨_, Heap.get?_push_size _ rfl, rfl, rfl⟩, pl.isList.push _⟩, truth_bools rv, fun h' tk hk => ?_⟩)
  rw [List.size_toArray, ← hl, range_all]
  exact ⟨.bl _, H, I.kept fun b o e => hk b o (by simpa using Nat.ne_of_lt (Heap.lt_size e)) (Heap.get?_push_of_some _ e), rfl, q⟩
def rSlS : V → Option Int → Option Int → Hp → VK → Prop := fun x lo hi H Q => ∃ z, x = .str z ∧ z.length ≤ sizeLine ∧ Q (.str (Txt.slice z lo hi)) H
theorem sl_str : SlR X rSlS := by
  intro pins s σ H x v vl vu lo hi sl Q I rx hs pl pu h
  obtain ⟨z, rfl, hz, q⟩ := h
  obtain ⟨t, rfl⟩ := rx
  refine ⟨"str", _, F.slot_str_getitem.lookup, typeIs_str _ _ _, ?_⟩
  have fin : (Txt.slice z lo hi).length ≤ sizeLine ∧ ∀ t' k, EP X pins σ Q (.str (Txt.slice z lo hi) t') { s with toks := k } := ⟨Nat.le_trans (Txt.slice_le z _ _) hz, fun t' k => ⟨.str _, H, I.tok k, ⟨t', rfl⟩, q⟩⟩
  obtain ⟨o, ho, hc, hd⟩ := hs
  cases pl with
  | none =>
    cases pu with
    | none => exact wpAny_getItem_str_slice (l := none) (u := none) (st := none) ⟨o, ho, hc, hd⟩ rfl (post_val_or_str fin)
    | int j uj => exact wpAny_getItem_str_slice (l := none) (u := some (j, uj)) (st := none) ⟨o, ho, hc, hd⟩ rfl (post_val_or_str fin)
  | int i ui =>
    cases pu with
    | none => exact wpAny_getItem_str_slice (l := some (i, ui)) (u := none) (st := none) ⟨o, ho, hc, hd⟩ rfl (post_val_or_str fin)
    | int j uj => exact wpAny_getItem_str_slice (l := some (i, ui)) (u := some (j, uj)) (st := none) ⟨o, ho, hc, hd⟩ rfl (post_val_or_str fin)
end
structure Def (K : PySem.W.Frag) (mg : Str → Option Value) (x : Str) (st : Stmt) (ps : List Str) (f : Addr) (fd : FuncData) : Prop where
  F : Fun K x x st f fd
  mg : mg x = some (.ref f)
  b : Binds K fd ps []
theorem atI_int {α : Type} {xs : List α} {i : Int} (h0 : 0 ≤ i) (h1 : i < xs.length) : ∃ v, v ∈ xs ∧ xs[i.toNat]? = some v ∧ atI xs i = some v := by
  obtain ⟨n, rfl⟩ := Int.eq_ofNat_of_zero_le h0
  have hn : n < xs.length := by omega
  exact ⟨xs[n], List.getElem_mem hn, by simp [hn], atI_nat (List.getElem?_eq_getElem hn)⟩
theorem atI_mod {α : Type} {xs : List α} {i m : Int} (h0 : 0 < m) (h1 : m ≤ xs.length) : ∃ v, v ∈ xs ∧ xs[(i % m).toNat]? = some v ∧ atI xs (i % m) = some v :=
  atI_int (Int.emod_nonneg _ (by omega)) (by have := Int.emod_lt_of_pos i h0; omega)
end L2
namespace L2
open PySem PySem.Spec PyProof.Rows
mutual
inductive DatV (K : PySem.W.Frag) (H : Hp) : V → PyData → Prop
  | non : DatV K H .non .none
  | bl (b : Bool) : DatV K H (.bl b) (.bool b)
  | int (i : Int) : DatV K H (.int i) (.int i)
  | str (x : Str) : DatV K H (.str x) (.str x)
  | lst {a : Addr} {xs : List V} {ds : List PyData} : SqL K H a xs → DatVs K H xs ds → DatV K H (.ref a) (.list ds)
  | tup {a : Addr} {xs : List V} {ds : List PyData} : SqT K H a xs → DatVs K H xs ds → DatV K H (.ref a) (.tuple ds)
inductive DatVs (K : PySem.W.Frag) (H : Hp) : List V → List PyData → Prop
  | nil : DatVs K H [] []
  | cons {x : V} {d : PyData} {xs : List V} {ds : List PyData} : DatV K H x d → DatVs K H xs ds → DatVs K H (x :: xs) (d :: ds)
end
theorem DatV.reads {X : Cx} {pins : List (Addr × Obj)} {σ : St} {H : Hp} {s : Shared} (I : Inv X pins σ H s) {v : V} {d : PyData} (h : DatV X.K H v d) : ∀ u, RelV v u → ∃ as, Reads s.heap u d as :=
  DatV.rec (motive_1 := fun v d _ => ∀ u, RelV v u → ∃ as, Reads s.heap u d as) (motive_2 := fun xs ds _ => ∀ us, Vals xs us → ∃ as, ReadsAll s.heap us ds as)
    (fun u r => by cases (show u = Value.none from r); exact ⟨_, .none⟩)
    (fun b u r => by cases (show u = Value.bool b from r); exact ⟨_, .bool b⟩)
    (fun i u r => by obtain ⟨t, rfl⟩ := (show ∃ t, u = Value.int i t from r); exact ⟨_, .int i t⟩)
    (fun x u r => by obtain ⟨t, rfl⟩ := (show ∃ t, u = Value.str x t from r); exact ⟨_, .str x t⟩)
    (fun {a xs ds} hq _ ih u r => by
      cases (show u = Value.ref a from r)
      obtain ⟨its, rv, pl, _⟩ := I.list hq
      obtain ⟨o, ho, hc, n, hd⟩ := pl.isList
      obtain ⟨as, ra⟩ := ih its rv
      exact ⟨_, .list ho hc hd (by simpa using ra)⟩)
    (fun {a xs ds} hq _ ih u r => by
      cases (show u = Value.ref a from r)
      obtain ⟨its, rv, pl, _⟩ := I.tuple hq
      obtain ⟨o, ho, hc, n, hd⟩ := pl
      obtain ⟨as, ra⟩ := ih its rv
      exact ⟨_, .tuple ho hc hd (by simpa using ra)⟩)
    (fun us r => by cases r; exact ⟨_, .nil⟩)
    (fun {x d xs ds} _ _ ih1 ih2 us r => by
      cases r with
      | cons r1 r2 =>
        obtain ⟨as, ra⟩ := ih1 _ r1
        obtain ⟨bs, rb⟩ := ih2 _ r2
        exact ⟨_, .cons ra rb⟩) h
theorem SqL.same {K : PySem.W.Frag} {H H' : Hp} {a : Addr} {xs : List V} (e : Same H H') (h : SqL K H a xs) : SqL K H' a xs := e.seq h
theorem SqT.same {K : PySem.W.Frag} {H H' : Hp} {a : Addr} {xs : List V} (e : Same H H') (h : SqT K H a xs) : SqT K H' a xs := by
  rcases h with (h | ⟨o, h⟩) | h
  · exact .inl (.inl (e _ _ h))
  · exact .inl (.inr ⟨o, e _ _ h⟩)
  · exact .inr h
theorem DatV.same {K : PySem.W.Frag} {H H' : Hp} (e : Same H H') {v : V} {d : PyData} (h : DatV K H v d) : DatV K H' v d :=
  DatV.rec (motive_1 := fun v d _ => DatV K H' v d) (motive_2 := fun xs ds _ => DatVs K H' xs ds) .non .bl .int .str (fun q _ ih => .lst (q.same e) ih) (fun q _ ih => .tup (q.same e) ih) .nil (fun _ _ a b => .cons a b) h
theorem DatVs.same {K : PySem.W.Frag} {H H' : Hp} (e : Same H H') {v : List V} {d : List PyData} (h : DatVs K H v d) : DatVs K H' v d :=
  DatVs.rec (motive_1 := fun v d _ => DatV K H' v d) (motive_2 := fun xs ds _ => DatVs K H' xs ds) .non .bl .int .str (fun q _ ih => .lst (q.same e) ih) (fun q _ ih => .tup (q.same e) ih) .nil (fun _ _ a b => .cons a b) h
section
variable {X : Cx}
def rEqD (K : PySem.W.Frag) (neg : Bool) : R2 := fun x y H Q => ∃ d e, DatV K H x d ∧ DatV K H y e ∧ SeqAt.shaped d = true ∧ SeqAt.shaped e = true ∧ Q (.bl (if neg then !PyData.eqv d e else PyData.eqv d e)) H
theorem op_eqD (hu : X.A.units + 64 < cLine) : OpR X (compareOp .Eq) (rEqD X.K false) := by
  intro pins s σ H x y v u Q I rx ry h
  obtain ⟨d, e, hd, he, s1, s2, q⟩ := h
  obtain ⟨as, ra⟩ := hd.reads I v rx
  obtain ⟨bs, rb⟩ := he.reads I u ry
  exact eq_dataH ra rb s1 s2 hu ⟨.bl _, H, I, rfl, q⟩
end
end L2
namespace L2
open PySem PySem.Spec PyProof.Rows
section
variable {P : Program} {w : World} {H H' : Hp} {h h' : Heap} {a : Addr} {o : HO}
theorem ObjOk.there (x : ObjOk P w H h a o) : ∃ ob, h.get? a = some ob := by
  cases o with
  | lst xs => obtain ⟨_, _, _, _, e⟩ := x; exact ⟨_, e⟩
  | tup xs => obtain ⟨_, _, _, _, e, _⟩ := x; exact ⟨_, e⟩
  | dK kvs => obtain ⟨_, _, _, _, o, _, _, e, _⟩ := x; exact ⟨_, e⟩
  | dT kvs => obtain ⟨_, _, _, _, o, _, _, e, _⟩ := x; exact ⟨_, e⟩
  | set S n => obtain ⟨o, _, _, _, e, _⟩ := x; exact ⟨_, e⟩
  | ins C dx fs => obtain ⟨_, _, _, e, _⟩ := x; exact ⟨_, e⟩
  | own y => obtain ⟨_, e⟩ := x; exact ⟨_, e⟩
  | xd fs => obtain ⟨_, ⟨_, _, _, e, _⟩, _⟩ := x; exact ⟨_, e⟩
  | rng lo hi => obtain ⟨_, _, _, e⟩ := x; exact ⟨_, e⟩
  | frz ob u => obtain ⟨e, _⟩ := x; exact ⟨_, e⟩
  | tbl ps => exact ⟨_, (show h.get? a = some _ from x)⟩
  | met f y => exact ⟨_, (show h.get? a = some _ from x)⟩
  | ext φ => obtain ⟨_, ⟨_, e⟩, _⟩ := x; exact ⟨_, e⟩
end
structure Fly (P : Program) (w : World) (outer : List Env) (H H' : Hp) (s : Shared) (ea : Addr) (cls : Value) (s' : Shared) : Prop where
  os : s'.os = s.os
  bare : AllBare s'.gens
  un : Un (frs outer) [] H H' s.heap s'.heap
  fly : ∃ B a0, Heap.FlyingW B outer ea cls a0 s'.heap ∧ HOk P w H' B ∧ (∀ b o, s.heap.get? b = some o → H b = none → b ∉ frs outer → B.get? b = some o) ∧ (∀ b o, s.heap.get? b = some o → b ∉ frs outer → ∃ o', B.get? b = some o')
def CX1 (P : Program) (w : World) : CXT := fun outer H s E e s' => ∃ ea cls H', e = .ref ea ∧ Fly P w outer H H' s ea cls s' ∧ E cls none H'
section
variable {P : Program} {w : World} {outer : List Env} {H H' : Hp} {s s' : Shared} {ea : Addr} {cls : Value}
theorem Fly.turn {B : Heap} {a0 : Value} {h'' : Heap} (f : Fly P w outer H H' s ea cls s') (hfl : Heap.FlyingW B outer ea cls a0 s'.heap) (hok : HOk P w H' B) (h3 : ∀ b o, s.heap.get? b = some o → H b = none → b ∉ frs outer → B.get? b = some o)
    (h4 : ∀ b o, s.heap.get? b = some o → b ∉ frs outer → ∃ o', B.get? b = some o') (hfl' : Heap.FlyingW B outer ea cls a0 h'') (sm : s'.heap.UpToSlots h'') : Fly P w outer H H' s ea cls { s' with heap := h'' } := by
  have fr : ∀ b o', b ∈ frs outer → s'.heap.get? b = some o' → ∃ sl, h''.get? b = some { o' with slots := sl } := fun b o' hb e => by
    obtain ⟨_, o1, e1, d1⟩ := hfl.2.2.1.mem hb
    rw [e] at e1; cases e1
    exact sm b o' e d1
  refine ⟨f.os, f.bare, ⟨fun b o e n hb _ => hfl'.1 _ _ (h3 b o e n hb), fun b o e n hb hx => ?_, f.un.free, fun b o e hx => ?_, f.un.tups, f.un.frzs, f.un.tbls⟩, B, a0, hfl', hok, h3, h4⟩
  · obtain ⟨sl, e1⟩ := f.un.slot b o e n hb hx
    obtain ⟨sl', e2⟩ := fr b _ hb e1
    exact ⟨sl', e2⟩
  · by_cases hb : b ∈ frs outer
    · obtain ⟨o', e1⟩ := f.un.there b o e hx
      obtain ⟨sl', e2⟩ := fr b _ hb e1
      exact ⟨_, e2⟩
    · obtain ⟨o', e1⟩ := h4 b o e hb
      exact ⟨o', hfl'.1 _ _ e1⟩
theorem Fly.free (f : Fly P w outer H H' s ea cls s') : H' ea = none := by
  obtain ⟨B, a0, hfl, hok, _⟩ := f.fly
  cases q : H' ea with
  | none => rfl
  | some o =>
    obtain ⟨ob, e⟩ := (hok ea o q).there
    rw [hfl.2.1] at e; cases e
theorem Fly.hok (f : Fly P w outer H H' s ea cls s') : HOk P w H' s'.heap := by
  obtain ⟨B, a0, hfl, hok, _⟩ := f.fly
  exact hok.kept fun b u e => hfl.1 b u e
theorem Fly.new (f : Fly P w outer H H' s ea cls s') : s.heap.get? ea = none := by
  obtain ⟨B, a0, hfl, hok, h3, h4⟩ := f.fly
  cases q : s.heap.get? ea with
  | none => rfl
  | some o =>
    by_cases hb : ea ∈ frs outer
    · obtain ⟨_, o1, e1, d1⟩ := hfl.2.2.1.mem hb
      obtain ⟨_, _, _, oe, vs, T, oT, ts, he, _, hd, _⟩ := hfl
      rw [e1] at he; cases he
      exact absurd hd (d1 vs)
    · obtain ⟨o', e⟩ := h4 ea o q hb
      rw [hfl.2.1] at e; cases e
theorem Fly.at (f : Fly P w outer H H' s ea cls s') : ∃ oe vs, s'.heap.get? ea = some oe ∧ oe.cls = cls ∧ oe.data = .fields vs := by
  obtain ⟨B, a0, hfl, _⟩ := f.fly
  obtain ⟨oe, vs, he, hc, hd, _⟩ := hfl.first
  exact ⟨oe, vs, he, hc, hd⟩
end
structure Own (X : Cx) : Prop where
  stack : X.stack = X.env :: X.outer
  frame : X.env.frame = some X.env.locals
  ex : X.ex = []
section
variable {X : Cx} {pins : List (Addr × Obj)} {σ : St} {H H' : Hp} {s s' : Shared} {ea : Addr} {cls : Value}
theorem Own.frs (O : Own X) : frs X.stack = X.env.locals :: X.fs := by
  rw [O.stack]
  show (X.env :: X.outer).filterMap _ = _
  rw [List.filterMap_cons, O.frame]
  rfl
theorem Inv.old (I : Inv X pins σ H s) {b : Addr} {o : Obj} (e : X.s₀.heap.get? b = some o) : b ≠ X.env.locals := Nat.ne_of_lt (Nat.lt_of_lt_of_le (Heap.lt_size e) I.ok.above)
theorem Inv.oldStk (O : Own X) (I : Inv X pins σ H s) {b : Addr} {o : Obj} (e : X.s₀.heap.get? b = some o) (hb : b ∉ X.fs) : b ∉ L2.frs X.stack := by
  rw [O.frs]
  intro z
  rcases List.mem_cons.mp z with q | q
  · exact I.old e q
  · exact hb q
theorem Fly.on (O : Own X) (I : Inv X pins σ H s) (f : Fly X.prog X.w X.stack H H' s ea cls s') {h'' : Heap} (B : Heap) (a0 : Value) (hfl : Heap.FlyingW B X.stack ea cls a0 s'.heap) (hok : HOk X.prog X.w H' B)
    (h3 : ∀ b o, s.heap.get? b = some o → H b = none → b ∉ frs X.stack → B.get? b = some o) (h4 : ∀ b o, s.heap.get? b = some o → b ∉ frs X.stack → ∃ o', B.get? b = some o') (hfl' : Heap.FlyingW B X.outer ea cls a0 h'') (sm : s'.heap.UpToSlots h'') :
    Fly X.prog X.w X.outer X.H₀ H' X.s₀ ea cls { s' with heap := h'' } := by
  have nex : ∀ b : Addr, b ∉ X.ex := fun b z => by rw [O.ex] at z; exact nomatch z
  have fsS : ∀ b, b ∈ X.fs → b ∈ frs X.stack := fun b hb => by rw [O.frs]; exact List.mem_cons_of_mem _ hb
  have fr : ∀ b o', b ∈ X.fs → s'.heap.get? b = some o' → ∃ sl, h''.get? b = some { o' with slots := sl } := fun b o' hb e => by
    obtain ⟨_, o1, e1, d1⟩ := hfl.2.2.1.mem (fsS b hb)
    rw [e] at e1; cases e1
    exact sm b o' e d1
  have k3 : ∀ b o, X.s₀.heap.get? b = some o → X.H₀ b = none → b ∉ X.fs → B.get? b = some o := fun b o e n hb => h3 b o (I.base.keep b o e n hb (nex b)) (I.base.free b o e n (nex b)) (I.oldStk O e hb)
  have k4 : ∀ b o, X.s₀.heap.get? b = some o → b ∉ X.fs → ∃ o', B.get? b = some o' := fun b o e hb => by
    obtain ⟨o1, e1⟩ := I.base.there b o e (nex b)
    exact h4 b o1 e1 (I.oldStk O e hb)
  refine ⟨f.os.trans I.os, f.bare, ⟨fun b o e n hb _ => hfl'.1 _ _ (k3 b o e n hb), fun b o e n hb _ => ?_, fun b o e n _ => ?_, fun b o e _ => ?_, fun b xs q => f.un.tups b xs (I.base.tups b xs q), fun b o u q => f.un.frzs b o u (I.base.frzs b o u q), fun b ps q => ?_⟩, B, a0, hfl', hok, k3, k4⟩
  · obtain ⟨sl, e1⟩ := I.base.slot b o e n hb (nex b)
    obtain ⟨sl1, e2⟩ := f.un.slot b _ e1 (I.base.free b o e n (nex b)) (fsS b hb) (by simp)
    obtain ⟨sl2, e3⟩ := fr b _ hb e2
    exact ⟨sl2, e3⟩
  · obtain ⟨o1, e1⟩ := I.base.there b o e (nex b)
    exact f.un.free b o1 e1 (I.base.free b o e n (nex b)) (by simp)
  · by_cases hb : b ∈ X.fs
    · obtain ⟨o1, e1⟩ := I.base.there b o e (nex b)
      obtain ⟨o2, e2⟩ := f.un.there b o1 e1 (by simp)
      obtain ⟨sl, e3⟩ := fr b _ hb e2
      exact ⟨_, e3⟩
    · obtain ⟨o', e1⟩ := k4 b o e hb
      exact ⟨o', hfl'.1 _ _ e1⟩
  · obtain ⟨m1, e1⟩ := I.base.tbls b ps q
    obtain ⟨m2, e2⟩ := f.un.tbls b _ e1
    exact ⟨m1 ++ m2, by rw [e2, Array.append_assoc]⟩
theorem Inv.hid (I : Inv X pins σ H s) : HOk X.prog X.w H (PySem.W.hideAll s.heap (frs X.stack)) := fun a o e => by
  have out : ∀ b u, H b = some u → b ∉ frs X.stack := fun b u q z => by rw [I.stkFree b z] at q; cases q
  refine (I.hok a o e).stay (fun b u hb q => PySem.W.hideAll_get _ q ?_) (fun _ q => q) fun _ _ q => q
  rcases hb with rfl | hb
  · exact out _ _ e
  · exact out _ _ hb
theorem Inv.thrown (O : Own X) (I : Inv X pins σ H s) {vs : List Value} {h1 h'' : Heap} {a0 : Value} (mk : Heap.MadeExcOf s.heap h1 ea cls vs) (hfl' : Heap.FlyingW (PySem.W.hideAll s.heap (frs X.stack)) X.outer ea cls a0 h'') (sm : h1.UpToSlots h'') :
    Fly X.prog X.w X.outer X.H₀ H X.s₀ ea cls { s with heap := h'' } := by
  have nex : ∀ b : Addr, b ∉ X.ex := fun b z => by rw [O.ex] at z; exact nomatch z
  have fr : ∀ b o1 sl, b ∈ X.fs → X.s₀.heap.get? b = some o1 → s.heap.get? b = some { o1 with slots := sl } → ∃ sl, h''.get? b = some { o1 with slots := sl } := fun b o1 sl hb e0 e => by
    obtain ⟨_, o2, e2, d2⟩ := I.ok.funs.mem hb
    rw [e0] at e2; cases e2
    obtain ⟨sl', q⟩ := sm b _ (mk.keeps _ _ e) d2
    exact ⟨sl', q⟩
  have k3 : ∀ b o, X.s₀.heap.get? b = some o → X.H₀ b = none → b ∉ X.fs → (PySem.W.hideAll s.heap (frs X.stack)).get? b = some o := fun b o e n hb => PySem.W.hideAll_get _ (I.base.keep b o e n hb (nex b)) (I.oldStk O e hb)
  have k4 : ∀ b o, X.s₀.heap.get? b = some o → b ∉ X.fs → ∃ o', (PySem.W.hideAll s.heap (frs X.stack)).get? b = some o' := fun b o e hb => by
    obtain ⟨o1, e1⟩ := I.base.there b o e (nex b)
    exact ⟨o1, PySem.W.hideAll_get _ e1 (I.oldStk O e hb)⟩
  refine ⟨I.os, I.bare, ⟨fun b o e n hb _ => hfl'.1 _ _ (k3 b o e n hb), fun b o e n hb _ => ?_, fun b o e n _ => I.base.free b o e n (nex b), fun b o e _ => ?_, I.base.tups, I.base.frzs, I.base.tbls⟩, _, a0, hfl', I.hid, k3, k4⟩
  · obtain ⟨sl, e1⟩ := I.base.slot b o e n hb (nex b)
    exact fr b o sl hb e e1
  · by_cases hb : b ∈ X.fs
    · obtain ⟨sl, e1⟩ := I.base.slot b o e (I.ok.frf b hb) hb (nex b)
      obtain ⟨sl', q⟩ := fr b o sl hb e e1
      exact ⟨_, q⟩
    · obtain ⟨o', e1⟩ := k4 b o e hb
      exact ⟨o', hfl'.1 _ _ e1⟩
end
def Raises (X : Cx) (E : XK) : Prop := ∀ (pins : List (Addr × Obj)) (σ : St) (H : Hp) (s : Shared) (ea : Addr) (cls : Value) (vs : List Value) (h' : Heap), Inv X pins σ H s → Heap.MadeExcOf s.heap h' ea cls vs → E cls none H → X.xe (.ref ea) { s with heap := h' }
section
variable {P : Program} {w : World} {K : PySem.W.Frag} {mg : Str → Option Value} {base : Heap} {N : List Str} {qual : Str} {scope : Scope} {f : Addr} {cd : Value} {A : Around} {outer : List Env} {s : Shared} {H : Hp} {E : XK}
theorem own_def {CX : CXT} : Own (cxOf CX P w K mg base N qual scope f cd A outer s H E) := ⟨rfl, rfl, rfl⟩
theorem pass1 : Passes (CX1 P w) (cxOf (CX1 P w) P w K mg base N qual scope f cd A outer s H E) E := by
  intro pins σ H1 s1 e s' I hx
  obtain ⟨ea, cls, H', rfl, fl, hE⟩ := hx
  obtain ⟨B, a0, hfl, hok, h3, h4⟩ := id fl.fly
  show wpAny _ _ (leaving _ _) _ _ _
  exact wpAny_leaves_onW (L := (cxOf (CX1 P w) P w K mg base N qual scope f cd A outer s H E).env.locals) I.ok.frames rfl hfl fun h'' hfl' sm => ⟨ea, cls, H', rfl, fl.on own_def I B a0 hfl hok h3 h4 hfl' sm, hE⟩
theorem raises1 : Raises (cxOf (CX1 P w) P w K mg base N qual scope f cd A outer s H E) E := by
  intro pins σ H1 s1 ea cls vs h' I mk hE
  show wpAny _ _ (leaving _ _) _ _ _
  have hin : ∀ env ∈ (cxOf (CX1 P w) P w K mg base N qual scope f cd A outer s H E).stack, ∀ b, env.frame = some b → b ∈ frs (cxOf (CX1 P w) P w K mg base N qual scope f cd A outer s H E).stack := fun env he b hb => List.mem_filterMap.mpr ⟨env, he, hb⟩
  exact wpAny_leaves_madeW (s := { s1 with heap := h' }) (L := (cxOf (CX1 P w) P w K mg base N qual scope f cd A outer s H E).env.locals) (base := PySem.W.hideAll s1.heap (frs (cxOf (CX1 P w) P w K mg base N qual scope f cd A outer s H E).stack)) I.ok.frames rfl
    (fun b o q => PySem.W.of_hideAll _ q) (PySem.W.funFrames_hide I.stack hin) mk fun h'' t x1 x2 x3 x4 => ⟨ea, cls, H1, rfl, I.thrown own_def mk x1 x4, hE⟩
end
theorem passE {P : Program} {w : World} {X : Cx} : Passes (CX1 P w) X E0 := fun _ _ _ _ _ _ _ ⟨_, _, _, _, _, h⟩ => h.elim
structure ExcCls (K : PySem.W.Frag) (mg : Str → Option Value) (x : Str) (C : Addr) : Prop where
  mg : mg x = some (.ref C)
  ns : PySem.W.nsIn K mainGlobals x = some (some (.ref C))
  exc : PySem.W.excIn K C [.type "ValueError", .type "Exception", .type "BaseException", .type "object"] "ValueError.__new__" = true
theorem exc_obj {K : PySem.W.Frag} {h : Heap} {C : Addr} {bmB : List Value} {newId : String} (X : K.In h) (q : PySem.W.excIn K C bmB newId = true) :
    ∃ bm N nm qn bs hdct sn sub ab col dd k0 k1 k2 k3 k5 mN, h.get? C = some (excClassObj nm qn C N bs bm hdct sn sub ab col dd k0 k1 k2 k3 k5 newId) ∧ h.Ns N mN ∧ mN "__init__" = none ∧ OwnTail h bmB bm := by
  unfold PySem.W.excIn at q
  split at q
  · rename_i dd cd sl ho
    split at q
    · rename_i C' bm k0 k1 k2 k3 n k5 hm hs
      simp only [Bool.and_eq_true, beq_iff_eq, Bool.not_eq_true'] at q
      obtain ⟨⟨⟨⟨⟨rfl, rfl⟩, hdel⟩, ht⟩, hok⟩, hni⟩ := q
      obtain ⟨nm, bs, mro, ns, qn, hd, sn, sub, ab, col, del⟩ := cd
      dsimp only at hm hdel hok hni
      subst hm hdel
      have hsl : sl = #[k0, k1, k2, k3, some (.builtin n), k5] := by
        obtain ⟨l⟩ := sl
        simp only at hs
        rw [hs]
      subst hsl
      exact ⟨bm, ns, nm, qn, bs, hd, sn, sub, ab, col, dd, k0, k1, k2, k3, k5, _, X _ _ ho, .of_isNs (PySem.W.isNs_of_in X hok), PySem.W.nsMap_none_of_in X hok hni, PySem.W.tail_of_in X ht⟩
    · cases q
  · cases q
section
variable {X : Cx} {x : Str} {C : Addr} {np cpos pos : Pos} {e : Expr} {es : List Expr} {t : TA} {E : XK}
def tRaise (C : Addr) (E : XK) (t : TA) : TS := fun _ σ H => t σ H fun vs H1 => vs.length ≤ sizeLine ∧ E (.ref C) none H1
theorem ps_raise (c : ExcCls X.K X.mg x C) (hc : X.calm = true) (hr : Raises X E) (hg : Gl X x) (ha : PA X (e :: es) t) (hd : (x == ("__debug__" : Str)) = false := by decide)
    (he : starEach (e :: es) X.env = (false, eval e X.env) :: starEach es X.env := by rfl) (hpl : (backTo cpos (starEach es X.env)).any (·.1) = false := by rfl) : PS X (.Raise (some (.Call (.Name x np) (e :: es) [] cpos)) none pos) (tRaise C E t) := by
  intro pins s σ H D I h
  obtain ⟨tl, N, nm, q, bs, hdct, sn, sub, ab, col, dd, k0, k1, k2, k3, k5, mN, hC, hN, hni, T⟩ := exc_obj I.ok.mod.kin c.exc
  refine wpAny_Raise_call_subT (C := C) (nm := nm) (q := q) (N := N) (bs := bs) (bm := tl) (hdct := hdct) (sn := sn) (sub := sub) (ab := ab) (col := col) (dd := dd) (k0 := k0) (k1 := k1) (k2 := k2) (k3 := k3) (k5 := k5)
    PySem.F.excBase_ValueError (mN := mN) (T.hasType PySem.F.excBase_ValueError.hasBase) (I.ok.hd hc) (by rw [he]; show (false || (backTo cpos (starEach es X.env)).any (·.1)) = false; rw [hpl]; rfl) hni (ld_glob I hg c.mg ⟨rfl, ?_⟩ hd)
  have h2 := ha cpos pins s σ H _ I h
  rw [he] at h2 ⊢
  refine Calls.evalArgs_plain (wpAny_mono h2 (fun us s2 ⟨vs, H2, I2, r, hz, hE⟩ => ?_) fun _ _ y => y)
  exact ⟨rfl, by rw [← r.length]; exact hz, I2.bk _ _ hC, hN.keeps I2.bk, T.keeps I2.bk, fun h' ea mk => hr pins σ H2 s2 ea (.ref C) us h' I2 mk hE⟩
end
theorem Fun.okX {P : Program} {w : World} {K : PySem.W.Frag} {mg : Str → Option Value} {base : Heap} {x qual : Str} {st : Stmt} {f : Addr} {fd : FuncData} {N ps : List Str} {k : Nat} {sp : Sp} (F : Fun K x qual st f fd) (S : FnScope N ps (defScope st)) (len : ∀ vs H Q E, sp vs H Q E → vs.length = ps.length)
    (hbody : ∀ (cdv : Value) (A : Around) (outer : List Env) (s : Shared) (H : Hp) (vs : List V) (Q : VK) (E : XK), Room k (A.deeper (envOfC qual (defScope st) s.heap.objs.size f cdv)) → sp vs H Q E →
      ∃ t, PSs (cxOf (CX1 P w) P w K mg base N qual (defScope st) f cdv A outer s H E) (defBody st) t ∧ t { nx := fun _ H' => Q .non H', rt := Q } (start N vs) H) : FnOk P w K mg base (CX1 P w) (k + 1) f fd ps sp := by
  obtain ⟨oc, od, kV, doc, pm, an, cdv, ct, osl, rfl, lk, hcd⟩ := F.ex
  exact fn_of lk hcd S len fun A outer s H vs Q E hr hsp => hbody cdv A outer s H vs Q E hr hsp
end L2
namespace L2
open PySem PySem.Spec PyProof.Rows
theorem Inv.track {X : Cx} {pins : List (Addr × Obj)} {σ : St} {H : Hp} {s : Shared} {a : Addr} {o : HO} (I : Inv X pins σ H s) (hn : H a = none) (new : ObjOk X.prog X.w (upd H a o) s.heap a o) (h0 : X.s₀.heap.get? a = none) (hL : a ≠ X.env.locals)
    (hC : ∀ x c, X.env.cells.lookup x = some c → c ≠ a) (hp : ∀ p ∈ X.pn ++ pins, p.1 ≠ a) : Inv X pins σ (upd H a o) s := by
  have ne : ∀ b ob, X.s₀.heap.get? b = some ob → b ≠ a := fun b ob e z => by rw [z, h0] at e; cases e
  have tr : ∀ b u, H b = some u → upd H a o b = some u := fun b u e => by rw [upd_ne (ne_of_none e hn)]; exact e
  refine ⟨I.ok, I.os, I.bare, ⟨I.base.keep, I.base.slot, fun b ob e n hx => by rw [upd_ne (ne b ob e)]; exact I.base.free b ob e n hx, I.base.there, fun b xs q => tr _ _ (I.base.tups b xs q), fun b ob u q => tr _ _ (I.base.frzs b ob u q), fun b ps q => ?_⟩,
    I.loc, I.cell, by rw [upd_ne (Ne.symm hL)]; exact I.free, fun x c e => by rw [upd_ne (hC x c e)]; exact I.freeC x c e, fun p q => ?_, I.hok.track hn new, I.len⟩
  · obtain ⟨m, e⟩ := I.base.tbls b ps q
    exact ⟨m, tr _ _ e⟩
  · obtain ⟨q1, q2, q3⟩ := I.pin p q
    exact ⟨q1, by rw [upd_ne (hp p q)]; exact q2, q3⟩
def XP (X : Cx) (pins : List (Addr × Obj)) (σ : St) (E : XK) (ev : Value) (s' : Shared) : Prop := ∃ H s0, Inv X pins σ H s0 ∧ CX1 X.prog X.w X.stack H s0 E ev s'
abbrev TX := St → Hp → VK → XK → Prop
section
variable {X : Cx} {k : Nat} {f C : Addr} {fd : FuncData} {ps : List Str} {sp : Sp} {dvs : List V} {ds : List Value} {x m : Str} {p pos apos : Pos} {e o : Expr} {es : List Expr} {ta : TE} {t : TA}
end
def Cx.suite (X : Cx) (ea : Addr) : Cx := { X with A := X.A.mark (some (.ref ea)), calm := false, xe := fun _ _ => False }
section
variable {X : Cx} {pins : List (Addr × Obj)} {σ : St} {H : Hp} {s : Shared} {ea : Addr}
theorem Inv.suite (I : Inv X pins σ H s) (ea : Addr) : Inv (X.suite ea) pins σ H s :=
  ⟨⟨I.ok.mod, I.ok.kind, I.ok.glob, I.ok.blt, I.ok.above, I.ok.inj, I.ok.has, I.ok.cab, fun q => (nomatch q), I.ok.frames, I.ok.stk, I.ok.exf, I.ok.bs, I.ok.bsz, I.ok.noex, I.ok.exfs, I.ok.funs, I.ok.frf⟩, I.os, I.bare, I.base, I.loc, I.cell, I.free, I.freeC, I.pin, I.hok, I.len⟩
end
section
variable {X : Cx} {e : Expr} {c n : Str} {b₀ : Stmt} {suite : List Stmt} {epos np hpos pos : Pos} {te : TX} {ts : TS} {cv : Value} {i : Nat}
end
end L2
namespace L2
open PySem PySem.Spec PyProof.Rows
section
variable {prog : Program} {w : World} {A : Around} {E : Value → Shared → Prop} {K : PySem.W.Frag} {h : Heap} {g : Array GenState} {d : Drawn} {t : Nat} {os : OsState} {a D : Addr} {o : Obj} {vs : Array Value}
structure ExcLk (K : PySem.W.Frag) (D : Addr) : Prop where
  ga : PySem.W.findIn K (.ref D) "__getattribute__" = some (some (.builtin "BaseException.__getattribute__"))
  gt : PySem.W.findIn K (.ref D) "__getattr__" = some none
  cl : PySem.W.findIn K (.ref D) "__class__" = some (some (.builtin "object.__class__"))
  mro : PySem.W.mroIn K D (.type "object") = some true
  sub : PySem.W.subIn K (.ref D) (.type "BaseException") = some true
  cls : (PySem.W.clsIn K D).isSome = true
section
open PySem.W Builtin Builtin.ObjectAttr Builtin.Getset_descriptor
end
end
section
variable {X : Cx}
end
structure RoomN (k : Nat) (A : Around) : Prop where
  dp : A.depth + 3 * k + 5 < recursionLimit
  un : A.units + 16 * k + 200 < cLine
theorem Room.n {k : Nat} {A : Around} (r : Room k A) : RoomN k A := ⟨r.dp, r.un⟩
theorem RoomN.mono {j k : Nat} {A : Around} (r : RoomN k A) (h : j ≤ k) : RoomN j A := ⟨by have := r.dp; omega, by have := r.un; omega⟩
theorem RoomN.mark {k : Nat} {A : Around} (r : RoomN k A) (hd : Option Value) : RoomN k (A.mark hd) := ⟨r.dp, r.un⟩
theorem RoomN.deeper {k : Nat} {A : Around} (r : RoomN (k + 1) A) (env : Env) : RoomN k (A.deeper env) :=
  ⟨by have := r.dp; show A.depth + 1 + 3 * k + 5 < _; omega, by have := r.un; show A.units + 3 + 16 * k + 200 < _; omega⟩
theorem RoomN.depth {k : Nat} {A : Around} (r : RoomN k A) : A.depth < recursionLimit := by have := r.dp; omega
theorem RoomN.units {k : Nat} {A : Around} (r : RoomN k A) : A.units + 64 < cLine := by have := r.un; omega
structure FnOkN (P : Program) (w : World) (K : PySem.W.Frag) (mg : Str → Option Value) (base : Heap) (k : Nat) (f : Addr) (fd : FuncData) (ps : List Str) (sp : Sp) : Prop where
  len : ∀ vs H Q E, sp vs H Q E → vs.length = ps.length
  run : ∀ (A : Around) (outer : List Env) (s : Shared) (H : Hp) (args : Args) (us : List Value) (vs : List V) (Q : VK) (E : XK), RoomN k A → Env0 P w K mg base A outer s H → BindsTo s fd args (ps.zip us) → Vals vs us → sp vs H Q E →
    codeAny (model P w) A (.call (.ref f) args) (CR CX0 outer P w H s Q E) s
theorem FnOkN.calm {P : Program} {w : World} {K : PySem.W.Frag} {mg : Str → Option Value} {base : Heap} {k : Nat} {f : Addr} {fd : FuncData} {ps : List Str} {sp : Sp} (F : FnOkN P w K mg base k f fd ps sp) : FnOk P w K mg base CX0 k f fd ps sp :=
  ⟨F.len, fun A outer s H args us vs Q E hr => F.run A outer s H args us vs Q E hr.n⟩
def cxOfN (P : Program) (w : World) (K : PySem.W.Frag) (mg : Str → Option Value) (base : Heap) (N : List Str) (qual : Str) (scope : Scope) (f : Addr) (cd : Value) (A : Around) (outer : List Env) (s : Shared) (H : Hp) : Cx :=
  { cxOf CX0 P w K mg base N qual scope f cd A outer s H E0 with calm := false, xe := fun _ _ => False }
section
variable {X : Cx} {k : Nat} {f : Addr} {fd : FuncData} {ps : List Str} {sp : Sp} {dvs : List V} {ds : List Value} {x : Str} {p pos : Pos} {e : Expr} {es : List Expr} {t : TA} {E : XK}
end
structure ClsM (K : PySem.W.Frag) (B : Addr) (m : Str) (f : Addr) : Prop where
  sp : PySem.W.specialIn K (.ref B) "__getattribute__" = some (some (.builtin "type.__getattribute__"))
  rd : PySem.W.readsIn K B (.type "type") = true
  fd : PySem.W.findCls K (.ref B) (.type "type") m = some (.val (.ref f))
  kp : PySem.W.keepIn K (.ref f) = true
section
variable {X : Cx} {CX : CXT} {k : Nat} {f B : Addr} {fd : FuncData} {ps : List Str} {sp : Sp} {dvs : List V} {ds : List Value} {E : XK} {x m : Str} {p pos apos : Pos} {e : Expr} {es : List Expr} {t : TA}
theorem pe_clsm {pl : Sem Bool} (hg : Gl X x) (hmg : X.mg x = some (.ref B)) (c : ClsM X.K B m f) (F : FnOk X.prog X.w X.K X.mg X.base CX k f fd ps sp) (hr : Room k X.A) (hb : Binds X.K fd ps ds) (hd : Vals dvs ds) (hx : Passes CX X E) (ha : PA X (e :: es) t)
    (hdb : (x == ("__debug__" : Str)) = false := by decide) (hst : starEach (e :: es) X.env = (false, eval e X.env) :: starEach es X.env := by rfl) (hpl : (backTo pos (starEach es X.env)).any (·.1) = false := by rfl)
    (ht : eval (.Call (.Attribute (.Name x p) m apos) (e :: es) [] pos) X.env = (do
      let ov ← eval (.Name x p) X.env
      standAt apos.atName
      let (f, first) ← holding [ov] (getMethod ov m pl)
      callWith pos f first (backTo pos (starEach (e :: es) X.env)) (backToKw pos (keywordEach [] X.env))) := by rfl) :
    PE X (.Call (.Attribute (.Name x p) m apos) (e :: es) [] pos) (tCall sp dvs E t) := by
  intro pins s σ H Q I h
  refine PySem.W.methodCall_KW (pl := pl) (ld_glob I hg hmg ?_ hdb) ht
  refine PySem.W.method_cls I.kIn c.sp (PySem.W.cls_value I.kIn c.rd c.fd rfl ?_)
  have I' := I.tok (s.toks + 1)
  refine PySem.W.callWith_K (first := []) (h₀ := X.base) I.ok.mod.kin c.kp (thn (ha pos pins { s with toks := s.toks + 1 } σ H _ I' h) fun us s2 ⟨vs, H2, I2, r, q2⟩ => ⟨I2.kIn, ?_⟩) hst hpl
  exact run_fn F hr hb hd hx I2 r q2
end
section
variable {X : Cx}
def rInsert : V → List V → Hp → VK → Prop := fun x vs H Q => ∃ l xs i y, x = .ref l ∧ vs = [.int i, y] ∧ H l = some (.lst xs) ∧ 0 ≤ i ∧ i ≤ xs.length ∧ xs.length < sizeLine ∧ Q .non (upd H l (.lst (xs.take i.toNat ++ y :: xs.drop i.toNat)))
end
end L2
namespace L2
open PySem PySem.Spec PyProof.Rows
section
variable {X : Cx}
theorem CallR.imp {f : Value} {r r' : List V → Hp → VK → Prop} (h : CallR X f r) (hi : ∀ xs H Q, r' xs H Q → r xs H Q) : CallR X f r' := fun pins s σ H xs us Q I rs q => h pins s σ H xs us Q I rs (hi _ _ _ q)
def rLenL (K : PySem.W.Frag) : List V → Hp → VK → Prop := fun xs H Q => ∃ p ys, xs = [.ref p] ∧ SqL K H p ys ∧ Q (.int ys.length) H
def rLenT (K : PySem.W.Frag) : List V → Hp → VK → Prop := fun xs H Q => ∃ p ys, xs = [.ref p] ∧ SqT K H p ys ∧ Q (.int ys.length) H
def rListL (K : PySem.W.Frag) : List V → Hp → VK → Prop := fun xs H Q => ∃ p ys, xs = [.ref p] ∧ SqL K H p ys ∧ ∀ l, H l = none → Q (.ref l) (upd H l (.lst ys))
def rListT (K : PySem.W.Frag) : List V → Hp → VK → Prop := fun xs H Q => ∃ p ys, xs = [.ref p] ∧ SqT K H p ys ∧ ∀ l, H l = none → Q (.ref l) (upd H l (.lst ys))
def rTupL (K : PySem.W.Frag) : List V → Hp → VK → Prop := fun xs H Q => ∃ p ys, xs = [.ref p] ∧ SqL K H p ys ∧ ∀ l, H l = none → Q (.ref l) (upd H l (.tup ys))
def rTupT (K : PySem.W.Frag) : List V → Hp → VK → Prop := fun xs H Q => ∃ p ys, xs = [.ref p] ∧ SqT K H p ys ∧ Q (.ref p) H
def rIsiT (K : PySem.W.Frag) : List V → Hp → VK → Prop := fun xs H Q => ∃ x n t b, xs = [x, .ty n] ∧ TyOf K H x t ∧ PySem.W.kitOne K t (.type n) = some b ∧ Q (.bl b) H
theorem call_lenL : CallR X (.builtin "len") (rLenL X.K) := call_len_seq.imp fun _ _ _ ⟨p, ys, e, h, q⟩ => ⟨p, ys, e, .inl h, q⟩
theorem call_lenT : CallR X (.builtin "len") (rLenT X.K) := call_len_seq.imp fun _ _ _ ⟨p, ys, e, h, q⟩ => ⟨p, ys, e, .inr h, q⟩
theorem call_tupL : CallR X (.type "tuple") (rTupL X.K) := call_tuple_of.imp fun _ _ _ ⟨p, ys, e, h, q⟩ => ⟨p, ys, e, .inl ⟨h, q⟩⟩
end
theorem scal_ii {a b : Int} : (scal (.int a) (.int b) = true) = True := eq_true rfl
theorem scal_ss {a b : Str} : (scal (.str a) (.str b) = true) = True := eq_true rfl
theorem scal_bb {a b : Bool} : (scal (.bl a) (.bl b) = true) = True := eq_true rfl
theorem Same.upd {H H' : Hp} {l : Addr} {o : HO} (s : Same H H') (h : H' l = none) : Same H (upd H' l o) := fun b u e => by
  have e' := s b u e
  rw [upd_ne (ne_of_none e' h)]
  exact e'
theorem Same.put {H : Hp} {l : Addr} {o : HO} (h : H l = none) : Same H (L2.upd H l o) := (Same.refl H).upd h
end L2
namespace SH
open PySem L2
abbrev LET : Str := "abcdefghijklmnopqrstuvwxyz"
def letC (c : Nat) : Bool := !(Builtin.Str.occurrences LET ⟨#[c]⟩ 0 LET.length 1).isEmpty
def markS (x : Str) : Bool := decide (1 ≤ x.length) && decide (x.length ≤ 8) && x.cps.toList.all letC
def markV : V → Bool
  | .str x => markS x
  | _ => false
def wholeV : V → Bool
  | .int _ => true
  | _ => false
inductive Thg (H : Hp) : V → Prop where
  | non : Thg H .non
  | bl (b : Bool) : Thg H (.bl b)
  | int (i : Int) : Thg H (.int i)
  | str (x : Str) (h : x.length ≤ 1000) : Thg H (.str x)
  | lst {a : Addr} {xs : List V} (h : H a = some (.lst xs)) : Thg H (.ref a)
  | tup {a : Addr} {xs : List V} (h : H a = some (.tup xs)) : Thg H (.ref a)
theorem Thg.same {H H' : Hp} {v : V} (s : Same H H') (t : Thg H v) : Thg H' v := by
  cases t with
  | non => exact .non
  | bl b => exact .bl b
  | int i => exact .int i
  | str x h => exact .str x h
  | lst h => exact .lst (s _ _ h)
  | tup h => exact .tup (s _ _ h)
def isStr : V → Bool
  | .str _ => true
  | _ => false
def isInt : V → Bool
  | .int _ => true
  | .bl _ => true
  | _ => false
def isBl : V → Bool
  | .bl _ => true
  | _ => false
section
variable {K : PySem.W.Frag}
theorem Thg.ty {H : Hp} {v : V} (t : Thg H v) : ∃ y, TyOf K H v y ∧ PySem.W.kitOne K y (.type "str") = some (isStr v) ∧ PySem.W.kitOne K y (.type "int") = some (isInt v) ∧ PySem.W.kitOne K y (.type "bool") = some (isBl v) := by
  cases t with
  | non => exact ⟨_, .non, by kernel_rfl, by kernel_rfl, by kernel_rfl⟩
  | bl b => exact ⟨_, .bl b, by kernel_rfl, by kernel_rfl, by kernel_rfl⟩
  | int i => exact ⟨_, .int i, by kernel_rfl, by kernel_rfl, by kernel_rfl⟩
  | str x h => exact ⟨_, .str x, by kernel_rfl, by kernel_rfl, by kernel_rfl⟩
  | lst h => exact ⟨_, .lst h, by kernel_rfl, by kernel_rfl, by kernel_rfl⟩
  | tup h => exact ⟨_, .tup h, by kernel_rfl, by kernel_rfl, by kernel_rfl⟩
theorem Thg.isList {H : Hp} {v : V} (t : Thg H v) : ∃ y b, TyOf K H v y ∧ PySem.W.kitOne K y (.type "list") = some b ∧ ((b = true ∧ ∃ a xs, v = .ref a ∧ H a = some (.lst xs)) ∨ (b = false ∧ ∀ a xs, v = .ref a → H a ≠ some (.lst xs))) := by
  cases t with
  | non => exact ⟨_, false, .non, by kernel_rfl, .inr ⟨rfl, fun _ _ z => nomatch z⟩⟩
  | bl b => exact ⟨_, false, .bl b, by kernel_rfl, .inr ⟨rfl, fun _ _ z => nomatch z⟩⟩
  | int i => exact ⟨_, false, .int i, by kernel_rfl, .inr ⟨rfl, fun _ _ z => nomatch z⟩⟩
  | str x h => exact ⟨_, false, .str x, by kernel_rfl, .inr ⟨rfl, fun _ _ z => nomatch z⟩⟩
  | lst h => exact ⟨_, true, .lst h, by kernel_rfl, .inl ⟨rfl, _, _, rfl, h⟩⟩
  | tup h => exact ⟨_, false, .tup h, by kernel_rfl, .inr ⟨rfl, fun _ _ z e => by cases z; rw [h] at e; cases e⟩⟩
end
theorem all_take_succ {p : Nat → Bool} {l : List Nat} {i c : Nat} (h : l[i]? = some c) : (l.take (i + 1)).all p = ((l.take i).all p && p c) := by
  rw [List.take_add_one, h]
  simp
theorem at_str {z : Str} {i m : Int} (h0 : 0 < m) (h1 : m ≤ z.length) : ∃ c, c ∈ z.cps.toList ∧ atI z.cps.toList (i % m) = some c := by
  obtain ⟨v, hm, _, e⟩ := atI_mod (xs := z.cps.toList) (i := i) h0 (by simpa [Str.length] using h1)
  exact ⟨v, hm, e⟩
theorem one_len (c : Nat) : (⟨#[c]⟩ : Str).length = 1 := rfl
def cellF (ns : List Int) (k : Nat) : Int := ns.getD k 0
def mixF (seed k : Int) : Int := (seed % 10 ^ 20 + 17 * k + k * k * k + 5) * 48271 % 1000003 * 69621 % 999983
def StIs (σ τ : St) : Prop := σ = τ
theorem StIs.rfl {σ : St} : StIs σ σ := Eq.refl σ
theorem StIs.eq {σ τ : St} (h : StIs σ τ) : σ = τ := h
def GoodL (n : Nat) (H : Hp) (v : V) : Prop := ∃ a xs, v = .ref a ∧ H a = some (.lst xs) ∧ xs.length ≤ n
def GoodM (n : Nat) (H : Hp) (v : V) : Prop := ∃ a xs, v = .ref a ∧ H a = some (.lst xs) ∧ xs.length ≤ n ∧ xs.all markV = true
def Thg2 (H : Hp) (v : V) : Prop := Thg H v ∧ ∀ a xs, v = .ref a → H a = some (.lst xs) → ∀ x ∈ xs, Thg H x
theorem Thg.back {H H' : Hp} {v : V} {a : Addr} {xs : List V} (t : Thg H v) (s : Same H H') (e : v = .ref a) (h : H' a = some (.lst xs)) : H a = some (.lst xs) := by
  cases t with
  | non => cases e
  | bl b => cases e
  | int i => cases e
  | str x h => cases e
  | lst h1 => cases e; rw [s _ _ h1] at h; cases h; exact h1
  | tup h1 => cases e; rw [s _ _ h1] at h; cases h
theorem Thg2.same {H H' : Hp} {v : V} (s : Same H H') (t : Thg2 H v) : Thg2 H' v := ⟨t.1.same s, fun a xs e h x hx => (t.2 a xs e (t.1.back s e h) x hx).same s⟩
theorem GoodM.back {n : Nat} {H H' : Hp} {v : V} (t : Thg H v) (s : Same H H') (g : GoodM n H' v) : GoodM n H v := by
  obtain ⟨a, xs, e, h, l, m⟩ := g
  exact ⟨a, xs, e, t.back s e h, l, m⟩
theorem thg2_lst {H : Hp} {a : Addr} {xs : List V} (h : H a = some (.lst xs)) (hx : ∀ x ∈ xs, Thg H x) : Thg2 H (.ref a) := ⟨.lst h, fun a' xs' e h' x m => by cases e; rw [h] at h'; cases h'; exact hx x m⟩
theorem app_list (a y : Str) : (a ++ y).cps.toList = a.cps.toList ++ y.cps.toList := by
  rw [PySem.Str.cps_append, Array.toList_append]
theorem letC_iff {c : Nat} : letC c = true ↔ c ∈ LET.cps.toList := by
  unfold letC
  rw [PySem.StrLaws.found_one, decide_eq_true_eq]
theorem letC_ok {c : Nat} (h : letC c = true) : c < 0x110000 := by
  have h1 : ∀ d ∈ LET.cps.toList, d < 0x110000 := by decide +kernel
  exact h1 c (letC_iff.mp h)
theorem mark_all {z : Str} (h : markS z = true) : 1 ≤ z.length ∧ z.length ≤ 8 ∧ ∀ c ∈ z.cps.toList, letC c = true := by
  unfold markS at h
  simp only [Bool.and_eq_true, decide_eq_true_eq, List.all_eq_true] at h
  exact ⟨h.1.1, h.1.2, h.2⟩
theorem mark_strOk {z : Str} (h : markS z = true) : PyData.strOk z = true := by
  unfold PyData.strOk
  rw [← Array.all_toList, List.all_eq_true]
  intro c hc
  exact decide_eq_true (letC_ok ((mark_all h).2.2 c hc))
theorem mark_of {z : Str} (h1 : 1 ≤ z.length) (h2 : z.length ≤ 8) (h3 : ∀ c ∈ z.cps.toList, letC c = true) : markS z = true := by
  unfold markS
  simp only [Bool.and_eq_true, decide_eq_true_eq, List.all_eq_true]
  exact ⟨⟨h1, h2⟩, h3⟩
end SH
namespace SH
open PySem L2
theorem lookup2 {α : Type} {a b : Str} {x y : α} (h : (b == a) = false) : List.lookup b [(a, x), (b, y)] = some y := by
  rw [List.lookup_cons, h, List.lookup_cons, beq_self_eq_true]
theorem lookup_no {α : Type} {a b c : Str} {x y : α} (h : (c == a) = false) (h' : (c == b) = false) : List.lookup c [(a, x), (b, y)] = none := by
  rw [List.lookup_cons, h, List.lookup_cons, h']
  rfl
theorem putF2 {a b : Str} {x y : V} (h : ¬ a = b) : putF b y [(a, x)] = [(a, x), (b, y)] := by
  show (if a = b then [(a, y)] else (a, x) :: putF b y []) = _
  rw [if_neg h]
  rfl
abbrev Nd := Str × Int
def NodeAt (H : Hp) (x : V) (n : Nd) : Prop := ∃ t, x = .ref t ∧ H t = some (.tup [.str n.1, .int n.2])
def NodesAt (H : Hp) : List V → List Nd → Prop
  | [], [] => True
  | x :: xs, n :: ns => NodeAt H x n ∧ NodesAt H xs ns
  | [], _ :: _ => False
  | _ :: _, [] => False
theorem NodeAt.same {H H' : Hp} {x : V} {n : Nd} (s : Same H H') (h : NodeAt H x n) : NodeAt H' x n := by
  obtain ⟨t, e, h⟩ := h
  exact ⟨t, e, s _ _ h⟩
theorem NodeAt.uniq {H : Hp} {x : V} {n m : Nd} (a : NodeAt H x n) (b : NodeAt H x m) : n = m := by
  obtain ⟨t, e, h⟩ := a
  obtain ⟨t', e', h'⟩ := b
  rw [e] at e'
  cases e'
  rw [h] at h'
  obtain ⟨n1, n2⟩ := n
  obtain ⟨m1, m2⟩ := m
  simp at h'
  rw [h'.1, h'.2]
theorem NodesAt.same {H H' : Hp} (s : Same H H') : ∀ {xs : List V} {ns : List Nd}, NodesAt H xs ns → NodesAt H' xs ns
  | [], [], h => h
  | _ :: _, _ :: _, h => ⟨h.1.same s, NodesAt.same s h.2⟩
  | [], _ :: _, h => h.elim
  | _ :: _, [], h => h.elim
theorem NodesAt.tups {H H' : Hp} (s : ∀ b ys, H b = some (.tup ys) → H' b = some (.tup ys)) : ∀ {xs : List V} {ns : List Nd}, NodesAt H xs ns → NodesAt H' xs ns
  | [], [], h => h
  | _ :: _, _ :: _, h => by
    obtain ⟨⟨t, e, h1⟩, h2⟩ := h
    exact ⟨⟨t, e, s _ _ h1⟩, NodesAt.tups s h2⟩
  | [], _ :: _, h => h.elim
  | _ :: _, [], h => h.elim
theorem NodesAt.length {H : Hp} : ∀ {xs : List V} {ns : List Nd}, NodesAt H xs ns → xs.length = ns.length
  | [], [], _ => rfl
  | _ :: _, _ :: _, h => by rw [List.length_cons, List.length_cons, NodesAt.length h.2]
  | [], _ :: _, h => h.elim
  | _ :: _, [], h => h.elim
theorem NodesAt.uniq {H : Hp} : ∀ {xs : List V} {ns ms : List Nd}, NodesAt H xs ns → NodesAt H xs ms → ns = ms
  | [], [], [], _, _ => rfl
  | _ :: _, _ :: _, _ :: _, a, b => by rw [a.1.uniq b.1, NodesAt.uniq a.2 b.2]
  | [], _ :: _, _, a, _ => a.elim
  | [], _, _ :: _, _, b => b.elim
  | _ :: _, [], _, a, _ => a.elim
  | _ :: _, _, [], _, b => b.elim
theorem NodesAt.append {H : Hp} : ∀ {xs ys : List V} {ns ms : List Nd}, NodesAt H xs ns → NodesAt H ys ms → NodesAt H (xs ++ ys) (ns ++ ms)
  | [], _, [], _, _, b => b
  | _ :: _, _, _ :: _, _, a, b => ⟨a.1, NodesAt.append a.2 b⟩
  | [], _, _ :: _, _, a, _ => a.elim
  | _ :: _, _, [], _, a, _ => a.elim
theorem NodesAt.split {H : Hp} : ∀ {xs ys : List V} {ns : List Nd}, NodesAt H (xs ++ ys) ns → ∃ n1 n2, ns = n1 ++ n2 ∧ NodesAt H xs n1 ∧ NodesAt H ys n2
  | [], _, ns, h => ⟨[], ns, rfl, trivial, h⟩
  | x :: xs, ys, [], h => h.elim
  | x :: xs, ys, n :: ns, h => by
    obtain ⟨n1, n2, e, a, b⟩ := NodesAt.split (xs := xs) h.2
    exact ⟨n :: n1, n2, by rw [e]; rfl, ⟨h.1, a⟩, b⟩
theorem NodesAt.get {H : Hp} : ∀ {xs : List V} {ns : List Nd} {i : Nat} {x : V}, NodesAt H xs ns → xs[i]? = some x → ∃ n, ns[i]? = some n ∧ NodeAt H x n
  | [], [], _, _, _, e => by simp at e
  | _ :: _, n :: _, 0, _, h, e => by simp at e; subst e; exact ⟨n, rfl, h.1⟩
  | _ :: _, _ :: _, i + 1, x, h, e => by
    obtain ⟨m, a, b⟩ := NodesAt.get (i := i) (x := x) h.2 (by simpa using e)
    exact ⟨m, by simpa using a, b⟩
  | [], _ :: _, _, _, h, _ => h.elim
  | _ :: _, [], _, _, h, _ => h.elim
theorem NodesAt.take {H : Hp} : ∀ {xs : List V} {ns : List Nd} (i : Nat), NodesAt H xs ns → NodesAt H (xs.take i) (ns.take i)
  | [], [], _, _ => by simp [NodesAt]
  | _ :: _, _ :: _, 0, _ => trivial
  | _ :: _, _ :: _, i + 1, h => ⟨h.1, NodesAt.take i h.2⟩
  | [], _ :: _, _, h => h.elim
  | _ :: _, [], _, h => h.elim
theorem NodesAt.drop {H : Hp} : ∀ {xs : List V} {ns : List Nd} (i : Nat), NodesAt H xs ns → NodesAt H (xs.drop i) (ns.drop i)
  | [], [], _, _ => by simp [NodesAt]
  | _ :: _, _ :: _, 0, h => h
  | _ :: _, _ :: _, i + 1, h => NodesAt.drop i h.2
  | [], _ :: _, _, h => h.elim
  | _ :: _, [], _, h => h.elim
def deep1 (n : Nd) : Int := min (n.2 + 1) 12
def depthOk : Int → List Nd → Prop
  | _, [] => True
  | d, n :: r => markS n.1 = true ∧ 0 ≤ n.2 ∧ n.2 ≤ d ∧ depthOk (deep1 n) r
def deepAfter : Int → List Nd → Int
  | d, [] => d
  | _, n :: r => deepAfter (deep1 n) r
theorem depthOk_append : ∀ {d : Int} {a b : List Nd}, depthOk d (a ++ b) ↔ depthOk d a ∧ depthOk (deepAfter d a) b
  | d, [], b => by simp [depthOk, deepAfter]
  | d, n :: r, b => by
    have ih := depthOk_append (d := deep1 n) (a := r) (b := b)
    simp only [List.cons_append, depthOk, deepAfter, ih]
    constructor
    · rintro ⟨h1, h2, h3, h4, h5⟩; exact ⟨⟨h1, h2, h3, h4⟩, h5⟩
    · rintro ⟨⟨h1, h2, h3, h4⟩, h5⟩; exact ⟨h1, h2, h3, h4, h5⟩
theorem deepAfter_append : ∀ {d : Int} {a b : List Nd}, deepAfter d (a ++ b) = deepAfter (deepAfter d a) b
  | _, [], _ => rfl
  | _, n :: r, b => deepAfter_append (d := deep1 n) (a := r) (b := b)
theorem depthOk_all {d : Int} {ns : List Nd} : depthOk d ns → ∀ n ∈ ns, markS n.1 = true ∧ 0 ≤ n.2 := by
  induction ns generalizing d with
  | nil => intro _ n h; exact nomatch h
  | cons m r ih =>
    rintro ⟨h1, h2, _, h4⟩ n hn
    rcases List.mem_cons.mp hn with e | e
    · rw [e]; exact ⟨h1, h2⟩
    · exact ih h4 n e
def Thg3 (H : Hp) (v : V) : Prop := Thg H v ∧ ∀ a xs, v = .ref a → H a = some (.tup xs) → ∀ x ∈ xs, Thg H x
def Thg4 (H : Hp) (v : V) : Prop := Thg H v ∧ ∀ a xs, v = .ref a → H a = some (.lst xs) → ∀ x ∈ xs, Thg3 H x
def GoodN (H : Hp) (v : V) : Prop := ∃ a xs ns, v = .ref a ∧ H a = some (.lst xs) ∧ xs.length ≤ 40 ∧ NodesAt H xs ns ∧ depthOk 0 ns
theorem Thg.backT {H H' : Hp} {v : V} {a : Addr} {xs : List V} (t : Thg H v) (s : Same H H') (e : v = .ref a) (h : H' a = some (.tup xs)) : H a = some (.tup xs) := by
  cases t with
  | non => cases e
  | bl b => cases e
  | int i => cases e
  | str x h => cases e
  | lst h1 => cases e; rw [s _ _ h1] at h; cases h
  | tup h1 => cases e; rw [s _ _ h1] at h; cases h; exact h1
theorem Thg3.same {H H' : Hp} {v : V} (s : Same H H') (t : Thg3 H v) : Thg3 H' v := ⟨t.1.same s, fun a xs e h x hx => (t.2 a xs e (t.1.backT s e h) x hx).same s⟩
theorem Thg4.same {H H' : Hp} {v : V} (s : Same H H') (t : Thg4 H v) : Thg4 H' v := ⟨t.1.same s, fun a xs e h x hx => (t.2 a xs e (t.1.back s e h) x hx).same s⟩
theorem NodeAt.back {H H' : Hp} {v : V} {n : Nd} (t : Thg H v) (s : Same H H') (h : NodeAt H' v n) : NodeAt H v n := by
  obtain ⟨a, e, h⟩ := h
  exact ⟨a, e, t.backT s e h⟩
theorem NodesAt.back {H H' : Hp} (s : Same H H') : ∀ {xs : List V} {ns : List Nd}, (∀ x ∈ xs, Thg H x) → NodesAt H' xs ns → NodesAt H xs ns
  | [], [], _, h => h
  | x :: xs, _ :: _, t, h => ⟨h.1.back (t x List.mem_cons_self) s, NodesAt.back s (fun y hy => t y (List.mem_cons_of_mem _ hy)) h.2⟩
  | [], _ :: _, _, h => h.elim
  | _ :: _, [], _, h => h.elim
theorem GoodN.back {H H' : Hp} {v : V} (t : Thg4 H v) (s : Same H H') (g : GoodN H' v) : GoodN H v := by
  obtain ⟨a, xs, ns, e, h, l, m, d⟩ := g
  have h0 := t.1.back s e h
  exact ⟨a, xs, ns, e, h0, l, m.back s fun x hx => (t.2 a xs e h0 x hx).1, d⟩
theorem Thg.isTup {K : PySem.W.Frag} {H : Hp} {v : V} (t : Thg H v) : ∃ y b, TyOf K H v y ∧ PySem.W.kitOne K y (.type "tuple") = some b ∧ ((b = true ∧ ∃ a xs, v = .ref a ∧ H a = some (.tup xs)) ∨ (b = false ∧ ∀ a xs, v = .ref a → H a ≠ some (.tup xs))) := by
  cases t with
  | non => exact ⟨_, false, .non, by kernel_rfl, .inr ⟨rfl, fun _ _ z => nomatch z⟩⟩
  | bl b => exact ⟨_, false, .bl b, by kernel_rfl, .inr ⟨rfl, fun _ _ z => nomatch z⟩⟩
  | int i => exact ⟨_, false, .int i, by kernel_rfl, .inr ⟨rfl, fun _ _ z => nomatch z⟩⟩
  | str x h => exact ⟨_, false, .str x, by kernel_rfl, .inr ⟨rfl, fun _ _ z => nomatch z⟩⟩
  | lst h => exact ⟨_, false, .lst h, by kernel_rfl, .inr ⟨rfl, fun _ _ z e => by cases z; rw [h] at e; cases e⟩⟩
  | tup h => exact ⟨_, true, .tup h, by kernel_rfl, .inl ⟨rfl, _, _, rfl, h⟩⟩
theorem notN_mid {H : Hp} {a : Addr} {A R : List V} {b : V} {ns : List Nd} (h : H a = some (.lst (A ++ b :: R))) (hA : NodesAt H A ns) (hb : ∀ n, NodeAt H b n → ¬ (markS n.1 = true ∧ 0 ≤ n.2 ∧ n.2 ≤ deepAfter 0 ns)) : ¬ GoodN H (.ref a) := by
  rintro ⟨a', xs', ms, e, h', l, m, d⟩
  cases e
  rw [h] at h'
  cases h'
  obtain ⟨n1, n2, rfl, m1, m2⟩ := m.split
  cases n2 with
  | nil => exact m2.elim
  | cons n r =>
    have := m1.uniq hA
    subst this
    have d2 := (depthOk_append.mp d).2
    exact hb n m2.1 ⟨d2.1, d2.2.1, d2.2.2.1⟩
theorem thg3_tup {H : Hp} {a : Addr} {xs : List V} (h : H a = some (.tup xs)) (hx : ∀ x ∈ xs, Thg H x) : Thg3 H (.ref a) := ⟨.tup h, fun a' xs' e h' x m => by cases e; rw [h] at h'; cases h'; exact hx x m⟩
theorem thg4_lst {H : Hp} {a : Addr} {xs : List V} (h : H a = some (.lst xs)) (hx : ∀ x ∈ xs, Thg3 H x) : Thg4 H (.ref a) := ⟨.lst h, fun a' xs' e h' x m => by cases e; rw [h] at h'; cases h'; exact hx x m⟩
theorem NodeAt.thg3 {H : Hp} {x : V} {n : Nd} (h : NodeAt H x n) (hm : n.1.length ≤ 1000) : Thg3 H x := by
  obtain ⟨t, e, h⟩ := h
  subst e
  refine thg3_tup h fun y hy => ?_
  simp only [List.mem_cons, List.not_mem_nil, or_false] at hy
  rcases hy with rfl | rfl
  · exact .str _ hm
  · exact .int _
theorem NodesAt.thg3 {H : Hp} : ∀ {xs : List V} {ns : List Nd}, NodesAt H xs ns → (∀ n ∈ ns, n.1.length ≤ 1000) → ∀ x ∈ xs, Thg3 H x
  | [], [], _, _, _, hx => nomatch hx
  | y :: xs, n :: ns, h, hm, x, hx => by
    rcases List.mem_cons.mp hx with e | e
    · rw [e]; exact h.1.thg3 (hm n List.mem_cons_self)
    · exact NodesAt.thg3 h.2 (fun m hm' => hm m (List.mem_cons_of_mem _ hm')) x e
  | [], _ :: _, h, _, _, _ => h.elim
  | _ :: _, [], h, _, _, _ => h.elim
def datN (ns : List Nd) : List PyData := ns.map fun n => .tuple [.str n.1, .int n.2]
theorem NodesAt.dat {K : PySem.W.Frag} {H : Hp} : ∀ {xs : List V} {ns : List Nd}, NodesAt H xs ns → DatVs K H xs (datN ns)
  | [], [], _ => .nil
  | _ :: _, _ :: _, h => by
    obtain ⟨⟨t, e, h1⟩, h2⟩ := h
    subst e
    exact .cons (.tup (SqT.of h1) (.cons (.str _) (.cons (.int _) .nil))) (NodesAt.dat h2)
  | [], _ :: _, h => h.elim
  | _ :: _, [], h => h.elim
theorem canLay_nodes : ∀ {ns : List Nd}, (∀ n ∈ ns, PyData.strOk n.1 = true) → PyData.canLayAll0 (datN ns) = true
  | [], _ => rfl
  | n :: r, h => by
    have h1 := h n List.mem_cons_self
    have h2 := canLay_nodes (ns := r) fun y hy => h y (List.mem_cons_of_mem _ hy)
    unfold datN at h2 ⊢
    simp only [List.map_cons, PyData.canLayAll0, PyData.canLay0, h1, h2, Bool.and_self]
theorem depth_nodes : ∀ ns : List Nd, PyData.depthAll (datN ns) ≤ 1
  | [] => Nat.zero_le _
  | n :: r => by
    have h2 := depth_nodes r
    unfold datN at h2 ⊢
    simp only [List.map_cons, PyData.depthAll, PyData.depth]
    omega
end SH
namespace L2
open PySem PySem.Spec PyProof.Rows
theorem tseq_open {a b : TS} {D : Ends} {σ : St} {H : Hp} (h : ∀ B : TS, B = b → tSeq a B D σ H) : tSeq a b D σ H := h b rfl
def Itr3 (lo st : Int) (n : Nat) : It := ⟨fun i _ => i < n, fun i H x H' => H' = H ∧ x = .int (lo + i * st), fun i _ => n ≤ i⟩
section
variable {X : Cx} {tg : Expr}
def iRng3 (ta : TA) : TI := fun σ H R => ta σ H fun vs H1 => ∃ j c : Int, vs = [.int 0, .int j, .int c] ∧ (-1000 ≤ j ∧ j ≤ 1000 ∧ 1 ≤ c ∧ c ≤ 1000) ∧ ∀ n : Nat, (∀ i : Nat, i < n → (i : Int) * c < j) → R (Itr3 0 c n) H1
end
end L2
namespace SH
open PySem L2
def RowAt (f : List V → HO) (H : Hp) (x : V) (l : List V) : Prop := ∃ a, x = .ref a ∧ H a = some (f l)
def RowsAt (f : List V → HO) (H : Hp) : List V → List (List V) → Prop
  | [], [] => True
  | x :: xs, n :: ns => RowAt f H x n ∧ RowsAt f H xs ns
  | [], _ :: _ => False
  | _ :: _, [] => False
section
variable {f : List V → HO} {H H' : Hp}
theorem RowAt.same {x : V} {n : List V} (s : Same H H') (h : RowAt f H x n) : RowAt f H' x n := by
  obtain ⟨t, e, h⟩ := h
  exact ⟨t, e, s _ _ h⟩
theorem RowsAt.keep (s : ∀ b ys, H b = some (f ys) → H' b = some (f ys)) : ∀ {xs : List V} {ns : List (List V)}, RowsAt f H xs ns → RowsAt f H' xs ns
  | [], [], h => h
  | _ :: _, _ :: _, h => by
    obtain ⟨⟨t, e, h1⟩, h2⟩ := h
    exact ⟨⟨t, e, s _ _ h1⟩, RowsAt.keep s h2⟩
  | [], _ :: _, h => h.elim
  | _ :: _, [], h => h.elim
theorem RowsAt.same (s : Same H H') {xs : List V} {ns : List (List V)} (h : RowsAt f H xs ns) : RowsAt f H' xs ns := h.keep fun b ys e => s b _ e
theorem RowsAt.length : ∀ {xs : List V} {ns : List (List V)}, RowsAt f H xs ns → xs.length = ns.length
  | [], [], _ => rfl
  | _ :: _, _ :: _, h => by rw [List.length_cons, List.length_cons, RowsAt.length h.2]
  | [], _ :: _, h => h.elim
  | _ :: _, [], h => h.elim
theorem RowsAt.append : ∀ {xs ys : List V} {ns ms : List (List V)}, RowsAt f H xs ns → RowsAt f H ys ms → RowsAt f H (xs ++ ys) (ns ++ ms)
  | [], _, [], _, _, b => b
  | _ :: _, _, _ :: _, _, a, b => ⟨a.1, RowsAt.append a.2 b⟩
  | [], _, _ :: _, _, a, _ => a.elim
  | _ :: _, _, [], _, a, _ => a.elim
theorem RowsAt.get : ∀ {xs : List V} {ns : List (List V)} {i : Nat} {x : V}, RowsAt f H xs ns → xs[i]? = some x → ∃ n, ns[i]? = some n ∧ RowAt f H x n
  | [], [], _, _, _, e => by simp at e
  | _ :: _, n :: _, 0, _, h, e => by simp at e; subst e; exact ⟨n, rfl, h.1⟩
  | _ :: _, _ :: _, i + 1, x, h, e => by
    obtain ⟨m, a, b⟩ := RowsAt.get (i := i) (x := x) h.2 (by simpa using e)
    exact ⟨m, by simpa using a, b⟩
  | [], _ :: _, _, _, h, _ => h.elim
  | _ :: _, [], _, _, h, _ => h.elim
theorem RowsAt.take : ∀ {xs : List V} {ns : List (List V)} (i : Nat), RowsAt f H xs ns → RowsAt f H (xs.take i) (ns.take i)
  | [], [], _, _ => by simp [RowsAt]
  | _ :: _, _ :: _, 0, _ => trivial
  | _ :: _, _ :: _, i + 1, h => ⟨h.1, RowsAt.take i h.2⟩
  | [], _ :: _, _, h => h.elim
  | _ :: _, [], _, h => h.elim
theorem RowsAt.drop : ∀ {xs : List V} {ns : List (List V)} (i : Nat), RowsAt f H xs ns → RowsAt f H (xs.drop i) (ns.drop i)
  | [], [], _, _ => by simp [RowsAt]
  | _ :: _, _ :: _, 0, h => h
  | _ :: _, _ :: _, i + 1, h => RowsAt.drop i h.2
  | [], _ :: _, _, h => h.elim
  | _ :: _, [], _, h => h.elim
theorem RowsAt.mem : ∀ {xs : List V} {ns : List (List V)} {x : V}, RowsAt f H xs ns → x ∈ xs → ∃ n ∈ ns, RowAt f H x n
  | [], _, _, _, h => nomatch h
  | y :: xs, n :: ns, x, h, hx => by
    rcases List.mem_cons.mp hx with e | e
    · rw [e]; exact ⟨n, List.mem_cons_self, h.1⟩
    · obtain ⟨m, hm, r⟩ := RowsAt.mem h.2 e
      exact ⟨m, List.mem_cons_of_mem _ hm, r⟩
  | _ :: _, [], _, h, _ => h.elim
end
theorem RowAt.uniq {H : Hp} {x : V} {n m : List V} (a : RowAt .lst H x n) (b : RowAt .lst H x m) : n = m := by
  obtain ⟨t, e, h⟩ := a
  obtain ⟨t', e', h'⟩ := b
  rw [e] at e'
  cases e'
  rw [h] at h'
  cases h'
  rfl
theorem RowsAt.uniq {H : Hp} : ∀ {xs : List V} {ns ms : List (List V)}, RowsAt .lst H xs ns → RowsAt .lst H xs ms → ns = ms
  | [], [], [], _, _ => rfl
  | _ :: _, _ :: _, _ :: _, a, b => by rw [a.1.uniq b.1, RowsAt.uniq a.2 b.2]
  | [], _ :: _, _, a, _ => a.elim
  | [], _, _ :: _, _, b => b.elim
  | _ :: _, [], _, a, _ => a.elim
  | _ :: _, _, [], _, b => b.elim
def lineOk (w : Nat) (l : List V) : Prop := l.length = w ∧ l.all markV = true
def tabOk (ls : List (List V)) : Prop := ∃ w, w ≤ 12 ∧ ∀ l ∈ ls, lineOk w l
def Thg5 (H : Hp) (v : V) : Prop := Thg H v ∧ ∀ a xs, v = .ref a → H a = some (.lst xs) → ∀ x ∈ xs, Thg2 H x
def GoodT (H : Hp) (v : V) : Prop := ∃ a xs ls, v = .ref a ∧ H a = some (.lst xs) ∧ xs.length ≤ 12 ∧ RowsAt .lst H xs ls ∧ tabOk ls
theorem Thg5.same {H H' : Hp} {v : V} (s : Same H H') (t : Thg5 H v) : Thg5 H' v := ⟨t.1.same s, fun a xs e h x hx => (t.2 a xs e (t.1.back s e h) x hx).same s⟩
theorem RowsAt.back {H H' : Hp} (s : Same H H') : ∀ {xs : List V} {ns : List (List V)}, (∀ x ∈ xs, Thg H x) → RowsAt .lst H' xs ns → RowsAt .lst H xs ns
  | [], [], _, h => h
  | x :: xs, _ :: _, t, h => by
    obtain ⟨⟨a, e, h1⟩, h2⟩ := h
    exact ⟨⟨a, e, (t x List.mem_cons_self).back s e h1⟩, RowsAt.back s (fun y hy => t y (List.mem_cons_of_mem _ hy)) h2⟩
  | [], _ :: _, _, h => h.elim
  | _ :: _, [], _, h => h.elim
theorem GoodT.back {H H' : Hp} {v : V} (t : Thg5 H v) (s : Same H H') (g : GoodT H' v) : GoodT H v := by
  obtain ⟨a, xs, ns, e, h, l, m, d⟩ := g
  have h0 := t.1.back s e h
  exact ⟨a, xs, ns, e, h0, l, m.back s fun x hx => (t.2 a xs e h0 x hx).1, d⟩
theorem GoodM.same {n : Nat} {H H' : Hp} {v : V} (s : Same H H') (g : GoodM n H v) : GoodM n H' v := by
  obtain ⟨a, xs, e, h, r⟩ := g
  exact ⟨a, xs, e, s _ _ h, r⟩
def NotIn (l : Addr) (xs : List V) : Prop := ∀ b, V.ref b ∈ xs → b ≠ l
theorem NotIn.nil {l : Addr} : NotIn l [] := fun _ h => nomatch h
theorem NotIn.of {f : List V → HO} {H : Hp} {D : Addr} {xs : List V} {ls : List (List V)} (r : RowsAt f H xs ls) (h : H D = none) : NotIn D xs := fun b hb => by
  obtain ⟨n, _, a, e, ha⟩ := r.mem hb
  cases e
  exact ne_of_none ha h
theorem same_ne {H H' : Hp} {l : Addr} {o : HO} (s : Same H H') (h : H l = none) : Same H (upd H' l o) := fun b u e => by rw [upd_ne (ne_of_none e h)]; exact s b u e
theorem cut_to {xs : List V} {n : Nat} {i : Int} (h : i = (n : Int)) : cutV xs none (some i) = xs.take n := by
  subst h
  unfold cutV
  rw [HT.sIx_none, HT.sIx_nat, List.drop_zero, Nat.sub_zero]
  apply List.ext_getElem?
  intro j
  simp only [List.getElem?_take]
  by_cases h1 : j < n
  · by_cases h2 : j < xs.length
    · rw [if_pos (by omega), if_pos h1]
    · rw [if_neg (by omega), if_pos h1]
      exact (List.getElem?_eq_none (by omega)).symm
  · rw [if_neg (by omega), if_neg h1]
end SH
namespace L2
open PySem PySem.Spec PyProof.Rows
end L2
namespace SH
open PySem L2
def placesOk : Int → Int → List Int → Prop
  | _, _, [] => True
  | lo, m, p :: r => lo ≤ p ∧ p < m ∧ placesOk (p + 1) m r
def lowAfter : Int → List Int → Int
  | lo, [] => lo
  | _, p :: r => lowAfter (p + 1) r
theorem placesOk_append : ∀ {lo m : Int} {a b : List Int}, placesOk lo m (a ++ b) ↔ placesOk lo m a ∧ placesOk (lowAfter lo a) m b
  | lo, m, [], b => by simp [placesOk, lowAfter]
  | lo, m, p :: r, b => by
    have ih := placesOk_append (lo := p + 1) (m := m) (a := r) (b := b)
    simp only [List.cons_append, placesOk, lowAfter, ih]
    constructor
    · rintro ⟨h1, h2, h3, h4⟩; exact ⟨⟨h1, h2, h3⟩, h4⟩
    · rintro ⟨⟨h1, h2, h3⟩, h4⟩; exact ⟨h1, h2, h3, h4⟩
theorem lowAfter_append : ∀ {lo : Int} {a b : List Int}, lowAfter lo (a ++ b) = lowAfter (lowAfter lo a) b
  | _, [], _ => rfl
  | _, p :: r, b => lowAfter_append (lo := p + 1) (a := r) (b := b)
theorem places_all : ∀ {lo m : Int} {ps : List Int}, placesOk lo m ps → ∀ p ∈ ps, lo ≤ p ∧ p < m
  | _, _, [], _, _, hp => nomatch hp
  | lo, m, q :: r, h, p, hp => by
    rcases List.mem_cons.mp hp with e | e
    · rw [e]; exact ⟨h.1, h.2.1⟩
    · have := places_all h.2.2 p e
      have := h.1
      omega
theorem places_len : ∀ {lo m : Int} {ps : List Int}, placesOk lo m ps → lo ≤ m → (ps.length : Int) ≤ m - lo
  | _, _, [], _, h => by simp; omega
  | lo, m, p :: r, k, h => by
    have ih := places_len k.2.2 (by have := k.2.1; omega)
    have := k.1
    rw [List.length_cons]
    omega
def GoodP (m : Int) (H : Hp) (v : V) : Prop := ∃ a ps, v = .ref a ∧ H a = some (.lst (ps.map V.int)) ∧ placesOk 0 m ps
theorem GoodP.back {m : Int} {H H' : Hp} {v : V} (t : Thg H v) (s : Same H H') (g : GoodP m H' v) : GoodP m H v := by
  obtain ⟨a, ps, e, h, r⟩ := g
  exact ⟨a, ps, e, t.back s e h, r⟩
theorem map_int_inj : ∀ {a b : List Int}, a.map V.int = b.map V.int → a = b
  | [], [], _ => rfl
  | [], _ :: _, h => by simp at h
  | _ :: _, [], h => by simp at h
  | x :: a, y :: b, h => by
    simp only [List.map_cons, List.cons.injEq, V.int.injEq] at h
    rw [h.1, map_int_inj h.2]
theorem notP_mid {m : Int} {H : Hp} {a : Addr} {ps : List Int} {x : V} {r : List V} (h : H a = some (.lst (ps.map V.int ++ x :: r))) (hb : ∀ q, x = .int q → ¬ (lowAfter 0 ps ≤ q ∧ q < m)) : ¬ GoodP m H (.ref a) := by
  rintro ⟨a', qs, e, h', k⟩
  cases e
  rw [h] at h'
  have e : ps.map V.int ++ x :: r = qs.map V.int := by injection h' with h2; injection h2
  have e2 : qs = qs.take ps.length ++ qs.drop ps.length := (List.take_append_drop _ _).symm
  have e3 : (qs.take ps.length).map V.int = ps.map V.int := by
    rw [List.map_take, ← e, List.take_left' (by rw [List.length_map])]
  have e4 : (qs.drop ps.length).map V.int = x :: r := by
    rw [List.map_drop, ← e, List.drop_left' (by rw [List.length_map])]
  have e5 := map_int_inj e3
  rw [e2, e5] at k
  cases hd : qs.drop ps.length with
  | nil => rw [hd] at e4; cases e4
  | cons q w =>
    rw [hd] at e4 k
    simp only [List.map_cons, List.cons.injEq] at e4
    have k2 := (placesOk_append.mp k).2
    exact hb q e4.1.symm ⟨k2.1, k2.2.1⟩
theorem thg2_ints {H : Hp} {a : Addr} {ps : List Int} (h : H a = some (.lst (ps.map V.int))) : Thg2 H (.ref a) := thg2_lst h fun x hx => by
  obtain ⟨q, _, rfl⟩ := List.mem_map.mp hx
  exact .int _
end SH
namespace L2
open PySem PySem.Spec PyProof.Rows
section
variable {κ : Type} [DecidableEq κ]
def valV (kvs : List (κ × V)) (k : κ) : Option V := (kvs.find? fun kv => decide (kv.1 = k)).map (·.2)
def putK (kvs : List (κ × V)) (k : κ) (v : V) : List (κ × V) :=
  if (kvs.any fun kv => decide (kv.1 = k)) = true then kvs.map (fun kv => if kv.1 = k then (kv.1, v) else kv) else kvs ++ [(k, v)]
def dropK (kvs : List (κ × V)) (k : κ) : List (κ × V) := kvs.filter fun kv => decide (kv.1 ≠ k)
theorem valV_pos {p : κ × V} {r : List (κ × V)} {k : κ} (e : p.1 = k) : valV (p :: r) k = some p.2 := by simp [valV, List.find?_cons, e]
theorem valV_neg {p : κ × V} {r : List (κ × V)} {k : κ} (e : ¬ p.1 = k) : valV (p :: r) k = valV r k := by simp [valV, List.find?_cons, e]
theorem valV_any (k : κ) : ∀ kvs : List (κ × V), (kvs.any fun kv => decide (kv.1 = k)) = (valV kvs k).isSome
  | [] => rfl
  | p :: r => by
    rw [List.any_cons]
    by_cases e : p.1 = k
    · simp only [valV_pos e, decide_eq_true e, Bool.true_or, Option.isSome_some]
    · rw [valV_neg e, decide_eq_false e, Bool.false_or]; exact valV_any k r
theorem valV_map (k j : κ) (y : V) : ∀ kvs : List (κ × V), valV (kvs.map fun kv => if kv.1 = k then (kv.1, y) else kv) j = (valV kvs j).map fun x => if j = k then y else x
  | [] => rfl
  | p :: r => by
    have ih := valV_map k j y r
    rw [List.map_cons]
    by_cases h : p.1 = k
    · rw [if_pos h]
      by_cases e : p.1 = j
      · rw [valV_pos (p := (p.1, y)) e, valV_pos e, Option.map_some, if_pos (e.symm.trans h)]
      · rw [valV_neg (p := (p.1, y)) e, valV_neg e, ih]
    · rw [if_neg h]
      by_cases e : p.1 = j
      · rw [valV_pos (p := p) e, valV_pos e, Option.map_some, if_neg (fun z => h (e.trans z))]
      · rw [valV_neg (p := p) e, valV_neg e, ih]
theorem valV_snoc (k j : κ) (y : V) : ∀ kvs : List (κ × V), valV kvs k = none → valV (kvs ++ [(k, y)]) j = if j = k then some y else valV kvs j
  | [], _ => by
    by_cases e : k = j
    · rw [if_pos e.symm]; exact valV_pos (p := (k, y)) e
    · rw [if_neg (fun z => e z.symm)]; exact valV_neg (p := (k, y)) e
  | p :: r, hn => by
    rw [List.cons_append]
    have hk : ¬ p.1 = k := fun z => by rw [valV_pos z] at hn; cases hn
    rw [valV_neg hk] at hn
    have ih := valV_snoc k j y r hn
    by_cases e : p.1 = j
    · rw [valV_pos e, valV_pos e, if_neg (fun z => hk (e.trans z))]
    · rw [valV_neg e, valV_neg e, ih]
theorem valV_put (kvs : List (κ × V)) (k j : κ) (y : V) : valV (putK kvs k y) j = if j = k then some y else valV kvs j := by
  unfold putK
  by_cases a : (kvs.any fun kv => decide (kv.1 = k)) = true
  · rw [if_pos a, valV_map]
    rw [valV_any] at a
    by_cases e : j = k
    · obtain ⟨x, hx⟩ := Option.isSome_iff_exists.mp a
      rw [if_pos e, e, hx, Option.map_some, if_pos rfl]
    · rw [if_neg e]
      cases valV kvs j with
      | none => rfl
      | some x => rw [Option.map_some, if_neg e]
  · rw [if_neg a]
    refine valV_snoc k j y kvs ?_
    rw [valV_any] at a
    cases q : valV kvs k with
    | none => rfl
    | some x => rw [q] at a; exact (a rfl).elim
theorem length_putK (kvs : List (κ × V)) (k : κ) (v : V) : (putK kvs k v).length ≤ kvs.length + 1 := by
  unfold putK
  split
  · rw [List.length_map]; omega
  · rw [List.length_append, List.length_cons, List.length_nil]; omega
theorem RelO.isSome_eq {o : Option V} {u : Option Value} (r : RelO o u) : o.isSome = u.isSome := by
  cases o with
  | none => cases u with
    | none => rfl
    | some _ => exact (show False from r).elim
  | some _ => cases u with
    | none => exact (show False from r).elim
    | some _ => rfl
theorem RelO.getD {o : Option V} {u : Option Value} {d : V} {d' : Value} (r : RelO o u) (rd : RelV d d') : RelV (o.getD d) (u.getD d') := by
  cases o with
  | none => cases u with
    | none => exact rd
    | some _ => exact (show False from r).elim
  | some _ => cases u with
    | none => exact (show False from r).elim
    | some _ => exact r
theorem KV.val {kvs : List (κ × V)} {vs : List (κ × Value)} (r : KV kvs vs) (k : κ) : RelO (valV kvs k) (valueAt vs k) := by
  unfold KV at r
  induction r with
  | nil => exact True.intro
  | @cons p q ps qs h t ih =>
    obtain ⟨h1, h2⟩ := h
    by_cases e : p.1 = k
    · have e' : q.1 = k := h1.symm.trans e
      have b : valueAt (q :: qs) k = some q.2 := by simp [valueAt, List.find?_cons, e']
      rw [valV_pos e, b]; exact h2
    · have e' : ¬ q.1 = k := fun z => e (h1.trans z)
      have b : valueAt (q :: qs) k = valueAt qs k := by simp [valueAt, List.find?_cons, e']
      rw [valV_neg e, b]; exact ih
theorem KV.any {kvs : List (κ × V)} {vs : List (κ × Value)} (r : KV kvs vs) (k : κ) : (kvs.any fun kv => decide (kv.1 = k)) = vs.any fun kv => decide (kv.1 = k) := by
  unfold KV at r
  induction r with
  | nil => rfl
  | cons h t ih => rw [List.any_cons, List.any_cons, ih, h.1]
theorem KV.repl {kvs : List (κ × V)} {vs : List (κ × Value)} (r : KV kvs vs) (k : κ) {y : V} {u : Value} (ry : RelV y u) :
    KV (kvs.map fun kv => if kv.1 = k then (kv.1, y) else kv) (vs.map fun kv => if kv.1 = k then (kv.1, u) else kv) := by
  unfold KV at r ⊢
  induction r with
  | nil => exact .nil
  | @cons p q ps qs h t ih =>
    rw [List.map_cons, List.map_cons]
    refine .cons ?_ ih
    obtain ⟨h1, h2⟩ := h
    by_cases e : p.1 = k
    · rw [if_pos e, if_pos (h1.symm.trans e)]; exact ⟨h1, ry⟩
    · rw [if_neg e, if_neg (fun z => e (h1.trans z))]; exact ⟨h1, h2⟩
theorem KV.put {kvs : List (κ × V)} {vs : List (κ × Value)} (r : KV kvs vs) (k : κ) {y : V} {u : Value} (ry : RelV y u) : KV (putK kvs k y) (stored vs k u) := by
  unfold putK stored
  rw [r.any k]
  by_cases e : (vs.any fun kv => decide (kv.1 = k)) = true
  · rw [if_pos e, if_pos e]; exact r.repl k ry
  · rw [if_neg e, if_neg e]; exact Paired.snoc r ⟨rfl, ry⟩
theorem KV.drop {kvs : List (κ × V)} {vs : List (κ × Value)} (r : KV kvs vs) (k : κ) : KV (dropK kvs k) (without vs k) := by
  unfold KV at r ⊢
  unfold dropK without
  induction r with
  | nil => exact .nil
  | @cons p q ps qs h t ih =>
    obtain ⟨h1, h2⟩ := h
    rw [List.filter_cons, List.filter_cons]
    by_cases e : p.1 = k
    · have a : ¬ decide (p.1 ≠ k) = true := by simp [e]
      have b : ¬ decide (q.1 ≠ k) = true := by simp [h1.symm.trans e]
      rw [if_neg a, if_neg b]; exact ih
    · have e' : ¬ q.1 = k := fun z => e (h1.trans z)
      have a : decide (p.1 ≠ k) = true := by simp [e]
      have b : decide (q.1 ≠ k) = true := by simp [e']
      rw [if_pos a, if_pos b]; exact .cons ⟨h1, h2⟩ ih
theorem KV.length {kvs : List (κ × V)} {vs : List (κ × Value)} (r : KV kvs vs) : kvs.length = vs.length := Paired.length r
end
theorem kV_is {P : Program} {w : World} {k : Key} {u : Value} (r : RelV (kV k) u) : (mixKind P w).is k u = true := by
  cases k with
  | inl i => obtain ⟨t, e⟩ := (show ∃ t, u = Value.int i t from r); subst e; exact mixKind_int P w i t
  | inr x => obtain ⟨t, e⟩ := (show ∃ t, u = Value.str x t from r); subst e; exact mixKind_str P w x t
theorem items_are {P : Program} {w : World} : ∀ {ks : List Key} {us : List Value}, Vals (ks.map kV) us → ItemsAre (mixKind P w) ks us
  | [], _, r => by rw [List.map_nil] at r; cases r; exact .nil
  | k :: ks, _, r => by
    rw [List.map_cons] at r
    cases r with
    | cons h t => exact .cons (kV_is h) (items_are t)
abbrev KT (H : Hp) : List (List Key × V) → List (List Key × Addr × Value) → Prop := Paired fun p q => p.1 = q.1 ∧ H q.2.1 = some (.tup (p.1.map kV)) ∧ RelV p.2 q.2.2
theorem KT.val {H : Hp} {kvs : List (List Key × V)} {xs : List (List Key × Addr × Value)} (r : KT H kvs xs) (k : List Key) : RelO (valV kvs k) ((atKey xs k).map (·.2)) := by
  induction r with
  | nil => exact True.intro
  | @cons p q ps qs h t ih =>
    obtain ⟨h1, _, h2⟩ := h
    by_cases e : p.1 = k
    · have e' : q.1 = k := h1.symm.trans e
      have b : atKey (q :: qs) k = some q.2 := by simp [atKey, List.find?_cons, e']
      rw [valV_pos e, b]; exact h2
    · have e' : ¬ q.1 = k := fun z => e (h1.trans z)
      have b : atKey (q :: qs) k = atKey qs k := by simp [atKey, List.find?_cons, e']
      rw [valV_neg e, b]; exact ih
theorem KT.repl {H : Hp} {kvs : List (List Key × V)} {xs : List (List Key × Addr × Value)} (r : KT H kvs xs) (k : List Key) {y : V} {u : Value} (ry : RelV y u) :
    KT H (kvs.map fun kv => if kv.1 = k then (kv.1, y) else kv) (xs.map (putAt k u)) := by
  induction r with
  | nil => exact .nil
  | @cons p q ps qs h t ih =>
    rw [List.map_cons, List.map_cons]
    refine .cons ?_ ih
    obtain ⟨h1, h2, h3⟩ := h
    unfold putAt
    by_cases e : p.1 = k
    · rw [if_pos e, if_pos (h1.symm.trans e)]; exact ⟨h1, h2, ry⟩
    · rw [if_neg e, if_neg (fun z => e (h1.trans z))]; exact ⟨h1, h2, h3⟩
theorem KT.put {H : Hp} {kvs : List (List Key × V)} {xs : List (List Key × Addr × Value)} (r : KT H kvs xs) (k : List Key) {b : Addr} {y : V} {u : Value} (hb : H b = some (.tup (k.map kV))) (ry : RelV y u) :
    KT H (putK kvs k y) (storedH xs k b u) := by
  have e : (kvs.any fun kv => decide (kv.1 = k)) = (atKey xs k).isSome := by
    rw [valV_any, (r.val k).isSome_eq, Option.isSome_map]
  unfold putK storedH
  rw [e]
  by_cases q : (atKey xs k).isSome = true
  · rw [if_pos q, if_pos q]; exact r.repl k ry
  · rw [if_neg q, if_neg q]; exact Paired.snoc r ⟨rfl, hb, ry⟩
theorem KT.keeps {H H' : Hp} {kvs : List (List Key × V)} {xs : List (List Key × Addr × Value)} (r : KT H kvs xs) (ht : ∀ b ys, H b = some (.tup ys) → H' b = some (.tup ys)) : KT H' kvs xs :=
  Paired.mapP r fun _ _ z => ⟨z.1, ht _ _ z.2.1, z.2.2⟩
section
variable {P : Program} {w : World} {H : Hp} {h : Heap} {a : Addr}
theorem rd_of {u : HO} (ok : HOk P w H h) (e : Rd H a u) : ObjOk P w H h a u := e.ok ok
theorem dk_rd {kvs : List (Key × V)} (ok : HOk P w H h) (e : Rd H a (.dK kvs)) : kvs.length ≤ sizeLine ∧ (a == sysModules) = false ∧ ∃ vs, KV kvs vs ∧ h.DictOf (mixKind P w) a vs :=
  show ObjOk P w H h a (.dK kvs) from rd_of ok e
theorem key_of {ks : List Key} (ok : HOk P w H h) (e : H a = some (.tup (ks.map kV))) : (tupleKind (mixKind P w)).is h ks a := by
  obtain ⟨_, its, r, o, h1, h2, n, h3⟩ := (show ObjOk P w H h a (.tup (ks.map kV)) from ok a _ e)
  exact ⟨o, its.toArray, n, h1, h2, h3, by simpa using items_are r⟩
theorem dt_rd {kvs : List (List Key × V)} (ok : HOk P w H h) (e : Rd H a (.dT kvs)) : kvs.length ≤ sizeLine ∧ (a == sysModules) = false ∧
    ∃ xs, KT H kvs xs ∧ h.DictOfH (tupleKind (mixKind P w)) a xs := by
  obtain ⟨z, y, xs, r, o, es, ep, h1, h2, h3, h4, h5⟩ := (show ObjOk P w H h a (.dT kvs) from rd_of ok e)
  refine ⟨z, y, xs, r, o, es, ep, h1, h2, h3, h4, fun x hx => ?_, h5⟩
  have all : ∀ {l : List (List Key × V)} {m : List (List Key × Addr × Value)}, KT H l m → ∀ x ∈ m, (tupleKind (mixKind P w)).is h x.1 x.2.1 := by
    intro l m q
    induction q with
    | nil => intro x hx; exact nomatch hx
    | @cons p q ps qs hq t ih =>
      intro x hx
      rcases List.mem_cons.mp hx with e | hx
      · subst e
        exact key_of ok (by rw [← hq.1]; exact hq.2.1)
      · exact ih x hx
  exact all r x hx
end
def DGet (H : Hp) (a : Addr) (y : V) (r : Option V) : Prop :=
  (∃ kvs k, Rd H a (.dK kvs) ∧ y = kV k ∧ r = valV kvs k) ∨ ∃ kvs k b, Rd H a (.dT kvs) ∧ y = .ref b ∧ H b = some (.tup (k.map kV)) ∧ r = valV kvs k
def DPut (H : Hp) (a : Addr) (y v : V) (H' : Hp) : Prop :=
  (∃ kvs k, H a = some (.dK kvs) ∧ y = kV k ∧ kvs.length < sizeLine ∧ H' = upd H a (.dK (putK kvs k v))) ∨
  ∃ kvs k b, H a = some (.dT kvs) ∧ y = .ref b ∧ H b = some (.tup (k.map kV)) ∧ kvs.length < sizeLine ∧ H' = upd H a (.dT (putK kvs k v))
theorem DGet.k {H : Hp} {a : Addr} {kvs : List (Key × V)} {k : Key} (e : H a = some (.dK kvs)) : DGet H a (kV k) (valV kvs k) := .inl ⟨kvs, k, .inl e, rfl, rfl⟩
theorem DGet.t {H : Hp} {a b : Addr} {kvs : List (List Key × V)} {k : List Key} (e : H a = some (.dT kvs)) (eb : H b = some (.tup (k.map kV))) : DGet H a (.ref b) (valV kvs k) := .inr ⟨kvs, k, b, .inl e, rfl, eb, rfl⟩
theorem DPut.k {H : Hp} {a : Addr} {kvs : List (Key × V)} {k : Key} {v : V} (e : H a = some (.dK kvs)) (hl : kvs.length < sizeLine) : DPut H a (kV k) v (upd H a (.dK (putK kvs k v))) := .inl ⟨kvs, k, e, rfl, hl, rfl⟩
theorem DPut.t {H : Hp} {a b : Addr} {kvs : List (List Key × V)} {k : List Key} {v : V} (e : H a = some (.dT kvs)) (eb : H b = some (.tup (k.map kV))) (hl : kvs.length < sizeLine) :
    DPut H a (.ref b) v (upd H a (.dT (putK kvs k v))) := .inr ⟨kvs, k, b, e, rfl, eb, hl, rfl⟩
section
variable {X : Cx} {pins : List (Addr × Obj)} {σ : St} {H : Hp} {s : Shared} {a : Addr} {y v : V} {u r : Value} {o : Option V} {A : Around} {E : Value → Shared → Prop}
theorem Inv.big (I : Inv X pins σ H s) : sysModules < s.heap.objs.size := by
  have h : mainGlobals < s.heap.objs.size := (I.mod.glob.keeps I.bk).lt
  exact Nat.lt_trans (by decide) h
theorem d_in {Q : Value → Shared → Prop} (hu : A.units + 1 < cLine) (I : Inv X pins σ H s) (g : DGet H a y o) (ry : RelV y u) (h : ∀ s', Inv X pins σ H s' → Q (.bool o.isSome) s') :
    wpAny (model X.prog X.w) A (compareOp .In u (.ref a)) Q E s := by
  rcases g with ⟨kvs, k, e, ey, l⟩ | ⟨kvs, k, b, e, ey, eb, l⟩
  · subst ey
    obtain ⟨z, hd, vs, rel, dd⟩ := dk_rd I.hok e
    refine wpAny_in_of (kV_is ry) hd dd.mapOf ?_
    rw [← (rel.val k).isSome_eq, ← l]
    exact h _ (I.tok _)
  · subst ey
    cases (show u = Value.ref b from ry)
    obtain ⟨z, hd, xs, rel, dd⟩ := dt_rd I.hok e
    refine wpAny_in_heap (tupleKind_room_in1 hu) (key_of I.hok eb) hd dd ?_
    have q := (rel.val k).isSome_eq
    rw [Option.isSome_map] at q
    rw [← q, ← l]
    exact h _ (I.tok _)
theorem dk_new {P : Program} {w : World} {H' : Hp} {h' : Heap} {kvs : List (Key × V)} {vs : List (Key × Value)} (z : kvs.length ≤ sizeLine) (hd : (a == sysModules) = false) (rel : KV kvs vs) (dd : h'.DictOf (mixKind P w) a vs) :
    ObjOk P w H' h' a (.dK kvs) := ⟨z, hd, vs, rel, dd⟩
end
section
variable {X : Cx} {pins : List (Addr × Obj)} {σ : St} {H : Hp} {s : Shared} {a : Addr} {kvs : List (Key × V)} {k : Key} {u : Value} {A : Around} {E : Value → Shared → Prop}
end
def tDIn (ty td : TE) : TE := fun σ H Q => ty σ H fun y H1 => td σ H1 fun x H2 => ∃ a o, x = .ref a ∧ DGet H2 a y o ∧ Q (.bl o.isSome) H2
section
variable {X : Cx} {o i e value : Expr} {pos pos' tpos : Pos} {td ty tv : TE}
theorem pc_din (hu : X.A.units + 1 < cLine) (hi : PE X i ty) (ho : PE X o td) : PC X .In i o (tDIn ty td) := by
  intro pins s σ H Q I h
  refine thn (hi pins s σ H _ I h) fun iv s1 ⟨y, H1, I1, ry, q1⟩ => thn (ho pins s1 σ H1 _ I1 q1) fun u s2 ⟨x, H2, I2, rx, a, ov, ex, g, q2⟩ => ?_
  subst ex
  obtain rfl : u = Value.ref a := rx
  exact d_in hu I2 g ry fun s3 I3 => ⟨.bl ov.isSome, H2, I3, rfl, q2⟩
end
section
variable {X : Cx} {pos : Pos}
end
abbrev VV : List (V × V) → List (Value × Value) → Prop := Paired fun p q => RelV p.1 q.1 ∧ RelV p.2 q.2
structure M1 (X : Cx) (o : Expr) (m : Str) (apos : Pos) (e : Expr) (cpos : Pos) : Prop where
  base : attributeBase o m X.env (eval o X.env) = eval o X.env
  few : ((backTo cpos (starEach [e] X.env)).all (fun x => !x.1) && (backToKw cpos (keywordEach [] X.env)).all (fun x => x.1.isSome)
    && decide (([e] : List Expr).length + ([] : List Keyword).length + (if ([] : List Keyword).isEmpty then 0 else 1) < 30)) = true
  line : (apos.endLine == cpos.line) = true
  trees : backTo cpos (starEach [e] X.env) = [(false, eval e X.env)]
structure M2 (X : Cx) (o : Expr) (m : Str) (apos : Pos) (e f : Expr) (cpos : Pos) : Prop where
  base : attributeBase o m X.env (eval o X.env) = eval o X.env
  few : ((backTo cpos (starEach [e, f] X.env)).all (fun x => !x.1) && (backToKw cpos (keywordEach [] X.env)).all (fun x => x.1.isSome)
    && decide (([e, f] : List Expr).length + ([] : List Keyword).length + (if ([] : List Keyword).isEmpty then 0 else 1) < 30)) = true
  line : (apos.endLine == cpos.line) = true
  trees : backTo cpos (starEach [e, f] X.env) = [(false, eval e X.env), (false, eval f X.env)]
section
variable {X : Cx} {pins : List (Addr × Obj)} {σ : St} {H : Hp} {s : Shared} {a : Addr} {y d : V} {u r : Value} {o : Option V} {A : Around} {E : Value → Shared → Prop}
end
section
variable {X : Cx} {o e f : Expr} {apos cpos : Pos} {td ty tx : TE}
end
section
variable {X : Cx} {pins : List (Addr × Obj)} {σ : St} {H : Hp} {s : Shared} {a : Addr} {kvs : List (Key × V)} {A : Around} {E : Value → Shared → Prop}
end
section
variable {X : Cx} {pins : List (Addr × Obj)} {σ : St} {H : Hp} {s : Shared} {a : Addr} {y : V} {u : Value} {A : Around} {E : Value → Shared → Prop}
end
end L2
namespace PySem
open Sem (wp)
theorem d6_miss : typeLookup (.type "list") "keys" = pure none := by rw [typeLookup_type, builtinLookup_eq_fast]; kernel_rfl
theorem keys_miss_list {prog : Program} {w : World} {A : Around} {E : Value → Shared → Prop} {s : Shared} {a : Addr} {o : Obj} {xs : Array Value} {k : Nat} {Q : Option Value → Shared → Prop}
    (hx : s.heap.get? a = some o) (hc : o.cls = .type "list") (hdat : o.data = .seq xs k) (hd : o.dict = none) (hA : A.handled = none)
    (h : ∀ h' tk, (∀ b ob, s.heap.get? b = some ob → h'.get? b = some ob) → Q none { s with heap := h', toks := tk }) :
    wpAny (model prog w) A (getAttr? (.ref a) "keys") Q E s := by
  obtain ⟨c, dct, dat, sl⟩ := o
  simp only at hc hdat hd
  subst hc hdat hd
  obtain ⟨hp, g, d, tk, os⟩ := s
  have hT : ∀ tk', (⟨hp, g, d, tk', os⟩ : Shared).TypeIs (.ref a) "list" := fun _ => ⟨_, hx, rfl⟩
  have f1 := sub_AttributeError
  have f3 := F.slot_list_getattribute.lookup
  have f4 := F.slot_list_getattribute.bind (.ref a)
  have f5 := am_list_getattr_none
  unfold getAttr? getAttrBy? getAttrBy
  repeat (any_goals (first | assumption | exact hT _ | ((with_reducible show wpAny _ _ (call (Value.builtin "list.__getattribute__") _ _) _ _ _); refine call_meets F.slot_list_getattribute (hT _) am_entry_list_getattribute (F.args_list_getattribute_2 _ _) (meets_getattribute_miss_list a xs k sl "keys" _ d6_miss (by decide +kernel)) ⟨hx, hA, fun h' tk' e hx' => ?_⟩) | wp_step))
  obtain ⟨t', u', he⟩ := hx'.there
  show wpAny _ _ (getattributeRaised _ _ _ _ _ _ _) _ _ _
  unfold getattributeRaised
  repeat (any_goals (first | assumption | wp_step))
  exact h h' tk' hx'.keeps
end PySem
namespace L2
open PySem PySem.Spec PyProof.Rows
theorem entry_dloop : entryFor table "dict.update.loop" = some Builtin.«dict.update.loop» := entryFor_of_tree (by kernel_rfl)
theorem plain_dloop : plainId "dict.update.loop" = true := by decide +kernel
section
variable {prog : Program} {w : World} {A : Around} {E : Value → Shared → Prop}
theorem dict_loop {d it l : Addr} {Q : Value → Shared → Prop} (hA : A.handled = none) (hdi : d ≠ it) (hdl : d ≠ l) (hil : it ≠ l) (items : List Value) (prs : List (Key × Value)) (hsz : prs.length ≤ 900) :
    ∀ (m i : Nat) (s : Shared) (kvs : List (Key × Value)), items.length = i + m → kvs.length ≤ i → s.heap.IsListIter it l i → s.heap.IsList l items.toArray →
      (∀ (j : Nat) (x : Value) (p : Key × Value), items[j]? = some x → prs[j]? = some p → ∃ (t : Addr) (ku : Value), x = Value.ref t ∧ t ≠ d ∧ t ≠ it ∧ s.heap.IsTuple t #[ku, p.2] ∧ (mixKind prog w).is p.1 ku = true) →
      items.length = prs.length → s.heap.DictOf (mixKind prog w) d kvs →
      (∀ h' tk, (∀ b o, b ≠ d → b ≠ it → s.heap.get? b = some o → h'.get? b = some o) → h'.DictOf (mixKind prog w) d ((prs.drop i).foldl (fun a p => stored a p.1 p.2) kvs) → Q .none { s with heap := h', toks := tk }) →
      codeAny (model prog w) A (.builtin "dict.update.loop" ⟨[.ref d, .ref it, rawInt i, .none], []⟩) (wants Q E) s := by
  intro m
  induction m with
  | zero =>
    intro i s kvs hn hk hit hl hp hlen hd hQ
    refine codeAny_builtin entry_dloop ?_
    rw [Around.under_plainId plain_dloop]
    unfold Builtin.«dict.update.loop»
    refine wpAny_bind (wpAny_pyNext_list_end (by exact hA) hit hl (by simp; omega) fun h' hx => ?_)
    refine wpAny_bind (wpAny_pure ?_)
    refine wpAny_pure ?_
    have hd' : prs.drop i = [] := List.drop_eq_nil_of_le (by omega)
    rw [hd'] at hQ
    exact hQ h' s.toks (fun b o _ hb e => hx b o hb e) (hd.extBut hx hdi)
  | succ m ih =>
    intro i s kvs hn hk hit hl hp hlen hd hQ
    have hi : i < items.length := by omega
    have hi2 : i < prs.length := by omega
    have ex := List.getElem?_eq_getElem hi
    have ep := List.getElem?_eq_getElem hi2
    obtain ⟨t, ku, et, htd, hti, htt, hkey⟩ := hp i _ _ ex ep
    refine codeAny_builtin entry_dloop ?_
    rw [Around.under_plainId plain_dloop]
    unfold Builtin.«dict.update.loop»
    refine wpAny_bind (wpAny_pyNext_list_item hit hl (x := items[i]) (by simpa using ex) fun h1 hit1 sb1 => ?_)
    rw [et]
    have htt1 : h1.IsTuple t #[ku, prs[i].2] := by
      obtain ⟨o, ho, r⟩ := htt
      exact ⟨o, (sb1.2 t hti).trans ho, r⟩
    have hd1 : h1.DictOf (mixKind prog w) d kvs := hd.sameBut sb1 hdi
    have hT : (⟨h1, s.gens, s.drawn, s.toks, s.os⟩ : Shared).TypeIs (.ref t) "tuple" := by
      obtain ⟨o, ho, hc, r⟩ := htt1
      exact ⟨_, ho, hc⟩
    refine wpAny_bind (wpAny_holding (wpAny_bind (wpAny_tryCatch ?_)))
    unfold Builtin.Dict.pairItems
    refine wpAny_bind (wpAny_typeOf hT ?_)
    rw [if_pos (by decide +kernel)]
    obtain ⟨o, ho, hc, n, hdat⟩ := id htt1
    refine wpAny_bind (wpAny_seqItems (s := ⟨h1, s.gens, s.drawn, s.toks, s.os⟩) ho hdat ?_)
    refine wpAny_pure ?_
    have hz : kvs.length ≤ sizeLine := by
      have h9 : (1000 : Nat) ≤ sizeLine := by decide
      omega
    show wpAny _ _ (holding [ku, prs[i].2] (dictSet d ku prs[i].2)) _ _ _
    refine wpAny_holding (wpAny_dictSet_pairs (s := ⟨h1, s.gens, s.drawn, s.toks, s.os⟩) hkey hd1 (fun h2 hd2 sb2 => ?_) hz)
    refine wpAny_pure ?_
    refine ⟨Code.quiet_builtin _ (by decide +kernel), ?_⟩
    have e1 : rawInt ((i : Int) + 1) = rawInt ((i + 1 : Nat) : Int) := rfl
    have kp : ∀ b o, b ≠ d → b ≠ it → s.heap.get? b = some o → h2.get? b = some o := fun b o hb1 hb2 e => (sb2.2 b hb1).trans ((sb1.2 b hb2).trans e)
    rw [e1]
    refine ih (i + 1) ⟨h2, s.gens, s.drawn, s.toks + 1, s.os⟩ (stored kvs prs[i].1 prs[i].2) (by omega) ?_ ?_ ?_ ?_ hlen hd2 ?_
    · unfold stored
      split
      · rw [List.length_map]; omega
      · rw [List.length_append, List.length_singleton]; omega
    · exact hit1.at fun o e => (sb2.2 it (Ne.symm hdi)).trans e
    · exact hl.at fun o e => kp l o (Ne.symm hdl) (Ne.symm hil) e
    · intro j x p hx hp'
      obtain ⟨t', ku', e', a1, a2, ⟨o', ho', r'⟩, a4⟩ := hp j x p hx hp'
      exact ⟨t', ku', e', a1, a2, ⟨o', kp t' o' a1 a2 ho', r'⟩, a4⟩
    · intro h' tk k2 hd'
      refine hQ h' tk (fun b o hb1 hb2 e => k2 b o hb1 hb2 (kp b o hb1 hb2 e)) ?_
      rw [List.drop_eq_getElem_cons hi2]
      exact hd'
end
end L2
namespace L2
open PySem PySem.Spec PyProof.Rows
theorem KV.fold {ks : List (Key × V)} {us : List (Key × Value)} (r : KV ks us) : ∀ {a : List (Key × V)} {b : List (Key × Value)}, KV a b → KV (ks.foldl (fun a p => putK a p.1 p.2) a) (us.foldl (fun a p => stored a p.1 p.2) b) := by
  induction r with
  | nil => intro a b h; exact h
  | @cons p q ps qs h t ih =>
    intro a b hab
    refine ih ?_
    obtain ⟨e, rv⟩ := h
    show KV (putK a p.1 p.2) (stored b q.1 q.2)
    rw [← e]
    exact KV.put hab p.1 rv
theorem fold_len (ks : List (Key × V)) : ∀ a : List (Key × V), (ks.foldl (fun a p => putK a p.1 p.2) a).length ≤ a.length + ks.length := by
  induction ks with
  | nil => intro a; exact Nat.le_refl _
  | cons p ps ih =>
    intro a
    have h1 := ih (putK a p.1 p.2)
    have h2 := length_putK a p.1 p.2
    rw [List.foldl_cons, List.length_cons]
    omega
section
variable {X : Cx}
def rDictP (K : PySem.W.Frag) : List V → Hp → VK → Prop := fun xs H Q => ∃ (l : Addr) (ys : List V) (prs : List (Key × V)), xs = [.ref l] ∧ SqL K H l ys ∧ ys.length = prs.length ∧ prs.length ≤ 900 ∧
  (∀ (j : Nat) (y : V) (p : Key × V), ys[j]? = some y → prs[j]? = some p → ∃ t, y = .ref t ∧ H t = some (.tup [kV p.1, p.2])) ∧ ∀ d, H d = none → Q (.ref d) (upd H d (.dK (prs.foldl (fun a p => putK a p.1 p.2) [])))
theorem call_dictP (hc : X.calm = true) : CallR X (.type "dict") (rDictP X.K) := by
  intro pins s σ H xs us Q I r h
  obtain ⟨l, ys, prs, rfl, hq, hlen, hsz, hp, q⟩ := h
  obtain ⟨u, rfl, rx⟩ := vals1 r
  cases rx
  obtain ⟨its, rv, pl, hz⟩ := I.list hq
  have hli := rv.length
  have hA : X.A.handled = none := I.ok.hd hc
  have hpr : ∃ us : List (Key × Value), KV prs us ∧ ∀ (j : Nat) (x : Value) (p : Key × Value), its[j]? = some x → us[j]? = some p → ∃ (t : Addr) (ku : Value), x = Value.ref t ∧ s.heap.IsTuple t #[ku, p.2] ∧ (mixKind X.prog X.w).is p.1 ku = true := by
    clear hq pl hz q r
    have gen : ∀ (prs : List (Key × V)) (ys : List V) (its : List Value), Vals ys its → ys.length = prs.length → (∀ (j : Nat) (y : V) (p : Key × V), ys[j]? = some y → prs[j]? = some p → ∃ t, y = .ref t ∧ H t = some (.tup [kV p.1, p.2])) →
        ∃ us : List (Key × Value), KV prs us ∧ ∀ (j : Nat) (x : Value) (p : Key × Value), its[j]? = some x → us[j]? = some p → ∃ (t : Addr) (ku : Value), x = Value.ref t ∧ s.heap.IsTuple t #[ku, p.2] ∧ (mixKind X.prog X.w).is p.1 ku = true := by
      intro prs
      induction prs with
      | nil => intro ys its rv hl _; exact ⟨[], .nil, fun j x p _ e => by simp at e⟩
      | cons p ps ih =>
        intro ys its rv hl hp
        cases rv with
        | nil => simp at hl
        | @cons y u ys us' ru rus =>
          obtain ⟨us, k1, k2⟩ := ih ys us' rus (by simpa using hl) fun j y' p' h1 h2 => hp (j + 1) y' p' h1 h2
          obtain ⟨t, e, ht⟩ := hp 0 y p rfl rfl
          subst e
          cases ru
          obtain ⟨tis, tv, tp, _⟩ := I.tuple (SqT.of ht)
          cases tv with
          | cons rk tv1 =>
            cases tv1 with
            | cons rw2 tv2 =>
              cases tv2
              rename_i ku vu
              refine ⟨(p.1, vu) :: us, .cons ⟨rfl, rw2⟩ k1, fun j x p' h1 h2 => ?_⟩
              cases j with
              | zero =>
                simp at h1 h2
                subst h1 h2
                exact ⟨t, ku, rfl, tp, kV_is rk⟩
              | succ j => exact k2 j x p' h1 h2
    exact gen prs ys its rv hlen hp
  obtain ⟨us, kv, hus⟩ := hpr
  have hul := kv.length
  obtain ⟨o, n, ho, hcl, hdn, hdat⟩ := pl
  refine callType_codes (Q₁ := fun obj s₁ => obj = .ref s.heap.objs.size ∧ s₁ = { s with heap := s.heap.push { cls := .type "dict", data := .dict #[] } }) PySem.F.kt_called_dict (PySem.F.kt_typeCall_dict_1 _) PySem.F.entry_dict_init (kt_code_dict_new _ ⟨rfl, rfl⟩) ?_
  rintro obj s₁ ⟨rfl, rfl⟩
  have hnew : (s.heap.push { cls := .type "dict", data := .dict #[] }).DictOf (mixKind X.prog X.w) s.heap.objs.size [] := Heap.DictOf.new s.heap
  have kp0 : ∀ b o, s.heap.get? b = some o → (s.heap.push { cls := .type "dict", data := .dict #[] }).get? b = some o := fun b o e => Heap.get?_push_of_some _ e
  refine ⟨hnew.typeIs, PySem.F.args_dict_init_2 _ _, ?_⟩
  unfold Builtin.«dict.__init__»
  refine wpAny_bind ?_
  unfold Builtin.Dict.selfAndRest
  refine wpAny_bind (wpAny_notOrdered_dict hnew.typeIs ?_)
  show wpAny _ _ (pure (s.heap.objs.size, [Value.ref l])) _ _ _
  refine wpAny_pure ?_
  show wpAny _ _ (Builtin.Dict.updateFrom "dict.__init__" s.heap.objs.size (.ref l) [] .none) _ _ _
  unfold Builtin.Dict.updateFrom
  generalize hP : s.heap.push { cls := .type "dict", data := .dict #[] } = hp1 at *
  have hlT : (⟨hp1, s.gens, s.drawn, s.toks, s.os⟩ : Shared).TypeIs (.ref l) "list" := ⟨_, kp0 _ _ ho, hcl⟩
  refine wpAny_bind (wpAny_typeOf hlT ?_)
  rw [if_pos (by decide +kernel)]
  refine wpAny_bind (keys_miss_list (s := ⟨hp1, s.gens, s.drawn, s.toks, s.os⟩) (kp0 _ _ ho) hcl hdat hdn hA fun h2 tk2 kp2 => ?_)
  rw [if_pos (show (none : Option Value).isNone = true from rfl)]
  refine wpAny_bind (wpAny_rule ?_)
  have kp02 : ∀ b o, s.heap.get? b = some o → h2.get? b = some o := fun b o e => kp2 b o (kp0 b o e)
  have hl2 : h2.IsList l its.toArray := ⟨o, kp02 _ _ ho, hcl, n, hdat⟩
  refine wpAny_bind (wpAny_pyIter_list (s := ⟨h2, s.gens, s.drawn, tk2, s.os⟩) hl2 ?_)
  refine wpAny_pure ?_
  refine ⟨Code.quiet_builtin _ (by decide +kernel), ?_⟩
  have hd2 : h2.DictOf (mixKind X.prog X.w) s.heap.objs.size [] := by
    obtain ⟨o', es, ep, ho', r'⟩ := hnew
    exact ⟨o', es, ep, kp2 _ _ ho', r'⟩
  have ltd : s.heap.objs.size < h2.objs.size := by
    obtain ⟨o', es, ep, ho', r'⟩ := hd2
    exact Heap.lt_size ho'
  have ltl : l < h2.objs.size := Heap.lt_size (kp02 _ _ ho)
  have nold : ∀ b o, s.heap.get? b = some o → b ≠ s.heap.objs.size := fun b o e => Nat.ne_of_lt (Heap.lt_size e)
  have kp3 : ∀ b o, s.heap.get? b = some o → ∀ x, (h2.push x).get? b = some o := fun b o e x => Heap.get?_push_of_some _ (kp02 b o e)
  refine dict_loop (d := s.heap.objs.size) (it := h2.objs.size) (l := l) (by exact hA) (Nat.ne_of_lt ltd) (Ne.symm (nold _ _ ho)) (Ne.symm (Nat.ne_of_lt ltl)) its us (by omega) its.length 0 _ [] (by omega) (Nat.zero_le _) ⟨_, Heap.get?_push_size _ rfl, rfl, rfl⟩ ⟨o, kp3 _ _ ho _, hcl, n, hdat⟩ ?_ (by omega) ?_ ?_
  · intro j x p h1 h2'
    obtain ⟨t, ku, e, ⟨ot, hot, rt⟩, hk⟩ := hus j x p h1 h2'
    exact ⟨t, ku, e, nold _ _ hot, Nat.ne_of_lt (Heap.lt_size (kp02 _ _ hot)), ⟨ot, kp3 _ _ hot _, rt⟩, hk⟩
  · obtain ⟨o', es, ep, ho', r'⟩ := hd2
    exact ⟨o', es, ep, Heap.get?_push_of_some _ ho', r'⟩
  · intro h' tk k3 hd'
    refine ⟨rfl, .ref s.heap.objs.size, _, I.laid (a := s.heap.objs.size) (o := .dK (prs.foldl (fun a p => putK a p.1 p.2) [])) (t' := tk) (fun b q hq' => ?_) (Nat.le_refl _) (dk_new ?_ (beq_eq_false_iff_ne.mpr (Ne.symm (Nat.ne_of_lt I.big))) (kv.fold .nil) hd'), rfl, q _ (I.hok.fresh (Nat.le_refl _))⟩
    · exact k3 b q (nold _ _ hq') (Nat.ne_of_lt (Heap.lt_size (kp02 _ _ hq'))) (kp3 _ _ hq' _)
    · have h9 : (1000 : Nat) ≤ sizeLine := by decide
      have h8 := fold_len prs []
      rw [List.length_nil] at h8
      omega
end
end L2
namespace PySem
open Sem (wp)
section
variable {prog : Program} {w : World} {A : Around} {E : Value → Shared → Prop} {s : Shared}
theorem drawT_item {it t : Addr} {i : Nat} {items : Array Value} {x : Value} {Q : Value → Shared → Prop} (hI : s.heap.IsTupleIter it t i) (hT : s.heap.IsTuple t items) (hx : items[i]? = some x)
    (q : ∀ h', h'.IsTupleIter it t (i + 1) → Heap.SameBut it s.heap h' → Q x { s with heap := h' }) : wpAny (model prog w) A (Builtin.SmallTypes.nextOf (.ref it)) Q E s := by
  obtain ⟨oi, hoi, hci, hdi⟩ := id hI
  obtain ⟨ot, hot, _, nt, hdt⟩ := hT
  unfold Builtin.SmallTypes.nextOf
  refine wpAny_bind (wpAny_callSpecial?_slot (name := Str.ofString "__next__") hI.typeIs F.slot_tuple_iterator_next (wpAny_call_entry F.slot_tuple_iterator_next hI.typeIs F.entry_tuple_iterator_next ?_ (F.args_tuple_iterator_next_1 _)))
  refine wpAny_bind (m := field (.ref it) 0) (wpAny_field hoi hdi (x := .ref t) rfl ?_)
  dsimp only
  rw [if_neg (show ¬ ((Value.ref t == Value.none) = true) by exact Bool.false_ne_true)]
  refine wpAny_bind (m := field (.ref it) 1) (wpAny_field hoi hdi (x := .int i 0) rfl ?_)
  refine wpAny_bind (m := seqItems? (.ref t)) (wpAny_seqItems hot hdt ?_)
  simp only [Int.toNat_natCast, hx]
  refine wpAny_bind (wpAny_setField hoi hdi (by simp) (wpAny_pure ⟨x, rfl, wpAny_pure (q _ ⟨_, Heap.get?_update_self _ hoi (Obj.isFreed_of_fields (Obj.data_mapFields hdi _)), (Obj.cls_mapFields ..).trans hci, ?_⟩ (Heap.SameBut.update ..))⟩))
  rw [Obj.data_mapFields hdi]
  simp [rawInt]
theorem drawT_end {it t : Addr} {i : Nat} {items : Array Value} {Q : Value → Shared → Prop} (hh : A.handled = none) (hI : s.heap.IsTupleIter it t i) (hT : s.heap.IsTuple t items) (hx : items[i]? = none)
    (q : ∀ h' e, Heap.ExtBut it s.heap h' → (∃ o, h'.get? e = some o ∧ o.cls = .type "StopIteration") → E (.ref e) { s with heap := h' }) : wpAny (model prog w) A (Builtin.SmallTypes.nextOf (.ref it)) Q E s := by
  obtain ⟨oi, hoi, hci, hdi⟩ := id hI
  obtain ⟨ot, hot, _, nt, hdt⟩ := hT
  unfold Builtin.SmallTypes.nextOf
  refine wpAny_bind (wpAny_callSpecial?_slot (name := Str.ofString "__next__") hI.typeIs F.slot_tuple_iterator_next (wpAny_call_entry F.slot_tuple_iterator_next hI.typeIs F.entry_tuple_iterator_next ?_ (F.args_tuple_iterator_next_1 _)))
  refine wpAny_bind (m := field (.ref it) 0) (wpAny_field hoi hdi (x := .ref t) rfl ?_)
  dsimp only
  rw [if_neg (show ¬ ((Value.ref t == Value.none) = true) by exact Bool.false_ne_true)]
  refine wpAny_bind (m := field (.ref it) 1) (wpAny_field hoi hdi (x := .int i 0) rfl ?_)
  refine wpAny_bind (m := seqItems? (.ref t)) (wpAny_seqItems hot hdt ?_)
  simp only [Int.toNat_natCast, hx]
  refine wpAny_bind (wpAny_rule (wpAny_bind (wpAny_setField hoi hdi (by simp) (wpAny_bind (m := newExc (.type "StopIteration") []) ?_))))
  simp only [newExc, newTuple]
  refine wpAny_bind (wpAny_newObj_type (wpAny_bind (m := firstArgMember _ _) (wpAny_of_eq (a := Value.none) (by first | rfl | (simp only [firstArgMember]; rfl)) (wpAny_newObj_type ?_ (by size_fits)))) (by size_fits))
  simp only [raiseNew]
  refine wpAny_bind (wpAny_handled ?_)
  first | rw [show A.in1.handled = none by exact hh] | rw [hh]
  exact wpAny_bind (wpAny_pure (wpAny_throw (q _ _ (((Heap.SameBut.update ..).extBut.push _).push _) ⟨_, Heap.get?_push_size _ rfl, rfl⟩)))
theorem Draws.tup (hh : A.handled = none) (it t : Addr) (hne : t ≠ it) (items : Array Value) : Draws prog w A it [it, t] items.size (fun i v => items[i]? = some v) (fun i h => h.IsTupleIter it t i ∧ h.IsTuple t items) where
  live := fun _ _ st => let ⟨o, ho, _⟩ := st.1; ⟨o, ho⟩
  frame := fun _ _ _ st hk => ⟨st.1.at fun o e => hk it (by simp) o e, let ⟨o, ho, r⟩ := st.2; ⟨o, hk t (by simp) o ho, r⟩⟩
  item := fun i s Q E hi st hQ => by
    refine drawT_item st.1 st.2 (x := items[i]) (by simp [hi]) fun h' hit' hs' => hQ _ h' s.toks (by simp [hi]) ⟨hit', ?_⟩ hs'
    obtain ⟨o, ho, r⟩ := st.2
    exact ⟨o, (hs'.2 t hne).trans ho, r⟩
  done := fun s Q E st hE => drawT_end hh st.1 st.2 (by simp) hE
theorem meets_enumT (l : Addr) (items : Array Value) (n : Nat) (dct : Option Addr) (sl : Array (Option Value)) :
    Meets (Builtin.«enumerate.__new__» ⟨[.type "enumerate", .ref l], []⟩) (fun _ R s => s.heap.get? l = some { cls := .type "tuple", dict := dct, data := .seq items n, slots := sl } ∧
      R (.ok (.ret (.ref (s.heap.push { cls := .type "tuple_iterator", data := .fields #[.ref l, .int 0 0] }).objs.size)))
        { s with heap := (s.heap.push { cls := .type "tuple_iterator", data := .fields #[.ref l, .int 0 0] }).push { cls := .type "enumerate", data := .fields #[.none, .bool false, .ref s.heap.objs.size, rawInt 0, .none, .none] } }) :=
  .of_wp fun prog w A R s h => by
    obtain ⟨hp, g, d, tk, os⟩ := s; obtain ⟨hl, h⟩ := h
    have hsub := sub_enumerate
    have hL : Heap.IsTuple (Shared.heap ⟨hp, g, d, tk, os⟩) l items := ⟨_, hl, rfl, n, rfl⟩
    wp_walk using wpAny_loadPart' hl
    refine wpAny_stack_any fun st => wpAny_pure ?_
    split
    · rename_i c _ _ _ _ _
      cases (c == Value.type "enumerate") <;> (wp_walk using wpAny_loadPart' hl, wpAny_pyIter_tuple hL; exact ⟨_, rfl, h⟩)
    · wp_walk using wpAny_loadPart' hl, wpAny_pyIter_tuple hL
      exact ⟨_, rfl, h⟩
theorem call_enumT {l : Addr} {items : Array Value} {Q : Value → Shared → Prop} (hL : s.heap.IsTuple l items)
    (h : ∀ h', IsEnum h' (s.heap.objs.size + 1) s.heap.objs.size 0 .none → h'.IsTupleIter s.heap.objs.size l 0 → h'.objs.size = s.heap.objs.size + 2 → (∀ b o, s.heap.get? b = some o → h'.get? b = some o) → Q (.ref (s.heap.objs.size + 1)) { s with heap := h' }) :
    wpAny (model prog w) A (call (.type "enumerate") [.ref l]) Q E s := by
  obtain ⟨⟨c, dct, dt, sl⟩, hl, hc, n, hd⟩ := hL
  replace hc : c = .type "tuple" := hc
  replace hd : dt = .seq items n := hd
  subst hc hd
  refine callType_new F.called_enumerate (by decide) (F.typeCall_enumerate_1 _) (F.newCall_enumerate_1 _) (fun obj => F.args_object_init_2 obj _) F.entry_enumerate_new (meets_enumT l items n dct sl) ⟨hl, ?_⟩
  generalize hI : ({ cls := .type "tuple_iterator", data := .fields #[.ref l, .int 0 0] } : Obj) = oi
  have hz : (s.heap.push oi).objs.size = s.heap.objs.size + 1 := Heap.size_push ..
  show _ ∧ _
  rw [hz]
  have he : IsEnum ((s.heap.push oi).push { cls := .type "enumerate", data := .fields #[.none, .bool false, .ref s.heap.objs.size, rawInt 0, .none, .none] }) (s.heap.objs.size + 1) s.heap.objs.size 0 .none := by
    have g := Heap.get?_push_size (s.heap.push oi) (o := { cls := .type "enumerate", data := .fields #[.none, .bool false, .ref s.heap.objs.size, rawInt 0, .none, .none] }) rfl
    rw [hz] at g
    exact g
  subst hI
  exact ⟨⟨_, he, rfl⟩, h _ he ⟨_, Heap.get?_push_of_some _ (Heap.get?_push_size _ rfl), rfl, rfl⟩ (by rw [Heap.size_push, hz]) fun b o x => Heap.get?_push_of_some _ (Heap.get?_push_of_some _ x)⟩
end
end PySem
namespace L2
open PySem PySem.Spec PyProof.Rows
theorem Inv.turnedL {X : Cx} {pins : List (Addr × Obj)} {σ : St} {H : Hp} {s : Shared} {h' : Heap} {t' : Nat} {ch : List Addr} (I : Inv X pins σ H s) (hch : ∀ b ∈ ch, FpOk X pins H b) (k : ∀ b o, b ∉ ch → s.heap.get? b = some o → h'.get? b = some o) : Inv X pins σ H { s with heap := h', toks := t' } := by
  have nit : ∀ b u, H b = some u → b ∉ ch := fun b u e z => by rw [(hch b z).1] at e; cases e
  refine I.step (g' := s.gens) (d' := s.drawn) (ch := ch) (fun b hb => ?_) (fun b o _ _ hc e _ => k b o hc e) (fun b o _ _ hc e _ => ⟨o.slots, k b o hc e⟩) (fun _ _ _ _ n => n) (fun b o hc e => ⟨o, k b o hc e⟩) (fun _ _ e => e) (fun _ _ _ e => e) (fun b ps e => ⟨#[], by rw [e]; simp⟩) (fun m hm => ?_) (fun b u e => ?_) I.bare
  · obtain ⟨f0, f1, f2, f3, f4, f5⟩ := hch b hb
    exact ⟨f3, f1, f4, f5⟩
  · obtain ⟨o, es, ep, ho, r⟩ := hm
    exact ⟨o, es, ep, k _ o (fun z => (hch _ z).2.1 rfl) ho, r⟩
  · refine (I.hok b u e).stay (fun c v hc q => k c v ?_ q) (fun _ q => q) fun _ _ q => q
    rcases hc with z | z
    · rw [z]; exact nit b u e
    · exact nit c _ z
theorem Inv.turnedLaid {X : Cx} {pins : List (Addr × Obj)} {σ : St} {H : Hp} {s : Shared} {h' : Heap} {t' : Nat} {ch : List Addr} {T : Addr} {ob : HO} (I : Inv X pins σ H s) (hch : ∀ b ∈ ch, FpOk X pins H b) (k : ∀ b o, b ∉ ch → s.heap.get? b = some o → h'.get? b = some o)
    (hT : s.heap.objs.size ≤ T) (new : ObjOk X.prog X.w (upd H T ob) h' T ob) : Inv X pins σ (upd H T ob) { s with heap := h', toks := t' } := by
  have hn : H T = none := I.hok.fresh hT
  have nit : ∀ b u, H b = some u → b ∉ ch := fun b u e z => by rw [(hch b z).1] at e; cases e
  have up : ∀ b u, H b = some u → (upd H T ob) b = some u := fun b u e => by rw [upd_ne (ne_of_none e hn)]; exact e
  refine I.step (g' := s.gens) (d' := s.drawn) (ch := ch) (fun b hb => ?_) (fun b o _ _ hc e _ => k b o hc e) (fun b o _ _ hc e _ => ⟨o.slots, k b o hc e⟩) (fun b o _ e n => ?_) (fun b o hc e => ⟨o, k b o hc e⟩) (fun b _ e => up b _ e) (fun b _ _ e => up b _ e) (fun b ps e => ⟨#[], by rw [up b _ e]; simp⟩) (fun m hm => ?_) (fun b u e => ?_) I.bare
  · obtain ⟨f0, f1, f2, f3, f4, f5⟩ := hch b hb
    exact ⟨f3, f1, f4, f5⟩
  · rw [upd_ne (Nat.ne_of_lt (Nat.lt_of_lt_of_le (Heap.lt_size e) hT))]; exact n
  · obtain ⟨o, es, ep, ho, r⟩ := hm
    exact ⟨o, es, ep, k _ o (fun z => (hch _ z).2.1 rfl) ho, r⟩
  · by_cases hb : b = T
    · subst hb; rw [upd_same] at e; cases e; exact new
    · rw [upd_ne hb] at e
      refine (I.hok b u e).stay (fun c v hc q => k c v ?_ q) (fun c q => up c _ q) fun c _ q => up c _ q
      rcases hc with z | z
      · rw [z]; exact nit b u e
      · exact nit c _ z
def Itte (K : PySem.W.Frag) (a : Addr) : It :=
  ⟨fun i H => ∃ xs x, SqT K H a xs ∧ xs[i]? = some x, fun i H v H' => ∃ T x, H T = none ∧ v = .ref T ∧ (∀ xs, SqT K H a xs → xs[i]? = some x) ∧ H' = upd H T (.tup [.int i, x]), fun i H => ∃ xs, SqT K H a xs ∧ xs.length = i⟩
theorem turn_enumT {P : Program} {w : World} {K : PySem.W.Frag} {elts : List Expr} {kk : Nat} {tp : Pos} (e it a : Addr) (hei : e ≠ it) : Turn P w K (.Tuple elts kk tp) (Itte K a) [e, it] e (fun i h => (∃ old, IsEnum h e it i old) ∧ h.IsTupleIter it a i) where
  mem := by simp
  obj := fun i h st b hb => by
    obtain ⟨⟨old, he⟩, o, ho, hc, hd⟩ := st
    rcases List.mem_cons.mp hb with q | q
    · subst q
      exact ⟨_, he, fun v z => by have z' : Data.fields _ = Data.cell v := z; cases z'⟩
    · rw [List.mem_singleton.mp q]
      exact ⟨o, ho, fun v z => by rw [hd] at z; cases z⟩
  keep := fun i h h' st k => ⟨st.1.imp fun old x => k e (by simp) _ x, st.2.at fun o x => k it (by simp) o x⟩
  item := by
    intro X hP hw hK hc i pins s σ H E I hf st hg
    subst hP hw hK
    obtain ⟨xs, x, hq, hx⟩ := hg
    obtain ⟨its, rv, p, hz⟩ := I.tuple hq
    obtain ⟨u, hu, ru⟩ := rv.get hx
    have hA : X.A.handled = none := I.ok.hd hc
    obtain ⟨⟨old, he⟩, hI⟩ := id st
    have hai : a ≠ it := fun z => by
      obtain ⟨o1, g1, c1, _⟩ := p
      obtain ⟨o2, g2, c2, _⟩ := hI
      rw [z, g2] at g1
      cases g1
      rw [c2] at c1
      exact absurd c1 (by decide)
    have hae : e ≠ a := fun z => by
      obtain ⟨o1, g1, c1, _⟩ := p
      have g2 : s.heap.get? e = _ := he
      rw [← z, g2] at g1
      cases g1
      exact absurd (show Value.type "enumerate" = Value.type "tuple" from c1) (by decide)
    have W := WalksT.enumerateD (prog := X.prog) (w := X.w) (A := X.A) (Draws.tup (by exact hA) it a hai its.toArray) e hei (by simp [hei, hae]) (by simp)
    have hi : i < its.toArray.size := by
      have := (List.getElem?_eq_some_iff.mp hu).1
      simpa using this
    refine W.item i s _ _ hi ⟨⟨old, he⟩, hI, p⟩ fun T vals h' tk hv hT hIT hmid k1 => ?_
    obtain ⟨t', x', hx', rfl⟩ := hv
    have ex : x' = u := by
      have h2 : its.toArray[i]? = some u := by simpa using hu
      rw [h2] at hx'
      exact (Option.some.inj hx').symm
    subst ex
    refine ⟨_, rfl, W.go elts kk tp i T _ _ _ hmid fun h2 hst2 k2 => ?_⟩
    have hTw := W.apart i T _ hmid
    have new : ObjOk X.prog X.w (upd H T (.tup [.int i, x])) h2 T (.tup [.int i, x]) := by
      obtain ⟨ot, g1, r1⟩ := hIT
      exact ⟨by show 2 ≤ sizeLine; decide, [.int i t', x'], .cons ⟨t', rfl⟩ (.cons ru .nil), ot, k2 T ot hTw g1, r1⟩
    refine ⟨.ref T, _, I.turnedLaid (ch := [e, it]) (t' := tk) hf (fun b o hb g => k2 b o hb (k1 b o hb g)) hT new, rfl, ⟨T, x, I.hok.fresh hT, rfl, fun ys hy => by rw [I.tuple_inj hy hq]; exact hx, rfl⟩, ⟨hst2.1, hst2.2.1⟩, fun b hb => ?_⟩
    have hbT : b ≠ T := fun z => hTw (by rw [← z]; exact hb)
    rw [upd_ne hbT]
    exact (hf b hb).1
  done := by
    intro X hP hw hK hc i pins s σ H E I hf st hg
    subst hP hw hK
    obtain ⟨xs, hq, hx⟩ := hg
    obtain ⟨its, rv, p, hz⟩ := I.tuple hq
    have hA : X.A.handled = none := I.ok.hd hc
    obtain ⟨⟨old, he⟩, hI⟩ := id st
    have hai : a ≠ it := fun z => by
      obtain ⟨o1, g1, c1, _⟩ := p
      obtain ⟨o2, g2, c2, _⟩ := hI
      rw [z, g2] at g1
      cases g1
      rw [c2] at c1
      exact absurd c1 (by decide)
    have hae : e ≠ a := fun z => by
      obtain ⟨o1, g1, c1, _⟩ := p
      have g2 : s.heap.get? e = _ := he
      rw [← z, g2] at g1
      cases g1
      exact absurd (show Value.type "enumerate" = Value.type "tuple" from c1) (by decide)
    have W := WalksT.enumerateD (prog := X.prog) (w := X.w) (A := X.A) (Draws.tup (by exact hA) it a hai its.toArray) e hei (by simp [hei, hae]) (by simp)
    have hl := rv.length
    have en : its.toArray.size = i := by simp; omega
    refine W.done s _ _ ?_ fun h' tk k1 => ⟨rfl, I.turnedL (ch := [e, it]) (t' := tk) hf fun b o hb g => k1 b o hb g⟩
    rw [en]
    exact ⟨⟨old, he⟩, hI, p⟩
  self := fun _ _ _ _ _ st h => by
    obtain ⟨⟨old, he⟩, _⟩ := st
    exact wpAny_pyIter_enum he h
section
variable {X : Cx}
def iEnumT (K : PySem.W.Frag) (ta : TA) : TI := fun σ H R => ta σ H fun vs H1 => ∃ a, vs = [.ref a] ∧ (∃ xs, SqT K H1 a xs) ∧ R (Itte K a) H1
theorem pi_enumT {a : Expr} {ta : TA} {p pos : Pos} {elts : List Expr} {kk : Nat} {tp : Pos} (hg : Gl X "enumerate") (hm : X.mg "enumerate" = none) (ha : PA X [a] ta) (hs : starEach [a] X.env = [(false, eval a X.env)] := by rfl) :
    PI X (.Tuple elts kk tp) (.Call (.Name "enumerate" p) [a] [] pos) (iEnumT X.K ta) := by
  intro pins s σ H R I h
  refine Call_ (ld_blt I hg hm boot_enumerate (PyProof.Rows.callWith_type1 (thn (ha pos pins s σ H _ I h) fun us s1 ⟨vs, H1, I1, r1, q1⟩ => ?_) hs rfl))
  obtain ⟨l, e, ⟨xs, hq⟩, q⟩ := q1
  subst e
  cases r1 with
  | cons r rr =>
    cases rr
    cases r
    obtain ⟨its, rv, p, hz⟩ := I1.tuple hq
    refine call_enumT p fun h' he hi hsz kp => wpAny_pyIter_enum he ⟨s1.heap.objs.size + 1, [s1.heap.objs.size + 1, s1.heap.objs.size], _, _, H1, rfl, I1.kept (t' := s1.toks) kp, turn_enumT _ _ l (Nat.ne_of_gt (Nat.lt_succ_self _)), ⟨⟨_, he⟩, hi⟩, fun b hb => ?_, q⟩
    rcases List.mem_cons.mp hb with z | z
    · subst z; exact I1.fpOk (Nat.le_succ _) (I1.hok.fresh (Nat.le_succ _))
    · rw [List.mem_singleton.mp z]; exact I1.fpOk (Nat.le_refl _) (I1.hok.fresh (Nat.le_refl _))
theorem for_enumT {K : PySem.W.Frag} {a : Addr} {xs : List V} {g : TG} {tb : TS} {D : Ends} {σ : St} {H : Hp} (Pv : Nat → St → Hp → Prop) (h0 : Pv 0 σ H) (hl : ∀ i σ H, i ≤ xs.length → Pv i σ H → SqT K H a xs)
    (hs : ∀ i x σ H T, xs[i]? = some x → Pv i σ H → H T = none → g (.ref T) σ (upd H T (.tup [.int i, x])) fun σ2 H2 => tb { D with nx := Pv (i + 1), ct := Pv (i + 1), bk := D.nx } σ2 H2) (hd : ∀ σ H, Pv xs.length σ H → D.nx σ H) :
    ∃ W : Nat → Nat → St → Hp → Prop, (∃ m, W 0 m σ H) ∧ ∀ i m σ H, W i m σ H →
      ((Itte K a).stop i H ∧ D.nx σ H) ∨ ((Itte K a).go i H ∧ ∃ N : St → Hp → Prop, (∀ σ' H', N σ' H' → ∃ m', m' < m ∧ W (i + 1) m' σ' H') ∧ ∀ x H', (Itte K a).yld i H x H' → g x σ H' fun σ2 H2 => tb { D with nx := N, ct := N, bk := D.nx } σ2 H2) := by
  refine ⟨fun i m σ H => m = xs.length - i ∧ i ≤ xs.length ∧ Pv i σ H, ⟨xs.length, by simp, Nat.zero_le _, h0⟩, ?_⟩
  rintro i m σ H ⟨rfl, hi, p⟩
  have q := hl i σ H hi p
  by_cases hlt : i < xs.length
  · refine .inr ⟨⟨xs, xs[i], q, by simp [hlt]⟩, Pv (i + 1), fun σ' H' p' => ⟨xs.length - (i + 1), by omega, rfl, hlt, p'⟩, fun v H' y => ?_⟩
    obtain ⟨T, x, hT, rfl, y, rfl⟩ := y
    exact hs i x σ H T (y xs q) p hT
  · have e : i = xs.length := by omega
    subst e
    exact .inl ⟨⟨xs, q, rfl⟩, hd σ H p⟩
end
end L2
namespace SH
open PySem L2
def wayGo : List Int → Int → List Nd → List Int
  | W, _, [] => W
  | W, k, n :: r => wayGo (W.take n.2.toNat ++ [k]) (k + 1) r
def way (ns : List Nd) : List Int := wayGo [] 0 ns
theorem wayGo_append : ∀ (a b : List Nd) (W : List Int) (k : Int), wayGo W k (a ++ b) = wayGo (wayGo W k a) (k + a.length) b
  | [], b, W, k => by show wayGo W k b = wayGo W (k + ((0 : Nat) : Int)) b; rw [show k + ((0 : Nat) : Int) = k by omega]
  | n :: a, b, W, k => by
    show wayGo _ (k + 1) (a ++ b) = _
    rw [wayGo_append a b]
    show wayGo (wayGo _ (k + 1) a) (k + 1 + a.length) b = wayGo (wayGo _ (k + 1) a) (k + (n :: a).length) b
    rw [List.length_cons, show k + 1 + (a.length : Int) = k + ((a.length + 1 : Nat) : Int) by omega]
theorem way_snoc (ns : List Nd) (n : Nd) : way (ns ++ [n]) = (way ns).take n.2.toNat ++ [(ns.length : Int)] := by
  unfold way
  rw [wayGo_append]
  show (wayGo [] 0 ns).take n.2.toNat ++ [0 + (ns.length : Int)] = _
  rw [Int.zero_add]
theorem way_take {ns : List Nd} {i : Nat} {n : Nd} (h : ns[i]? = some n) : way (ns.take (i + 1)) = (way (ns.take i)).take n.2.toNat ++ [(i : Int)] := by
  have hi := (List.getElem?_eq_some_iff.mp h).1
  rw [List.take_add_one, h]
  show way (ns.take i ++ [n]) = _
  rw [way_snoc, List.length_take, Nat.min_eq_left (by omega)]
theorem way_len {ns : List Nd} : ∀ i, i ≤ ns.length → (way (ns.take i)).length ≤ i := by
  intro i
  induction i with
  | zero => intro _; rw [List.take_zero]; exact Nat.le_refl _
  | succ i ih =>
    intro hi
    rw [way_take (List.getElem?_eq_getElem (by omega : i < ns.length)), List.length_append, List.length_take, List.length_singleton]
    have := ih (by omega)
    omega
def anc (ns : List Nd) (k : Nat) : List Int := (way (ns.take k)).take ((ns.getD k ("", 0)).2.toNat)
theorem anc_of {ns : List Nd} {k : Nat} {n : Nd} (h : ns[k]? = some n) : anc ns k = (way (ns.take k)).take n.2.toNat := by
  unfold anc
  rw [List.getD_eq_getElem?_getD, h]
  rfl
def kept (ps W : List Int) : List Int := W.filter fun j => decide (j ∈ ps)
theorem kept_append (ps a b : List Int) : kept ps (a ++ b) = kept ps a ++ kept ps b := List.filter_append ..
theorem kept_one (ps : List Int) (k : Int) : kept ps [k] = if k ∈ ps then [k] else [] := by
  unfold kept
  by_cases h : k ∈ ps <;> simp [h]
theorem kept_prefix {ps a b : List Int} (h : a <+: b) : kept ps a <+: kept ps b := by
  obtain ⟨c, rfl⟩ := h
  exact ⟨kept ps c, (kept_append ps a c).symm⟩
def cntL (ps W : List Int) : List Int := (List.range (W.length + 1)).map fun j => ((kept ps (W.take j)).length : Int)
theorem cntL_take (ps W : List Int) (d : Nat) : (cntL ps W).take (d + 1) = cntL ps (W.take d) := by
  unfold cntL
  rw [← List.map_take, List.take_range, List.length_take, show min (d + 1) (W.length + 1) = min d W.length + 1 by omega]
  apply List.map_congr_left
  intro j hj
  have := List.mem_range.mp hj
  rw [List.take_take, Nat.min_eq_left (by omega)]
theorem cntL_snoc (ps W : List Int) (k : Int) : cntL ps (W ++ [k]) = cntL ps W ++ [((kept ps W).length : Int) + if k ∈ ps then 1 else 0] := by
  unfold cntL
  rw [List.length_append, List.length_singleton, List.range_succ, List.map_append]
  congr 1
  · apply List.map_congr_left
    intro j hj
    have := List.mem_range.mp hj
    rw [List.take_append_of_le_length (by omega)]
  · rw [List.map_cons, List.map_nil, List.take_of_length_le (by rw [List.length_append, List.length_singleton]; omega), kept_append, kept_one]
    by_cases h : k ∈ ps <;> simp [h]
theorem cntL_len (ps W : List Int) : (cntL ps W).length = W.length + 1 := by unfold cntL; rw [List.length_map, List.length_range]
theorem cntL_last (ps W : List Int) : (cntL ps W)[W.length]? = some ((kept ps W).length : Int) := by
  unfold cntL
  rw [List.getElem?_map, List.getElem?_range (by omega)]
  show some (((kept ps (W.take W.length)).length : Nat) : Int) = _
  rw [List.take_length]
theorem cntL_at (ps W : List Int) : atI ((cntL ps W).map V.int) (-1) = some (.int ((kept ps W).length : Int)) := by
  have e : cntL ps W = (cntL ps W).take W.length ++ [((kept ps W).length : Int)] := by
    have h := List.take_add_one (l := cntL ps W) (i := W.length)
    rw [cntL_last, List.take_of_length_le (by rw [cntL_len]; omega)] at h
    exact h
  rw [e, List.map_append]
  exact atI_last _ _
theorem Same.none {H H' : Hp} (s : Same H H') {b : Addr} (h : H' b = none) : H b = none := by
  cases e : H b with
  | none => rfl
  | some o => rw [s _ _ e] at h; cases h
def below (ps : List Int) (i : Nat) : List Int := ps.filter fun p => decide (p < (i : Int))
theorem below_none {i : Nat} : ∀ {lo m : Int} {ps : List Int}, placesOk lo m ps → (i : Int) ≤ lo → below ps i = [] := fun {lo m ps} h hi => by
  unfold below
  rw [List.filter_eq_nil_iff]
  intro p hp
  have := (places_all h p hp).1
  simp; omega
theorem below_succ {i : Nat} : ∀ {lo m : Int} {ps : List Int}, placesOk lo m ps → below ps (i + 1) = below ps i ++ (if (i : Int) ∈ ps then [(i : Int)] else [])
  | _, _, [], _ => rfl
  | lo, m, p :: r, h => by
    obtain ⟨h1, h2, h3⟩ := h
    have ih := below_succ (i := i) h3
    have e1 : ∀ k : Nat, below (p :: r) k = if p < (k : Int) then p :: below r k else below r k := fun k => by
      unfold below
      rw [List.filter_cons]
      by_cases h : p < (k : Int) <;> simp [h]
    rw [e1, e1]
    by_cases hlt : p < (i : Int)
    · rw [if_pos hlt, if_pos (by omega), ih]
      have : ((i : Int) ∈ p :: r) ↔ (i : Int) ∈ r := by
        rw [List.mem_cons]
        exact ⟨fun z => z.elim (fun z => by omega) id, .inr⟩
      by_cases hm : (i : Int) ∈ r
      · rw [if_pos hm, if_pos (this.mpr hm)]; rfl
      · rw [if_neg hm, if_neg (fun z => hm (this.mp z))]; rfl
    · rw [if_neg hlt, below_none h3 (by omega)]
      by_cases he : p = (i : Int)
      · rw [if_pos (by omega), below_none h3 (by omega), if_pos (by rw [he]; exact List.mem_cons_self), he]; rfl
      · rw [if_neg (by omega), below_none h3 (by omega), if_neg ?_]
        · rfl
        · intro z
          rcases List.mem_cons.mp z with z | z
          · exact he z.symm
          · have := (places_all h3 _ z).1; omega
theorem below_all {n : Nat} {lo : Int} {ps : List Int} (h : placesOk lo n ps) : below ps n = ps := by
  unfold below
  rw [List.filter_eq_self]
  intro p hp
  have := (places_all h p hp).2
  simp; omega
theorem below_at : ∀ {lo m : Int} {ps : List Int} {k : Nat} {p : Int}, placesOk lo m ps → 0 ≤ lo → ps[k]? = some p → below ps p.toNat = ps.take k
  | _, _, [], k, p, _, _, hk => by simp at hk
  | lo, m, q :: r, 0, p, h, h0, hk => by
    obtain ⟨h1, h2, h3⟩ := h
    simp at hk
    subst hk
    rw [List.take_zero]
    unfold below
    rw [List.filter_eq_nil_iff]
    intro x hx
    rcases List.mem_cons.mp hx with z | z
    · subst z; simp; omega
    · have := (places_all h3 _ z).1; simp; omega
  | lo, m, q :: r, k + 1, p, h, h0, hk => by
    obtain ⟨h1, h2, h3⟩ := h
    have hk' : r[k]? = some p := hk
    have := (places_all h3 _ (List.mem_of_getElem? hk')).1
    have ih := below_at h3 (by omega) hk'
    unfold below at ih ⊢
    rw [List.filter_cons, if_pos (by simp; omega), List.take_succ_cons, ih]
theorem below_len {lo m : Int} {ps : List Int} {i : Nat} (h : placesOk lo m ps) (h0 : 0 ≤ lo) (hi : (i : Int) ∈ ps) : ps[(below ps i).length]? = some (i : Int) := by
  obtain ⟨k, hk⟩ := List.getElem?_of_mem hi
  have e := below_at h h0 hk
  rw [Int.toNat_natCast] at e
  have := (List.getElem?_eq_some_iff.mp hk).1
  rw [e, List.length_take, Nat.min_eq_left (by omega)]
  exact hk
def nodeL (ns : List Nd) (ps : List Int) (p : Int) : Nd := ((ns.getD p.toNat ("", 0)).1, ((kept ps (anc ns p.toNat)).length : Int))
def leftN (ns : List Nd) (ps : List Int) : List Nd := ps.map (nodeL ns ps)
theorem deepAfter_le : ∀ {d : Int} {ns : List Nd}, d ≤ 12 → deepAfter d ns ≤ 12
  | _, [], h => h
  | _, n :: r, _ => deepAfter_le (ns := r) (by show min (n.2 + 1) 12 ≤ 12; omega)
theorem depth12 {ns : List Nd} {i : Nat} {n : Nd} (hd : depthOk 0 ns) (h : ns[i]? = some n) : markS n.1 = true ∧ 0 ≤ n.2 ∧ n.2 ≤ 12 := by
  have e : ns = ns.take i ++ (n :: ns.drop (i + 1)) := by
    have q := List.take_append_drop (i + 1) ns
    rw [List.take_add_one, h, List.append_assoc] at q
    exact q.symm
  rw [e] at hd
  obtain ⟨_, h1, h2, h3, _⟩ := depthOk_append.mp hd
  have := deepAfter_le (d := 0) (ns := ns.take i) (by omega)
  exact ⟨h1, h2, by omega⟩
theorem prefix_eq {a b : List Int} (h : a <+: b) : b.take a.length = a := by
  obtain ⟨c, rfl⟩ := h
  simp
theorem left_inv {ns : List Nd} {ps : List Int} (hd : depthOk 0 ns) (hp : placesOk 0 ns.length ps) : ∀ i, i ≤ ns.length →
    kept ps (way (ns.take i)) <+: (way ((below ps i).map (nodeL ns ps))).map (fun j => ps.getD j.toNat 0) ∧ depthOk 0 ((below ps i).map (nodeL ns ps)) ∧ deepAfter 0 ((below ps i).map (nodeL ns ps)) = min ((way ((below ps i).map (nodeL ns ps))).length : Int) 12 := by
  intro i
  induction i with
  | zero =>
    intro _
    rw [below_none (i := 0) hp (by omega), List.take_zero]
    exact ⟨⟨[], rfl⟩, trivial, rfl⟩
  | succ i ih =>
    intro hi
    obtain ⟨h1, h2, h3⟩ := ih (by omega)
    have hn : ns[i]? = some ns[i] := List.getElem?_eq_getElem (by omega)
    obtain ⟨hm, d0, d12⟩ := depth12 hd hn
    rw [way_take hn, kept_append, kept_one, below_succ hp]
    have hpre : kept ps ((way (ns.take i)).take ns[i].2.toNat) <+: kept ps (way (ns.take i)) := kept_prefix (List.take_prefix ..)
    generalize hR : (below ps i).map (nodeL ns ps) = R at h1 h2 h3 ⊢
    by_cases hk : (i : Int) ∈ ps
    · rw [if_pos hk, List.map_append, hR]
      rw [List.map_cons, List.map_nil]
      have eN : nodeL ns ps (i : Int) = (ns[i].1, ((kept ps ((way (ns.take i)).take ns[i].2.toNat)).length : Int)) := by
        unfold nodeL
        rw [Int.toNat_natCast, anc_of hn, List.getD_eq_getElem?_getD, hn]
        rfl
      rw [way_snoc, eN, Int.toNat_natCast]
      generalize hA : kept ps ((way (ns.take i)).take ns[i].2.toNat) = A at hpre ⊢
      have lA : A.length ≤ ns[i].2.toNat := by
        rw [← hA]
        refine Nat.le_trans (List.length_filter_le ..) ?_
        rw [List.length_take]; omega
      have pV : A <+: (way R).map (fun j => ps.getD j.toNat 0) := hpre.trans h1
      have lV : A.length ≤ (way R).length := by have := pV.length_le; rw [List.length_map] at this; exact this
      have hl : R.length = (below ps i).length := by rw [← hR, List.length_map]
      have hg : ps.getD R.length 0 = (i : Int) := by rw [hl, List.getD_eq_getElem?_getD, below_len hp (by omega) hk]; rfl
      refine ⟨?_, ?_, ?_⟩
      · rw [List.map_append, List.map_take, prefix_eq pV, List.map_cons, List.map_nil, Int.toNat_natCast, hg]
        exact ⟨[], by simp⟩
      · exact depthOk_append.mpr ⟨h2, hm, by omega, by rw [h3]; show (A.length : Int) ≤ _; omega, trivial⟩
      · rw [deepAfter_append]
        show min ((A.length : Int) + 1) 12 = _
        rw [List.length_append, List.length_take, List.length_singleton]
        omega
    · rw [if_neg hk, List.append_nil, List.append_nil, hR]
      exact ⟨hpre.trans h1, h2, h3⟩
theorem left_ok {ns : List Nd} {ps : List Int} (hd : depthOk 0 ns) (hp : placesOk 0 ns.length ps) : depthOk 0 (leftN ns ps) := by
  have h := (left_inv hd hp ns.length (Nat.le_refl _)).2.1
  rw [below_all hp] at h
  exact h
theorem hu1 {n : Nat} (h : n + 64 < cLine) : n + 1 < cLine := by omega
theorem fold_val (ps : List Int) : ∀ (acc : List (Key × V)) (j : Int), (valV ((ps.map fun q => ((Sum.inl q : Key), V.bl true)).foldl (fun a p => putK a p.1 p.2) acc) (Sum.inl j)).isSome = (decide (j ∈ ps) || (valV acc (Sum.inl j)).isSome) := by
  induction ps with
  | nil => intro acc j; simp
  | cons p r ih =>
    intro acc j
    rw [List.map_cons, List.foldl_cons, ih, valV_put]
    by_cases h : j = p
    · subst h; simp
    · have : ¬ ((Sum.inl j : Key) = Sum.inl p) := fun z => h (Sum.inl.inj z)
      simp [this, h]
end SH
namespace L2
open PySem PySem.Spec PyProof.Rows
section
variable {X : Cx}
def rRange1 : List V → Hp → VK → Prop := fun xs H Q => ∃ n : Int, xs = [.int n] ∧ ∀ r, H r = none → Q (.ref r) (upd H r (.rng 0 n))
def rRange2 : List V → Hp → VK → Prop := fun xs H Q => ∃ lo hi : Int, xs = [.int lo, .int hi] ∧ ∀ r, H r = none → Q (.ref r) (upd H r (.rng lo hi))
def rListR : List V → Hp → VK → Prop := fun xs H Q => ∃ (r : Addr) (lo hi : Int), xs = [.ref r] ∧ H r = some (.rng lo hi) ∧ (-(2 ^ 62) ≤ lo ∧ lo < 2 ^ 62 ∧ -(2 ^ 62) ≤ hi ∧ hi < 2 ^ 62) ∧ (hi - lo).toNat ≤ 900 ∧ ∀ l, H l = none → Q (.ref l) (upd H l (.lst (((List.range (hi - lo).toNat).map fun i : Nat => lo + (i : Int)).map V.int)))
end
end L2
namespace SH
open PySem L2
end SH
namespace L2
open PySem PySem.Spec PyProof.Rows
section
variable {X : Cx}
end
def TupF (H : Hp) (t : Addr) (xs : List V) : Prop := ∃ o : Obj, H t = some (.frz o (.tup xs)) ∧ o.cls = .type "tuple" ∧ o.dict = none
theorem TupF.keep {H H' : Hp} {t : Addr} {xs : List V} (s : ∀ b o, (∀ zs, o ≠ HO.lst zs) → H b = some o → H' b = some o) (h : TupF H t xs) : TupF H' t xs := let ⟨o, e, r⟩ := h; ⟨o, s _ (.frz o _) (fun _ z => nomatch z) e, r⟩
theorem TupF.to {H H' : Hp} {t : Addr} {xs : List V} (h : TupF H t xs) (s : ∀ o, H t = some (.frz o (.tup xs)) → H' t = some (.frz o (.tup xs))) : TupF H' t xs := let ⟨o, e, r⟩ := h; ⟨o, s o e, r⟩
section
variable {X : Cx}
end
end L2
namespace L2
open PySem PySem.Spec PyProof.Rows
end L2
namespace SH
open PySem L2
theorem _root_.L2.TupF.same {H H' : Hp} {t : Addr} {xs : List V} (s : Same H H') (h : TupF H t xs) : TupF H' t xs := let ⟨o, e, r⟩ := h; ⟨o, s _ _ e, r⟩
end SH
namespace L2
open PySem PySem.Spec PyProof.Rows
section
variable {X : Cx}
theorem Vals.strs : ∀ {zs : List Str} {us : List Value}, Vals (zs.map V.str) us → StrsAre us zs
  | [], _, .nil => .nil
  | _ :: _, _, .cons ⟨_, rfl⟩ t => .cons _ _ (Vals.strs t)
theorem vals_values : ∀ l : List (Str × Tok), Vals ((l.map (·.1)).map V.str) (strValues l)
  | [] => .nil
  | _ :: r => .cons ⟨_, rfl⟩ (vals_values r)
def rJoin (K : PySem.W.Frag) : V → List V → Hp → VK → Prop := fun x vs H Q => ∃ sp p zs, x = .str sp ∧ vs = [.ref p] ∧ (SqL K H p (zs.map V.str) ∨ SqT K H p (zs.map V.str)) ∧ sp.length ≤ 16 ∧ (zs.map (·.length)).sum + zs.length ≤ 1048576 ∧ Q (.str (Str.join sp zs)) H
theorem mt_join : MtM X "str.join" (rJoin X.K) := by
  intro pins s σ H x vs v us Q I rx rv h
  obtain ⟨sp, p, zs, rfl, rfl, hq, h16, hw, q⟩ := h
  obtain ⟨t, rfl⟩ := rx
  obtain ⟨u, rfl, ru⟩ := rv.one
  cases ru
  have go : ∀ t' k, EP X pins σ Q (.str (Txt.join sp zs) t') { s with toks := k } := fun t' k => ⟨.str _, H, I.tok _, ⟨_, rfl⟩, by rw [show Txt.join sp zs = Str.join sp zs from StrLaws.glued_eq_join sp zs]; exact q⟩
  rcases hq with hq | hq
  · obtain ⟨its, r, pl, hz⟩ := I.list hq
    exact join_listW pl.isList (by simpa using r.strs) h16 hw go
  · obtain ⟨its, r, pl, hz⟩ := I.tuple hq
    exact join_tupleW pl (by simpa using r.strs) h16 hw go
def rSplit : V → List V → Hp → VK → Prop := fun x vs H Q => ∃ z y, x = .str z ∧ vs = [.str y] ∧ (y.length == 0) = false ∧ z.length + 2 ≤ sizeLine ∧ ∀ l, H l = none → Q (.ref l) (upd H l (.lst ((Txt.split z y).map V.str)))
theorem mt_split : MtM X "str.split" rSplit := by
  intro pins s σ H x vs v us Q I rx rv h
  obtain ⟨z, y, rfl, rfl, hy, hz, q⟩ := h
  obtain ⟨t, rfl⟩ := rx
  obtain ⟨u, rfl, ru⟩ := rv.one
  obtain ⟨tu, rfl⟩ := ru
  have hl := split_le z y
  have go : ∀ {its : List Value} {k : Nat}, Vals ((Txt.split z y).map V.str) its → EP X pins σ Q (.ref s.heap.objs.size) { s with heap := s.heap.push { cls := .type "list", data := .seq its.toArray }, toks := k } := fun hv =>
    ⟨.ref _, _, I.lnew hv (by rw [List.length_map]; omega), rfl, q _ I.fresh⟩
  cases h1 : (decide (z.length < y.length) || decide (Builtin.Str.strKind z < Builtin.Str.strKind y))
  · cases hf : (Builtin.Str.occurrences z y 0 z.length (z.length + 1)).isEmpty
    · have e : Txt.split z y = Builtin.Str.partsBetween z (Builtin.Str.occurrences z y 0 z.length (z.length + 1)) y.length := (if_neg (ne_true_of_eq_false h1)).trans (if_neg (ne_true_of_eq_false hf))
      rw [e] at hl go
      refine call_meets F.slot_str_split (typeIs_str _ _ _) F.entry_str_split (F.args_str_split_2 _ _) (meets_str_split_sep z y t tu h1 hy hf (by omega) (by omega)) ?_
      refine go ?_
      rw [strsFrom_eq]
      have := vals_values (numbered s.toks (Builtin.Str.partsBetween z (Builtin.Str.occurrences z y 0 z.length (z.length + 1)) y.length))
      rw [numbered_texts] at this
      exact this
    · have e : Txt.split z y = [z] := (if_neg (ne_true_of_eq_false h1)).trans (if_pos hf)
      rw [e] at go
      refine call_meets F.slot_str_split (typeIs_str _ _ _) F.entry_str_split (F.args_str_split_2 _ _) (meets_str_split_not_found z y t tu h1 hy hf) ?_
      exact go (its := [.str z t]) (k := s.toks) (.cons ⟨_, rfl⟩ .nil)
  · have e : Txt.split z y = [z] := if_pos h1
    rw [e] at go
    refine call_meets F.slot_str_split (typeIs_str _ _ _) F.entry_str_split (F.args_str_split_2 _ _) (meets_str_split_cannot_occur z y t tu h1) ?_
    exact go (its := [.str z t]) (k := s.toks) (.cons ⟨_, rfl⟩ .nil)
def rPartition : V → List V → Hp → VK → Prop := fun x vs H Q => ∃ z y, x = .str z ∧ vs = [.str y] ∧ (y.length == 0) = false ∧ z.length ≤ sizeLine ∧ ∀ l, H l = none → Q (.ref l) (upd H l (.tup [.str (Txt.partition z y).1, .str (Txt.partition z y).2.1, .str (Txt.partition z y).2.2]))
theorem mt_partition : MtM X "str.partition" rPartition := by
  intro pins s σ H x vs v us Q I rx rv h
  obtain ⟨z, y, rfl, rfl, hy, hz, q⟩ := h
  obtain ⟨t, rfl⟩ := rx
  obtain ⟨u, rfl, ru⟩ := rv.one
  obtain ⟨tu, rfl⟩ := ru
  have go : ∀ {a b c : Str} {ta tb tc : Tok} {k : Nat}, (∀ l, H l = none → Q (.ref l) (upd H l (.tup [.str a, .str b, .str c]))) → EP X pins σ Q (.ref s.heap.objs.size) { s with heap := s.heap.push { cls := .type "tuple", data := .seq [Value.str a ta, .str b tb, .str c tc].toArray }, toks := k } := fun {a b c ta tb tc k} q' => by
    refine ⟨.ref _, _, I.laid (a := s.heap.objs.size) (o := .tup [.str a, .str b, .str c]) (t' := k) (fun b u e => Heap.get?_push_of_some _ e) (Nat.le_refl _) ?_, rfl, q' _ I.fresh⟩
    exact ⟨(show 3 ≤ sizeLine by decide), _, .cons ⟨_, rfl⟩ (.cons ⟨_, rfl⟩ (.cons ⟨_, rfl⟩ .nil)), IsTup.new _ _⟩
  refine call_meets F.slot_str_partition (typeIs_str _ _ _) F.entry_str_partition (F.args_str_partition_2 _ _) (meets_str_partition z y t tu hy hz) ?_
  unfold Txt.partition at q
  revert q
  cases Builtin.Str.occurrences z y 0 z.length 1 with
  | nil => intro q; exact go q
  | cons i r => intro q; exact go q
def Cx.quiet (X : Cx) : Cx := { X with xe := fun _ _ => False }
variable {pins : List (Addr × Obj)} {σ : St} {H : Hp} {s : Shared}
theorem Inv.quietly (I : Inv X pins σ H s) : Inv X.quiet pins σ H s :=
  ⟨⟨I.ok.mod, I.ok.kind, I.ok.glob, I.ok.blt, I.ok.above, I.ok.inj, I.ok.has, I.ok.cab, I.ok.hd, I.ok.frames, I.ok.stk, I.ok.exf, I.ok.bs, I.ok.bsz, I.ok.noex, I.ok.exfs, I.ok.funs, I.ok.frf⟩, I.os, I.bare, I.base, I.loc, I.cell, I.free, I.freeC, I.pin, I.hok, I.len⟩
theorem Inv.aloud (I : Inv X.quiet pins σ H s) : Inv X pins σ H s :=
  ⟨⟨I.ok.mod, I.ok.kind, I.ok.glob, I.ok.blt, I.ok.above, I.ok.inj, I.ok.has, I.ok.cab, I.ok.hd, I.ok.frames, I.ok.stk, I.ok.exf, I.ok.bs, I.ok.bsz, I.ok.noex, I.ok.exfs, I.ok.funs, I.ok.frf⟩, I.os, I.bare, I.base, I.loc, I.cell, I.free, I.freeC, I.pin, I.hok, I.len⟩
theorem ps_tryQ {body : List Stmt} {tb : TS} {h₀ : ExceptHandler} {hs : List ExceptHandler} {pos : Pos} (hb : PSs X.quiet body tb) : PS X (.Try body (h₀ :: hs) [] [] pos) tb := by
  intro pins s σ H D I h
  refine wpAny_Try_except (wpAny_mono (hb pins s σ H D I.quietly h) (fun fw s1 q => ?_) fun _ _ z => z.elim)
  cases fw with
  | next => obtain ⟨σ1, H1, I1, q1⟩ := q; exact wpAny_execs_nil ⟨σ1, H1, I1.aloud, q1⟩
  | brk => obtain ⟨σ1, H1, I1, q1⟩ := q; exact ⟨σ1, H1, I1.aloud, q1⟩
  | cont => obtain ⟨σ1, H1, I1, q1⟩ := q; exact ⟨σ1, H1, I1.aloud, q1⟩
  | ret u => obtain ⟨v, σ1, H1, I1, r1, q1⟩ := q; exact ⟨v, σ1, H1, I1.aloud, r1, q1⟩
end
end L2
namespace SH
open PySem PyProof.Rows L2
def splitC (c : Nat) : List Nat → List (List Nat)
  | [] => [[]]
  | d :: l => if d = c then [] :: splitC c l else match splitC c l with
    | [] => [[d]]
    | w :: ws => (d :: w) :: ws
theorem splitC_at (c : Nat) (l : List Nat) : splitC c (c :: l) = [] :: splitC c l := by
  rw [splitC, if_pos rfl]
theorem splitC_on {c d : Nat} {l : List Nat} (h : d ≠ c) : splitC c (d :: l) = match splitC c l with
    | [] => [[d]]
    | w :: ws => (d :: w) :: ws := by
  rw [splitC, if_neg h]
theorem ne_head {c d : Nat} {a : List Nat} (h : c ∉ d :: a) : d ≠ c := fun e => h (by rw [e]; exact List.mem_cons_self)
theorem splitC_cut {c : Nat} : ∀ {a : List Nat} (b : List Nat), c ∉ a → splitC c (a ++ c :: b) = a :: splitC c b
  | [], b, _ => splitC_at c b
  | d :: a, b, h => by
    have ih := splitC_cut (a := a) b fun m => h (List.mem_cons_of_mem _ m)
    show splitC c (d :: (a ++ c :: b)) = _
    rw [splitC_on (ne_head h), ih]
theorem splitC_free {c : Nat} : ∀ {a : List Nat}, c ∉ a → splitC c a = [a]
  | [], _ => rfl
  | d :: a, h => by
    have ih := splitC_free (a := a) fun m => h (List.mem_cons_of_mem _ m)
    rw [splitC_on (ne_head h), ih]
def repC (c : Nat) (z : List Nat) (l : List Nat) : List Nat := l.flatMap fun d => if d = c then z else [d]
theorem repC_app (c : Nat) (z a b : List Nat) : repC c z (a ++ b) = repC c z a ++ repC c z b := List.flatMap_append
theorem repC_free {c : Nat} {z : List Nat} : ∀ {a : List Nat}, c ∉ a → repC c z a = a
  | [], _ => rfl
  | d :: a, h => by
    show (if d = c then z else [d]) ++ repC c z a = d :: a
    rw [if_neg (ne_head h), repC_free fun m => h (List.mem_cons_of_mem _ m)]
    rfl
def sub3 (l : List Nat) : List Nat := repC 44 [32] (repC 41 [32, 41, 32] (repC 40 [32, 40, 32] l))
theorem sub3_app (a b : List Nat) : sub3 (a ++ b) = sub3 a ++ sub3 b := by unfold sub3; rw [repC_app, repC_app, repC_app]
def plainC (l : List Nat) : Prop := ∀ d ∈ l, d ≠ 32 ∧ d ≠ 40 ∧ d ≠ 41 ∧ d ≠ 44
theorem sub3_plain {l : List Nat} (h : plainC l) : sub3 l = l := by
  unfold sub3
  rw [repC_free fun m => (h _ m).2.1 rfl, repC_free fun m => (h _ m).2.2.1 rfl, repC_free fun m => (h _ m).2.2.2 rfl]
theorem sub3_open : sub3 [40] = [32, 40, 32] := by decide
theorem sub3_close : sub3 [41] = [32, 41, 32] := by decide
theorem sub3_comma : sub3 [44] = [32] := by decide
abbrev NdW := List Nat × Int
def stepW (st : List NdW × Int) (w : List Nat) : List NdW × Int := if w = [40] then (st.1, st.2 + 1) else if w = [41] then (st.1, st.2 - 1) else if w ≠ [] then (st.1 ++ [(w, st.2)], st.2) else st
def runW (st : List NdW × Int) (l : List Nat) : List NdW × Int := (splitC 32 l).foldl stepW st
theorem run_cut {st : List NdW × Int} {a b : List Nat} (h : 32 ∉ a) : runW st (a ++ 32 :: b) = runW (stepW st a) b := by
  unfold runW
  rw [splitC_cut b h]
  rfl
theorem run_blank (st : List NdW × Int) (b : List Nat) : runW st (32 :: b) = runW st b := run_cut (a := []) (by simp)
theorem run_close (st : List NdW × Int) (b : List Nat) : runW st (32 :: 41 :: 32 :: b) = runW (st.1, st.2 - 1) b := by
  rw [run_blank]
  have := run_cut (st := st) (a := [41]) (b := b) (by decide)
  rw [show ([41] : List Nat) ++ 32 :: b = 41 :: 32 :: b from rfl] at this
  rw [this]
  rfl
theorem run_open (st : List NdW × Int) (b : List Nat) : runW st (32 :: 40 :: 32 :: b) = runW (st.1, st.2 + 1) b := by
  rw [run_blank]
  have := run_cut (st := st) (a := [40]) (b := b) (by decide)
  rw [show ([40] : List Nat) ++ 32 :: b = 40 :: 32 :: b from rfl] at this
  rw [this]
  rfl
def closes (k : Nat) : List Nat := List.replicate k 41
theorem sub3_closes : ∀ k, sub3 (closes (k + 1)) = 32 :: 41 :: 32 :: sub3 (closes k) := fun k => by
  show sub3 ([41] ++ closes k) = _
  rw [sub3_app, sub3_close]
  rfl
theorem run_closes : ∀ (k : Nat) (st : List NdW × Int) (b : List Nat), runW st (sub3 (closes k) ++ b) = runW (st.1, st.2 - (k : Int)) b
  | 0, st, b => by
    show runW st b = _
    rw [show st.2 - ((0 : Nat) : Int) = st.2 by omega]
  | k + 1, st, b => by
    rw [sub3_closes]
    show runW st (32 :: 41 :: 32 :: (sub3 (closes k) ++ b)) = _
    rw [run_close, run_closes k]
    show runW (st.1, st.2 - 1 - (k : Int)) b = _
    rw [show st.2 - 1 - (k : Int) = st.2 - ((k + 1 : Nat) : Int) by omega]
def restF : Nat → List (List Nat × Nat) → List Nat
  | d, [] => closes d
  | d, (m, e) :: r => (if d < e then [40] else closes (d - e) ++ [44]) ++ m ++ restF e r
def okF : Nat → List (List Nat × Nat) → Prop
  | _, [] => True
  | d, (m, e) :: r => e ≤ d + 1 ∧ plainC m ∧ m ≠ [] ∧ okF e r
theorem rest_head : ∀ (d : Nat) (r : List (List Nat × Nat)), sub3 (restF d r) = [] ∨ ∃ t, sub3 (restF d r) = 32 :: t
  | 0, [] => .inl rfl
  | d + 1, [] => .inr ⟨_, sub3_closes d⟩
  | d, (m, e) :: r => by
    right
    unfold restF
    split
    · rw [sub3_app, sub3_app, sub3_open]; exact ⟨_, rfl⟩
    · rw [sub3_app, sub3_app, sub3_app, sub3_comma]
      cases d - e with
      | zero => exact ⟨_, rfl⟩
      | succ k => rw [sub3_closes]; exact ⟨_, rfl⟩
theorem step_mark {st : List NdW × Int} {m : List Nat} (h : plainC m) (hn : m ≠ []) : stepW st m = (st.1 ++ [(m, st.2)], st.2) := by
  unfold stepW
  rw [if_neg (fun e => (h 40 (by rw [e]; exact List.mem_cons_self)).2.1 rfl), if_neg (fun e => (h 41 (by rw [e]; exact List.mem_cons_self)).2.2.1 rfl), if_pos hn]
theorem run_mark {st : List NdW × Int} {m : List Nat} (h : plainC m) (hn : m ≠ []) (d : Nat) (r : List (List Nat × Nat)) : runW st (m ++ sub3 (restF d r)) = runW (st.1 ++ [(m, st.2)], st.2) (sub3 (restF d r)) := by
  have hf : 32 ∉ m := fun e => (h 32 e).1 rfl
  rcases rest_head d r with e | ⟨t, e⟩
  · rw [e, List.append_nil]
    unfold runW
    rw [splitC_free hf]
    show stepW st m = stepW (st.1 ++ [(m, st.2)], st.2) []
    rw [step_mark h hn]
    rfl
  · rw [e, run_cut hf, step_mark h hn, run_blank]
theorem run_rest : ∀ (r : List (List Nat × Nat)) (d : Nat) (ns : List NdW), okF d r → runW (ns, (d : Int)) (sub3 (restF d r)) = (ns ++ r.map fun n => (n.1, (n.2 : Int)), 0)
  | [], d, ns, _ => by
    have := run_closes d (ns, (d : Int)) []
    rw [List.append_nil] at this
    show runW _ (sub3 (closes d)) = _
    rw [this]
    show runW (ns, (d : Int) - (d : Int)) [] = _
    rw [show (d : Int) - (d : Int) = 0 by omega, List.map_nil, List.append_nil]
    rfl
  | (m, e) :: r, d, ns, h => by
    obtain ⟨h1, h2, h3, h4⟩ := h
    have go : runW (ns, (d : Int)) (sub3 (if d < e then [40] else closes (d - e) ++ [44]) ++ (m ++ sub3 (restF e r))) = runW (ns, (e : Int)) (m ++ sub3 (restF e r)) := by
      split
      · rw [sub3_open]
        show runW _ (32 :: 40 :: 32 :: (m ++ sub3 (restF e r))) = _
        rw [run_open]
        show runW (ns, (d : Int) + 1) _ = _
        rw [show (d : Int) + 1 = (e : Int) by omega]
      · rw [sub3_app, sub3_comma, List.append_assoc, run_closes]
        show runW (ns, (d : Int) - ((d - e : Nat) : Int)) (32 :: (m ++ sub3 (restF e r))) = _
        rw [run_blank, show (d : Int) - ((d - e : Nat) : Int) = (e : Int) by omega]
    unfold restF
    rw [sub3_app, sub3_app, sub3_plain h2, List.append_assoc, go, run_mark h2 h3, run_rest r e _ h4, List.append_assoc]
    rfl
theorem run_text {m : List Nat} {r : List (List Nat × Nat)} (h1 : plainC m) (h2 : m ≠ []) (h : okF 0 r) : (runW ([], 0) (sub3 (m ++ restF 0 r))).1 = (m, 0) :: r.map fun n => (n.1, (n.2 : Int)) := by
  rw [sub3_app, sub3_plain h1, run_mark h1 h2]
  have := run_rest r 0 [(m, 0)] h
  show (runW ([(m, 0)], ((0 : Nat) : Int)) (sub3 (restF 0 r))).1 = _
  rw [this]
  rfl
def freeC (c : Nat) (s : Str) : Prop := c ∉ s.cps.toList
theorem cut_first {c : Nat} : ∀ {a a' b b' : List Nat}, c ∉ a → c ∉ a' → a ++ c :: b = a' ++ c :: b' → a = a' ∧ b = b'
  | [], [], _, _, _, _, h => ⟨rfl, (List.cons.inj h).2⟩
  | [], x :: a', _, _, _, h2, h => absurd (show c ∈ x :: a' from (List.cons.inj h).1 ▸ List.mem_cons_self) h2
  | x :: a, [], _, _, h1, _, h => absurd (show c ∈ x :: a from (List.cons.inj h).1 ▸ List.mem_cons_self) h1
  | x :: a, y :: a', b, b', h1, h2, h => by
    have e := List.cons.inj h
    obtain ⟨i1, i2⟩ := cut_first (fun m => h1 (List.mem_cons_of_mem _ m)) (fun m => h2 (List.mem_cons_of_mem _ m)) e.2
    exact ⟨by rw [e.1, i1], i2⟩
theorem ext_l {a b : Str} (h : a.cps.toList = b.cps.toList) : a = b := Str.ext' (Array.toList_inj.mp h)
theorem app_l (a b : Str) : (a ++ b).cps.toList = a.cps.toList ++ b.cps.toList := by rw [Str.cps_append, Array.toList_append]
theorem one_l (c : Nat) (a b : Str) : (a ++ ⟨#[c]⟩ ++ b).cps.toList = a.cps.toList ++ c :: b.cps.toList := by
  rw [app_l, app_l, List.append_assoc]
  rfl
theorem blank_eq : (" " : Str) = ⟨#[32]⟩ := by decide +kernel
theorem split_ne (x y : Str) : Txt.split x y ≠ [] := fun e => by
  have := split_pos x y
  rw [e] at this
  exact absurd this (by decide)
theorem part_yes {a b : Str} (h : freeC 32 a) : Txt.partition (a ++ " " ++ b) " " = (a, (" " : Str), b) := by
  rw [blank_eq]
  have hs := StrLaws.partition_sum (a ++ ⟨#[32]⟩ ++ b) ⟨#[32]⟩
  have hh := partition_head (a ++ ⟨#[32]⟩ ++ b) ⟨#[32]⟩
  have hl := one_l 32 a b
  have hfound := StrLaws.found_one (a ++ ⟨#[32]⟩ ++ b) 32
  generalize a ++ ⟨#[32]⟩ ++ b = x at *
  rw [show decide (32 ∈ x.cps.toList) = true from decide_eq_true (by rw [hl]; exact List.mem_append_right _ List.mem_cons_self)] at hfound
  unfold Txt.partition at *
  cases ho : Builtin.Str.occurrences x ⟨#[32]⟩ 0 x.length 1 with
  | nil => rw [ho] at hfound; exact absurd hfound (by decide)
  | cons i r =>
    rw [ho] at hs hh
    dsimp only at hs hh ⊢
    have e := congrArg (fun s : Str => s.cps.toList) hs
    rw [one_l] at e
    have e' := e.trans hl
    have f1 : 32 ∉ (Builtin.Str.strSub x 0 i).cps.toList := by
      rcases hh with ⟨h1, h2⟩ | ⟨j, h1, h2, h3⟩
      · rw [h1]
        intro hm
        obtain ⟨k, hk⟩ := List.getElem?_of_mem hm
        exact h2 k ((StrLaws.subAt_one x 32 k).mpr hk)
      · rw [h1]
        exact StrLaws.part_free x 32 0 j (by have := h2.1; omega) fun k _ hk => h3 k hk
    obtain ⟨e1, e2⟩ := cut_first f1 h e'
    rw [ext_l e1, ext_l e2]
theorem part_no {a : Str} (h : freeC 32 a) : Txt.partition a " " = (a, Str.empty, Str.empty) := by
  rw [blank_eq]
  have hfound := StrLaws.found_one a 32
  rw [show decide (32 ∈ a.cps.toList) = false from decide_eq_false h] at hfound
  unfold Txt.partition
  cases ho : Builtin.Str.occurrences a ⟨#[32]⟩ 0 a.length 1 with
  | nil => rfl
  | cons i r => rw [ho] at hfound; exact nomatch (show true = false from hfound)
theorem join_l {c : Nat} : ∀ {ws : List Str} {x : Str}, (∀ w ∈ ws, freeC c w) → ws ≠ [] → x = Str.join ⟨#[c]⟩ ws → ∀ z : Str, (Str.join z ws).cps.toList = x.cps.toList.flatMap (fun d => if d = c then z.cps.toList else [d])
  | [], _, _, h, _, _ => absurd rfl h
  | [w], x, hf, _, e, z => by
    rw [show x = w from e]
    show w.cps.toList = _
    exact (repC_free (hf w List.mem_cons_self)).symm
  | w :: v :: r, x, hf, _, e, z => by
    rw [show x = w ++ ⟨#[c]⟩ ++ Str.join ⟨#[c]⟩ (v :: r) from e, one_l]
    show (w ++ z ++ Str.join z (v :: r)).cps.toList = _
    rw [app_l, app_l, join_l (x := Str.join ⟨#[c]⟩ (v :: r)) (fun y hy => hf y (List.mem_cons_of_mem _ hy)) (List.cons_ne_nil _ _) rfl z, List.flatMap_append, List.flatMap_cons, if_pos rfl, List.append_assoc]
    have := repC_free (z := z.cps.toList) (hf w List.mem_cons_self)
    rw [show w.cps.toList.flatMap (fun d => if d = c then z.cps.toList else [d]) = w.cps.toList from this]
theorem replace_l (x z : Str) (c : Nat) : (Txt.replace x ⟨#[c]⟩ z).cps.toList = repC c z.cps.toList x.cps.toList := by
  rw [StrLaws.replace_one]
  exact join_l (StrLaws.split_free x c) (split_ne _ _) (StrLaws.join_split x _).symm z
theorem split_l {c : Nat} : ∀ {ws : List Str} {x : Str}, (∀ w ∈ ws, freeC c w) → ws ≠ [] → x = Str.join ⟨#[c]⟩ ws → splitC c x.cps.toList = ws.map fun w => w.cps.toList
  | [], _, _, h, _ => absurd rfl h
  | [w], x, hf, _, e => by rw [show x = w from e]; exact splitC_free (hf w List.mem_cons_self)
  | w :: v :: r, x, hf, _, e => by
    rw [show x = w ++ ⟨#[c]⟩ ++ Str.join ⟨#[c]⟩ (v :: r) from e, one_l, splitC_cut _ (hf w List.mem_cons_self), split_l (fun y hy => hf y (List.mem_cons_of_mem _ hy)) (List.cons_ne_nil v r) rfl]
    rfl
theorem splitC_split (x : Str) (c : Nat) : splitC c x.cps.toList = (Txt.split x ⟨#[c]⟩).map fun w => w.cps.toList := split_l (StrLaws.split_free x c) (split_ne _ _) (StrLaws.join_split x _).symm
theorem letC_not {c : Nat} (h : letC c = true) : c ≠ 32 ∧ c ≠ 40 ∧ c ≠ 41 ∧ c ≠ 44 ∧ c ≠ 45 ∧ c ≠ 47 := by
  refine ⟨?_, ?_, ?_, ?_, ?_, ?_⟩ <;> (rintro rfl; revert h; decide +kernel)
theorem mark_plain {z : Str} (h : markS z = true) : plainC z.cps.toList := fun d m => have q := letC_not ((mark_all h).2.2 _ m); ⟨q.1, q.2.1, q.2.2.1, q.2.2.2.1⟩
end SH
namespace L2
open PySem PySem.Spec PyProof.Rows
def PE1 (X : Cx) (e : Expr) (t : TE) : Prop :=
  ∀ (pins : List (Addr × Obj)) (s : Shared) (σ : St) (H : Hp) (Q : VK), Inv X pins σ H s → 0 < s.toks → t σ H Q → wpAny (model X.prog X.w) X.A (eval e X.env) (fun u s' => 0 < s'.toks ∧ EP X pins σ Q u s') X.xe s
def PEp (X : Cx) (e : Expr) (t : TE) : Prop :=
  ∀ (pins : List (Addr × Obj)) (s : Shared) (σ : St) (H : Hp) (Q : VK), Inv X pins σ H s → 0 < s.toks → t σ H Q → wpAny (model X.prog X.w) X.A (eval e X.env) (EP X pins σ Q) X.xe s
def PI1 (X : Cx) (tg iter : Expr) (wi : TI) : Prop :=
  ∀ (pins : List (Addr × Obj)) (s : Shared) (σ : St) (H : Hp) (R : It → Hp → Prop), Inv X pins σ H s → 0 < s.toks → wi σ H R →
    wpAny (model X.prog X.w) X.A (eval iter X.env) (fun v s1 => wpAny (model X.prog X.w) X.A (pyIter v) (PIE X pins σ tg R) X.xe s1) X.xe s
def PS1 (X : Cx) (st : Stmt) (t : TS) : Prop :=
  ∀ (pins : List (Addr × Obj)) (s : Shared) (σ : St) (H : Hp) (D : Ends), Inv X pins σ H s → 0 < s.toks → t D σ H → wpAny (model X.prog X.w) X.A (exec st X.env) (SP X pins D) X.xe s
def PSs1 (X : Cx) (st : List Stmt) (t : TS) : Prop :=
  ∀ (pins : List (Addr × Obj)) (s : Shared) (σ : St) (H : Hp) (D : Ends), Inv X pins σ H s → 0 < s.toks → t D σ H → wpAny (model X.prog X.w) X.A (execs st X.env) (SP X pins D) X.xe s
section
variable {X : Cx} {pins : List (Addr × Obj)} {σ : St} {H : Hp} {s : Shared}
theorem store_ok3 {M : Model} {A : Around} {E : Value → Shared → Prop} {i : Nat} {x : Str} {v : V} {u : Value} {Q : Unit → Shared → Prop} (I : Inv X pins σ H s) (hN : X.N.Nodup) (hi : X.N[i]? = some x) (hx : Loc X.env.scope x) (r : RelV v u)
    (h : ∀ h' k, s.toks ≤ k → Inv X pins (σ.set i (some v)) H { s with heap := h', toks := k } → Q () { s with heap := h', toks := k }) (hf : X.fn x = true ∨ X.env.scope.names.lookup x = some .local := by first | exact .inl rfl | exact .inr rfl | assumption) : wpAny M A (storeName X.env x u) Q E s := by
  obtain ⟨m, hn, hl⟩ := id I.loc
  have hcls : (X.env.scope.kind == .class || (X.env.scope.kind == .module && X.env.locals != X.env.globals)) = false := by rw [I.ok.kind]; rfl
  have hiσ : i < σ.length := by rw [I.len]; exact (List.getElem?_eq_some_iff.mp hi).1
  have cne := I.cne
  have tracked : ∀ {a : Addr} {h' : Heap}, (∃ o, s.heap.get? a = some o ∧ H a = none) → Heap.SameBut a s.heap h' → HOk X.prog X.w H h' := fun {a h'} ha hs b ob e => by
    obtain ⟨_, _, hfree⟩ := ha
    refine (I.hok b ob e).stay (fun c w' hc q => (hs.2 c ?_).trans q) (fun _ q => q) fun _ _ q => q
    rintro rfl
    rcases hc with rfl | hc
    · rw [hfree] at e; cases e
    · rw [hfree] at hc; cases hc
  rcases hx with hk | hk
  · refine wpAny_storeName_local hk hn (fun h' hn' hs => ?_) hcls
    obtain ⟨oL, _, _, hoL, _⟩ := id hn
    refine h h' (s.toks + 1) (Nat.le_succ _) ⟨I.ok, I.os, I.bare, ⟨fun b o e n hb hx => ?_, fun b o e n hb hx => ?_, I.base.free, fun b o e hx => ?_, I.base.tups, I.base.frzs, I.base.tbls⟩, ⟨_, hn', fun j y v' e1 e2 e3 => ?_⟩, fun y c e => ?_, I.free, I.freeC, fun p hp => ?_, tracked ⟨oL, hoL, I.free⟩ hs, by simpa using I.len⟩
    · exact (hs.2 b (Nat.ne_of_lt (Nat.lt_of_lt_of_le (Heap.lt_size e) I.ok.above))).trans (I.base.keep b o e n hb hx)
    · obtain ⟨sl, e1⟩ := I.base.slot b o e n hb hx
      exact ⟨sl, (hs.2 b (Nat.ne_of_lt (Nat.lt_of_lt_of_le (Heap.lt_size e) I.ok.above))).trans e1⟩
    · obtain ⟨o', e1⟩ := I.base.there b o e hx
      exact ⟨o', (hs.2 b (Nat.ne_of_lt (Nat.lt_of_lt_of_le (Heap.lt_size e) I.ok.above))).trans e1⟩
    · by_cases hj : j = i
      · subst hj
        rw [hi] at e1; cases e1
        rw [List.getElem?_set_self hiσ] at e2
        cases e2
        exact ⟨u, r, .inl ⟨hk, by simp⟩⟩
      · rw [List.getElem?_set_ne (Ne.symm hj)] at e2
        obtain ⟨u', r', q⟩ := hl j y v' e1 e2 e3
        refine ⟨u', r', ?_⟩
        rcases q with ⟨k, e⟩ | ⟨k, c, e, z⟩
        · refine .inl ⟨k, ?_⟩
          have : y ≠ x := fun e => hj (nodup_ix hN e1 (e ▸ hi))
          simp [this, e]
        · exact .inr ⟨k, c, e, z.sameBut hs (cne y c e)⟩
    · obtain ⟨w', z⟩ := I.cell y c e
      exact ⟨w', z.sameBut hs (cne y c e)⟩
    · obtain ⟨e, n, ne, nf, d⟩ := I.pin p hp
      exact ⟨(hs.2 p.1 ne).trans e, n, ne, nf, d⟩
  · have hfn : X.fn x = true := by
      rcases hf with z | z
      · exact z
      · rw [z] at hk; cases hk
    obtain ⟨c, hc⟩ := I.ok.has x (.inl hk)
    obtain ⟨w', z⟩ := I.cell x c hc
    refine wpAny_storeName_cell I.ok.kind hk hc z (fun h' hc' hs => ?_)
    obtain ⟨oc, hoc, hocd⟩ := id z
    refine h h' s.toks (Nat.le_refl _) ⟨I.ok, I.os, I.bare, ⟨fun b o e n hb hx => ?_, fun b o e n hb hx => ?_, I.base.free, fun b o e hx => ?_, I.base.tups, I.base.frzs, I.base.tbls⟩, ⟨m, hn.sameBut hs (Ne.symm (cne x c hc)), fun j y v' e1 e2 e3 => ?_⟩, fun y c' e => ?_, I.free, I.freeC, fun p hp => ?_, tracked ⟨oc, hoc, I.freeC x c hc⟩ hs, by simpa using I.len⟩
    · exact (hs.2 b (Nat.ne_of_lt (Nat.lt_of_lt_of_le (Heap.lt_size e) (I.ok.cab x c hfn hc)))).trans (I.base.keep b o e n hb hx)
    · obtain ⟨sl, e1⟩ := I.base.slot b o e n hb hx
      exact ⟨sl, (hs.2 b (Nat.ne_of_lt (Nat.lt_of_lt_of_le (Heap.lt_size e) (I.ok.cab x c hfn hc)))).trans e1⟩
    · obtain ⟨o', e1⟩ := I.base.there b o e hx
      exact ⟨o', (hs.2 b (Nat.ne_of_lt (Nat.lt_of_lt_of_le (Heap.lt_size e) (I.ok.cab x c hfn hc)))).trans e1⟩
    · by_cases hj : j = i
      · subst hj
        rw [hi] at e1; cases e1
        rw [List.getElem?_set_self hiσ] at e2
        cases e2
        exact ⟨u, r, .inr ⟨.inl hk, c, hc, hc'⟩⟩
      · rw [List.getElem?_set_ne (Ne.symm hj)] at e2
        obtain ⟨u', r', q⟩ := hl j y v' e1 e2 e3
        refine ⟨u', r', ?_⟩
        rcases q with q | ⟨k, c', e, z'⟩
        · exact .inl q
        · refine .inr ⟨k, c', e, z'.sameBut hs ?_⟩
          rintro rfl
          exact hj (nodup_ix hN e1 (I.ok.inj _ _ _ e hc ▸ hi))
    · by_cases hcc : c' = c
      · subst hcc; exact ⟨_, hc'⟩
      · obtain ⟨w2, z2⟩ := I.cell y c' e
        exact ⟨w2, z2.sameBut hs hcc⟩
    · obtain ⟨e, n, ne, nf, d⟩ := I.pin p hp
      refine ⟨(hs.2 p.1 ?_).trans e, n, ne, nf, d⟩
      intro q
      rw [q, hoc] at e
      have q' : oc = p.2 := Option.some.inj e
      exact d w' (by rw [← q']; exact hocd)
end
section
variable {X : Cx} {tg : Expr}
theorem ps_for1 {iter : Expr} {body : List Stmt} {wi : TI} {g : TG} {tb : TS} {pos : Pos} (hp : PassesOwn (model X.prog X.w) X.A X.env X.xe) (hc : X.calm = true) (hi : PI1 X tg iter wi) (hg : PG X tg g) (hb : PSs X body tb)
    (hs : ∀ x, foldedSetIterable iter X.env x = pure x := by intro _; rfl) : PS1 X (.For tg iter body [] pos) (tFor wi g tb) := by
  intro pins s σ H D I ht h
  refine wpAny_For (thn (hi pins s σ H _ I ht h) fun v s1 h1 => thn h1 fun itv s2 h2 => ?_) hs
  obtain ⟨it, fp, tn, J, H2, e, I2, T, st2, f2, W, ⟨m0, w0⟩, turn⟩ := h2
  subst e
  have stat : ∀ {H' : Hp}, (∀ b ∈ fp, H' b = none) → ∀ b ∈ fp, FpOk X pins H' b := fun hn b hb => ⟨hn b hb, (f2 b hb).2⟩
  refine codeAny_forLoop_any (fun n s' => ∃ i σ' H', Inv X pins σ' H' s' ∧ tn i s'.heap ∧ (∀ b ∈ fp, H' b = none) ∧ W i n σ' H') ?_ m0 ⟨0, σ, H2, I2, st2, fun b hb => (f2 b hb).1, w0⟩
  rintro n s3 ⟨i, σ3, H3, I3, st3, fr3, w3⟩
  rcases turn i n σ3 H3 w3 with ⟨stop, qn⟩ | ⟨go, N, hN, step⟩
  · refine wpAny_passesOwn hp (thn (T.done X rfl rfl rfl hc i pins s3 σ3 H3 X.xe I3 (stat fr3) st3 stop) fun r s4 ⟨hr, I4⟩ => ?_)
    subst hr
    exact wpAny_execs_nil ⟨σ3, H3, I4, qn⟩
  · refine wpAny_passesOwn hp (thn (T.item X rfl rfl rfl hc i pins s3 σ3 H3 X.xe I3 (stat fr3) st3 go) fun r s4 ⟨u, hr, h4⟩ => ?_)
    subst hr
    refine wpAny_passesOwn hp (thn h4 fun _ s5 ⟨x, H5, I5, r5, y5, st5, fr5⟩ => ?_)
    have I5' := I5.pinned (stat fr5) (T.obj _ _ st5)
    refine wpAny_passesOwn hp (thn (hg _ s5 σ3 H5 x u _ I5' r5 (step x H5 y5)) fun _ s6 ⟨σ6, H6, I6, q6⟩ => ?_)
    refine wpAny_passesOwn hp (thn (hb _ s6 σ6 H6 _ I6 q6) fun f s7 q7 => ?_)
    have again : ∀ {σ7 : St} {H7 : Hp}, Inv X (pins ++ pinsAt fp s5.heap) σ7 H7 s7 → N σ7 H7 → ∃ m, m < n ∧ ∃ i σ' H', Inv X pins σ' H' s7 ∧ tn i s7.heap ∧ (∀ b ∈ fp, H' b = none) ∧ W i m σ' H' := fun {σ7 H7} I7 n7 => by
      obtain ⟨m', hm, w7⟩ := hN σ7 H7 n7
      refine ⟨m', hm, i + 1, σ7, H7, I7.unpinned, T.keep _ _ _ st5 fun b hb o e => (I7.pin (b, o) (List.mem_append_right _ (List.mem_append_right _ (mem_pinsAt hb e)))).1, fun b hb => ?_, w7⟩
      obtain ⟨o, e, d⟩ := T.obj _ _ st5 b hb
      exact (I7.pin (b, o) (List.mem_append_right _ (List.mem_append_right _ (mem_pinsAt hb e)))).2.1
    cases f with
    | next => obtain ⟨σ7, H7, I7, n7⟩ := q7; exact again I7 n7
    | cont => obtain ⟨σ7, H7, I7, n7⟩ := q7; exact again I7 n7
    | brk => obtain ⟨σ7, H7, I7, q7⟩ := q7; exact ⟨σ7, H7, I7.unpinned, q7⟩
    | ret v => obtain ⟨x7, σ7, H7, I7, r7, q7⟩ := q7; exact ⟨x7, σ7, H7, I7.unpinned, r7, q7⟩
theorem pi_list1 {l : Expr} {tl : TE} (hl : PEp X l tl) : PI1 X tg l (iList X.K tl) := by
  intro pins s σ H R I ht h
  refine thn (hl pins s σ H _ I ht h) fun v s1 ⟨x, H1, I1, r1, q1⟩ => ?_
  obtain ⟨a, e, ⟨xs, hq⟩, q⟩ := q1
  subst e
  cases r1
  obtain ⟨its, rv, p, hz⟩ := I1.list hq
  refine wpAny_pyIter_list p.isList ?_
  refine ⟨s1.heap.objs.size, [s1.heap.objs.size], _, _, H1, rfl, I1.kept (t' := s1.toks) fun b o e => Heap.get?_push_of_some _ e, turn_list a _, ⟨_, Heap.get?_push_size _ rfl, rfl, rfl⟩, fun b hb => ?_, q⟩
  have e : b = s1.heap.objs.size := by simpa using hb
  subst e
  exact I1.fpOk (Nat.le_refl _) (I1.hok.fresh (Nat.le_refl _))
end
section
variable {X : Cx}
theorem pe1_var {i : Nat} {x : Str} {pos : Pos} (hN : X.N[i]? = some x) (hv : Vis X.env.scope x) (hd : (x == ("__debug__" : Str)) = false := by decide) (hcd : (x == ("__classdict__" : Str)) = false := by decide) : PE1 X (.Name x pos) (tVar i) := by
  intro pins s σ H Q I ht h
  obtain ⟨v, e, h⟩ := h
  obtain ⟨m, hn, hl⟩ := I.loc
  obtain ⟨u, r, l⟩ := hl i x v hN e hv
  have fin : 0 < s.toks ∧ EP X pins σ Q u s := ⟨ht, v, H, I, r, h⟩
  rcases l with ⟨hk, hm⟩ | ⟨hk, c, hc, hcell⟩
  · exact wpAny_Name (wpAny_loadName_local I.ok.kind hk hn hm fin) hd
  · rcases hk with hk | hk
    · exact wpAny_Name (wpAny_loadName_cell I.ok.kind hk hc hcell fin) hd
    · exact wpAny_Name (wpAny_loadName_free I.ok.kind hk hc hcell fin hcd) hd
theorem replace1 {prog : Program} {w : World} {A : Around} {E : Value → Shared → Prop} {s : Shared} {x y z : Str} {t u v : Tok} {Q : Value → Shared → Prop} (hu : u ≠ 0) (hv : v ≠ 0) (huv : u ≠ v) (hyz : (y == z) = false) (hb : x.length + (x.length + 1) * z.length ≤ 16777216)
    (hq : ∀ t' k, s.toks ≤ k → Q (.str (Txt.replace x y z) t') { s with toks := k }) : wpAny (model prog w) A (call (.builtin "str.replace") [.str x t, .str y u, .str z v]) Q E s := by
  have few := Nat.mul_le_mul_right z.length (StrLaws.occ_length_le x y 0 x.length (x.length + 1))
  have fit : Builtin.Str.tooLong (x.length + (Builtin.Str.occurrences x y 0 x.length (x.length + 1)).length * z.length) = false :=
    decide_eq_false (show ¬ _ > 2 ^ 24 by omega)
  refine call_gives F.slot_str_replace (typeIs_str _ _ _) F.entry_str_replace (F.args_str_replace_3 _ _ _) (gives_str_replace x y z t u v fun _ => ⟨by simp [hu, hv], by simp [huv], hyz, fit⟩) ?_
  unfold Txt.replace at hq
  cases hc : ((Builtin.Str.occurrences x y 0 x.length (x.length + 1)).isEmpty || (y.length == 0 && z.length == 0)) with
  | true => rw [hc, if_pos rfl] at hq; rw [if_pos rfl]; exact hq t s.toks (Nat.le_refl _)
  | false => rw [hc, if_neg Bool.false_ne_true] at hq; rw [if_neg Bool.false_ne_true]; exact ⟨fits_replaced y hb, hq _ _ (Nat.le_succ _)⟩
def tRepl (y z : Str) (to : TE) : TE := fun σ H Q => to σ H fun x H1 => ∃ w, x = .str w ∧ w.length + (w.length + 1) * z.length ≤ 16777216 ∧ Q (.str (Txt.replace w y z)) H1
theorem pe1_repl {o : Expr} {to : TE} {y z : Str} {jy jz : Nat} {py pz apos cpos : Pos} (ho : PE1 X o to) (hyz : (y == z) = false := by decide +kernel)
    (hbase : attributeBase o "replace" X.env (eval o X.env) = eval o X.env := by rfl) (hline : (apos.endLine == cpos.line) = true := by rfl) :
    PE1 X (.Call (.Attribute o "replace" apos) [.Constant (.str y) jy py, .Constant (.str z) jz pz] [] cpos) (tRepl y z to) := by
  intro pins s σ H Q I ht h
  refine wpAny_Call_method_late hbase rfl hline rfl (thn (ho pins s σ H _ I ht h) fun v s1 ⟨t1, x, H1, I1, r1, w, ex, hw, q1⟩ => ?_)
  subst ex
  obtain ⟨tk, rfl⟩ := r1
  refine ⟨"str", "str.replace", PySem.F.plainAttrs_str, PySem.F.slot_str_replace, PySem.F.type_str_replace, typeIs_str _ _ _, (fun _ e => nomatch e), ?_⟩
  show wpAny _ _ (callWith cpos (Value.builtin "str.replace") _ [(false, eval (.Constant (.str y) jy py) X.env), (false, eval (.Constant (.str z) jz pz) X.env)] []) _ _ _
  refine Calls.callWith_builtin rfl (Calls.evalArgs_plain (Calls.spliced_cons (Calls.Constant_str (Calls.spliced_cons (Calls.Constant_str (Calls.spliced_nil ?_))))))
  refine replace1 (s := { s1 with toks := s1.toks + 1 + 1 }) (Nat.ne_of_gt t1) (Nat.succ_ne_zero _) (Nat.ne_of_lt (Nat.lt_succ_self _)) hyz hw fun t' k hk => ?_
  have hk' : s1.toks + 1 + 1 ≤ k := hk
  exact ⟨(show 0 < k by omega), .str _, H1, I1.tok k, ⟨_, rfl⟩, q1⟩
theorem pep_split {o : Expr} {to : TE} {y : Str} {jy : Nat} {py apos cpos : Pos} (ho : PE1 X o to)
    (hbase : attributeBase o "split" X.env (eval o X.env) = eval o X.env := by rfl) (hline : (apos.endLine == cpos.line) = true := by rfl) :
    PEp X (.Call (.Attribute o "split" apos) [.Constant (.str y) jy py] [] cpos) (tBM X.K "str" rSplit to (tCons (tC (.str y)) tNil)) := by
  intro pins s σ H Q I ht h
  refine wpAny_Call_method_late hbase rfl hline rfl (thn (ho pins s σ H _ I ht h) fun v s1 ⟨t1, x, H1, I1, r1, ty, q1⟩ => ?_)
  obtain ⟨h1, h2⟩ := tyV_is I1 r1 ty
  refine ⟨"str", "str.split", PySem.F.plainAttrs_str, PySem.F.slot_str_split, PySem.F.type_str_split, h1, h2, ?_⟩
  show wpAny _ _ (callWith cpos (Value.builtin "str.split") _ [(false, eval (.Constant (.str y) jy py) X.env)] []) _ _ _
  refine Calls.callWith_builtin rfl (Calls.evalArgs_plain (Calls.spliced_cons (Calls.Constant_str (Calls.spliced_nil ?_))))
  exact mt_split pins _ σ H1 x [.str y] v _ Q (I1.tok _) r1 (.cons ⟨_, rfl⟩ .nil) q1
theorem pss1_cons {st : Stmt} {rest : List Stmt} {t u : TS} (h1 : PS1 X st t) (h2 : PSs X rest u) : PSs1 X (st :: rest) (tSeq t u) := by
  intro pins s σ H D I ht h
  refine wpAny_execs_cons (thn (h1 pins s σ H { D with nx := u D } I ht h) fun f s1 q => ?_)
  cases f with
  | next =>
    obtain ⟨σ', H', I', q⟩ := q
    exact h2 pins s1 σ' H' D I' q
  | ret v => exact q
  | brk => exact q
  | cont => exact q
theorem pss_set1 {i : Nat} {x : Str} {k : Int} {j : Nat} {pos pos' pk : Pos} {rest : List Stmt} {u : TS} (hN : X.N.Nodup) (hi : X.N[i]? = some x) (hx : Loc X.env.scope x) (h2 : PSs1 X rest u) (hs : swapsWith (.Constant (.int k) j pk) (some (.Name x pos')) pos.line X.env = pure false := by rfl)
    (hf : X.fn x = true ∨ X.env.scope.names.lookup x = some .local := by first | exact .inl rfl | exact .inr rfl | assumption) : PSs X (.Assign [.Name x pos'] (.Constant (.int k) j pk) pos :: rest) (tSeq (tAsg (tC (.int k)) (gName i)) u) := by
  intro pins s σ H D I h
  refine wpAny_execs_cons (wpAny_Assign_Name (wpAny_Constant_int ?_) hs)
  exact store_ok3 (s := { s with toks := s.toks + 1 }) (v := .int k) (I.tok _) hN hi hx ⟨_, rfl⟩ (fun h' k hk I' => h2 pins _ _ _ D I' (Nat.lt_of_lt_of_le (Nat.succ_pos s.toks) hk) h) hf
def ipS : TIp := fun x y H Q => ∃ i j, x = .str i ∧ y = .str j ∧ i.length + j.length ≤ sizeLine ∧ Q (.str (i ++ j)) H
theorem ip_addS : PIp X .Add ipS := by
  intro pins s σ H x y v u Q I rx ry h
  obtain ⟨i, j, rfl, rfl, hz, q⟩ := h
  obtain ⟨t, rfl⟩ := rx
  obtain ⟨t', rfl⟩ := ry
  exact iadd_str (fun t' tk => ⟨.str _, H, I.tok _, ⟨_, rfl⟩, q⟩) hz
def rMulS : R2 := fun x y H Q => ∃ z n, x = .str z ∧ y = .int n ∧ z.length = 1 ∧ 0 ≤ n ∧ n ≤ 1000 ∧ Q (.str (Txt.mul z n)) H
theorem op_mulS : OpR X (binaryOp .Mult) rMulS := by
  intro pins s σ H x y v u Q I rx ry h
  obtain ⟨z, n, rfl, rfl, hz, h0, h1, q⟩ := h
  obtain ⟨t, rfl⟩ := rx
  obtain ⟨t', rfl⟩ := ry
  refine SB.mul ⟨?_, fun hn _ => ?_, fun hn _ => ?_⟩ fun t' k => ⟨.str _, H, I.tok _, ⟨_, rfl⟩, q⟩
  · rw [decide_eq_false (by omega), decide_eq_false (by omega)]
    rfl
  · have : 1 ≤ (2 ^ 63 - 1) / n := (Int.le_ediv_iff_mul_le (by omega)).mpr (by omega)
    omega
  · rw [hz]
    exact decide_eq_false (show ¬ _ > 2 ^ 24 by omega)
end
end L2
namespace SH
open PySem PyProof.Rows L2
theorem fold_reps (c : Nat) : ∀ (n : Nat) (acc : Array Nat), ((List.replicate n #[c]).foldl (· ++ ·) acc).toList = acc.toList ++ List.replicate n c
  | 0, acc => by rw [List.replicate_zero, List.replicate_zero, List.append_nil]; rfl
  | n + 1, acc => by
    rw [List.replicate_succ, List.foldl_cons, fold_reps c n, Array.toList_append, List.append_assoc]
    rfl
theorem mul_close (n : Nat) : Txt.mul (Str.ofString ")") (n : Int) = ⟨(closes n).toArray⟩ := by
  rw [show Str.ofString ")" = ⟨#[41]⟩ by decide +kernel]
  unfold Txt.mul
  by_cases h0 : (n : Int) < 1
  · rw [if_pos h0, show n = 0 by omega]
    rfl
  · rw [if_neg h0]
    by_cases h1 : n = 1
    · subst h1
      rfl
    · rw [if_neg (by rw [Bool.or_eq_true, not_or]; exact ⟨fun e => h1 (by have := eq_of_beq e; omega), by decide⟩)]
      refine congrArg Str.mk (Array.toList_inj.mp ?_)
      rw [Int.toNat_natCast]
      show ((List.replicate n #[41]).foldl (· ++ ·) #[]).toList = _
      rw [fold_reps]
      show [] ++ _ = closes n
      rfl
end SH
namespace K35
open PySem L2 SH
local macro_rules | `(tactic| and_intros) => `(tactic| simp only [rExtend, rSetL, gSub, iRng3, tSeq, tNext, tRet, tRetN, tAsg, tIfS, tDrop, tVar, tC, tOp, tUn, rI0, rI, rU, rEq, rNe, tTest, tB, tCB, tCons, tNil, tLst, tTup, tSl, tNoPart, tPart, rSlS, rSlL, rIxL, rIxT, rIxS, tCall, tMeth, tMake, tAnd, tOr, tNot, tAndV, tOrV, tNotV, tIf, tChain, gName, tFld, sFld, tBM, tBM0, rAppend, rInsert, tRaise, tNever, CDiv, CMul, L2.start, scal_ii, scal_ss, scal_bb, cxOf, cxOfN, Cx.suite, Cx.comp, rLenL, rLenT, rListL, rListT, rTupL, rTupT, rIsiT, iRng1, iRng2, iList, iTup, iStr, gTup, gCons, gNil, iEnumT, tDIn, rDictP, rRange1, rRange2, rListR, rJoin, rSplit, rPartition, tAug, ipI, ipS, rMulS, tRepl, List.set_cons_zero, List.set_cons_succ, List.getElem?_cons_zero, List.getElem?_cons_succ, List.map_cons, List.map_nil, List.length_cons, List.length_nil, List.replicate_succ, List.replicate_zero, Nat.reduceSub, Nat.reduceAdd, List.cons_append, List.nil_append, List.append_nil, V.int.injEq, V.str.injEq, V.bl.injEq, V.ref.injEq, V.ty.injEq, Option.some.injEq, List.cons.injEq, exists_eq_left', exists_eq_left, exists_eq_right, exists_eq_right', exists_and_left, exists_and_right, and_true, true_and, and_assoc, decide_eq_true_eq, Bool.not_eq_true', decide_eq_false_iff_not, Bool.not_true, Bool.not_false, Bool.false_eq_true, if_false, if_true, eq_self, Bool.not_eq_true, Bool.true_eq_false, reduceCtorEq, false_and, exists_false, exists_const, List.reduceReplicate, Int.reduceLT, Int.reduceLE, Nat.reduceLT, Nat.reduceLeDiff, Int.reduceNeg, List.getElem?_nil, Option.join_some, Option.join_none, List.set_nil, ite_self, not_true_eq_false, not_false_eq_true])
def top (i : Nat) : Stmt := PySem.Challenge.pw_shrinkhouse_k35_forests_as_texts.main.body.getD i (.Pass ⟨0, 0, 0, 0⟩)
abbrev s_is_whole : Stmt := top 9
abbrev s_is_mark : Stmt := top 10
abbrev s_check_list : Stmt := top 17
abbrev s_check_node : Stmt := top 19
abbrev s_check_nodes : Stmt := top 20
abbrev s_check_places : Stmt := top 22
abbrev s_Thing_init : Stmt := inClass (top 24) 0
abbrev s_Row_init : Stmt := inClass (top 25) 0
abbrev s_Forest_init : Stmt := inClass (top 26) 0
abbrev s_Forest_many : Stmt := inClass (top 26) 1
abbrev s_Forest_left : Stmt := inClass (top 26) 2
abbrev s_Forest_form : Stmt := inClass (top 26) 3
abbrev s_Table_init : Stmt := inClass (top 27) 0
abbrev s_show_line : Stmt := top 29
abbrev s_signs_between : Stmt := top 30
abbrev s_show_nodes : Stmt := top 31
abbrev s_show_thing : Stmt := top 32
abbrev s_nodes_in : Stmt := top 33
abbrev s_lines_in : Stmt := top 34
abbrev s_marks_in : Stmt := top 35
abbrev s_made_of : Stmt := top 36
abbrev s_read_thing : Stmt := top 37
abbrev s__law_cell_at : Stmt := top 39
abbrev s__law_mix : Stmt := top 40
abbrev s__law_how_many : Stmt := top 41
abbrev s__law_marks : Stmt := top 42
abbrev s__law_pick : Stmt := top 43
abbrev s__law_cells : Stmt := top 44
abbrev s__law_nodes : Stmt := top 45
abbrev s__law_some : Stmt := top 46
abbrev s__law_forest_text : Stmt := top 47
abbrev s_law : Stmt := top 48
theorem sc_is_whole : FnScope ["thing"] ["thing"] (defScope s_is_whole) := ⟨rfl, rfl, rfl, by decide +kernel, rfl, by decide +kernel, by decide +kernel⟩
theorem sc_is_mark : FnScope ["thing"] ["thing"] (defScope s_is_mark) := ⟨rfl, rfl, rfl, by decide +kernel, rfl, by decide +kernel, by decide +kernel⟩
theorem sc_check_list : FnScope ["thing", "most"] ["thing", "most"] (defScope s_check_list) := ⟨rfl, rfl, rfl, by decide +kernel, rfl, by decide +kernel, by decide +kernel⟩
theorem sc_check_node : FnScope ["node", "deepest"] ["node", "deepest"] (defScope s_check_node) := ⟨rfl, rfl, rfl, by decide +kernel, rfl, by decide +kernel, by decide +kernel⟩
theorem sc_check_nodes : FnScope ["nodes", "deepest", "node"] ["nodes"] (defScope s_check_nodes) := ⟨rfl, rfl, rfl, by decide +kernel, rfl, by decide +kernel, by decide +kernel⟩
theorem sc_check_places : FnScope ["places", "many", "lowest", "place"] ["places", "many"] (defScope s_check_places) := ⟨rfl, rfl, rfl, by decide +kernel, rfl, by decide +kernel, by decide +kernel⟩
theorem sc_Thing_init : FnScope ["self", "spot_marks"] ["self", "spot_marks"] (defScope s_Thing_init) := ⟨rfl, rfl, rfl, by decide +kernel, rfl, by decide +kernel, by decide +kernel⟩
theorem sc_Row_init : FnScope ["self", "marks"] ["self", "marks"] (defScope s_Row_init) := ⟨rfl, rfl, rfl, by decide +kernel, rfl, by decide +kernel, by decide +kernel⟩
theorem sc_Forest_init : FnScope ["self", "nodes"] ["self", "nodes"] (defScope s_Forest_init) := ⟨rfl, rfl, rfl, by decide +kernel, rfl, by decide +kernel, by decide +kernel⟩
theorem sc_Forest_many : FnScope ["self"] ["self"] (defScope s_Forest_many) := ⟨rfl, rfl, rfl, by decide +kernel, rfl, by decide +kernel, by decide +kernel⟩
theorem sc_Forest_left : FnScope ["self", "places", "kept", "rest", "above", "place", "node", "depth"] ["self", "places"] (defScope s_Forest_left) := ⟨rfl, rfl, rfl, by decide +kernel, rfl, by decide +kernel, by decide +kernel⟩
theorem sc_Forest_form : FnScope ["self"] ["self"] (defScope s_Forest_form) := ⟨rfl, rfl, rfl, by decide +kernel, rfl, by decide +kernel, by decide +kernel⟩
theorem sc_Table_init : FnScope ["self", "lines", "spot_marks", "line"] ["self", "lines"] (defScope s_Table_init) := ⟨rfl, rfl, rfl, by decide +kernel, rfl, by decide +kernel, by decide +kernel⟩
theorem sc_show_line : FnScope ["line"] ["line"] (defScope s_show_line) := ⟨rfl, rfl, rfl, by decide +kernel, rfl, by decide +kernel, by decide +kernel⟩
theorem sc_signs_between : FnScope ["last", "depth"] ["last", "depth"] (defScope s_signs_between) := ⟨rfl, rfl, rfl, by decide +kernel, rfl, by decide +kernel, by decide +kernel⟩
theorem sc_show_nodes : FnScope ["nodes", "shown", "last", "mark", "depth"] ["nodes"] (defScope s_show_nodes) := ⟨rfl, rfl, rfl, by decide +kernel, rfl, by decide +kernel, by decide +kernel⟩
theorem sc_show_thing : FnScope ["thing", "form", "kind", "inside"] ["thing"] (defScope s_show_thing) := ⟨rfl, rfl, rfl, by decide +kernel, rfl, by decide +kernel, by decide +kernel⟩
theorem sc_nodes_in : FnScope ["text", "nodes", "depth", "word"] ["text"] (defScope s_nodes_in) := ⟨rfl, rfl, rfl, by decide +kernel, rfl, by decide +kernel, by decide +kernel⟩
theorem sc_lines_in : FnScope ["text", "lines", "word"] ["text"] (defScope s_lines_in) := ⟨rfl, rfl, rfl, by decide +kernel, rfl, by decide +kernel, by decide +kernel⟩
theorem sc_marks_in : FnScope ["text"] ["text"] (defScope s_marks_in) := ⟨rfl, rfl, rfl, by decide +kernel, rfl, by decide +kernel, by decide +kernel⟩
theorem sc_made_of : FnScope ["kind", "inside"] ["kind", "inside"] (defScope s_made_of) := ⟨rfl, rfl, rfl, by decide +kernel, rfl, by decide +kernel, by decide +kernel⟩
theorem sc_read_thing : FnScope ["text", "parts", "thing"] ["text"] (defScope s_read_thing) := ⟨rfl, rfl, rfl, by decide +kernel, rfl, by decide +kernel, by decide +kernel⟩
theorem sc__law_cell_at : FnScope ["_law_script", "_law_k"] ["_law_script", "_law_k"] (defScope s__law_cell_at) := ⟨rfl, rfl, rfl, by decide +kernel, rfl, by decide +kernel, by decide +kernel⟩
theorem sc__law_mix : FnScope ["_law_seed", "_law_k", "_law_number"] ["_law_seed", "_law_k"] (defScope s__law_mix) := ⟨rfl, rfl, rfl, by decide +kernel, rfl, by decide +kernel, by decide +kernel⟩
theorem sc__law_how_many : FnScope ["_law_number"] ["_law_number"] (defScope s__law_how_many) := ⟨rfl, rfl, rfl, by decide +kernel, rfl, by decide +kernel, by decide +kernel⟩
theorem sc__law_marks : FnScope ["_law_cell", "_law_many", "_law_letters", "_law_base", "_law_at", "_law_first", "_law_step"] ["_law_cell", "_law_many"] (defScope s__law_marks) := ⟨rfl, rfl, rfl, by decide +kernel, rfl, by decide +kernel, by decide +kernel⟩
theorem sc__law_pick : FnScope ["_law_cell", "_law_marks_here"] ["_law_cell", "_law_marks_here"] (defScope s__law_pick) := ⟨rfl, rfl, rfl, by decide +kernel, rfl, by decide +kernel, by decide +kernel⟩
theorem sc__law_cells : FnScope ["_law_script", "_law_begin", "_law_seed", "_law_many", "_law_cells_here", "_law_rest", "_law_k"] ["_law_script", "_law_begin", "_law_seed", "_law_many"] (defScope s__law_cells) := ⟨rfl, rfl, rfl, by decide +kernel, rfl, by decide +kernel, by decide +kernel⟩
theorem sc__law_nodes : FnScope ["_law_cells_here", "_law_marks_here", "_law_nodes_here", "_law_deepest", "_law_chain", "_law_cell", "_law_depth"] ["_law_cells_here", "_law_marks_here"] (defScope s__law_nodes) := ⟨rfl, rfl, rfl, by decide +kernel, rfl, by decide +kernel, by decide +kernel⟩
theorem sc__law_some : FnScope ["_law_cell", "_law_many", "_law_some_here", "_law_rest", "_law_way", "_law_k", "_law_kept"] ["_law_cell", "_law_many"] (defScope s__law_some) := ⟨rfl, rfl, rfl, by decide +kernel, rfl, by decide +kernel, by decide +kernel⟩
theorem sc__law_forest_text : FnScope ["_law_nodes_here", "_law_text", "_law_k", "_law_step"] ["_law_nodes_here"] (defScope s__law_forest_text) := ⟨rfl, rfl, rfl, by decide +kernel, rfl, by decide +kernel, by decide +kernel⟩
theorem sc_law : FnScope ["_law_script", "_law_seed", "_law_marks_here", "_law_one", "_law_form", "_law_due", "_law_text", "_law_found"] ["_law_script"] (defScope s_law) := ⟨rfl, rfl, rfl, by decide +kernel, rfl, by decide +kernel, by decide +kernel⟩
structure Adr where
  ShrinkError : Addr
  NoThing : Addr
  NoPlace : Addr
  NoText : Addr
  Thing : Addr
  Row : Addr
  Forest : Addr
  Table : Addr
structure Txt (K : PySem.W.Frag) (mg : Str → Option Value) (ad : Adr) : Prop where
  all : mg "all" = none
  bool : mg "bool" = none
  dict : mg "dict" = none
  enumerate : mg "enumerate" = none
  int : mg "int" = none
  isinstance : mg "isinstance" = none
  len : mg "len" = none
  list : mg "list" = none
  min : mg "min" = none
  range : mg "range" = none
  str : mg "str" = none
  tuple : mg "tuple" = none
  c_ShrinkError : mg "ShrinkError" = some (.ref ad.ShrinkError)
  c_NoThing : mg "NoThing" = some (.ref ad.NoThing)
  c_NoPlace : mg "NoPlace" = some (.ref ad.NoPlace)
  c_NoText : mg "NoText" = some (.ref ad.NoText)
  c_Thing : mg "Thing" = some (.ref ad.Thing)
  c_Row : mg "Row" = some (.ref ad.Row)
  c_Forest : mg "Forest" = some (.ref ad.Forest)
  c_Table : mg "Table" = some (.ref ad.Table)
  g_LETTERS : ∃ t, mg "LETTERS" = some (.str LET t)
  g_LONGEST_MARK : ∃ t, mg "LONGEST_MARK" = some (.int 8 t)
  g_MOST_NODES : ∃ t, mg "MOST_NODES" = some (.int 40 t)
  g_DEEPEST : ∃ t, mg "DEEPEST" = some (.int 12 t)
  e_NoPlace : ExcCls K mg "NoPlace" ad.NoPlace
  lk_NoPlace : ExcLk K ad.NoPlace
  e_NoText : ExcCls K mg "NoText" ad.NoText
  lk_NoText : ExcLk K ad.NoText
  e_NoThing : ExcCls K mg "NoThing" ad.NoThing
  lk_NoThing : ExcLk K ad.NoThing
  cl_Forest : Cls K ad.Forest
  na_Forest_nodes : NoAttr K ad.Forest "nodes"
  na_Forest_spot_marks : NoAttr K ad.Forest "spot_marks"
  ha_Forest : PySem.W.findIn K (.ref ad.Forest) "__class__" = some (some (.builtin "object.__class__"))
  hm_Forest : PySem.W.mroIn K ad.Forest (.type "object") = some true
  cl_Row : Cls K ad.Row
  na_Row_spot_marks : NoAttr K ad.Row "spot_marks"
  ha_Row : PySem.W.findIn K (.ref ad.Row) "__class__" = some (some (.builtin "object.__class__"))
  hm_Row : PySem.W.mroIn K ad.Row (.type "object") = some true
  cl_Table : Cls K ad.Table
  na_Table_columns : NoAttr K ad.Table "columns"
  na_Table_lines : NoAttr K ad.Table "lines"
  na_Table_spot_marks : NoAttr K ad.Table "spot_marks"
  ha_Table : PySem.W.findIn K (.ref ad.Table) "__class__" = some (some (.builtin "object.__class__"))
  hm_Table : PySem.W.mroIn K ad.Table (.type "object") = some true
  hn : PySem.W.specialIn K (.builtin "object.__class__") "__get__" = some (some (.builtin "getset_descriptor.__get__"))
  htk : PySem.W.takesIn K (.builtin "object.__class__") = some true
def SameBut (p : Addr) (H H' : Hp) : Prop := ∀ b o, b ≠ p → H b = some o → H' b = some o
def RowObj (ad : Adr) (H : Hp) (p : Addr) (xs : List V) : Prop := ∃ dx t, H p = some (.ins ad.Row dx [("spot_marks", .ref t)]) ∧ H t = some (.tup xs) ∧ xs.all markV = true ∧ xs.length ≤ 40
def TabObj (ad : Adr) (H : Hp) (p : Addr) (ls : List (List V)) (w : Nat) : Prop := ∃ dx t1 t2 ts, H p = some (.ins ad.Table dx [("spot_marks", .ref t1), ("lines", .ref t2), ("columns", .int w)]) ∧ H t1 = some (.tup ls.flatten) ∧ H t2 = some (.tup ts) ∧ RowsAt .tup H ts ls ∧ w ≤ 12 ∧ ls.length ≤ 12 ∧ ∀ l ∈ ls, lineOk w l
theorem RowObj.same {ad : Adr} {H H' : Hp} {p : Addr} {xs : List V} (s : Same H H') (r : RowObj ad H p xs) : RowObj ad H' p xs := by
  obtain ⟨dx, t, h1, h2, h3⟩ := r
  exact ⟨dx, t, s _ _ h1, s _ _ h2, h3⟩
theorem RowObj.keep {ad : Adr} {H H' : Hp} {p : Addr} {xs : List V} (s : ∀ b o, (∀ zs, o ≠ HO.lst zs) → H b = some o → H' b = some o) (r : RowObj ad H p xs) : RowObj ad H' p xs := by
  obtain ⟨dx, t, h1, h2, h3⟩ := r
  exact ⟨dx, t, s _ (.ins _ _ _) (fun _ z => nomatch z) h1, s _ (.tup _) (fun _ z => nomatch z) h2, h3⟩
theorem TabObj.keep {ad : Adr} {H H' : Hp} {p : Addr} {ls : List (List V)} {w : Nat} (s : ∀ b o, (∀ zs, o ≠ HO.lst zs) → H b = some o → H' b = some o) (r : TabObj ad H p ls w) : TabObj ad H' p ls w := by
  obtain ⟨dx, t1, t2, ts, h1, h2, h3, h4, h5⟩ := r
  exact ⟨dx, t1, t2, ts, s _ (.ins _ _ _) (fun _ z => nomatch z) h1, s _ (.tup _) (fun _ z => nomatch z) h2, s _ (.tup _) (fun _ z => nomatch z) h3, h4.keep (f := .tup) fun b ys e => s b (.tup ys) (fun _ z => nomatch z) e, h5⟩
theorem TabObj.same {ad : Adr} {H H' : Hp} {p : Addr} {ls : List (List V)} {w : Nat} (s : Same H H') (r : TabObj ad H p ls w) : TabObj ad H' p ls w := by
  obtain ⟨dx, t1, t2, ts, h1, h2, h3, h4, h5⟩ := r
  exact ⟨dx, t1, t2, ts, s _ _ h1, s _ _ h2, s _ _ h3, h4.same s, h5⟩
def sp_Thing_init (ad : Adr) : Sp := fun vs H Q _ => ∃ p dx a xs c, vs = [.ref p, .ref a] ∧ (c = ad.Row ∨ c = ad.Table ∨ c = ad.Forest) ∧ H p = some (.ins c dx []) ∧ H a = some (.lst xs) ∧ ∀ t, H t = none → Q .non (upd (upd H t (.tup xs)) p (.ins c dx [("spot_marks", .ref t)]))
def ForestAt (ad : Adr) (H : Hp) (p : Addr) (ns : List Nd) : Prop := ∃ dx t1 t2 xs, H p = some (.ins ad.Forest dx [("spot_marks", .ref t1), ("nodes", .ref t2)]) ∧ H t1 = some (.tup (ns.map fun n => V.str n.1)) ∧ H t2 = some (.tup xs) ∧ NodesAt H xs ns
theorem ForestAt.same {ad : Adr} {H H' : Hp} {p : Addr} {ns : List Nd} (s : Same H H') (r : ForestAt ad H p ns) : ForestAt ad H' p ns := by
  obtain ⟨dx, t1, t2, xs, h1, h2, h3, h4⟩ := r
  exact ⟨dx, t1, t2, xs, s _ _ h1, s _ _ h2, s _ _ h3, h4.same s⟩
def sp_Forest_init (ad : Adr) : Sp := fun vs H Q E => ∃ p dx v, vs = [.ref p, v] ∧ H p = some (.ins ad.Forest dx []) ∧ Thg4 H v ∧
  (∀ a xs ns, v = .ref a → H a = some (.lst xs) → xs.length ≤ 40 → NodesAt H xs ns → depthOk 0 ns → ∀ H', ForestAt ad H' p ns → SameBut p H H' → Q .non H') ∧ (¬ GoodN H v → ∀ H', SameBut p H H' → E (.ref ad.NoThing) none H')
def sp_is_whole : Sp := fun vs H Q _ => ∃ v, vs = [v] ∧ Thg H v ∧ Q (.bl (wholeV v)) H
def sp_is_mark : Sp := fun vs H Q _ => ∃ v, vs = [v] ∧ Thg H v ∧ ∀ H', Same H H' → Q (.bl (markV v)) H'
def sp_check_list (ad : Adr) : Sp := fun vs H Q E => ∃ v n, vs = [v, .int (n : Nat)] ∧ Thg H v ∧ (GoodL n H v → Q .non H) ∧ (¬ GoodL n H v → E (.ref ad.NoThing) none H)
def sp_check_node (ad : Adr) : Sp := fun vs H Q E => ∃ v d, vs = [v, .int d] ∧ Thg3 H v ∧ (∀ n, NodeAt H v n → markS n.1 = true → 0 ≤ n.2 → n.2 ≤ d → ∀ H', Same H H' → Q .non H') ∧ ((∀ n, NodeAt H v n → ¬ (markS n.1 = true ∧ 0 ≤ n.2 ∧ n.2 ≤ d)) → ∀ H', Same H H' → E (.ref ad.NoThing) none H')
def sp_check_nodes (ad : Adr) : Sp := fun vs H Q E => ∃ v, vs = [v] ∧ Thg4 H v ∧ (GoodN H v → ∀ H', Same H H' → Q .non H') ∧ (¬ GoodN H v → ∀ H', Same H H' → E (.ref ad.NoThing) none H')
def sp_check_places (ad : Adr) : Sp := fun vs H Q E => ∃ v m, vs = [v, .int m] ∧ Thg2 H v ∧ (GoodP m H v → ∀ H', Same H H' → Q .non H') ∧ (¬ GoodP m H v → ∀ H', Same H H' → E (.ref ad.NoPlace) none H')
def sp_many (ad : Adr) : Sp := fun vs H Q _ => ∃ p ns, vs = [.ref p] ∧ ForestAt ad H p ns ∧ Q (.int ns.length) H
def sp_Forest_left (ad : Adr) : Sp := fun vs H Q E => ∃ (p : Addr) (v : V) (ns : List Nd), vs = [.ref p, v] ∧ ForestAt ad H p ns ∧ depthOk 0 ns ∧ ns.length ≤ 40 ∧ Thg2 H v ∧ (∀ a ps, v = .ref a → H a = some (.lst (ps.map V.int)) → placesOk 0 ns.length ps → ∀ q H', Same H H' → ForestAt ad H' q (leftN ns ps) → Q (.ref q) H') ∧ (¬ GoodP ns.length H v → ∀ H', Same H H' → E (.ref ad.NoPlace) none H')
def sp_form (ad : Adr) : Sp := fun vs H Q _ => ∃ p ns, vs = [.ref p] ∧ ForestAt ad H p ns ∧ ∀ t xs l, H t = some (.tup xs) → NodesAt H xs ns → H l = none → Q (.ref l) (upd H l (.tup [.str "forest", .ref t]))
def sp__law_cell_at (K : PySem.W.Frag) : Sp := fun vs H Q _ => ∃ (a : Addr) (ns : List Int) (k : Nat), vs = [.ref a, .int k] ∧ SqL K H a (ns.map V.int) ∧ Q (.int (cellF ns k)) H
def sp__law_mix : Sp := fun vs H Q _ => ∃ (seed k : Int), vs = [.int seed, .int k] ∧ 0 ≤ k ∧ k ≤ 1000 ∧ Q (.int (mixF seed k)) H
def sp__law_how_many : Sp := fun vs H Q _ => ∃ n : Int, vs = [.int n] ∧ ∀ m : Int, 1 ≤ m → m ≤ 25 → Q (.int m) H
def sp__law_marks : Sp := fun vs H Q _ => ∃ (c n : Int), vs = [.int c, .int n] ∧ 0 ≤ n ∧ n ≤ 25 ∧ ∀ (zs : List Str) l H', zs.length = n.toNat → (∀ z ∈ zs, markS z = true) → Same H H' → H' l = some (.lst (zs.map V.str)) → Q (.ref l) H'
def sp__law_pick : Sp := fun vs H Q _ => ∃ (c : Int) (a : Addr) (zs : List Str), vs = [.int c, .ref a] ∧ H a = some (.lst (zs.map V.str)) ∧ 0 < zs.length ∧ ∀ z ∈ zs, Q (.str z) H
def sp__law_cells (K : PySem.W.Frag) : Sp := fun vs H Q _ => ∃ (a : Addr) (ns : List Int) (b s : Int), vs = [.ref a, .int b, .int s, .int 40] ∧ 0 ≤ b ∧ SqL K H a (ns.map V.int) ∧ ∀ (ms : List Int) l H', ms.length ≤ 40 → Same H H' → H' l = some (.lst (ms.map V.int)) → Q (.ref l) H'
def sp__law_nodes : Sp := fun vs H Q _ => ∃ (c m : Addr) (ms : List Int) (zs : List Str), vs = [.ref c, .ref m] ∧ H c = some (.lst (ms.map V.int)) ∧ H m = some (.lst (zs.map V.str)) ∧ ms.length ≤ 40 ∧ 0 < zs.length ∧ (∀ z ∈ zs, markS z = true) ∧ ∀ ns xs l H', Same H H' → H' l = some (.lst xs) → NodesAt H' xs ns → depthOk 0 ns → ns.length ≤ 40 → Q (.ref l) H'
def sp__law_some : Sp := fun vs H Q _ => ∃ (c : Int) (n : Nat), vs = [.int c, .int n] ∧ n ≤ 900 ∧ ∀ ps l H', Same H H' → H' l = some (.lst (ps.map V.int)) → placesOk 0 n ps → Q (.ref l) H'
def ThF (ad : Adr) (H : Hp) (p : Addr) (ns : List Nd) : Prop := ForestAt ad H p ns ∧ depthOk 0 ns ∧ ns.length ≤ 40
theorem ThF.same {ad : Adr} {H H' : Hp} {p : Addr} {ns : List Nd} (s : Same H H') (h : ThF ad H p ns) : ThF ad H' p ns := ⟨h.1.same s, h.2⟩
def FormF (H : Hp) (f : Addr) (ns : List Nd) : Prop := ∃ t ys, H f = some (.tup [.str "forest", .ref t]) ∧ H t = some (.tup ys) ∧ NodesAt H ys ns
theorem FormF.same {H H' : Hp} {f : Addr} {ns : List Nd} (s : Same H H') (h : FormF H f ns) : FormF H' f ns := let ⟨t, ys, h1, h2, h3⟩ := h; ⟨t, ys, s _ _ h1, s _ _ h2, h3.same s⟩
def mkS (l : List Nat) : Str := ⟨l.toArray⟩
def toW (n : Nd) : List Nat × Nat := (n.1.cps.toList, n.2.toNat)
def sgL (d e : Nat) : List Nat := if d < e then [40] else closes (d - e) ++ [44]
def insL : List Nd → List Nat
  | [] => []
  | n :: r => n.1.cps.toList ++ restF 0 (r.map toW)
def insS (ns : List Nd) : Str := mkS (insL ns)
def textF (ns : List Nd) : Str := if ns = [] then Str.ofString "forest" else Str.ofString "forest" ++ Str.ofString " " ++ insS ns
theorem mkS_app (a b : List Nat) : mkS a ++ mkS b = mkS (a ++ b) := ext_l (by rw [app_l]; rfl)
theorem mkS_of (z : Str) : mkS z.cps.toList = z := ext_l rfl
theorem mkS_len (l : List Nat) : (mkS l).length = l.length := rfl
theorem mkS_inj {a b : List Nat} (h : mkS a = mkS b) : a = b := congrArg (fun s : Str => s.cps.toList) h
theorem nodes_okF : ∀ {ns : List Nd} {d : Int} {e : Nat}, depthOk d ns → d ≤ (e : Int) + 1 → okF e (ns.map toW)
  | [], _, _, _, _ => trivial
  | n :: r, d, e, h, hd => by
    obtain ⟨h1, h2, h3, h4⟩ := h
    have hp := mark_plain h1
    have hne : n.1.cps.toList ≠ [] := fun z => by
      have := (mark_all h1).1
      have l0 : n.1.length = n.1.cps.toList.length := rfl
      rw [l0, z] at this
      exact absurd this (by decide)
    refine ⟨?_, hp, hne, nodes_okF h4 ?_⟩
    · show n.2.toNat ≤ e + 1
      omega
    · show deep1 n ≤ ((n.2.toNat : Nat) : Int) + 1
      unfold deep1
      omega
theorem split_it {wi : TI} {σ : St} {H : Hp} {G : It → Hp → Prop} (S : It → Hp → Prop) (h : ∀ G' : It → Hp → Prop, (∀ J H1, S J H1 → G' J H1) → wi σ H G') (g : ∀ J H1, S J H1 → G J H1) : wi σ H G := h _ g
theorem Same.none {H H' : Hp} (s : Same H H') {l : Addr} (h : H' l = none) : H l = none := by
  cases e : H l with
  | none => rfl
  | some o => rw [s _ _ e] at h; cases h
theorem big9000 {n : Nat} (h : n ≤ 20000) : n < sizeLine := Nat.lt_of_le_of_lt h (by decide)
theorem big9 {n : Nat} (h : n ≤ 20000) : n ≤ sizeLine := Nat.le_of_lt (big9000 h)
theorem deepF12 : ∀ {ns : List Nd} {d : Int}, depthOk d ns → d ≤ 12 → ∀ n ∈ ns, n.2 ≤ 12
  | m :: r, d, h, hd, n, hn => by
    obtain ⟨h1, h2, h3, h4⟩ := h
    rcases List.mem_cons.mp hn with rfl | hn
    · omega
    · exact deepF12 h4 (by unfold deep1; omega) n hn
theorem rest_len : ∀ (r : List (List Nat × Nat)) (d : Nat), okF d r → (∀ n ∈ r, n.1.length ≤ 8) → (restF d r).length ≤ d + 10 * r.length
  | [], d, _, _ => by
    show (closes d).length ≤ _
    unfold closes
    rw [List.length_replicate]
    omega
  | (m, e) :: r, d, h, hm => by
    obtain ⟨h1, h2, h3, h4⟩ := h
    have ih := rest_len r e h4 fun n hn => hm n (List.mem_cons_of_mem _ hn)
    have l8 := hm (m, e) List.mem_cons_self
    have l8' : m.length ≤ 8 := l8
    unfold restF
    rw [List.length_append, List.length_append, List.length_cons]
    split
    · have : ([40] : List Nat).length = 1 := rfl
      omega
    · have : (closes (d - e) ++ [44]).length = d - e + 1 := by unfold closes; rw [List.length_append, List.length_replicate]; rfl
      omega
theorem ins_len {ns : List Nd} (hd : depthOk 0 ns) (hl : ns.length ≤ 40) : (insL ns).length ≤ 420 := by
  cases ns with
  | nil => exact Nat.zero_le _
  | cons n r =>
    obtain ⟨h1, h2, h3, h4⟩ := hd
    have z : n.2 = 0 := by omega
    have ok := nodes_okF (e := 0) h4 (by unfold deep1; omega)
    have := rest_len _ 0 ok fun x hx => by
      obtain ⟨y, hy, rfl⟩ := List.mem_map.mp hx
      exact (mark_all (depthOk_all h4 y hy).1).2.1
    have l8 := (mark_all h1).2.1
    have l8' : n.1.cps.toList.length ≤ 8 := l8
    rw [List.length_map] at this
    rw [List.length_cons] at hl
    show (n.1.cps.toList ++ restF 0 (r.map toW)).length ≤ 420
    rw [List.length_append]
    omega
theorem rep_len {c : Nat} {z : List Nat} (hz : z.length ≤ 3) : ∀ l : List Nat, (repC c z l).length ≤ 3 * l.length
  | [] => Nat.zero_le _
  | d :: l => by
    have ih := rep_len (c := c) hz l
    show ((if d = c then z else [d]) ++ repC c z l).length ≤ _
    rw [List.length_append, List.length_cons]
    split
    · omega
    · have : ([d] : List Nat).length = 1 := rfl
      omega
theorem repl_S {c : Nat} {y z : Str} {l : List Nat} (hy : y = ⟨#[c]⟩) : Txt.replace (mkS l) y z = mkS (repC c z.cps.toList l) := by
  subst hy
  exact ext_l (replace_l (mkS l) z c)
theorem split_S (l : List Nat) : Txt.split (mkS l) (Str.ofString " ") = (splitC 32 l).map mkS := by
  have := splitC_split (mkS l) 32
  rw [show (mkS l).cps.toList = l from rfl] at this
  rw [this, List.map_map, show Str.ofString " " = ⟨#[32]⟩ from blank_eq]
  conv => lhs; rw [← List.map_id (Txt.split (mkS l) ⟨#[32]⟩)]
  exact List.map_congr_left fun w _ => (mkS_of w).symm
theorem run_ins {ns : List Nd} (hd : depthOk 0 ns) : (runW ([], 0) (sub3 (insL ns))).1 = ns.map fun n => (n.1.cps.toList, n.2) := by
  cases ns with
  | nil => decide
  | cons n r =>
    obtain ⟨h1, h2, h3, h4⟩ := hd
    have z : n.2 = 0 := by omega
    have hne : n.1.cps.toList ≠ [] := fun z => by
      have := (mark_all h1).1
      have l0 : n.1.length = n.1.cps.toList.length := rfl
      rw [l0, z] at this
      exact absurd this (by decide)
    have := run_text (mark_plain h1) hne (nodes_okF (e := 0) h4 (by unfold deep1; omega))
    show (runW ([], 0) (sub3 (n.1.cps.toList ++ restF 0 (r.map toW)))).1 = _
    rw [this, List.map_cons, z, List.map_map]
    refine congrArg _ (List.map_congr_left fun x hx => ?_)
    have := (depthOk_all h4 x hx).2
    show (x.1.cps.toList, ((x.2.toNat : Nat) : Int)) = _
    rw [Int.toNat_of_nonneg this]
theorem lst_tups {H : Hp} {p : Addr} {xs : List V} {o : HO} (h : H p = some (.lst xs)) : ∀ b ys, H b = some (.tup ys) → upd H p o b = some (.tup ys) := fun b ys e => by
  rw [upd_ne fun q => by rw [q, h] at e; cases e]
  exact e
theorem ends_gen {B : TS} {D : Ends} {σ : St} {H : Hp} (h : ∀ D0 : Ends, D0.nx = D.nx → B D0 σ H) : B D σ H := h D rfl
theorem drop_cons {ns : List Nd} {i : Nat} {n : Nd} (h : ns[i]? = some n) : (ns.drop i).map toW = toW n :: (ns.drop (i + 1)).map toW := by
  have hi := (List.getElem?_eq_some_iff.mp h).1
  rw [List.drop_eq_getElem_cons hi, (List.getElem?_eq_some_iff.mp h).2]
  rfl
def datF (ns : List Nd) : PyData := .tuple [.str "forest", .tuple (datN ns)]
theorem FormF.dat {K : PySem.W.Frag} {H : Hp} {f : Addr} {ns : List Nd} (h : FormF H f ns) : DatV K H (.ref f) (datF ns) := by
  obtain ⟨t, ys, h1, h2, h3⟩ := h
  exact .tup (SqT.of h1) (.cons (.str _) (.cons (.tup (SqT.of h2) h3.dat) .nil))
theorem lay_F {ns : List Nd} (o : depthOk 0 ns) : PyData.canLay0 (datF ns) = true := by
  have cN := canLay_nodes (ns := ns) fun n h => mark_strOk (depthOk_all o n h).1
  unfold datF
  simp only [PyData.canLay0, PyData.canLayAll0, cN]
  decide +kernel
theorem shaped_F {ns : List Nd} (o : depthOk 0 ns) : SeqAt.shaped (datF ns) = true := by
  unfold SeqAt.shaped
  rw [Bool.and_eq_true]
  refine ⟨lay_F o, decide_eq_true ?_⟩
  have := depth_nodes ns
  simp only [datF, PyData.depth, PyData.depthAll]
  omega
theorem eqv_F {ns : List Nd} (o : depthOk 0 ns) : PyData.eqv (datF ns) (datF ns) = true := SeqAt.eqv_refl _ (lay_F o)
theorem form_F {ad : Adr} {H : Hp} {p : Addr} {ns : List Nd} {Q : VK} {E : XK} (hT : ThF ad H p ns) (k : ∀ f H', Same H H' → FormF H' f ns → Q (.ref f) H') : ∃ x y, H p = some (.ins ad.Forest x y) ∧ List.lookup (Str.ofString "form") y = none ∧ sp_form ad [.ref p] H Q E := by
  obtain ⟨⟨dx, t1, t2, xs, h1, _⟩, _⟩ := id hT
  exact ⟨dx, _, h1, lookup_no (by decide +kernel) (by decide +kernel), p, ns, rfl, hT.1, fun t xs l ht hx hl => k l _ (Same.put hl) ⟨t, xs, upd_same, (Same.put hl) _ _ ht, hx.same (Same.put hl)⟩⟩
def sp_signs_between : Sp := fun vs H Q _ => ∃ d e : Nat, vs = [.int d, .int e] ∧ d ≤ 40 ∧ Q (.str (mkS (sgL d e))) H
def sp_show_nodes (K : PySem.W.Frag) : Sp := fun vs H Q _ => ∃ (t : Addr) (ys : List V) (ns : List Nd), vs = [.ref t] ∧ SqT K H t ys ∧ NodesAt H ys ns ∧ depthOk 0 ns ∧ ns.length ≤ 40 ∧ ∀ H', Same H H' → Q (.str (insS ns)) H'
def sp_nodes_in : Sp := fun vs H Q _ => ∃ ns : List Nd, vs = [.str (insS ns)] ∧ depthOk 0 ns ∧ ns.length ≤ 40 ∧ ∀ a ys H', Same H H' → H' a = some (.lst ys) → NodesAt H' ys ns → Q (.ref a) H'
def sp_show_thing (ad : Adr) : Sp := fun vs H Q _ => ∃ (p : Addr) (ns : List Nd), vs = [.ref p] ∧ ThF ad H p ns ∧ ∀ H', Same H H' → Q (.str (textF ns)) H'
def sp_made_of (ad : Adr) : Sp := fun vs H Q _ => ∃ ns : List Nd, vs = [.str "forest", .str (insS ns)] ∧ depthOk 0 ns ∧ ns.length ≤ 40 ∧ ∀ p H', Same H H' → ThF ad H' p ns → Q (.ref p) H'
def sp_read_thing (ad : Adr) : Sp := fun vs H Q _ => ∃ ns : List Nd, vs = [.str (textF ns)] ∧ depthOk 0 ns ∧ ns.length ≤ 40 ∧ ∀ p H', Same H H' → ThF ad H' p ns → Q (.ref p) H'
def sp__law_forest_text (K : PySem.W.Frag) : Sp := fun vs H Q _ => ∃ (t : Addr) (ys : List V) (ns : List Nd), vs = [.ref t] ∧ SqT K H t ys ∧ NodesAt H ys ns ∧ depthOk 0 ns ∧ ns.length ≤ 40 ∧ ns ≠ [] ∧ ∀ H', Same H H' → Q (.str (insS ns)) H'
def sp_law (K : PySem.W.Frag) : Sp := fun vs H Q _ => ∃ (a : Addr) (ns : List Int), vs = [.ref a] ∧ SqL K H a (ns.map V.int) ∧ ns.length ≤ 63 ∧ ∀ H', Q (.bl true) H'
def sp_Row_init : Sp := fun _ _ _ _ => False
def sp_Table_init : Sp := fun _ _ _ _ => False
def sp_marks_in : Sp := fun _ _ _ _ => False
def sp_lines_in : Sp := fun _ _ _ _ => False
def sp_show_line : Sp := fun _ _ _ _ => False
section
variable {P : Program} {w : World} {K : PySem.W.Frag} {mg : Str → Option Value} {base : Heap} {ad : Adr}
theorem ok_is_whole {f : Addr} {fd : FuncData} (D : Def K mg "is_whole" s_is_whole ["thing"] f fd) (T : Txt K mg ad) : FnOk P w K mg base CX0 1 f fd ["thing"] sp_is_whole := by
  refine D.F.ok sc_is_whole (fun vs H Q E h => ?_) (fun cdv A outer s H vs Q E hr h => ?_)
  · obtain ⟨v, rfl, _⟩ := h
    rfl
  · obtain ⟨v, rfl, t, k⟩ := h
    obtain ⟨y, ty, _, e2, e3⟩ := t.ty (K := K)
    refine ⟨_, (@pss_one _ _ _ (ps_ret (pe_and (pe_callB call_isiT rfl T.isinstance PyProof.Rows.boot_isinstance (pa_cons (pv 0) (pa_cons (pe_ty rfl T.int PyProof.Rows.boot_int) pa_nil))) (pe_one (pe_not (pe_callB call_isiT rfl T.isinstance PyProof.Rows.boot_isinstance (pa_cons (pv 0) (pa_cons (pe_ty rfl T.bool PyProof.Rows.boot_bool) pa_nil)))))))), ?_⟩
    and_intros
    refine ⟨y, ty, _, e2, ?_⟩
    cases t with
    | non => exact iteF k
    | str x h => exact iteF k
    | lst h => exact iteF k
    | tup h => exact iteF k
    | bl b => exact iteT ⟨y, ty, _, e3, k⟩
    | int i => exact iteT ⟨y, ty, _, e3, k⟩
theorem ok_is_mark {f : Addr} {fd : FuncData} (D : Def K mg "is_mark" s_is_mark ["thing"] f fd) (T : Txt K mg ad) : FnOk P w K mg base CX0 1 f fd ["thing"] sp_is_mark := by
  refine D.F.ok sc_is_mark (fun vs H Q E h => ?_) (fun cdv A outer s H vs Q E hr h => ?_)
  · obtain ⟨v, rfl, _⟩ := h
    rfl
  · obtain ⟨v, rfl, t, k⟩ := h
    obtain ⟨tk_LETTERS, h_LETTERS⟩ := T.g_LETTERS
    obtain ⟨tk_LONGEST_MARK, h_LONGEST_MARK⟩ := T.g_LONGEST_MARK
    obtain ⟨y, ty, e1, _, _⟩ := t.ty (K := K)
    refine ⟨_, (@pss_cons _ _ _ _ _ (ps_if (pt_not (pt_val (pe_callB call_isiT rfl T.isinstance PyProof.Rows.boot_isinstance (pa_cons (pv 0) (pa_cons (pe_ty rfl T.str PyProof.Rows.boot_str) pa_nil)))))
      (@pss_one _ _ _ (ps_ret pe_bl))
      pss_nil)
      (@pss_cons _ _ _ _ _ (ps_if (pt_not (pt_chain op_le op_le pe_int (pe_callB call_len_str rfl T.len PySem.boot_len (pa_cons (pv 0) pa_nil)) (pe_glob (v := .int 8) rfl h_LONGEST_MARK ⟨_, rfl⟩)))
      (@pss_one _ _ _ (ps_ret pe_bl))
      pss_nil)
      (@pss_one _ _ _ (ps_ret (pe_callB (call_all rfl) rfl T.all (by decide +kernel) (pa_cons (pe_comp (own := ["sign"]) (cap := []) (ix := []) rfl (show CompScope ["thing"] (defScope s_is_mark) _ ["sign"] [] [] from ⟨rfl, by decide +kernel, by decide +kernel, by decide +kernel, by decide +kernel, by decide +kernel, by decide +kernel, rfl, by decide +kernel⟩) (pi_str (pv 0)) (fun C s₀ H₀ ex pn => ⟨pg_name (i := 0) (show (["sign"] : List Str).Nodup by decide +kernel) rfl (Or.inl rfl), pifs_nil, (pe_cmpR op_in_str (pv 0) (pe_glob (v := .str LET) rfl h_LETTERS ⟨_, rfl⟩) rfl)⟩)) pa_nil)))))), ?_⟩
    refine ⟨_, rfl, v, "str", y, _, rfl, ty, e1, _, rfl, ?_⟩
    cases t with
    | non => exact iteT (k H (Same.refl H))
    | int i => exact iteT (k H (Same.refl H))
    | bl b => exact iteT (k H (Same.refl H))
    | lst h => exact iteT (k H (Same.refl H))
    | tup h => exact iteT (k H (Same.refl H))
    | str x hx =>
      refine iteF ?_
      have hz : x.length ≤ sizeLine := Nat.le_of_lt (small1000 hx)
      refine ⟨_, rfl, x, rfl, hz, _, _, rfl, rfl, _, rfl, ?_⟩
      have km : ∀ H', Same H H' → Q (.bl (markS x)) H' := k
      refine ite2 (fun h1 => ?_) (fun h1 => ?_)
      · have h1 : 1 ≤ x.length := by have := of_decide_eq_true h1; omega
        refine ⟨_, _, rfl, rfl, _, rfl, ?_⟩
        refine ite2 (fun h2 => ?_) (fun h2 => ?_)
        · have h2 : ¬ x.length ≤ 8 := by simp at h2; omega
          have e : markS x = false := by unfold markS; rw [decide_eq_false h2]; simp
          rw [e] at km
          exact km H (Same.refl H)
        · have h2 : x.length ≤ 8 := by simp at h2; omega
          dsimp only [tNext, tRet, tCB, tCons]
          refine tcomp_str (z := x) (fun R r => ⟨_, rfl, x, rfl, r⟩) (fun i ys H' => H' = H ∧ ∃ bs : List Bool, ys = bs.map V.bl ∧ bs.length = i ∧ bs.all id = (x.cps.toList.take i).all letC) ⟨rfl, [], rfl, rfl, by simp⟩ ?_ ?_
          · rintro i c ys H' R hc ⟨rfl, bs, rfl, hb1, hb2⟩ hR
            refine ⟨_, rfl, _, _, rfl, rfl, ?_, hR _ _ ⟨rfl, bs ++ [letC c], by simp [letC], by simp [hb1], ?_⟩⟩
            · rw [List.length_map, hb1]
              have : i < x.cps.size := (Array.getElem?_eq_some_iff.mp hc).1
              have hx' : x.cps.size = x.length := rfl
              omega
            · rw [all_take_succ (by simpa using hc), ← hb2]
              simp
          · rintro ys H' ⟨rfl, bs, rfl, hb1, hb2⟩
            refine ⟨?_, fun Dd hD => ⟨Dd, bs, rfl, SqL.of upd_same, ?_⟩⟩
            · rw [List.length_map, hb1]; exact hz
            · have e : bs.all id = markS x := by
                rw [hb2, List.take_of_length_le (by simp)]
                unfold markS
                rw [decide_eq_true h1, decide_eq_true h2]
                simp
              rw [e]
              exact km _ fun b o q => by rw [upd_ne (ne_of_none q hD)]; exact q
      · have h1 : ¬ 1 ≤ x.length := by
          have q : (x.length : Int) < 1 := by simpa using h1
          omega
        have e : markS x = false := by unfold markS; rw [decide_eq_false h1]; simp
        rw [e] at km
        exact ⟨_, rfl, iteT (km H (Same.refl H))⟩
theorem ok_check_list {f : Addr} {fd : FuncData} (D : Def K mg "check_list" s_check_list ["thing", "most"] f fd) (T : Txt K mg ad) : FnOk P w K mg base (CX1 P w) 1 f fd ["thing", "most"] (sp_check_list ad) := by
  refine D.F.okX sc_check_list (fun vs H Q E h => ?_) (fun cdv A outer s H vs Q E hr h => ?_)
  · obtain ⟨v, n, rfl, _⟩ := h
    rfl
  · obtain ⟨v, n, rfl, t, kg, kb⟩ := h
    obtain ⟨y, b, ty, e, hb⟩ := t.isList (K := K)
    refine ⟨_, (@pss_cons _ _ _ _ _ (ps_if (pt_not (pt_val (pe_callB call_isiT rfl T.isinstance PyProof.Rows.boot_isinstance (pa_cons (pv 0) (pa_cons (pe_ty rfl T.list PyProof.Rows.boot_list) pa_nil)))))
      (@pss_one _ _ _ (ps_raise T.e_NoThing rfl raises1 rfl (pa_cons pe_str pa_nil)))
      pss_nil)
      (@pss_one _ _ _ (ps_if (pt_cmpR op_gt (pe_callB call_lenL rfl T.len PySem.boot_len (pa_cons (pv 0) pa_nil)) (pv 1) (nomark _))
      (@pss_one _ _ _ (ps_raise T.e_NoThing rfl raises1 rfl (pa_cons pe_str pa_nil)))
      pss_nil))), ?_⟩
    and_intros
    refine ⟨y, ty, b, e, ?_⟩
    have h1 : 1 ≤ sizeLine := by decide
    rcases hb with ⟨rfl, a, xs, rfl, ha⟩ | ⟨rfl, hb⟩
    · refine ite2 (fun z => nomatch z) fun _ => ⟨a, rfl, xs, SqL.of ha, ite2 (fun h => ⟨h1, kb ?_⟩) fun h => kg ⟨a, xs, rfl, ha, by omega⟩⟩
      rintro ⟨a', xs', e', h', l'⟩
      cases e'
      rw [ha] at h'
      cases h'
      omega
    · refine ite2 (fun _ => ⟨h1, kb ?_⟩) fun z => absurd rfl z
      rintro ⟨a', xs', e', h', l'⟩
      exact hb a' xs' e' h'
theorem ok_check_node {f : Addr} {fd : FuncData} (D : Def K mg "check_node" s_check_node ["node", "deepest"] f fd) (T : Txt K mg ad) {f_is_mark : Addr} {fd_is_mark : FuncData} (G_is_mark : FnOk P w K mg base CX0 1 f_is_mark fd_is_mark ["thing"] sp_is_mark) {f_is_whole : Addr} {fd_is_whole : FuncData} (G_is_whole : FnOk P w K mg base CX0 1 f_is_whole fd_is_whole ["thing"] sp_is_whole) (D_is_mark : Def K mg "is_mark" s_is_mark ["thing"] f_is_mark fd_is_mark) (D_is_whole : Def K mg "is_whole" s_is_whole ["thing"] f_is_whole fd_is_whole) : FnOk P w K mg base (CX1 P w) 2 f fd ["node", "deepest"] (sp_check_node ad) := by
  refine D.F.okX sc_check_node (fun vs H Q E h => ?_) (fun cdv A outer s H vs Q E hr h => ?_)
  · obtain ⟨v, d, rfl, _⟩ := h
    rfl
  · obtain ⟨v, d, rfl, t, kg, kb⟩ := h
    obtain ⟨y, b, ty, e, hb⟩ := t.1.isTup (K := K)
    refine ⟨_, (@pss_cons _ _ _ _ _ (ps_if (PW.pt (pw_or (pt_not (pt_val (pe_callB call_isiT rfl T.isinstance PyProof.Rows.boot_isinstance (pa_cons (pv 0) (pa_cons (pe_ty rfl T.tuple PyProof.Rows.boot_tuple) pa_nil))))) (pw_or1 (pt_cmpR op_ne (pe_callB call_lenT rfl T.len PySem.boot_len (pa_cons (pv 0) pa_nil)) pe_int (nomark _)))))
      (@pss_one _ _ _ (ps_raise T.e_NoThing rfl raises1 rfl (pa_cons pe_str pa_nil)))
      pss_nil)
      (@pss_cons _ _ _ _ _ (ps_if (pt_not (pt_val (pe_call G_is_mark (hr.mono (by decide)) rfl D_is_mark.mg D_is_mark.F.kp D_is_mark.b .nil pass0 (pa_cons (pe_ix ix_tup (pv 0) pe_int (fun _ _ => rfl)) pa_nil))))
      (@pss_one _ _ _ (ps_raise T.e_NoThing rfl raises1 rfl (pa_cons pe_str pa_nil)))
      pss_nil)
      (@pss_one _ _ _ (ps_if (PW.pt (pw_or (pt_not (pt_val (pe_call G_is_whole (hr.mono (by decide)) rfl D_is_whole.mg D_is_whole.F.kp D_is_whole.b .nil pass0 (pa_cons (pe_ix ix_tup (pv 0) pe_int (fun _ _ => rfl)) pa_nil)))) (pw_or1 (pt_not (pt_chain op_le op_le pe_int (pe_ix ix_tup (pv 0) pe_int (fun _ _ => rfl)) (pv 1))))))
      (@pss_one _ _ _ (ps_raise T.e_NoThing rfl raises1 rfl (pa_cons pe_str pa_nil)))
      pss_nil)))), ?_⟩
    and_intros
    refine ⟨y, ty, b, e, ?_⟩
    have h1 : 1 ≤ sizeLine := by decide
    rcases hb with ⟨rfl, a, xs, rfl, ha⟩ | ⟨rfl, hb⟩
    · and_intros
      have no : xs.length ≠ 2 → ∀ n, ¬ NodeAt H (.ref a) n := fun h n ⟨a', e', h'⟩ => by
        cases e'
        rw [ha] at h'
        cases h'
        exact h rfl
      refine ⟨xs, SqT.of ha, ite2 (fun h2 => ⟨h1, kb (fun n hn => absurd hn (no (by omega) n)) H (Same.refl H)⟩) fun h2 => ?_⟩
      obtain ⟨x0, x1, rfl⟩ : ∃ x0 x1, xs = [x0, x1] := by
        match xs, h2 with
        | [], h => simp at h
        | [_], h => simp at h
        | [x0, x1], _ => exact ⟨x0, x1, rfl⟩
        | _ :: _ :: _ :: r, h => simp at h; omega
      have tx : ∀ n, NodeAt H (.ref a) n → x0 = .str n.1 ∧ x1 = .int n.2 := fun n ⟨a', e', h'⟩ => by
        cases e'
        rw [ha] at h'
        simp at h'
        exact h'
      refine ⟨_, SqT.of ha, x0, rfl, x0, rfl, t.2 a _ rfl ha x0 (by simp), fun H1 s1 => ⟨_, rfl, ite2 (fun hm => ⟨h1, kb (fun n hn => ?_) H1 s1⟩) fun hm => ?_⟩⟩
      · obtain ⟨e0, _⟩ := tx n hn
        subst e0
        rintro ⟨m1, _⟩
        exact absurd m1 (by rw [show markS n.1 = false from hm]; decide)
      · refine ⟨_, SqT.of (s1 _ _ ha), x1, rfl, x1, rfl, (t.2 a _ rfl ha x1 (by simp)).same s1, _, rfl, ite2 (fun hw => ⟨h1, kb (fun n hn => ?_) H1 s1⟩) fun hw => ?_⟩
        · obtain ⟨_, e1⟩ := tx n hn
          subst e1
          cases hw
        · obtain ⟨m, e0⟩ : ∃ m, x0 = .str m := by
            cases x0 with
            | str m => exact ⟨m, rfl⟩
            | _ => exact absurd rfl hm
          obtain ⟨k, e1⟩ : ∃ k, x1 = .int k := by
            cases x1 with
            | int k => exact ⟨k, rfl⟩
            | _ => exact absurd rfl hw
          subst e0 e1
          have hm' : markS m = true := by
            cases q : markS m
            · exact absurd q hm
            · rfl
          refine ⟨_, SqT.of (s1 _ _ ha), .int k, rfl, k, rfl, ite2 (fun h0 => ⟨k, rfl, ite2 (fun h3 => ⟨h1, kb (fun n hn => ?_) H1 s1⟩) fun h3 => ?_⟩) fun h0 => ⟨h1, kb (fun n hn => ?_) H1 s1⟩⟩
          · obtain ⟨_, e1⟩ := tx n hn
            cases e1
            rintro ⟨_, _, z⟩
            exact h3 z
          · exact kg (m, k) ⟨a, rfl, ha⟩ hm' h0 (by omega) H1 s1
          · obtain ⟨_, e1⟩ := tx n hn
            cases e1
            rintro ⟨_, z, _⟩
            exact h0 z
    · refine ite2 (fun _ => ⟨h1, kb (fun n hn => ?_) H (Same.refl H)⟩) fun z => absurd rfl z
      obtain ⟨a, e, h⟩ := hn
      exact absurd h (hb a _ e)
theorem ok_check_nodes {f : Addr} {fd : FuncData} (D : Def K mg "check_nodes" s_check_nodes ["nodes"] f fd) (T : Txt K mg ad) {f_check_list : Addr} {fd_check_list : FuncData} (G_check_list : FnOk P w K mg base (CX1 P w) 1 f_check_list fd_check_list ["thing", "most"] (sp_check_list ad)) {f_check_node : Addr} {fd_check_node : FuncData} (G_check_node : FnOk P w K mg base (CX1 P w) 2 f_check_node fd_check_node ["node", "deepest"] (sp_check_node ad)) (D_check_list : Def K mg "check_list" s_check_list ["thing", "most"] f_check_list fd_check_list) (D_check_node : Def K mg "check_node" s_check_node ["node", "deepest"] f_check_node fd_check_node) : FnOk P w K mg base (CX1 P w) 3 f fd ["nodes"] (sp_check_nodes ad) := by
  refine D.F.okX sc_check_nodes (fun vs H Q E h => ?_) (fun cdv A outer s H vs Q E hr h => ?_)
  · obtain ⟨v, rfl, _⟩ := h
    rfl
  · obtain ⟨v, rfl, t, kg, kb⟩ := h
    obtain ⟨tk_MOST_NODES, h_MOST_NODES⟩ := T.g_MOST_NODES
    obtain ⟨tk_DEEPEST, h_DEEPEST⟩ := T.g_DEEPEST
    refine ⟨_, (@pss_cons _ _ _ _ _ (ps_expr (pe_call G_check_list (hr.mono (by decide)) rfl D_check_list.mg D_check_list.F.kp D_check_list.b .nil pass1 (pa_cons (pv 0) (pa_cons (pe_glob (v := .int 40) rfl h_MOST_NODES ⟨_, rfl⟩) pa_nil))))
      (@pss_cons _ _ _ _ _ (ps_set (i := 1) sc_check_nodes.nd rfl (Or.inl rfl) pe_int)
      (@pss_one _ _ _ (ps_for PassesOwn.leaving rfl (pi_list (pv 0)) (pg_name (i := 2) sc_check_nodes.nd rfl (Or.inl rfl))
      (@pss_cons _ _ _ _ _ (ps_expr (pe_call G_check_node (hr.mono (by decide)) rfl D_check_node.mg D_check_node.F.kp D_check_node.b .nil pass1 (pa_cons (pv 2) (pa_cons (pv 1) pa_nil))))
      (@pss_one _ _ _ (ps_set (i := 1) sc_check_nodes.nd rfl (Or.inl rfl) (pe_callB (call_min2 rfl) rfl T.min (by decide +kernel) (pa_cons (pe_op op_add (pe_ix ix_tup (pv 2) pe_int (fun _ _ => rfl)) pe_int) (pa_cons (pe_glob (v := .int 12) rfl h_DEEPEST ⟨_, rfl⟩) pa_nil)))))))))), ?_⟩
    and_intros
    refine ⟨v, 40, rfl, t.1, fun hg => ?_, fun hb => kb (fun ⟨a, xs, ns, e, h, l, _⟩ => hb ⟨a, xs, e, h, l⟩) H (Same.refl H)⟩
    obtain ⟨a, xs, rfl, ha, hl⟩ := hg
    refine ⟨_, rfl, a, rfl, ⟨_, SqL.of ha⟩, for_list (xs := xs) (fun i σ H' => Same H H' ∧ ∃ (ns : List Nd) (o : Option V), NodesAt H (xs.take i) ns ∧ depthOk 0 ns ∧ StIs σ [some (.ref a), some (.int (deepAfter 0 ns)), o]) ⟨Same.refl H, [], none, by simp [NodesAt], trivial, StIs.rfl⟩ ?_ ?_ ?_⟩
    · rintro i σ H' _ ⟨s1, _⟩
      exact SqL.of (s1 _ _ ha)
    · rintro i x σ H' hx ⟨s1, ns, o, hn, hd, rfl⟩
      and_intros
      have tx := t.2 a xs rfl ha x (List.mem_of_getElem? hx)
      have ex : xs.take (i + 1) = xs.take i ++ [x] := by rw [List.take_add_one, hx]; rfl
      refine ⟨x, _, rfl, tx.same s1, fun n hn1 m1 m2 m3 H2 s2 => ?_, fun hb H2 s2 => kb ?_ H2 (s1.trans s2)⟩
      · have hn0 := hn1.back tx.1 s1
        obtain ⟨tt, e, h2⟩ := hn1
        subst e
        and_intros
        refine ⟨_, SqT.of (s2 _ _ h2), _, rfl, _, rfl, s1.trans s2, ns ++ [n], ?_, ?_, some (.ref tt), ?_⟩
        · rw [ex]; exact hn.append ⟨hn0, trivial⟩
        · exact depthOk_append.mpr ⟨hd, m1, m2, m3, trivial⟩
        · have e : deepAfter 0 (ns ++ [n]) = if 12 < n.2 + 1 then 12 else n.2 + 1 := by
            rw [deepAfter_append]
            show min (n.2 + 1) 12 = _
            split <;> omega
          rw [e]
          exact StIs.rfl
      · have e : xs = xs.take i ++ x :: xs.drop (i + 1) := by
          have h := List.take_append_drop (i + 1) xs
          rw [ex, List.append_assoc] at h
          exact h.symm
        rw [e] at ha
        exact notN_mid ha hn fun n hn' => hb n (hn'.same s1)
    · rintro σ H' ⟨s1, ns, o, hn, hd, rfl⟩
      rw [List.take_length] at hn
      exact kg ⟨a, xs, ns, rfl, ha, hl, hn, hd⟩ H' s1
theorem ok_check_places {f : Addr} {fd : FuncData} (D : Def K mg "check_places" s_check_places ["places", "many"] f fd) (T : Txt K mg ad) {f_is_whole : Addr} {fd_is_whole : FuncData} (G_is_whole : FnOk P w K mg base CX0 1 f_is_whole fd_is_whole ["thing"] sp_is_whole) (D_is_whole : Def K mg "is_whole" s_is_whole ["thing"] f_is_whole fd_is_whole) : FnOk P w K mg base (CX1 P w) 2 f fd ["places", "many"] (sp_check_places ad) := by
  refine D.F.okX sc_check_places (fun vs H Q E h => ?_) (fun cdv A outer s H vs Q E hr h => ?_)
  · obtain ⟨v, m, rfl, _⟩ := h
    rfl
  · obtain ⟨v, m, rfl, t, kg, kb⟩ := h
    obtain ⟨y, b, ty, e, hb⟩ := t.1.isList (K := K)
    refine ⟨_, (@pss_cons _ _ _ _ _ (ps_if (pt_not (pt_val (pe_callB call_isiT rfl T.isinstance PyProof.Rows.boot_isinstance (pa_cons (pv 0) (pa_cons (pe_ty rfl T.list PyProof.Rows.boot_list) pa_nil)))))
      (@pss_one _ _ _ (ps_raise T.e_NoPlace rfl raises1 rfl (pa_cons pe_str pa_nil)))
      pss_nil)
      (@pss_cons _ _ _ _ _ (ps_set (i := 2) sc_check_places.nd rfl (Or.inl rfl) pe_int)
      (@pss_one _ _ _ (ps_for PassesOwn.leaving rfl (pi_list (pv 0)) (pg_name (i := 3) sc_check_places.nd rfl (Or.inl rfl))
      (@pss_cons _ _ _ _ _ (ps_if (PW.pt (pw_or (pt_not (pt_val (pe_call G_is_whole (hr.mono (by decide)) rfl D_is_whole.mg D_is_whole.F.kp D_is_whole.b .nil pass0 (pa_cons (pv 3) pa_nil)))) (pw_or1 (pt_not (pt_chain op_le op_lt (pv 2) (pv 3) (pv 1))))))
      (@pss_one _ _ _ (ps_raise T.e_NoPlace rfl raises1 rfl (pa_cons pe_str pa_nil)))
      pss_nil)
      (@pss_one _ _ _ (ps_set (i := 2) sc_check_places.nd rfl (Or.inl rfl) (pe_op op_add (pv 3) pe_int)))))))), ?_⟩
    and_intros
    refine ⟨y, ty, b, e, ?_⟩
    have h1 : 1 ≤ sizeLine := by decide
    rcases hb with ⟨rfl, a, xs, rfl, ha⟩ | ⟨rfl, hb⟩
    · and_intros
      refine ⟨_, rfl, a, rfl, ⟨_, SqL.of ha⟩, for_list (xs := xs) (fun i σ H' => Same H H' ∧ ∃ (ps : List Int) (o : Option V), xs.take i = ps.map V.int ∧ placesOk 0 m ps ∧ StIs σ [some (.ref a), some (.int m), some (.int (lowAfter 0 ps)), o]) ⟨Same.refl H, [], none, by simp, trivial, StIs.rfl⟩ ?_ ?_ ?_⟩
      · rintro i σ H' _ ⟨s1, _⟩
        exact SqL.of (s1 _ _ ha)
      · rintro i x σ H' hx ⟨s1, ps, o, hps, hok, rfl⟩
        have tx := t.2 a xs rfl ha x (List.mem_of_getElem? hx)
        have ex : xs = ps.map V.int ++ x :: xs.drop (i + 1) := by
          have h := List.take_append_drop (i + 1) xs
          rw [List.take_add_one, hx, List.append_assoc, hps] at h
          exact h.symm
        have no : (∀ q, x = .int q → ¬ (lowAfter 0 ps ≤ q ∧ q < m)) → ¬ GoodP m H (.ref a) := fun h => notP_mid (by rw [← ex]; exact ha) h
        and_intros
        refine ⟨x, rfl, tx.same s1, _, rfl, ite2 (fun hw => ⟨h1, kb (no fun q e => ?_) H' s1⟩) fun hw => ?_⟩
        · subst e; cases hw
        · obtain ⟨q, rfl⟩ : ∃ q, x = .int q := by
            cases x with
            | int q => exact ⟨q, rfl⟩
            | _ => exact absurd rfl hw
          refine ⟨q, rfl, ite2 (fun h0 => ⟨q, rfl, ite2 (fun h2 => ⟨h1, kb (no fun q' e z => ?_) H' s1⟩) fun h2 => ⟨q, rfl, s1, ps ++ [q], ?_, ?_, some (.int q), ?_⟩⟩) fun h0 => ⟨h1, kb (no fun q' e z => ?_) H' s1⟩⟩
          · cases e; exact h2 z.2
          · rw [List.take_add_one, hx, hps, List.map_append]; rfl
          · exact placesOk_append.mpr ⟨hok, h0, by omega, trivial⟩
          · rw [lowAfter_append]; exact StIs.rfl
          · cases e; exact h0 z.1
      · rintro σ H' ⟨s1, ps, o, hps, hok, rfl⟩
        rw [List.take_length] at hps
        exact kg ⟨a, ps, rfl, by rw [← hps]; exact ha, hok⟩ H' s1
    · and_intros
      refine ⟨h1, kb (fun ⟨a, ps, e, h, _⟩ => hb a _ e h) H (Same.refl H)⟩
theorem ok_Thing_init {f : Addr} {fd : FuncData} (F : Fun K "__init__" "Thing.__init__" s_Thing_init f fd) (T : Txt K mg ad) : FnOk P w K mg base CX0 1 f fd ["self", "spot_marks"] (sp_Thing_init ad) := by
  refine F.ok sc_Thing_init (fun vs H Q E h => ?_) (fun cdv A outer s H vs Q E hr h => ?_)
  · obtain ⟨p, dx, a, xs, c, rfl, _⟩ := h
    rfl
  · obtain ⟨p, dx, a, xs, c, rfl, hc, hp, ha, k⟩ := h
    refine ⟨_, (@pss_one _ _ _ (ps_fld (pv 0) (pe_callTy call_tupL rfl T.tuple PyProof.Rows.boot_tuple (pa_cons (pv 1) pa_nil)) rfl)), ?_⟩
    and_intros
    refine ⟨_, SqL.of ha, fun t ht => ?_⟩
    rcases hc with rfl | rfl | rfl
    · refine ⟨ad.Row, dx, [], ?_, T.cl_Row, T.na_Row_spot_marks, by decide, ?_⟩
      · rw [upd_ne (ne_of_none hp ht)]; exact hp
      · exact k t ht
    · refine ⟨ad.Table, dx, [], ?_, T.cl_Table, T.na_Table_spot_marks, by decide, ?_⟩
      · rw [upd_ne (ne_of_none hp ht)]; exact hp
      · exact k t ht
    · refine ⟨ad.Forest, dx, [], ?_, T.cl_Forest, T.na_Forest_spot_marks, by decide, ?_⟩
      · rw [upd_ne (ne_of_none hp ht)]; exact hp
      · exact k t ht
theorem ok_Row_init {f : Addr} {fd : FuncData} (F : Fun K "__init__" "Row.__init__" s_Row_init f fd) (T : Txt K mg ad) : FnOk P w K mg base (CX1 P w) 1 f fd ["self", "marks"] sp_Row_init := by
  exact F.okX sc_Row_init (fun vs H Q E h => h.elim) (fun cdv A outer s H vs Q E hr h => h.elim)
theorem ok_Forest_init {f : Addr} {fd : FuncData} (F : Fun K "__init__" "Forest.__init__" s_Forest_init f fd) (T : Txt K mg ad) {f_check_nodes : Addr} {fd_check_nodes : FuncData} (G_check_nodes : FnOk P w K mg base (CX1 P w) 3 f_check_nodes fd_check_nodes ["nodes"] (sp_check_nodes ad)) {f_Thing_init : Addr} {fd_Thing_init : FuncData} (G_Thing_init : FnOk P w K mg base CX0 1 f_Thing_init fd_Thing_init ["self", "spot_marks"] (sp_Thing_init ad)) (D_check_nodes : Def K mg "check_nodes" s_check_nodes ["nodes"] f_check_nodes fd_check_nodes) (B_Thing_init : Binds K fd_Thing_init ["self", "spot_marks"] []) (CM_Thing_init : ClsM K ad.Thing "__init__" f_Thing_init) : FnOk P w K mg base (CX1 P w) 4 f fd ["self", "nodes"] (sp_Forest_init ad) := by
  refine F.okX sc_Forest_init (fun vs H Q E h => ?_) (fun cdv A outer s H vs Q E hr h => ?_)
  · obtain ⟨p, dx, v, rfl, _⟩ := h
    rfl
  · obtain ⟨p, dx, v, rfl, hp, t, kg, kb⟩ := h
    refine ⟨_, (@pss_cons _ _ _ _ _ (ps_expr (pe_call G_check_nodes (hr.mono (by decide)) rfl D_check_nodes.mg D_check_nodes.F.kp D_check_nodes.b .nil pass1 (pa_cons (pv 1) pa_nil)))
      (@pss_cons _ _ _ _ _ (ps_expr (pe_clsm rfl T.c_Thing CM_Thing_init G_Thing_init (hr.mono (by decide)) B_Thing_init .nil pass0 (pa_cons (pv 0) (pa_cons (pe_comp (own := ["node"]) (cap := []) (ix := []) rfl (show CompScope ["self", "nodes"] (defScope s_Forest_init) _ ["node"] [] [] from ⟨rfl, by decide +kernel, by decide +kernel, by decide +kernel, by decide +kernel, by decide +kernel, by decide +kernel, rfl, by decide +kernel⟩) (pi_list (pv 1)) (fun C s₀ H₀ ex pn => ⟨pg_name (i := 0) (show (["node"] : List Str).Nodup by decide +kernel) rfl (Or.inl rfl), pifs_nil, (pe_ix (show IxR _ (rIxT K) from ix_tup) (pv 0) pe_int (fun _ _ => rfl))⟩)) pa_nil))))
      (@pss_one _ _ _ (ps_fld (pv 0) (pe_callTy call_tupL rfl T.tuple PyProof.Rows.boot_tuple (pa_cons (pv 1) pa_nil)) rfl)))), ?_⟩
    and_intros
    refine ⟨v, rfl, t, fun hg H1 s1 => ?_, fun hb H1 s1 => kb hb H1 fun b o _ e => s1 b o e⟩
    obtain ⟨a, xs, ns, rfl, ha, hl, hn, hd⟩ := hg
    and_intros
    refine tcomp_list (a := a) (xs := xs) (H1 := H1) (fun R r => ⟨_, rfl, a, rfl, ⟨_, SqL.of (s1 _ _ ha)⟩, r⟩) (fun i ys H' => H' = H1 ∧ ys = (ns.take i).map fun n => V.str n.1) ⟨rfl, rfl⟩ (fun i ys H' _ ⟨e, _⟩ => e ▸ SqL.of (s1 _ _ ha)) ?_ ?_
    · rintro i x ys H' R hx ⟨rfl, rfl⟩ hR
      obtain ⟨n, en, hx'⟩ := hn.get hx
      obtain ⟨tt, e, h2⟩ := hx'
      subst e
      simp only [tYes]
      and_intros
      refine ⟨_, SqT.of (s1 _ _ h2), _, rfl, ?_, hR _ _ ⟨rfl, ?_⟩⟩
      · rw [List.length_map, List.length_take]; exact small1000 (by have := hn.length; omega)
      · rw [List.take_add_one, en, List.map_append]; rfl
    · rintro ys H' ⟨rfl, rfl⟩
      have hlen := hn.length
      rw [hlen, List.take_length]
      refine ⟨by rw [List.length_map]; exact Nat.le_of_lt (small1000 (by omega)), fun l hl' => ?_⟩
      have s2 := s1.upd (o := .lst (ns.map fun n => V.str n.1)) hl'
      refine ⟨p, dx, l, _, ad.Forest, rfl, .inr (.inr rfl), s2 _ _ hp, upd_same, fun t1 ht1 => ?_⟩
      have s3 := s2.upd (o := .tup (ns.map fun n => V.str n.1)) ht1
      have sb : ∀ o, SameBut p H (upd (upd (upd H' l (.lst (ns.map fun n => V.str n.1))) t1 (.tup (ns.map fun n => V.str n.1))) p o) := fun o b u hb e => by rw [upd_ne hb]; exact s3 _ _ e
      have nap : a ≠ p := ne_of ha hp (fun z => nomatch z)
      refine ⟨xs, SqL.of (sb _ a _ nap ha), fun t2 ht2 => ⟨ad.Forest, dx, [("spot_marks", .ref t1)], ?_, T.cl_Forest, T.na_Forest_nodes, by show 1 < 1000; decide, ?_⟩⟩
      · rw [upd_ne (ne_of_none upd_same ht2)]; exact upd_same
      · rw [putF2 (by decide +kernel)]
        have n2p : t2 ≠ p := Ne.symm (ne_of_none upd_same ht2)
        have n1p : t1 ≠ p := Ne.symm (ne_of_none (s2 _ _ hp) ht1)
        have t1a : ∀ o, (upd (upd (upd H' l (.lst (ns.map fun n => V.str n.1))) t1 (.tup (ns.map fun n => V.str n.1))) p o) t1 = some (.tup (ns.map fun n => V.str n.1)) := fun o => by rw [upd_ne n1p]; exact upd_same
        have sF : ∀ o, SameBut p H (upd (upd (upd (upd (upd H' l (.lst (ns.map fun n => V.str n.1))) t1 (.tup (ns.map fun n => V.str n.1))) p (.ins ad.Forest dx [("spot_marks", .ref t1)])) t2 (.tup xs)) p o) := fun o b u hb e => by
          rw [upd_ne hb, upd_ne (ne_of_none (sb _ b u hb e) ht2)]
          exact sb _ b u hb e
        refine kg a xs ns rfl ha hl hn hd _ ⟨dx, t1, t2, xs, upd_same, ?_, ?_, ?_⟩ (sF _)
        · rw [upd_ne n1p, upd_ne (ne_of_none (t1a _) ht2)]; exact t1a _
        · rw [upd_ne n2p]; exact upd_same
        · exact hn.tups fun b ys e => sF _ b _ (ne_of e hp (fun z => nomatch z)) e
theorem ok_Forest_many {f : Addr} {fd : FuncData} (F : Fun K "many" "Forest.many" s_Forest_many f fd) (T : Txt K mg ad) : FnOk P w K mg base CX0 1 f fd ["self"] (sp_many ad) := by
  refine F.ok sc_Forest_many (fun vs H Q E h => ?_) (fun cdv A outer s H vs Q E hr h => ?_)
  · obtain ⟨p, ns, rfl, _⟩ := h
    rfl
  · obtain ⟨p, ns, rfl, ⟨dx, t1, t2, xs, h1, h2, h3, h4⟩, k⟩ := h
    refine ⟨_, (@pss_one _ _ _ (ps_ret (pe_callB call_lenT rfl T.len PySem.boot_len (pa_cons (pe_fld (pv 0) rfl) pa_nil)))), ?_⟩
    and_intros
    refine ⟨ad.Forest, dx, _, h1, T.cl_Forest, T.na_Forest_nodes, .ref t2, lookup2 (by decide +kernel), t2, rfl, _, SqT.of h3, ?_⟩
    rw [h4.length]
    exact k
theorem ok_Forest_left {f : Addr} {fd : FuncData} (F : Fun K "left" "Forest.left" s_Forest_left f fd) (T : Txt K mg ad) {f_check_places : Addr} {fd_check_places : FuncData} (G_check_places : FnOk P w K mg base (CX1 P w) 2 f_check_places fd_check_places ["places", "many"] (sp_check_places ad)) {f_Forest_many : Addr} {fd_Forest_many : FuncData} (G_Forest_many : FnOk P w K mg base CX0 1 f_Forest_many fd_Forest_many ["self"] (sp_many ad)) {f_Forest_init : Addr} {fd_Forest_init : FuncData} (G_Forest_init : FnOk P w K mg base (CX1 P w) 4 f_Forest_init fd_Forest_init ["self", "nodes"] (sp_Forest_init ad)) (D_check_places : Def K mg "check_places" s_check_places ["places", "many"] f_check_places fd_check_places) (B_Forest_many : Binds K fd_Forest_many ["self"] []) (B_Forest_init : Binds K fd_Forest_init ["self", "nodes"] []) (ME_Forest_many : Meth K ad.Forest "many" f_Forest_many) (M_Forest : Mk K ad.Forest f_Forest_init) : FnOk P w K mg base (CX1 P w) 6 f fd ["self", "places"] (sp_Forest_left ad) := by
  refine F.okX sc_Forest_left (fun vs H Q E h => ?_) (fun cdv A outer s H vs Q E hr h => ?_)
  · obtain ⟨p, v, ns, rfl, _⟩ := h
    rfl
  · obtain ⟨p, v, ns, rfl, hp, hd, hl, t, kg, kb⟩ := h
    have hu := hr.units
    refine ⟨_, (@pss_cons _ _ _ _ _ (ps_expr (pe_call G_check_places (hr.mono (by decide)) rfl D_check_places.mg D_check_places.F.kp D_check_places.b .nil pass1 (pa_cons (pv 1) (pa_cons (pe_meth0 (pv 0) T.cl_Forest ME_Forest_many G_Forest_many (hr.mono (by decide)) B_Forest_many .nil pass0) pa_nil))))
      (@pss_cons _ _ _ _ _ (ps_set (i := 2) sc_Forest_left.nd rfl (Or.inl rfl) (pe_callTy (call_dictP rfl) rfl T.dict PyProof.Rows.boot_dict (pa_cons (pe_comp (own := ["place"]) (cap := []) (ix := []) rfl (show CompScope ["self", "places", "kept", "rest", "above", "place", "node", "depth"] (defScope s_Forest_left) _ ["place"] [] [] from ⟨rfl, by decide +kernel, by decide +kernel, by decide +kernel, by decide +kernel, by decide +kernel, by decide +kernel, rfl, by decide +kernel⟩) (pi_list (pv 1)) (fun C s₀ H₀ ex pn => ⟨pg_name (i := 0) (show (["place"] : List Str).Nodup by decide +kernel) rfl (Or.inl rfl), pifs_nil, (pe_tup (pa_cons (pv 0) (pa_cons pe_bl pa_nil)))⟩)) pa_nil)))
      (@pss_cons _ _ _ _ _ (ps_set (i := 3) sc_Forest_left.nd rfl (Or.inl rfl) (pe_lst pa_nil))
      (@pss_cons _ _ _ _ _ (ps_set (i := 4) sc_Forest_left.nd rfl (Or.inl rfl) (pe_lst (pa_cons pe_int pa_nil)))
      (@pss_cons _ _ _ _ _ (ps_for PassesOwn.leaving rfl (pi_enumT rfl T.enumerate (pa_cons (pe_fld (pv 0) rfl) pa_nil)) (pg_tup (n := 2) rfl (pgs_cons (pg_name (i := 5) sc_Forest_left.nd rfl (Or.inl rfl)) (pgs_cons (pg_name (i := 6) sc_Forest_left.nd rfl (Or.inl rfl)) pgs_nil)))
      (@pss_cons _ _ _ _ _ (ps_set (i := 4) sc_Forest_left.nd rfl (Or.inl rfl) (pe_slice sl_list (pv 4) po_none (po_some (pe_op op_add (pe_ix ix_tup (pv 6) pe_int (fun _ _ => rfl)) pe_int))))
      (@pss_cons _ _ _ _ _ (ps_set (i := 7) sc_Forest_left.nd rfl (Or.inl rfl) (pe_ix ix_list (pv 4) (pe_un un_neg pe_int) (fun _ _ => rfl)))
      (@pss_one _ _ _ (ps_if (pt_cmp (pc_din (hu1 hu) (pv 5) (pv 2)))
      (@pss_cons _ _ _ _ _ (ps_expr (pe_bm PySem.F.plainAttrs_list PySem.F.slot_list_append PySem.F.type_list_append mt_append (pv 3) (pa_cons (pe_tup (pa_cons (pe_ix ix_tup (pv 6) pe_int (fun _ _ => rfl)) (pa_cons (pv 7) pa_nil))) pa_nil)))
      (@pss_one _ _ _ (ps_expr (pe_bm PySem.F.plainAttrs_list PySem.F.slot_list_append PySem.F.type_list_append mt_append (pv 4) (pa_cons (pe_op op_add (pv 7) pe_int) pa_nil)))))
      (@pss_one _ _ _ (ps_expr (pe_bm PySem.F.plainAttrs_list PySem.F.slot_list_append PySem.F.type_list_append mt_append (pv 4) (pa_cons (pv 7) pa_nil)))))))))
      (@pss_one _ _ _ (ps_ret (pe_make M_Forest G_Forest_init (hr.mono (by decide)) rfl T.c_Forest B_Forest_init .nil pass1 (pa_cons (pv 3) pa_nil))))))))), ?_⟩
    obtain ⟨dx, t1, t2, xs, h1, h2, h3, h4⟩ := id hp
    refine tseq_open fun B hB => ?_
    and_intros
    refine ⟨dx, _, h1, lookup_no (by decide +kernel) (by decide +kernel), p, ns, rfl, hp, v, _, rfl, t, fun hg H1 s1 => ?_, fun hb H1 s1 => kb hb H1 s1⟩
    obtain ⟨a, ps, rfl, ha, hok⟩ := hg
    have lps := places_len hok (by omega)
    subst hB
    refine tseq_open fun B hB => ?_
    and_intros
    refine tcomp_list (a := a) (xs := ps.map V.int) (H1 := H1) (fun R rr => ⟨_, rfl, a, rfl, ⟨_, SqL.of (s1 _ _ ha)⟩, rr⟩) (fun i ys H' => Same H1 H' ∧ RowsAt .tup H' ys ((ps.take i).map fun q => [V.int q, V.bl true])) ⟨Same.refl _, trivial⟩ (fun i ys H' _ ⟨e, _⟩ => SqL.of (e _ _ (s1 _ _ ha))) ?_ ?_
    · rintro i x ys H' R hx ⟨s2, hy⟩ hR
      rw [List.getElem?_map] at hx
      obtain ⟨q, eq, rfl⟩ := Option.map_eq_some_iff.mp hx
      simp only [tYes]
      and_intros
      refine ⟨by decide, fun u hu' => ⟨?_, hR _ _ ⟨s2.upd hu', ?_⟩⟩⟩
      · rw [hy.length, List.length_map, List.length_take]; exact small1000 (by omega)
      · rw [List.take_add_one, eq, List.map_append]
        exact (hy.same (Same.put hu')).append ⟨⟨u, rfl, upd_same⟩, trivial⟩
    · rintro ys H' ⟨s2, hy⟩
      rw [show (ps.map V.int).length = ps.length from List.length_map _, List.take_length] at hy
      have hyl : ys.length = ps.length := by rw [hy.length, List.length_map]
      refine ⟨Nat.le_of_lt (small1000 (by omega)), fun D hD => ?_⟩
      have s3 := s1.trans (s2.upd (o := .lst ys) hD)
      have hy3 := hy.same (Same.put (o := .lst ys) hD)
      have fD : (upd H' D (.lst ys)) D = some (.lst ys) := upd_same
      generalize (upd H' D (.lst ys)) = H3 at s3 hy3 fD ⊢
      refine ⟨D, rfl, ys, SqL.of fD, ps.map (fun q => ((Sum.inl q : Key), V.bl true)), by rw [List.length_map, hyl], by rw [List.length_map]; omega, fun j y pr e1 e2 => ?_, fun d hd1 => ?_⟩
      · obtain ⟨n, e3, u, e4, h5⟩ := hy3.get e1
        rw [List.getElem?_map] at e2 e3
        obtain ⟨q, eq, rfl⟩ := Option.map_eq_some_iff.mp e2
        rw [eq] at e3
        cases e3
        exact ⟨u, e4, h5⟩
      have hin : ∀ j : Int, (valV ((ps.map fun q => ((Sum.inl q : Key), V.bl true)).foldl (fun a p => putK a p.1 p.2) []) (Sum.inl j)).isSome = decide (j ∈ ps) := fun j => by rw [fold_val]; simp [valV]
      generalize ((ps.map fun q => ((Sum.inl q : Key), V.bl true)).foldl (fun a p => putK a p.1 p.2) []) = kvs at hin ⊢
      have s4 := s3.upd (o := .dK kvs) hd1
      have fd4 : (upd H3 d (.dK kvs)) d = some (.dK kvs) := upd_same
      generalize (upd H3 d (.dK kvs)) = H4 at s4 fd4 ⊢
      subst hB
      refine tseq_open fun B hB => ?_
      and_intros
      refine ⟨by decide, fun r1 hr1 => ?_⟩
      subst hB
      refine tseq_open fun B hB => ?_
      and_intros
      refine ⟨by decide, fun a1 ha1 => ?_⟩
      subst hB
      refine tseq_open fun B hB => ?_
      and_intros
      have nr : a1 ≠ r1 := fun z => by rw [z, upd_same] at ha1; cases ha1
      have ha0 : H4 a1 = none := by rw [upd_ne nr] at ha1; exact ha1
      have s40 : Same H4 (upd (upd H4 r1 (.lst [])) a1 (.lst [.int 0])) := (Same.put hr1).upd ha1
      have f1 : (upd (upd H4 r1 (.lst [])) a1 (.lst [.int 0])) r1 = some (.lst []) := by rw [upd_ne (Ne.symm nr)]; exact upd_same
      have f2 : (upd (upd H4 r1 (.lst [])) a1 (.lst [.int 0])) a1 = some (.lst [.int 0]) := upd_same
      generalize (upd (upd H4 r1 (.lst [])) a1 (.lst [.int 0])) = H5 at s40 f1 f2 ⊢
      have s5 := s4.trans s40
      refine ⟨_, rfl, p, ad.Forest, dx, _, .ref t2, rfl, s5 _ _ h1, T.cl_Forest, T.na_Forest_nodes, lookup2 (by decide +kernel), t2, rfl, ⟨_, SqT.of (s5 _ _ h3)⟩, for_enumT (xs := xs) (fun i σ H' => Same H4 H' ∧ ∃ (rs : List V) (ab : Addr) (o5 o6 o7 : Option V), H' r1 = some (.lst rs) ∧ NodesAt H' rs ((below ps i).map (nodeL ns ps)) ∧ H' ab = some (.lst ((cntL ps (way (ns.take i))).map V.int)) ∧ H4 ab = none ∧ ab ≠ r1 ∧ StIs σ [some (.ref p), some (.ref a), some (.ref d), some (.ref r1), some (.ref ab), o5, o6, o7]) ⟨s40, [], a1, none, none, none, f1, ?_, f2, ha0, nr, StIs.rfl⟩ ?_ ?_ ?_⟩
      · rw [below_none (i := 0) hok (by omega)]; trivial
      · rintro i σ H' _ ⟨s6, _⟩
        exact SqT.of (s6 _ _ (s4 _ _ h3))
      · rintro i x σ H' T' hx ⟨s6, rs, ab, o5, o6, o7, hr, hn6, hab, hab0, nab, rfl⟩ hT
        obtain ⟨n, en, tt, ex, ht⟩ := h4.get hx
        subst ex
        obtain ⟨hm, d0, d12⟩ := depth12 hd en
        have hi : i < ns.length := (List.getElem?_eq_some_iff.mp en).1
        have s7 := Same.put (o := .tup [.int i, .ref tt]) hT
        have fT : (upd H' T' (.tup [.int i, .ref tt])) T' = some (.tup [.int i, .ref tt]) := upd_same
        generalize (upd H' T' (.tup [.int i, .ref tt])) = H7 at s7 fT ⊢
        refine ⟨T', _, rfl, SqT.of fT, rfl, ?_⟩
        and_intros
        have eC : cutV ((cntL ps (way (ns.take i))).map V.int) none (some (n.2 + 1)) = (cntL ps ((way (ns.take i)).take n.2.toNat)).map V.int := by
          rw [cut_to (n := n.2.toNat + 1) (by omega), ← List.map_take, cntL_take]
        have s47 := s6.trans s7
        refine ⟨_, SqT.of (s47 _ _ (s4 _ _ ht)), _, rfl, n.2, rfl, _, SqL.of (s7 _ _ hab), fun a2 ha2 => ?_⟩
        rw [eC]
        have eW := way_take en
        have eN : nodeL ns ps (i : Int) = (n.1, ((kept ps ((way (ns.take i)).take n.2.toNat)).length : Int)) := by
          unfold nodeL
          rw [Int.toNat_natCast, anc_of en, List.getD_eq_getElem?_getD, en]
          rfl
        have eS := cntL_snoc ps ((way (ns.take i)).take n.2.toNat) i
        rw [← eW] at eS
        have lW : ((way (ns.take i)).take n.2.toNat).length ≤ i := by rw [List.length_take]; have := way_len (ns := ns) i (by omega); omega
        generalize ((way (ns.take i)).take n.2.toNat) = Wd at eN eS lW ⊢
        have eL := cntL_at ps Wd
        have lC : ((cntL ps Wd).map V.int).length < sizeLine := by rw [List.length_map, cntL_len]; exact small1000 (by omega)
        have lR : rs.length < sizeLine := by
          have e1 := hn6.length
          have e2 : (below ps i).length ≤ ps.length := List.length_filter_le ..
          rw [List.length_map] at e1
          exact small1000 (by omega)
        generalize hcc : ((kept ps Wd).length : Int) = cc at eN eS eL ⊢
        have na2 : r1 ≠ a2 := ne_of_none (s7 _ _ hr) ha2
        have h40 : H4 a2 = none := Same.none s47 ha2
        have s8 := Same.put (o := .lst ((cntL ps Wd).map V.int)) ha2
        have f8 : (upd H7 a2 (.lst ((cntL ps Wd).map V.int))) a2 = some (.lst ((cntL ps Wd).map V.int)) := upd_same
        generalize (upd H7 a2 (.lst ((cntL ps Wd).map V.int))) = H8 at s8 f8 ⊢
        have s48 := s47.trans s8
        refine ⟨_, SqL.of f8, _, eL, _, (show DGet H8 d (V.int (i : Int)) _ from DGet.k (k := Sum.inl (i : Int)) (s48 _ _ fd4)), ?_⟩
        rw [hin]
        by_cases hk : (i : Int) ∈ ps
        · rw [if_pos (decide_eq_true hk)]
          rw [if_pos hk] at eS
          refine ⟨.inl ⟨rfl, _, SqL.of (s8 _ _ (s7 _ _ hr))⟩, _, SqT.of (s48 _ _ (s4 _ _ ht)), _, rfl, by decide, fun t3 ht3 => ?_⟩
          have s9 := Same.put (o := .tup [.str n.1, .int cc]) ht3
          have f9 : (upd H8 t3 (.tup [.str n.1, .int cc])) t3 = some (.tup [.str n.1, .int cc]) := upd_same
          generalize (upd H8 t3 (.tup [.str n.1, .int cc])) = H9 at s9 f9 ⊢
          have g2 := s9 _ _ f8
          have gr := s9 _ _ (s8 _ _ (s7 _ _ hr))
          refine ⟨rs, gr, lR, .inl ⟨rfl, _, SqL.of (by rw [upd_ne (Ne.symm na2)]; exact g2)⟩, cc, rfl, (cntL ps Wd).map V.int, by rw [upd_ne (Ne.symm na2)]; exact g2, lC, fun b o e => ?_, rs ++ [.ref t3], by rw [upd_ne na2]; exact upd_same, ?_, a2, ?_, h40, Ne.symm na2, _, _, _, StIs.rfl⟩
          · rw [upd_ne (ne_of_none e h40), upd_ne (ne_of_none e hr1)]
            exact s9 _ _ (s48 _ _ e)
          · have up : ∀ b ys, H9 b = some (.tup ys) → (upd (upd H9 r1 (.lst (rs ++ [.ref t3]))) a2 (.lst ((cntL ps Wd).map V.int ++ [.int (cc + 1)]))) b = some (.tup ys) := fun b ys e => by
              rw [upd_ne (ne_of e g2 (fun z => nomatch z)), upd_ne (ne_of e gr (fun z => nomatch z))]
              exact e
            rw [below_succ hok, if_pos hk, List.map_append]
            refine NodesAt.append (hn6.tups fun b ys e => up b ys (s9 _ _ (s8 _ _ (s7 _ _ e)))) ⟨⟨t3, rfl, ?_⟩, trivial⟩
            rw [eN]
            exact up _ _ f9
          · rw [eS, List.map_append]
            exact upd_same
        · rw [if_neg (by simp [hk])]
          rw [if_neg hk, Int.add_zero] at eS
          refine ⟨.inl ⟨rfl, _, SqL.of f8⟩, _, f8, lC, fun b o e => ?_, rs, by rw [upd_ne na2]; exact s8 _ _ (s7 _ _ hr), ?_, a2, ?_, h40, Ne.symm na2, _, _, _, StIs.rfl⟩
          · rw [upd_ne (ne_of_none e h40)]
            exact s48 _ _ e
          · rw [below_succ hok, if_neg hk, List.append_nil]
            refine hn6.tups fun b ys e => ?_
            rw [upd_ne (ne_of (s8 _ _ (s7 _ _ e)) f8 (fun z => nomatch z))]
            exact s8 _ _ (s7 _ _ e)
          · rw [eS, List.map_append]
            exact upd_same
      · rintro σ H' ⟨s6, rs, ab, o5, o6, o7, hr, hn6, hab, hab0, nab, rfl⟩
        have ex : xs.length = ns.length := h4.length
        rw [ex, below_all hok] at hn6
        have s46 := s4.trans s6
        have hLl : (leftN ns ps).length = ps.length := List.length_map _
        have hlN : rs.length ≤ 40 := by
          have := hn6.length
          rw [List.length_map] at this
          omega
        have hdN := left_ok hd hok
        have n8 : ∀ n ∈ leftN ns ps, n.1.length ≤ 1000 := fun n h => by have := (mark_all (depthOk_all hdN n h).1).2.1; omega
        dsimp only
        subst hB
        and_intros
        intro x6 dx6 hx hdx hne
        have s67 : Same H' (upd (upd H' dx6 (.own x6)) x6 (.ins ad.Forest dx6 [])) := (Same.put hdx).upd (by rw [upd_ne (Ne.symm hne)]; exact hx)
        have hr7 := s67 _ _ hr
        have hn7 : NodesAt _ rs (leftN ns ps) := hn6.same s67
        refine ⟨x6, dx6, .ref r1, rfl, upd_same, thg4_lst hr7 (hn7.thg3 n8), fun a' xs' ns' e h hl' hm' hd' H8 hfor sb => ⟨rfl, ?_⟩, fun hb => absurd ⟨r1, _, _, rfl, hr7, hlN, hn7, hdN⟩ hb⟩
        cases e
        rw [hr7] at h
        cases h
        have := hm'.uniq hn7
        subst this
        have s68 : Same H' H8 := fun b o e => sb b o (ne_of_none e hx) (s67 b o e)
        exact kg a ps rfl ha hok x6 H8 (s46.trans s68) hfor
theorem ok_Forest_form {f : Addr} {fd : FuncData} (F : Fun K "form" "Forest.form" s_Forest_form f fd) (T : Txt K mg ad) : FnOk P w K mg base CX0 1 f fd ["self"] (sp_form ad) := by
  refine F.ok sc_Forest_form (fun vs H Q E h => ?_) (fun cdv A outer s H vs Q E hr h => ?_)
  · obtain ⟨p, ns, rfl, _⟩ := h
    rfl
  · obtain ⟨p, ns, rfl, ⟨dx, t1, t2, xs, h1, h2, h3, h4⟩, k⟩ := h
    refine ⟨_, (@pss_one _ _ _ (ps_ret (pe_tup (pa_cons pe_str (pa_cons (pe_fld (pv 0) rfl) pa_nil))))), ?_⟩
    and_intros
    refine ⟨ad.Forest, dx, _, h1, T.cl_Forest, T.na_Forest_nodes, .ref t2, lookup2 (by decide +kernel), by decide, fun l hl => k t2 xs l h3 h4 hl⟩
theorem ok_Table_init {f : Addr} {fd : FuncData} (F : Fun K "__init__" "Table.__init__" s_Table_init f fd) (T : Txt K mg ad) : FnOk P w K mg base (CX1 P w) 1 f fd ["self", "lines"] sp_Table_init := by
  exact F.okX sc_Table_init (fun vs H Q E h => h.elim) (fun cdv A outer s H vs Q E hr h => h.elim)
theorem ok_show_line {f : Addr} {fd : FuncData} (D : Def K mg "show_line" s_show_line ["line"] f fd) (T : Txt K mg ad) : FnOk P w K mg base CX0 1 f fd ["line"] sp_show_line := by
  exact D.F.ok sc_show_line (fun vs H Q E h => h.elim) (fun cdv A outer s H vs Q E hr h => h.elim)
theorem ok_signs_between {f : Addr} {fd : FuncData} (D : Def K mg "signs_between" s_signs_between ["last", "depth"] f fd) (T : Txt K mg ad) : FnOk P w K mg base CX0 1 f fd ["last", "depth"] sp_signs_between := by
  refine D.F.ok sc_signs_between (fun vs H Q E h => ?_) (fun cdv A outer s H vs Q E hr h => ?_)
  · obtain ⟨d, e, rfl, _⟩ := h
    rfl
  · obtain ⟨d, e, rfl, hd, k⟩ := h
    refine ⟨_, (@pss_cons _ _ _ _ _ (ps_if (pt_cmpR op_gt (pv 1) (pv 0) (nomark _))
      (@pss_one _ _ _ (ps_ret pe_str))
      pss_nil)
      (@pss_one _ _ _ (ps_ret (pe_op op_add_str (pe_op op_mulS pe_str (pe_op op_sub (pv 0) (pv 1))) pe_str)))), ?_⟩
    refine tseq_open fun B hB => ?_
    and_intros
    refine ite2 (fun h => ?_) fun h => ?_
    · have q := k
      unfold sgL at q
      rw [if_pos (by omega)] at q
      exact q
    subst hB
    and_intros
    have q := k
    unfold sgL at q
    rw [if_neg (by omega), ← mkS_app] at q
    refine ⟨by decide +kernel, by omega, by omega, ?_⟩
    rw [show (d : Int) - (e : Int) = ((d - e : Nat) : Int) by omega, mul_close]
    refine ⟨?_, q⟩
    have : (mkS (closes (d - e))).length = d - e := List.length_replicate
    have c1 : (Str.ofString ",").length = 1 := by decide +kernel
    exact Nat.le_of_lt (small1000 (by show (mkS (closes (d - e))).length + _ ≤ 1000; omega))
theorem ok_show_nodes {f : Addr} {fd : FuncData} (D : Def K mg "show_nodes" s_show_nodes ["nodes"] f fd) (T : Txt K mg ad) {f_signs_between : Addr} {fd_signs_between : FuncData} (G_signs_between : FnOk P w K mg base CX0 1 f_signs_between fd_signs_between ["last", "depth"] sp_signs_between) (D_signs_between : Def K mg "signs_between" s_signs_between ["last", "depth"] f_signs_between fd_signs_between) : FnOk P w K mg base CX0 2 f fd ["nodes"] (sp_show_nodes K) := by
  refine D.F.ok sc_show_nodes (fun vs H Q E h => ?_) (fun cdv A outer s H vs Q E hr h => ?_)
  · obtain ⟨t, ys, ns, rfl, _⟩ := h
    rfl
  · obtain ⟨t, ys, ns, rfl, ht, hn, hd, hl, k⟩ := h
    refine ⟨_, (@pss_cons _ _ _ _ _ (ps_set (i := 1) sc_show_nodes.nd rfl (Or.inl rfl) pe_str)
      (@pss_cons _ _ _ _ _ (ps_set (i := 2) sc_show_nodes.nd rfl (Or.inl rfl) pe_int)
      (@pss_cons _ _ _ _ _ (ps_for PassesOwn.never rfl (pi_tup (pv 0)) (pg_tup (n := 2) rfl (pgs_cons (pg_name (i := 3) sc_show_nodes.nd rfl (Or.inl rfl)) (pgs_cons (pg_name (i := 4) sc_show_nodes.nd rfl (Or.inl rfl)) pgs_nil)))
      (@pss_cons _ _ _ _ _ (ps_if (pt_truth (pv 1) (fun _ => rfl))
      (@pss_one _ _ _ (ps_aug (i := 1) sc_show_nodes.nd rfl (Or.inl rfl) (pe_call G_signs_between (hr.mono (by decide)) rfl D_signs_between.mg D_signs_between.F.kp D_signs_between.b .nil pass0 (pa_cons (pv 2) (pa_cons (pv 4) pa_nil))) ip_addS))
      pss_nil)
      (@pss_cons _ _ _ _ _ (ps_aug (i := 1) sc_show_nodes.nd rfl (Or.inl rfl) (pv 3) ip_addS)
      (@pss_one _ _ _ (ps_set (i := 2) sc_show_nodes.nd rfl (Or.inl rfl) (pv 4))))))
      (@pss_one _ _ _ (ps_ret (pe_op op_add_str (pv 1) (pe_op op_mulS pe_str (pv 2)))))))), ?_⟩
    have il := ins_len hd hl
    refine tseq_open fun B hB => ?_
    and_intros
    subst hB
    refine tseq_open fun B hB => ?_
    and_intros
    subst hB
    refine tseq_open fun B hB => ?_
    refine ⟨_, rfl, t, rfl, ⟨_, ht⟩, for_tup (xs := ys) (fun i σ H' => H' = H ∧ ∃ (L : List Nat) (e : Nat), ((i = 0 ∧ L = [] ∧ e = 0) ∨ (0 < i ∧ L ≠ [] ∧ L ++ restF e ((ns.drop i).map toW) = insL ns)) ∧ e ≤ 12 ∧ ∃ o3 o4 : Option V, StIs σ [some (.ref t), some (.str (mkS L)), some (.int (e : Nat)), o3, o4]) ⟨rfl, [], 0, .inl ⟨rfl, rfl, rfl⟩, by decide, none, none, StIs.rfl⟩ (fun i σ H' _ ⟨e, _⟩ => e ▸ ht) ?_ ?_⟩
    · rintro i x σ H' hx ⟨rfl, L, e, hL, he, o3, o4, rfl⟩
      obtain ⟨n, en, tn, ex, htn⟩ := hn.get hx
      subst ex
      have hm := List.mem_of_getElem? en
      have hda := depthOk_all hd n hm
      have h12 := deepF12 hd (by omega) n hm
      obtain ⟨m, d⟩ := n
      obtain ⟨dn, edn⟩ := Int.eq_ofNat_of_zero_le (show 0 ≤ d from hda.2)
      subst edn
      have h12' : (dn : Int) ≤ 12 := h12
      have l8 := mark_all (show markS m = true from hda.1)
      have l8' : m.cps.toList.length ≤ 8 := l8.2.1
      have l1' : 1 ≤ m.cps.toList.length := l8.1
      have edr : (ns.drop i).map toW = (m.cps.toList, dn) :: (ns.drop (i + 1)).map toW := by
        have hi := (List.getElem?_eq_some_iff.mp en).1
        rw [List.drop_eq_getElem_cons hi, (List.getElem?_eq_some_iff.mp en).2]
        rfl
      and_intros
      rcases hL with ⟨rfl, rfl, rfl⟩ | ⟨hi0, hne, hL⟩
      · refine ⟨_, SqT.of htn, rfl, _, _, rfl, _, _, rfl, rfl, false, ⟨by decide, rfl⟩, ?_⟩
        rw [if_neg (by decide)]
        have em : mkS [] ++ m = mkS m.cps.toList := by rw [mkS_of]; exact Str.empty_append m
        have e0 : ns = (m, (dn : Int)) :: ns.drop 1 := by
          have hi := (List.getElem?_eq_some_iff.mp en).1
          conv => lhs; rw [← List.drop_zero (l := ns), List.drop_eq_getElem_cons hi, (List.getElem?_eq_some_iff.mp en).2]
        have d0 : dn = 0 := by
          rw [e0] at hd
          have := hd.2.2.1
          have : (dn : Int) ≤ 0 := this
          omega
        subst d0
        refine ⟨m, rfl, big9 (by show 0 + m.length ≤ _; have := l8.2.1; omega), m.cps.toList, 0, .inr ⟨Nat.succ_pos _, fun z => by rw [z] at l1'; exact absurd l1' (by decide), ?_⟩, by decide, some (.str m), some (.int ((0 : Nat) : Int)), by rw [em]; exact StIs.rfl⟩
        conv => rhs; rw [e0]
        rfl
      · rw [edr] at hL
        have hL' : L ++ sgL e dn ++ m.cps.toList ++ restF dn ((ns.drop (i + 1)).map toW) = insL ns := by
          rw [← hL, List.append_assoc, List.append_assoc]
          show _ = L ++ ((sgL e dn ++ m.cps.toList) ++ restF dn _)
          rw [List.append_assoc]
        have ll := congrArg List.length hL'
        rw [List.length_append, List.length_append, List.length_append] at ll
        have lL : (mkS L).length = L.length := rfl
        have lp := List.length_pos_iff.mpr hne
        have em : mkS L ++ mkS (sgL e dn) ++ m = mkS (L ++ sgL e dn ++ m.cps.toList) := by
          rw [mkS_app]
          conv => lhs; rw [← mkS_of m]
          rw [mkS_app]
        have ls : (mkS (sgL e dn)).length = (sgL e dn).length := rfl
        have lm : m.length = m.cps.toList.length := rfl
        refine ⟨_, SqT.of htn, rfl, _, _, rfl, _, _, rfl, rfl, true, ⟨big9 (by omega), (bne_iff_ne.mpr (by omega)).symm⟩, ?_⟩
        rw [if_pos rfl]
        refine ⟨e, dn, rfl, by omega, ?_⟩
        refine ⟨_, rfl, big9 (by omega), m, rfl, big9 (by rw [Str.length_append]; omega), rfl, L ++ sgL e dn ++ m.cps.toList, dn, .inr ⟨Nat.succ_pos _, fun z => ?_, hL'⟩, by omega, some (.str m), some (.int (dn : Int)), by rw [em]; exact StIs.rfl⟩
        have := congrArg List.length z
        rw [List.length_append, List.length_append, List.length_nil] at this
        omega
    · rintro σ H' ⟨rfl, L, e, hL, he, o3, o4, rfl⟩
      dsimp only
      subst hB
      and_intros
      have le : L ++ closes e = insL ns := by
        rcases hL with ⟨h0, rfl, rfl⟩ | ⟨h0, _, h⟩
        · have : ns = [] := List.length_eq_zero_iff.mp (by rw [← hn.length]; exact h0)
          rw [this]
          rfl
        · rw [hn.length, List.drop_length] at h
          exact h
      have ll := congrArg List.length le
      rw [List.length_append] at ll
      rw [mul_close]
      have lc : (Str.mk (closes e).toArray).length = (closes e).length := rfl
      have lL : (mkS L).length = L.length := rfl
      refine ⟨by decide +kernel, by omega, by omega, big9 (by omega), ?_⟩
      have q := k H' (Same.refl _)
      unfold insS at q
      rw [← le, ← mkS_app] at q
      exact q
theorem ok_show_thing {f : Addr} {fd : FuncData} (D : Def K mg "show_thing" s_show_thing ["thing"] f fd) (T : Txt K mg ad) {f_Forest_form : Addr} {fd_Forest_form : FuncData} (G_Forest_form : FnOk P w K mg base CX0 1 f_Forest_form fd_Forest_form ["self"] (sp_form ad)) {f_show_nodes : Addr} {fd_show_nodes : FuncData} (G_show_nodes : FnOk P w K mg base CX0 2 f_show_nodes fd_show_nodes ["nodes"] (sp_show_nodes K)) {f_show_line : Addr} {fd_show_line : FuncData} (G_show_line : FnOk P w K mg base CX0 1 f_show_line fd_show_line ["line"] sp_show_line) (D_show_nodes : Def K mg "show_nodes" s_show_nodes ["nodes"] f_show_nodes fd_show_nodes) (D_show_line : Def K mg "show_line" s_show_line ["line"] f_show_line fd_show_line) (B_Forest_form : Binds K fd_Forest_form ["self"] []) (ME_Forest_form : Meth K ad.Forest "form" f_Forest_form) : FnOk P w K mg base CX0 3 f fd ["thing"] (sp_show_thing ad) := by
  refine D.F.ok sc_show_thing (fun vs H Q E h => ?_) (fun cdv A outer s H vs Q E hr h => ?_)
  · obtain ⟨p, ns, rfl, _⟩ := h
    rfl
  · obtain ⟨p, ns, rfl, hT, k⟩ := h
    refine ⟨_, (@pss_cons _ _ _ _ _ (ps_set (i := 1) sc_show_thing.nd rfl (Or.inl rfl) (pe_meth0 (pv 0) T.cl_Forest ME_Forest_form G_Forest_form (hr.mono (by decide)) B_Forest_form .nil pass0))
      (@pss_cons _ _ _ _ _ (ps_set (i := 2) sc_show_thing.nd rfl (Or.inl rfl) (pe_ix ix_tup (pv 1) pe_int (fun _ _ => rfl)))
      (@pss_cons _ _ _ _ _ (ps_if (pt_cmpR op_eq (pv 2) pe_str (nomark _))
      (@pss_one _ _ _ (ps_set (i := 3) sc_show_thing.nd rfl (Or.inl rfl) (pe_bm PySem.F.plainAttrs_str PySem.F.slot_str_join PySem.F.type_str_join mt_join pe_str (pa_cons (pe_ix ix_tup (pv 1) pe_int (fun _ _ => rfl)) pa_nil))))
      (@pss_one _ _ _ (ps_if (pt_cmpR op_eq (pv 2) pe_str (nomark _))
      (@pss_one _ _ _ (ps_set (i := 3) sc_show_thing.nd rfl (Or.inl rfl) (pe_call G_show_nodes (hr.mono (by decide)) rfl D_show_nodes.mg D_show_nodes.F.kp D_show_nodes.b .nil pass0 (pa_cons (pe_ix ix_tup (pv 1) pe_int (fun _ _ => rfl)) pa_nil))))
      (@pss_one _ _ _ (ps_set (i := 3) sc_show_thing.nd rfl (Or.inl rfl) (pe_bm PySem.F.plainAttrs_str PySem.F.slot_str_join PySem.F.type_str_join mt_join pe_str (pa_cons (pe_comp (own := ["line"]) (cap := []) (ix := []) rfl (show CompScope ["thing", "form", "kind", "inside"] (defScope s_show_thing) _ ["line"] [] [] from ⟨rfl, by decide +kernel, by decide +kernel, by decide +kernel, by decide +kernel, by decide +kernel, by decide +kernel, rfl, by decide +kernel⟩) (pi_tup (pe_ix ix_tup (pv 1) pe_int (fun _ _ => rfl))) (fun C s₀ H₀ ex pn => ⟨pg_name (i := 0) (show (["line"] : List Str).Nodup by decide +kernel) rfl (Or.inl rfl), pifs_nil, (pe_call G_show_line (hr.mono (by decide)) rfl D_show_line.mg D_show_line.F.kp D_show_line.b .nil pass0 (pa_cons (pv 0) pa_nil))⟩)) pa_nil)))))))
      (@pss_one _ _ _ (ps_ret (pe_ifExp (pt_truth (pv 3) (fun _ => rfl)) (pe_op op_add_str (pe_op op_add_str (pv 2) pe_str) (pv 3)) (pv 2))))))), ?_⟩
    refine tseq_open fun B hB => ?_
    and_intros
    obtain ⟨⟨dx, t1, t2, xs, h1, h2, h3, h4⟩, o1, o2⟩ := id hT
    refine ⟨dx, _, h1, lookup_no (by decide +kernel) (by decide +kernel), p, ns, rfl, hT.1, fun t xs l ht hx hl => ?_⟩
    have s1 := Same.put (o := .tup [V.str (Str.ofString "forest"), V.ref t]) hl
    have f1 : (upd H l (.tup [V.str (Str.ofString "forest"), V.ref t])) l = some (.tup [V.str (Str.ofString "forest"), V.ref t]) := upd_same
    dsimp only
    generalize (upd H l (.tup [V.str (Str.ofString "forest"), V.ref t])) = H1 at s1 f1 ⊢
    have hx1 := hx.same s1
    have ht1 := s1 _ _ ht
    subst hB
    refine tseq_open fun B hB => ?_
    and_intros
    refine ⟨_, SqT.of f1, _, rfl, ?_⟩
    subst hB
    refine tseq_open fun B hB => ?_
    and_intros
    rw [if_neg (by decide +kernel)]
    refine ⟨_, SqT.of f1, _, rfl, t, xs, ns, rfl, SqT.of ht1, hx1, o1, o2, fun H2 s2 => ?_⟩
    have il := ins_len o1 o2
    have f6 : (Str.ofString "forest").length = 6 := by decide +kernel
    have b1 : (Str.ofString " ").length = 1 := by decide +kernel
    have q := k H2 (s1.trans s2)
    unfold textF at q
    have li : (insS ns).length = (insL ns).length := rfl
    subst hB
    and_intros
    cases ns with
    | nil =>
      refine ⟨false, ⟨by decide, rfl⟩, ?_⟩
      rw [if_neg (by decide)]
      rw [if_pos rfl] at q
      exact q
    | cons n r =>
      have m1 := (mark_all (depthOk_all o1 n List.mem_cons_self).1).1
      have m1' : 1 ≤ n.1.cps.toList.length := m1
      have l1 : 1 ≤ (insS (n :: r)).length := by
        show 1 ≤ (n.1.cps.toList ++ restF 0 (r.map toW)).length
        rw [List.length_append]
        omega
      refine ⟨true, ⟨big9 (by omega), (bne_iff_ne.mpr (by omega)).symm⟩, ?_⟩
      rw [if_pos rfl]
      rw [if_neg (List.cons_ne_nil _ _)] at q
      exact ⟨big9 (by omega), big9 (by rw [Str.length_append]; omega), q⟩
theorem ok_nodes_in {f : Addr} {fd : FuncData} (D : Def K mg "nodes_in" s_nodes_in ["text"] f fd) (T : Txt K mg ad) : FnOk P w K mg base CX0 1 f fd ["text"] sp_nodes_in := by
  refine D.F.ok sc_nodes_in (fun vs H Q E h => ?_) (fun cdv A outer s H vs Q E hr h => ?_)
  · obtain ⟨ns, rfl, _⟩ := h
    rfl
  · obtain ⟨ns, rfl, hd, hl, k⟩ := h
    refine ⟨_, (@pss_cons _ _ _ _ _ (ps_set (i := 1) sc_nodes_in.nd rfl (Or.inl rfl) (pe_lst pa_nil))
      (pss_set1 (i := 2) sc_nodes_in.nd rfl (Or.inl rfl) (pss1_cons (ps_for1 PassesOwn.never rfl (pi_list1 (pep_split (pe1_repl (pe1_repl (pe1_repl (pe1_var (i := 0) rfl (by first | exact Or.inl rfl | exact Or.inr (Or.inl rfl) | exact Or.inr (Or.inr rfl)))))))) (pg_name (i := 3) sc_nodes_in.nd rfl (Or.inl rfl))
      (@pss_one _ _ _ (ps_if (pt_cmpR op_eq (pv 3) pe_str (nomark _))
      (@pss_one _ _ _ (ps_aug (i := 2) sc_nodes_in.nd rfl (Or.inl rfl) pe_int ip_add))
      (@pss_one _ _ _ (ps_if (pt_cmpR op_eq (pv 3) pe_str (nomark _))
      (@pss_one _ _ _ (ps_aug (i := 2) sc_nodes_in.nd rfl (Or.inl rfl) pe_int ip_sub))
      (@pss_one _ _ _ (ps_if (pt_cmpR op_ne (pv 3) pe_str (nomark _))
      (@pss_one _ _ _ (ps_expr (pe_bm PySem.F.plainAttrs_list PySem.F.slot_list_append PySem.F.type_list_append mt_append (pv 1) (pa_cons (pe_tup (pa_cons (pv 3) (pa_cons (pv 2) pa_nil))) pa_nil))))
      pss_nil)))))))
      (@pss_one _ _ _ (ps_ret (pv 1)))))), ?_⟩
    have il := ins_len hd hl
    have r1 : Txt.replace (insS ns) (Str.ofString "(") (Str.ofString " ( ") = mkS (repC 40 [32, 40, 32] (insL ns)) := (repl_S (c := 40) (by decide +kernel)).trans (by rw [show (Str.ofString " ( ").cps.toList = [32, 40, 32] by decide +kernel])
    have r2 : Txt.replace (mkS (repC 40 [32, 40, 32] (insL ns))) (Str.ofString ")") (Str.ofString " ) ") = mkS (repC 41 [32, 41, 32] (repC 40 [32, 40, 32] (insL ns))) := (repl_S (c := 41) (by decide +kernel)).trans (by rw [show (Str.ofString " ) ").cps.toList = [32, 41, 32] by decide +kernel])
    have r3 : Txt.replace (mkS (repC 41 [32, 41, 32] (repC 40 [32, 40, 32] (insL ns)))) (Str.ofString ",") (Str.ofString " ") = mkS (sub3 (insL ns)) := (repl_S (c := 44) (by decide +kernel)).trans (by rw [show (Str.ofString " ").cps.toList = [32] by decide +kernel]; rfl)
    have b1 : (Str.ofString " ").length = 1 := by decide +kernel
    have b3 : (Str.ofString " ( ").length = 3 := by decide +kernel
    have b4 : (Str.ofString " ) ").length = 3 := by decide +kernel
    have l0 : (insS ns).length = (insL ns).length := rfl
    have l1 := rep_len (c := 40) (z := [32, 40, 32]) (by decide) (insL ns)
    have l2 := rep_len (c := 41) (z := [32, 41, 32]) (by decide) (repC 40 [32, 40, 32] (insL ns))
    have l3 : (sub3 (insL ns)).length ≤ 3 * (repC 41 [32, 41, 32] (repC 40 [32, 40, 32] (insL ns))).length := rep_len (c := 44) (z := [32]) (by decide) _
    have m1 := mkS_len (repC 40 [32, 40, 32] (insL ns))
    have m2 := mkS_len (repC 41 [32, 41, 32] (repC 40 [32, 40, 32] (insL ns)))
    have m3 := mkS_len (sub3 (insL ns))
    have run := run_ins hd
    have sle : (splitC 32 (sub3 (insL ns))).length ≤ (sub3 (insL ns)).length + 2 := by
      have := PyProof.Rows.split_le (mkS (sub3 (insL ns))) (Str.ofString " ")
      rw [split_S, List.length_map] at this
      exact this
    unfold runW at run
    refine tseq_open fun B hB => ?_
    and_intros
    refine ⟨by decide, fun l0' hl0 => ?_⟩
    have s0 := Same.put (o := .lst []) hl0
    have f0 : (upd H l0' (.lst [])) l0' = some (.lst []) := upd_same
    generalize (upd H l0' (.lst [])) = H1 at s0 f0 ⊢
    subst hB
    refine tseq_open fun B hB => ?_
    and_intros
    subst hB
    refine tseq_open fun B hB => ?_
    refine (show tFor _ _ _ _ _ _ from ?_)
    refine (show iList _ _ _ _ _ from ?_)
    refine split_it (fun J H3 => ∃ lw, J = Itl K lw ∧ H1 lw = none ∧ Same H1 H3 ∧ H3 lw = some (.lst (((splitC 32 (sub3 (insL ns))).map mkS).map V.str))) (fun G hG => ?_) ?_
    · and_intros
      rw [r1, r2, r3, split_S, b3, b4, b1]
      exact ⟨by omega, by omega, by omega, rfl, by decide, big9 (by omega), fun lw hlw => ⟨⟨_, SqL.of upd_same⟩, hG _ _ ⟨lw, rfl, hlw, Same.put hlw, upd_same⟩⟩⟩
    rintro _ H3 ⟨lw, rfl, nlw, s3, hlw⟩
    generalize splitC 32 (sub3 (insL ns)) = W at *
    have lwl : lw ≠ l0' := fun e => by rw [e, f0] at nlw; cases nlw
    refine for_list (xs := (W.map mkS).map V.str) (fun i σ H' => Same H H' ∧ H' lw = some (.lst ((W.map mkS).map V.str)) ∧ ∃ (ys : List V) (st : List NdW × Int), st = (W.take i).foldl stepW ([], 0) ∧ H' l0' = some (.lst ys) ∧ NodesAt H' ys (st.1.map fun n => (mkS n.1, n.2)) ∧ st.1.length ≤ i ∧ ∃ o3 : Option V, StIs σ [some (.str (insS ns)), some (.ref l0'), some (.int st.2), o3]) ⟨s0.trans s3, hlw, [], ([], 0), rfl, s3 _ _ f0, trivial, Nat.le_refl _, none, StIs.rfl⟩ (fun i σ H' _ ⟨_, e, _⟩ => SqL.of e) ?_ ?_
    · rintro i x σ H' hx ⟨s4, hw4, ys, st, est, h4, hr, l5, o3, rfl⟩
      obtain ⟨w, hwi, rfl⟩ : ∃ w, W[i]? = some w ∧ V.str (mkS w) = x := by
        rw [List.getElem?_map, List.getElem?_map] at hx
        obtain ⟨y, hy, e⟩ := Option.map_eq_some_iff.mp hx
        obtain ⟨w, hw, e2⟩ := Option.map_eq_some_iff.mp hy
        exact ⟨w, hw, by rw [e2]; exact e⟩
      have hi := (List.getElem?_eq_some_iff.mp hwi).1
      have est' : (W.take (i + 1)).foldl stepW ([], 0) = stepW st w := by
        rw [List.take_add_one, hwi, List.foldl_append, ← est]
        rfl
      have lr := hr.length
      rw [List.length_map] at lr
      and_intros
      rw [est']
      have k40 : Str.ofString "(" = mkS [40] := by decide +kernel
      have k41 : Str.ofString ")" = mkS [41] := by decide +kernel
      have k0 : Str.ofString "" = mkS [] := by decide +kernel
      refine ite2 (fun e => ?_) fun n1 => ite2 (fun e => ?_) fun n2 => ite2 (fun n3 => ?_) fun n3 => ?_
      · have ew := mkS_inj (e.trans k40)
        have es : stepW st w = (st.1, st.2 + 1) := by unfold stepW; rw [if_pos ew]
        rw [es]
        exact ⟨s4, hw4, ys, h4, hr, Nat.le_succ_of_le l5, _, StIs.rfl⟩
      · have ew := mkS_inj (e.trans k41)
        have es : stepW st w = (st.1, st.2 - 1) := by unfold stepW; rw [if_neg (by rw [ew]; decide), if_pos ew]
        rw [es]
        exact ⟨s4, hw4, ys, h4, hr, Nat.le_succ_of_le l5, _, StIs.rfl⟩
      · have es : stepW st w = (st.1 ++ [(w, st.2)], st.2) := by
          unfold stepW
          rw [if_neg (fun z => n1 (by rw [z, k40])), if_neg (fun z => n2 (by rw [z, k41])), if_pos (fun z => n3 (by rw [z, k0]))]
        rw [es]
        refine ⟨.inl ⟨rfl, _, SqL.of h4⟩, by decide, fun p hp => ?_⟩
        have s5 := Same.put (o := .tup [V.str (mkS w), V.int st.2]) hp
        have f5 : (upd H' p (.tup [V.str (mkS w), V.int st.2])) p = some (.tup [V.str (mkS w), V.int st.2]) := upd_same
        generalize (upd H' p (.tup [V.str (mkS w), V.int st.2])) = H5 at s5 f5 ⊢
        refine ⟨_, s5 _ _ h4, big9000 (by omega), same_ne (s4.trans s5) hl0, by rw [upd_ne lwl]; exact s5 _ _ hw4, _, upd_same, ?_, by rw [List.length_append, List.length_singleton]; omega, _, StIs.rfl⟩
        rw [List.map_append]
        have q := (hr.same s5).append (ys := [.ref p]) (ms := [(mkS w, st.2)]) ⟨⟨p, rfl, f5⟩, trivial⟩
        exact q.tups (lst_tups (s5 _ _ h4))
      · have ew := mkS_inj ((Classical.byContradiction n3).trans k0)
        have es : stepW st w = st := by unfold stepW; rw [if_neg (by rw [ew]; decide), if_neg (by rw [ew]; decide), if_neg (fun h => h ew)]
        rw [es]
        exact ⟨s4, hw4, ys, h4, hr, Nat.le_succ_of_le l5, _, StIs.rfl⟩
    · rintro σ H' ⟨s4, hw4, ys, st, est, h4, hr, l5, o3, rfl⟩
      rw [List.length_map, List.length_map, List.take_length] at est
      dsimp only
      subst hB
      and_intros
      refine k l0' ys H' s4 h4 ?_
      rw [est, run, List.map_map] at hr
      have : (ns.map ((fun n : NdW => ((mkS n.1, n.2) : Nd)) ∘ fun n : Nd => (n.1.cps.toList, n.2))) = ns := by
        conv => rhs; rw [← List.map_id ns]
        exact List.map_congr_left fun n _ => by show (mkS n.1.cps.toList, n.2) = n; rw [mkS_of]
      rw [this] at hr
      exact hr
theorem ok_lines_in {f : Addr} {fd : FuncData} (D : Def K mg "lines_in" s_lines_in ["text"] f fd) (T : Txt K mg ad) : FnOk P w K mg base CX0 1 f fd ["text"] sp_lines_in := by
  exact D.F.ok sc_lines_in (fun vs H Q E h => h.elim) (fun cdv A outer s H vs Q E hr h => h.elim)
theorem ok_marks_in {f : Addr} {fd : FuncData} (D : Def K mg "marks_in" s_marks_in ["text"] f fd) (T : Txt K mg ad) : FnOk P w K mg base CX0 1 f fd ["text"] sp_marks_in := by
  exact D.F.ok sc_marks_in (fun vs H Q E h => h.elim) (fun cdv A outer s H vs Q E hr h => h.elim)
theorem ok_made_of {f : Addr} {fd : FuncData} (D : Def K mg "made_of" s_made_of ["kind", "inside"] f fd) (T : Txt K mg ad) {f_Row_init : Addr} {fd_Row_init : FuncData} (G_Row_init : FnOk P w K mg base (CX1 P w) 1 f_Row_init fd_Row_init ["self", "marks"] sp_Row_init) {f_marks_in : Addr} {fd_marks_in : FuncData} (G_marks_in : FnOk P w K mg base CX0 1 f_marks_in fd_marks_in ["text"] sp_marks_in) {f_Forest_init : Addr} {fd_Forest_init : FuncData} (G_Forest_init : FnOk P w K mg base (CX1 P w) 4 f_Forest_init fd_Forest_init ["self", "nodes"] (sp_Forest_init ad)) {f_nodes_in : Addr} {fd_nodes_in : FuncData} (G_nodes_in : FnOk P w K mg base CX0 1 f_nodes_in fd_nodes_in ["text"] sp_nodes_in) {f_Table_init : Addr} {fd_Table_init : FuncData} (G_Table_init : FnOk P w K mg base (CX1 P w) 1 f_Table_init fd_Table_init ["self", "lines"] sp_Table_init) {f_lines_in : Addr} {fd_lines_in : FuncData} (G_lines_in : FnOk P w K mg base CX0 1 f_lines_in fd_lines_in ["text"] sp_lines_in) (D_marks_in : Def K mg "marks_in" s_marks_in ["text"] f_marks_in fd_marks_in) (D_nodes_in : Def K mg "nodes_in" s_nodes_in ["text"] f_nodes_in fd_nodes_in) (D_lines_in : Def K mg "lines_in" s_lines_in ["text"] f_lines_in fd_lines_in) (B_Row_init : Binds K fd_Row_init ["self", "marks"] []) (B_Forest_init : Binds K fd_Forest_init ["self", "nodes"] []) (B_Table_init : Binds K fd_Table_init ["self", "lines"] []) (M_Row : Mk K ad.Row f_Row_init) (M_Forest : Mk K ad.Forest f_Forest_init) (M_Table : Mk K ad.Table f_Table_init) : FnOk P w K mg base (CX1 P w) 6 f fd ["kind", "inside"] (sp_made_of ad) := by
  refine D.F.okX sc_made_of (fun vs H Q E h => ?_) (fun cdv A outer s H vs Q E hr h => ?_)
  · obtain ⟨ns, rfl, _⟩ := h
    rfl
  · obtain ⟨ns, rfl, hd, hl, k⟩ := h
    refine ⟨_, (@pss_cons _ _ _ _ _ (ps_if (pt_cmpR op_eq (pv 0) pe_str (nomark _))
      (@pss_one _ _ _ (ps_ret (pe_make M_Row G_Row_init (hr.mono (by decide)) rfl T.c_Row B_Row_init .nil pass1 (pa_cons (pe_call G_marks_in (hr.mono (by decide)) rfl D_marks_in.mg D_marks_in.F.kp D_marks_in.b .nil pass0 (pa_cons (pv 1) pa_nil)) pa_nil))))
      pss_nil)
      (@pss_cons _ _ _ _ _ (ps_if (pt_cmpR op_eq (pv 0) pe_str (nomark _))
      (@pss_one _ _ _ (ps_ret (pe_make M_Forest G_Forest_init (hr.mono (by decide)) rfl T.c_Forest B_Forest_init .nil pass1 (pa_cons (pe_call G_nodes_in (hr.mono (by decide)) rfl D_nodes_in.mg D_nodes_in.F.kp D_nodes_in.b .nil pass0 (pa_cons (pv 1) pa_nil)) pa_nil))))
      pss_nil)
      (@pss_cons _ _ _ _ _ (ps_if (pt_cmpR op_eq (pv 0) pe_str (nomark _))
      (@pss_one _ _ _ (ps_ret (pe_make M_Table G_Table_init (hr.mono (by decide)) rfl T.c_Table B_Table_init .nil pass1 (pa_cons (pe_call G_lines_in (hr.mono (by decide)) rfl D_lines_in.mg D_lines_in.F.kp D_lines_in.b .nil pass0 (pa_cons (pv 1) pa_nil)) pa_nil))))
      pss_nil)
      (@pss_one _ _ _ (ps_raise T.e_NoText rfl raises1 rfl (pa_cons pe_str pa_nil)))))), ?_⟩
    refine tseq_open fun B hB => ?_
    and_intros
    rw [if_neg (by decide +kernel)]
    subst hB
    refine tseq_open fun B hB => ?_
    and_intros
    refine ⟨ns, rfl, hd, hl, fun l3 xs H3 s3 hl3 hn3 x dx hx hdx hne => ?_⟩
    have hlen := hn3.length
    have n8 : ∀ n ∈ ns, n.1.length ≤ 1000 := fun n h => by have := (mark_all (depthOk_all hd n h).1).2.1; omega
    have s67 : Same H3 (upd (upd H3 dx (.own x)) x (.ins ad.Forest dx [])) := (Same.put hdx).upd (by rw [upd_ne (Ne.symm hne)]; exact hx)
    have hn7 := hn3.same s67
    refine ⟨x, dx, .ref l3, rfl, upd_same, thg4_lst (s67 _ _ hl3) (hn7.thg3 n8), fun a' xs' ns' e h _ hm' _ H8 hfor sb => ⟨rfl, ?_⟩, fun hb => absurd ⟨l3, _, _, rfl, s67 _ _ hl3, by omega, hn7, hd⟩ hb⟩
    cases e
    rw [s67 _ _ hl3] at h
    cases h
    have := hm'.uniq hn7
    subst this
    exact k x H8 (s3.trans fun b o e => sb b o (ne_of_none e hx) (s67 b o e)) ⟨hfor, hd, hl⟩
theorem ok_read_thing {f : Addr} {fd : FuncData} (D : Def K mg "read_thing" s_read_thing ["text"] f fd) (T : Txt K mg ad) {f_made_of : Addr} {fd_made_of : FuncData} (G_made_of : FnOk P w K mg base (CX1 P w) 6 f_made_of fd_made_of ["kind", "inside"] (sp_made_of ad)) {f_show_thing : Addr} {fd_show_thing : FuncData} (G_show_thing : FnOk P w K mg base CX0 3 f_show_thing fd_show_thing ["thing"] (sp_show_thing ad)) (D_made_of : Def K mg "made_of" s_made_of ["kind", "inside"] f_made_of fd_made_of) (D_show_thing : Def K mg "show_thing" s_show_thing ["thing"] f_show_thing fd_show_thing) : FnOk P w K mg base (CX1 P w) 7 f fd ["text"] (sp_read_thing ad) := by
  refine D.F.okX sc_read_thing (fun vs H Q E h => ?_) (fun cdv A outer s H vs Q E hr h => ?_)
  · obtain ⟨ns, rfl, _⟩ := h
    rfl
  · obtain ⟨ns, rfl, hd, hl, k⟩ := h
    refine ⟨_, (@pss_cons _ _ _ _ _ (ps_if (pt_not (pt_val (pe_callB call_isiT rfl T.isinstance PyProof.Rows.boot_isinstance (pa_cons (pv 0) (pa_cons (pe_ty rfl T.str PyProof.Rows.boot_str) pa_nil)))))
      (@pss_one _ _ _ (ps_raise T.e_NoText rfl raises1 rfl (pa_cons pe_str pa_nil)))
      pss_nil)
      (@pss_cons _ _ _ _ _ (ps_set (i := 1) sc_read_thing.nd rfl (Or.inl rfl) (pe_bm PySem.F.plainAttrs_str PySem.F.slot_str_partition PySem.F.type_str_partition mt_partition (pv 0) (pa_cons pe_str pa_nil)))
      (@pss_cons _ _ _ _ _ (ps_tryQ (@pss_one _ _ _ (ps_set (i := 2) sc_read_thing.nd rfl (Or.inl rfl) (pe_call G_made_of (hr.mono (by decide)) rfl D_made_of.mg D_made_of.F.kp D_made_of.b .nil passE (pa_cons (pe_ix (show IxR _ (rIxT K) from ix_tup) (pv 1) pe_int (fun _ _ => rfl)) (pa_cons (pe_ix (show IxR _ (rIxT K) from ix_tup) (pv 1) pe_int (fun _ _ => rfl)) pa_nil))))))
      (@pss_cons _ _ _ _ _ (ps_if (pt_cmpR op_ne (pe_call G_show_thing (hr.mono (by decide)) rfl D_show_thing.mg D_show_thing.F.kp D_show_thing.b .nil pass0 (pa_cons (pv 2) pa_nil)) (pv 0) (nomark _))
      (@pss_one _ _ _ (ps_raise T.e_NoText rfl raises1 rfl (pa_cons pe_str pa_nil)))
      pss_nil)
      (@pss_one _ _ _ (ps_ret (pv 2))))))), ?_⟩
    have il := ins_len hd hl
    have li : (insS ns).length = (insL ns).length := rfl
    have f6 : (Str.ofString "forest").length = 6 := by decide +kernel
    have b1 : (Str.ofString " ").length = 1 := by decide +kernel
    have tl : (textF ns).length ≤ 3000 := by
      unfold textF
      split
      · omega
      · rw [Str.length_append, Str.length_append]
        omega
    have ff : freeC 32 (Str.ofString "forest") := by unfold freeC; decide +kernel
    have cut : (Txt.partition (textF ns) (Str.ofString " ")).1 = Str.ofString "forest" ∧ (Txt.partition (textF ns) (Str.ofString " ")).2.2 = insS ns := by
      cases ns with
      | nil =>
        show (Txt.partition (Str.ofString "forest") (Str.ofString " ")).1 = _ ∧ _
        rw [show textF [] = Str.ofString "forest" from rfl, part_no ff]
        exact ⟨rfl, rfl⟩
      | cons n r =>
        rw [show textF (n :: r) = Str.ofString "forest" ++ Str.ofString " " ++ insS (n :: r) from if_neg (List.cons_ne_nil _ _), part_yes ff]
        exact ⟨rfl, rfl⟩
    refine tseq_open fun B hB => ?_
    and_intros
    refine ⟨_, .str _, true, rfl, ?_⟩
    rw [if_neg (by decide)]
    subst hB
    refine tseq_open fun B hB => ?_
    and_intros
    refine ⟨rfl, by decide +kernel, big9 (by omega), fun l hl' => ?_⟩
    rw [cut.1, cut.2]
    generalize (Txt.partition (textF ns) (Str.ofString " ")).2.1 = mid
    have sl := Same.put (o := .tup [V.str (Str.ofString "forest"), V.str mid, V.str (insS ns)]) hl'
    have fl0 : (upd H l (.tup [V.str (Str.ofString "forest"), V.str mid, V.str (insS ns)])) l = some (.tup [V.str (Str.ofString "forest"), V.str mid, V.str (insS ns)]) := upd_same
    generalize (upd H l (.tup [V.str (Str.ofString "forest"), V.str mid, V.str (insS ns)])) = H1 at sl fl0 ⊢
    subst hB
    refine tseq_open fun B hB => ?_
    and_intros
    refine ⟨_, SqT.of fl0, _, rfl, _, SqT.of fl0, _, rfl, ns, rfl, hd, hl, fun p H2 s2 hT => ?_⟩
    subst hB
    refine tseq_open fun B hB => ?_
    and_intros
    refine ⟨p, ns, rfl, hT, fun H3 s3 => ?_⟩
    dsimp only
    refine ⟨rfl, ?_⟩
    rw [if_neg (fun h => h rfl)]
    subst hB
    and_intros
    exact k p H3 ((sl.trans s2).trans s3) (hT.same s3)
theorem ok__law_cell_at {f : Addr} {fd : FuncData} (D : Def K mg "_law_cell_at" s__law_cell_at ["_law_script", "_law_k"] f fd) (T : Txt K mg ad) : FnOk P w K mg base CX0 1 f fd ["_law_script", "_law_k"] (sp__law_cell_at K) := by
  refine D.F.ok sc__law_cell_at (fun vs H Q E h => ?_) (fun cdv A outer s H vs Q E hr h => ?_)
  · obtain ⟨a, ns, k, rfl, _⟩ := h
    rfl
  · obtain ⟨a, ns, k, rfl, hS, q⟩ := h
    refine ⟨_, (@pss_cons _ _ _ _ _ (ps_if (pt_cmpR op_lt (pv 1) (pe_callB call_lenL rfl T.len PySem.boot_len (pa_cons (pv 0) pa_nil)) (nomark _))
      (@pss_one _ _ _ (ps_ret (pe_ix ix_list (pv 0) (pv 1) (fun _ _ => rfl))))
      pss_nil)
      (@pss_one _ _ _ (ps_ret pe_int))), ?_⟩
    and_intros
    refine ⟨_, hS, ite2 (fun h1 => ?_) (fun h1 => ?_)⟩
    · have h1 : k < ns.length := by rw [List.length_map] at h1; omega
      have e : cellF ns k = ns[k] := by unfold cellF; rw [List.getD_eq_getElem?_getD, List.getElem?_eq_getElem h1]; rfl
      rw [e] at q
      exact ⟨_, hS, _, atI_nat (by rw [List.getElem?_map, List.getElem?_eq_getElem h1]; rfl), q⟩
    · have h1 : ns.length ≤ k := by rw [List.length_map] at h1; omega
      have e : cellF ns k = 0 := by unfold cellF; rw [List.getD_eq_getElem?_getD, List.getElem?_eq_none h1]; rfl
      rw [e] at q
      exact q
theorem ok__law_mix {f : Addr} {fd : FuncData} (D : Def K mg "_law_mix" s__law_mix ["_law_seed", "_law_k"] f fd) (T : Txt K mg ad) : FnOk P w K mg base CX0 1 f fd ["_law_seed", "_law_k"] sp__law_mix := by
  refine D.F.ok sc__law_mix (fun vs H Q E h => ?_) (fun cdv A outer s H vs Q E hr h => ?_)
  · obtain ⟨a, k, rfl, _⟩ := h
    rfl
  · obtain ⟨a, k, rfl, h0, h1, q⟩ := h
    refine ⟨_, (@pss_cons _ _ _ _ _ (ps_set (i := 2) sc__law_mix.nd rfl (Or.inl rfl) (pe_op op_mod (pe_op op_mul (pe_op op_add (pe_op op_add (pe_op op_add (pe_op op_mod (pv 0) (pe_op op_pow pe_int pe_int)) (pe_op op_mul pe_int (pv 1))) (pe_op op_mul (pe_op op_mul (pv 1) (pv 1)) (pv 1))) pe_int) pe_int) pe_int))
      (@pss_one _ _ _ (ps_ret (pe_op op_mod (pe_op op_mul (pv 2) pe_int) pe_int)))), ?_⟩
    and_intros
    exact ⟨⟨by decide, by decide, by decide⟩, by decide, .inl ⟨by decide, by decide⟩, .inl ⟨by omega, by omega⟩, .inr ⟨by omega, by omega⟩, .inr ⟨by decide, by decide⟩, .inr ⟨by decide, by decide⟩, q⟩
theorem ok__law_how_many {f : Addr} {fd : FuncData} (D : Def K mg "_law_how_many" s__law_how_many ["_law_number"] f fd) (T : Txt K mg ad) : FnOk P w K mg base CX0 1 f fd ["_law_number"] sp__law_how_many := by
  refine D.F.ok sc__law_how_many (fun vs H Q E h => ?_) (fun cdv A outer s H vs Q E hr h => ?_)
  · obtain ⟨n, rfl, _⟩ := h
    rfl
  · obtain ⟨n, rfl, q⟩ := h
    refine ⟨_, (@pss_cons _ _ _ _ _ (ps_if (pt_cmpR op_eq (pe_op op_mod (pe_op op_fdiv (pv 0) pe_int) pe_int) pe_int (nomark _))
      (@pss_one _ _ _ (ps_ret (pe_op op_add pe_int (pe_op op_mod (pe_op op_fdiv (pv 0) pe_int) pe_int))))
      pss_nil)
      (@pss_one _ _ _ (ps_ret (pe_op op_add pe_int (pe_op op_mod (pv 0) pe_int))))), ?_⟩
    and_intros
    refine ite2 (fun _ => q _ ?_ ?_) (fun _ => q _ ?_ ?_) <;> omega
theorem ok__law_marks {f : Addr} {fd : FuncData} (D : Def K mg "_law_marks" s__law_marks ["_law_cell", "_law_many"] f fd) (T : Txt K mg ad) : FnOk P w K mg base CX0 1 f fd ["_law_cell", "_law_many"] sp__law_marks := by
  refine D.F.ok sc__law_marks (fun vs H Q E h => ?_) (fun cdv A outer s H vs Q E hr h => ?_)
  · obtain ⟨c, n, rfl, _⟩ := h
    rfl
  · obtain ⟨c, n, rfl, h0, h1, k⟩ := h
    have fin : ∀ b < 8, ∀ a ≤ b, (Txt.slice (Txt.slice ("marksof" : Str) none (some ((b : Nat) : Int))) none (some ((a : Nat) : Int))).length + (Txt.slice (Txt.slice ("marksof" : Str) none (some ((b : Nat) : Int))) (some ((a : Nat) : Int)) none).length = b ∧
        (Txt.slice (Txt.slice ("marksof" : Str) none (some ((b : Nat) : Int))) none (some ((a : Nat) : Int))).cps.toList.all (fun x => decide (x ∈ LET.cps.toList)) = true ∧ (Txt.slice (Txt.slice ("marksof" : Str) none (some ((b : Nat) : Int))) (some ((a : Nat) : Int)) none).cps.toList.all (fun x => decide (x ∈ LET.cps.toList)) = true ∧
        (Txt.slice ("marksof" : Str) none (some ((b : Nat) : Int))).length = b := by decide +kernel
    obtain ⟨b, hb⟩ := Int.eq_ofNat_of_zero_le (Int.emod_nonneg c (show (8 : Int) ≠ 0 by decide))
    have hb8 : b < 8 := by have := Int.emod_lt_of_pos c (show (0 : Int) < 8 by decide); omega
    refine ⟨_, (@pss_cons _ _ _ _ _ (ps_set (i := 2) sc__law_marks.nd rfl (Or.inr rfl) pe_str)
      (@pss_cons _ _ _ _ _ (ps_set (i := 3) sc__law_marks.nd rfl (Or.inr rfl) (pe_slice sl_str pe_str po_none (po_some (pe_op op_mod (pv 0) pe_int))))
      (@pss_cons _ _ _ _ _ (ps_set (i := 4) sc__law_marks.nd rfl (Or.inr rfl) (pe_op op_mod (pe_op op_fdiv (pv 0) pe_int) (pe_op op_add (pe_callB call_len_str rfl T.len PySem.boot_len (pa_cons (pv 3) pa_nil)) pe_int)))
      (@pss_cons _ _ _ _ _ (ps_set (i := 5) sc__law_marks.nd rfl (Or.inr rfl) (pe_op op_mod (pe_op op_fdiv (pv 0) pe_int) pe_int))
      (@pss_cons _ _ _ _ _ (ps_set (i := 6) sc__law_marks.nd rfl (Or.inr rfl) (pe_op op_add pe_int (pe_op op_mod (pe_op op_fdiv (pv 0) pe_int) pe_int)))
      (@pss_cons _ _ _ _ _ (ps_if (pt_cmpR op_gt (pv 1) pe_int (nomark _))
      (@pss_one _ _ _ (ps_set (i := 6) sc__law_marks.nd rfl (Or.inr rfl) pe_int))
      pss_nil)
      (@pss_one _ _ _ (ps_ret (pe_comp (own := ["_law_k"]) (cap := ["_law_base", "_law_letters", "_law_at", "_law_first", "_law_step"]) (ix := [3, 2, 4, 5, 6]) rfl (show CompScope ["_law_cell", "_law_many", "_law_letters", "_law_base", "_law_at", "_law_first", "_law_step"] (defScope s__law_marks) _ ["_law_k"] ["_law_base", "_law_letters", "_law_at", "_law_first", "_law_step"] [3, 2, 4, 5, 6] from ⟨rfl, by decide +kernel, by decide +kernel, by decide +kernel, by decide +kernel, by decide +kernel, by decide +kernel, rfl, by decide +kernel⟩) (pi_range1 rfl T.range (pa_cons (pv 1) pa_nil)) (fun C s₀ H₀ ex pn => ⟨pg_name (i := 0) (show (["_law_k", "_law_base", "_law_letters", "_law_at", "_law_first", "_law_step"] : List Str).Nodup by decide +kernel) rfl (Or.inl rfl), pifs_nil, (pe_op op_add_str (pe_op op_add_str (pe_slice sl_str (pv 1) po_none (po_some (pv 3))) (pe_ix ix_str (pv 2) (pe_op op_mod (pe_op op_add (pv 4) (pe_op op_mul (pv 0) (pv 5))) pe_int) (fun _ _ => rfl))) (pe_slice sl_str (pv 1) (po_some (pv 3)) po_none))⟩)))))))))), ?_⟩
    and_intros
    rw [hb]
    generalize hB : Txt.slice ("marksof" : Str) none (some ((b : Nat) : Int)) = B
    have lB : B.length = b := by rw [← hB]; exact (fin b hb8 0 (Nat.zero_le _)).2.2.2
    have finB := fin b hb8
    rw [hB] at finB
    obtain ⟨a, ha⟩ := Int.eq_ofNat_of_zero_le (Int.emod_nonneg (c / 8) (show (B.length : Int) + 1 ≠ 0 by omega))
    have ha8 : a ≤ b := by have := Int.emod_lt_of_pos (c / 8) (show (0 : Int) < (B.length : Int) + 1 by omega); omega
    rw [ha]
    obtain ⟨f1, f2, f3, _⟩ := finB a ha8
    have hsz : ∀ {z : Str}, z.length ≤ 1000 → z.length ≤ sizeLine := fun h => Nat.le_of_lt (small1000 h)
    have mk : ∀ x : Nat, x ∈ LET.cps.toList → markS (Txt.slice B none (some (a : Int)) ++ ⟨#[x]⟩ ++ Txt.slice B (some (a : Int)) none) = true := fun x hx => by
      refine mark_of ?_ ?_ fun y hy => letC_iff.mpr ?_
      · rw [Str.length_append, Str.length_append, one_len]; omega
      · rw [Str.length_append, Str.length_append, one_len]; omega
      · have hy' : y ∈ (Txt.slice B none (some (a : Int))).cps.toList ∨ y = x ∨ y ∈ (Txt.slice B (some (a : Int)) none).cps.toList := by
          rw [app_list, app_list, List.mem_append, List.mem_append] at hy
          rcases hy with (h | h) | h
          · exact .inl h
          · exact .inr (.inl (by simpa using h))
          · exact .inr (.inr h)
        rcases hy' with h | h | h
        · exact of_decide_eq_true (List.all_eq_true.mp f2 y h)
        · rw [h]; exact hx
        · exact of_decide_eq_true (List.all_eq_true.mp f3 y h)
    refine ⟨hsz (by decide +kernel), hsz (by omega), by omega, ite2 (fun _ => ?_) fun _ => ?_⟩
    all_goals
      refine tcomp_range (lo := 0) (n := n.toNat) (H1 := H) (fun R r => ⟨_, rfl, n, rfl, by omega, by omega, r⟩) (fun i ys H' => H' = H ∧ ∃ zs : List Str, ys = zs.map V.str ∧ zs.length = i ∧ ∀ z ∈ zs, markS z = true) ⟨rfl, [], rfl, rfl, fun _ z => nomatch z⟩ ?_ ?_
      · rintro i ys H' R hi ⟨rfl, zs, rfl, hm, hz⟩ hR
        have go := fun j : Int => at_str (z := LET) (i := j) (m := 26) (by decide) (by decide +kernel)
        simp only [tYes]
        and_intros
        refine ⟨hsz (by omega), .inl ⟨by omega, by omega⟩, hsz (by decide +kernel), ?_⟩
        obtain ⟨x, hx, ex⟩ := go _
        refine ⟨x, ex, ?_, hsz (by omega), ?_, ?_, hR _ _ ⟨rfl, zs ++ [_], by rw [List.map_append]; rfl, by rw [List.length_append, hm]; rfl, fun z hz' => ?_⟩⟩
        · rw [one_len]; exact Nat.le_of_lt (small1000 (by omega))
        · rw [Str.length_append, one_len]; exact Nat.le_of_lt (small1000 (by omega))
        · rw [List.length_map, hm]; exact small1000 (by omega)
        · rcases List.mem_append.mp hz' with h | h
          · exact hz z h
          · rw [List.mem_singleton.mp h]; exact mk x hx
      · rintro ys H' ⟨rfl, zs, rfl, hm, hz⟩
        refine ⟨?_, fun l hl => k zs l _ hm hz (Same.put hl) upd_same⟩
        rw [List.length_map, hm]
        exact Nat.le_of_lt (small1000 (by omega))
theorem ok__law_pick {f : Addr} {fd : FuncData} (D : Def K mg "_law_pick" s__law_pick ["_law_cell", "_law_marks_here"] f fd) (T : Txt K mg ad) : FnOk P w K mg base CX0 1 f fd ["_law_cell", "_law_marks_here"] sp__law_pick := by
  refine D.F.ok sc__law_pick (fun vs H Q E h => ?_) (fun cdv A outer s H vs Q E hr h => ?_)
  · obtain ⟨c, a, zs, rfl, _⟩ := h
    rfl
  · obtain ⟨c, a, zs, rfl, ha, hz, q⟩ := h
    have go : ∀ i : Int, ∃ z ∈ zs, atI (zs.map V.str) (i % (zs.map V.str).length) = some (.str z) := fun i => by
      obtain ⟨v, hv, _, e⟩ := atI_mod (xs := zs.map V.str) (i := i) (m := (zs.map V.str).length) (by rw [List.length_map]; omega) (Int.le_refl _)
      obtain ⟨z, hz, rfl⟩ := List.mem_map.mp hv
      exact ⟨z, hz, e⟩
    have hp : (0 : Int) < (zs.map V.str).length := by rw [List.length_map]; omega
    refine ⟨_, (@pss_cons _ _ _ _ _ (ps_if (pt_cmpR op_gt (pe_callB call_lenL rfl T.len PySem.boot_len (pa_cons (pv 1) pa_nil)) pe_int (nomark _))
      (@pss_one _ _ _ (ps_ret (pe_ix ix_list (pv 1) (pe_op op_mod (pe_op op_add (pe_op op_mul pe_int (pv 0)) (pe_op op_fdiv (pv 0) pe_int)) (pe_callB call_lenL rfl T.len PySem.boot_len (pa_cons (pv 1) pa_nil))) (fun _ _ => rfl))))
      pss_nil)
      (@pss_one _ _ _ (ps_ret (pe_ix ix_list (pv 1) (pe_op op_mod (pe_op op_mod (pv 0) pe_int) (pe_callB call_lenL rfl T.len PySem.boot_len (pa_cons (pv 1) pa_nil))) (fun _ _ => rfl))))), ?_⟩
    and_intros
    refine ⟨_, SqL.of ha, ite2 (fun _ => ?_) fun _ => ?_⟩
    · obtain ⟨z, hm, e⟩ := go (5 * c + c / 7)
      exact ⟨.inl ⟨by decide, by decide⟩, _, SqL.of ha, hp, _, SqL.of ha, _, e, q z hm⟩
    · obtain ⟨z, hm, e⟩ := go (c % 7)
      exact ⟨_, SqL.of ha, hp, _, SqL.of ha, _, e, q z hm⟩
theorem ok__law_cells {f : Addr} {fd : FuncData} (D : Def K mg "_law_cells" s__law_cells ["_law_script", "_law_begin", "_law_seed", "_law_many"] f fd) (T : Txt K mg ad) {f__law_mix : Addr} {fd__law_mix : FuncData} (G__law_mix : FnOk P w K mg base CX0 1 f__law_mix fd__law_mix ["_law_seed", "_law_k"] sp__law_mix) (D__law_mix : Def K mg "_law_mix" s__law_mix ["_law_seed", "_law_k"] f__law_mix fd__law_mix) : FnOk P w K mg base CX0 2 f fd ["_law_script", "_law_begin", "_law_seed", "_law_many"] (sp__law_cells K) := by
  refine D.F.ok sc__law_cells (fun vs H Q E h => ?_) (fun cdv A outer s H vs Q E hr h => ?_)
  · obtain ⟨a, ns, b, sd, rfl, _⟩ := h
    rfl
  · obtain ⟨a, ns, b, sd, rfl, h0, hS, k⟩ := h
    refine ⟨_, (@pss_cons _ _ _ _ _ (ps_if (pt_cmpR op_eq (pe_op op_mod (pv 2) pe_int) pe_int (nomark _))
      (@pss_cons _ _ _ _ _ (ps_set (i := 4) sc__law_cells.nd rfl (Or.inl rfl) (pe_lst pa_nil))
      (@pss_cons _ _ _ _ _ (ps_set (i := 5) sc__law_cells.nd rfl (Or.inl rfl) (pe_op op_fdiv (pv 2) pe_int))
      (@pss_cons _ _ _ _ _ (ps_for PassesOwn.never rfl (pi_range1 rfl T.range (pa_cons (pe_op op_mod (pe_op op_fdiv (pv 2) pe_int) pe_int) pa_nil)) (pg_name (i := 6) sc__law_cells.nd rfl (Or.inl rfl))
      (@pss_cons _ _ _ _ _ (ps_expr (pe_bm PySem.F.plainAttrs_list PySem.F.slot_list_append PySem.F.type_list_append mt_append (pv 4) (pa_cons (pe_op op_mod (pv 5) pe_int) pa_nil)))
      (@pss_one _ _ _ (ps_set (i := 5) sc__law_cells.nd rfl (Or.inl rfl) (pe_op op_fdiv (pv 5) pe_int)))))
      (@pss_one _ _ _ (ps_ret (pv 4))))))
      pss_nil)
      (@pss_cons _ _ _ _ _ (ps_if (pt_cmpR op_ne (pe_op op_mod (pe_op op_fdiv (pv 2) pe_int) pe_int) pe_int (nomark _))
      (@pss_one _ _ _ (ps_ret (pe_slice sl_list (pv 0) (po_some (pv 1)) (po_some (pe_op op_add (pv 1) pe_int)))))
      pss_nil)
      (@pss_one _ _ _ (ps_ret (pe_comp (own := ["_law_k"]) (cap := ["_law_seed"]) (ix := [2]) rfl (show CompScope ["_law_script", "_law_begin", "_law_seed", "_law_many", "_law_cells_here", "_law_rest", "_law_k"] (defScope s__law_cells) _ ["_law_k"] ["_law_seed"] [2] from ⟨rfl, by decide +kernel, by decide +kernel, by decide +kernel, by decide +kernel, by decide +kernel, by decide +kernel, rfl, by decide +kernel⟩) (pi_range1 rfl T.range (pa_cons (pe_op op_mod (pe_op op_fdiv (pv 2) pe_int) (pe_op op_add (pv 3) pe_int)) pa_nil)) (fun C s₀ H₀ ex pn => ⟨pg_name (i := 0) (show (["_law_k", "_law_seed"] : List Str).Nodup by decide +kernel) rfl (Or.inl rfl), pifs_nil, (pe_call G__law_mix (hr.mono (by decide)) rfl D__law_mix.mg D__law_mix.F.kp D__law_mix.b .nil pass0 (pa_cons (pe_op op_fdiv (pv 1) pe_int) (pa_cons (pv 0) pa_nil)))⟩)))))), ?_⟩
    and_intros
    refine ite2 (fun _ => ⟨by decide, fun l hl => ?_⟩) fun _ => ite2 (fun _ => ?_) fun _ => ?_
    · have s0 : Same H (upd H l (.lst [])) := Same.put hl
      refine ⟨_, rfl, _, _, rfl, rfl, ⟨by decide, by decide⟩, _, _, rfl, rfl, by show (0 : Int) < 11; decide, _, rfl, by omega, by omega, for_range (n := (sd / 2 % 11).toNat) (fun i σ H' => ∃ (ms : List Int) (rest : Int) (o : Option V), H' = upd H l (.lst (ms.map V.int)) ∧ ms.length = i ∧ StIs σ [some (.ref a), some (.int b), some (.int sd), some (.int 40), some (.ref l), some (.int rest), o]) ⟨[], _, none, rfl, rfl, StIs.rfl⟩ ?_ ?_⟩
      · rintro i σ H' hi ⟨ms, rest, o, rfl, hm, rfl⟩
        and_intros
        refine ⟨.inl ⟨rfl, _, SqL.of upd_same⟩, _, upd_same, ?_, ms ++ [rest % 182], ?_, ?_, rest / 182, _, StIs.rfl⟩
        · rw [List.length_map]; exact small1000 (by omega)
        · rw [upd_upd, List.map_append]; rfl
        · rw [List.length_append, hm]; rfl
      · rintro σ H' ⟨ms, rest, o, rfl, hm, rfl⟩
        and_intros
        exact k ms l _ (by omega) (Same.put hl) upd_same
    · refine ⟨_, hS, fun l hl => ?_⟩
      have e1 : cutV (ns.map V.int) (some b) (some (b + 10)) = ((ns.drop (HT.sIx (ns.map V.int).length 0 (some b))).take (HT.sIx (ns.map V.int).length (ns.map V.int).length (some (b + 10)) - HT.sIx (ns.map V.int).length 0 (some b))).map V.int := by
        unfold cutV
        rw [List.map_take, List.map_drop]
      rw [e1]
      refine k _ l _ ?_ (Same.put hl) upd_same
      obtain ⟨bn, rfl⟩ := Int.eq_ofNat_of_zero_le h0
      have e2 : ((bn : Int) + 10) = ((bn + 10 : Nat) : Int) := by omega
      rw [e2, HT.sIx_nat, HT.sIx_nat, List.length_take]
      omega
    · refine tcomp_range (lo := 0) (n := (sd / 10 % (40 + 1)).toNat) (H1 := H) (fun R r => ?_) (fun i ys H' => H' = H ∧ ∃ ms : List Int, ys = ms.map V.int ∧ ms.length = i) ⟨rfl, [], rfl, rfl⟩ ?_ ?_
      · and_intros
        exact ⟨by omega, by omega, by omega, r⟩
      · rintro i ys H' R hi ⟨rfl, ms, rfl, hm⟩ hR
        refine ⟨_, rfl, _, _, rfl, rfl, ⟨by decide, by decide⟩, _, rfl, sd / 10, 0 + i, rfl, by omega, by omega, ?_, hR _ _ ⟨rfl, ms ++ [mixF (sd / 10) (0 + i)], by simp, by simp [hm]⟩⟩
        rw [List.length_map, hm]
        exact small1000 (by omega)
      · rintro ys H' ⟨rfl, ms, rfl, hm⟩
        refine ⟨?_, fun l hl => k ms l _ (by omega) (Same.put hl) upd_same⟩
        rw [List.length_map, hm]
        exact Nat.le_of_lt (small1000 (by omega))
theorem ok__law_nodes {f : Addr} {fd : FuncData} (D : Def K mg "_law_nodes" s__law_nodes ["_law_cells_here", "_law_marks_here"] f fd) (T : Txt K mg ad) {f__law_pick : Addr} {fd__law_pick : FuncData} (G__law_pick : FnOk P w K mg base CX0 1 f__law_pick fd__law_pick ["_law_cell", "_law_marks_here"] sp__law_pick) (D__law_pick : Def K mg "_law_pick" s__law_pick ["_law_cell", "_law_marks_here"] f__law_pick fd__law_pick) : FnOk P w K mg base CX0 2 f fd ["_law_cells_here", "_law_marks_here"] sp__law_nodes := by
  refine D.F.ok sc__law_nodes (fun vs H Q E h => ?_) (fun cdv A outer s H vs Q E hr h => ?_)
  · obtain ⟨c, m, ms, zs, rfl, _⟩ := h
    rfl
  · obtain ⟨c, m, ms, zs, rfl, hc, hm, hl, hz0, hz, k⟩ := h
    refine ⟨_, (@pss_cons _ _ _ _ _ (ps_set (i := 2) sc__law_nodes.nd rfl (Or.inl rfl) (pe_lst pa_nil))
      (@pss_cons _ _ _ _ _ (ps_set (i := 3) sc__law_nodes.nd rfl (Or.inl rfl) pe_int)
      (@pss_cons _ _ _ _ _ (ps_set (i := 4) sc__law_nodes.nd rfl (Or.inl rfl) (pe_and (pe_cmpR op_gt (pe_callB call_lenL rfl T.len PySem.boot_len (pa_cons (pv 0) pa_nil)) pe_int (nomark _)) (pe_one (pe_cmpR op_eq (pe_op op_mod (pe_ix ix_list (pv 0) pe_int (fun _ _ => rfl)) pe_int) pe_int (nomark _)))))
      (@pss_cons _ _ _ _ _ (ps_for PassesOwn.never rfl (pi_list (pv 0)) (pg_name (i := 5) sc__law_nodes.nd rfl (Or.inl rfl))
      (@pss_cons _ _ _ _ _ (ps_set (i := 6) sc__law_nodes.nd rfl (Or.inl rfl) (pe_op op_mod (pe_op op_fdiv (pv 5) pe_int) (pe_op op_add (pv 3) pe_int)))
      (@pss_cons _ _ _ _ _ (ps_if (PW.pt (pw_or (pt_val (pv 4)) (pw_or1 (pt_cmpR op_eq (pe_op op_mod (pe_op op_fdiv (pv 5) pe_int) pe_int) pe_int (nomark _)))))
      (@pss_one _ _ _ (ps_set (i := 6) sc__law_nodes.nd rfl (Or.inl rfl) (pv 3)))
      pss_nil)
      (@pss_cons _ _ _ _ _ (ps_expr (pe_bm PySem.F.plainAttrs_list PySem.F.slot_list_append PySem.F.type_list_append mt_append (pv 2) (pa_cons (pe_tup (pa_cons (pe_call G__law_pick (hr.mono (by decide)) rfl D__law_pick.mg D__law_pick.F.kp D__law_pick.b .nil pass0 (pa_cons (pv 5) (pa_cons (pv 1) pa_nil))) (pa_cons (pv 6) pa_nil))) pa_nil)))
      (@pss_one _ _ _ (ps_set (i := 3) sc__law_nodes.nd rfl (Or.inl rfl) (pe_callB (call_min2 rfl) rfl T.min (by decide +kernel) (pa_cons (pe_op op_add (pv 6) pe_int) (pa_cons pe_int pa_nil)))))))))
      (@pss_one _ _ _ (ps_ret (pv 2))))))), ?_⟩
    and_intros
    refine ⟨by decide, fun l hl1 => ?_⟩
    have s0 := Same.put (o := .lst []) hl1
    refine ⟨_, SqL.of (s0 _ _ hc), ite2 (fun h => ?_) fun h => ?_⟩
    · obtain ⟨j0, r0, ems⟩ : ∃ j0 r0, ms = j0 :: r0 := by
        cases ms with
        | nil => exact absurd h (by decide)
        | cons j0 r0 => exact ⟨j0, r0, rfl⟩
      refine ⟨_, SqL.of (s0 _ _ hc), .int j0, atI_nat (j := 0) (by rw [ems]; rfl), j0, rfl, ?_⟩
      refine ⟨_, rfl, c, rfl, ⟨_, SqL.of (s0 _ _ hc)⟩, for_list (xs := ms.map V.int) (fun i σ H' => Same H H' ∧ ∃ (xs : List V) (ns : List Nd) (ch : Bool) (o5 o6 : Option V), H' l = some (.lst xs) ∧ NodesAt H' xs ns ∧ depthOk 0 ns ∧ ns.length = i ∧ 0 ≤ deepAfter 0 ns ∧ StIs σ [some (.ref c), some (.ref m), some (.ref l), some (.int (deepAfter 0 ns)), some (.bl ch), o5, o6]) ⟨s0, [], [], _, none, none, upd_same, trivial, trivial, rfl, Int.le_refl _, StIs.rfl⟩ ?_ ?_ ?_⟩
      · rintro i σ H' _ ⟨s1, _⟩
        exact SqL.of (s1 _ _ hc)
      · rintro i x σ H' hx ⟨s1, xs, ns, ch, o5, o6, hl2, hn, hd, hi, hd0, rfl⟩
        have hi40 : i < ms.length := by have := (List.getElem?_eq_some_iff.mp hx).1; rw [List.length_map] at this; exact this
        obtain ⟨j, _, rfl⟩ := List.mem_map.mp (List.mem_of_getElem? hx)
        generalize hD : deepAfter 0 ns = d at hd0 ⊢
        and_intros
        have m0 := Int.emod_nonneg (j / 14) (show d + 1 ≠ 0 by omega)
        have m1 := Int.emod_lt_of_pos (j / 14) (show 0 < d + 1 by omega)
        refine ⟨by omega, ite2 (fun _ => ?_) fun _ => ite2 (fun _ => ?_) fun _ => ?_⟩
        · have he0 := hd0
          have he1 := Int.le_refl d
          refine ⟨.inl ⟨rfl, _, SqL.of hl2⟩, j, m, zs, rfl, s1 _ _ hm, hz0, fun z hz1 => ⟨by decide, fun p hp => ?_⟩⟩
          have s2 := s1.upd (o := .tup [.str z, .int d]) hp
          have npl : p ≠ l := Ne.symm (ne_of_none hl2 hp)
          have l2 := (Same.put (o := .tup [.str z, .int d]) hp) l _ hl2
          have sF : Same H (upd (upd H' p (.tup [.str z, .int d])) l (.lst (xs ++ [.ref p]))) := fun b o e => by rw [upd_ne (ne_of_none e hl1)]; exact s2 b o e
          have tp : (upd (upd H' p (.tup [.str z, .int d])) l (.lst (xs ++ [.ref p]))) p = some (.tup [.str z, .int d]) := by rw [upd_ne npl]; exact upd_same
          have e1 : deepAfter 0 (ns ++ [(z, d)]) = if 12 < d + 1 then 12 else d + 1 := by
            rw [deepAfter_append]
            show min (d + 1) 12 = _
            split <;> omega
          refine ⟨xs, l2, by rw [hn.length]; exact small1000 (by omega), sF, _, upd_same, ns ++ [(z, d)], ?_, ?_, ?_, ?_, ch, some (.int j), some (.int d), ?_⟩
          · refine NodesAt.append (hn.tups fun b ys e => ?_) ⟨⟨p, rfl, tp⟩, trivial⟩
            rw [upd_ne (ne_of e hl2 (fun z => nomatch z)), upd_ne (ne_of_none e hp)]
            exact e
          · exact depthOk_append.mpr ⟨hd, hz z hz1, he0, by rw [hD]; exact he1, trivial⟩
          · rw [List.length_append, hi]; rfl
          · rw [e1]; split <;> omega
          · rw [e1]; exact StIs.rfl
        · have he0 := hd0
          have he1 := Int.le_refl d
          refine ⟨.inl ⟨rfl, _, SqL.of hl2⟩, j, m, zs, rfl, s1 _ _ hm, hz0, fun z hz1 => ⟨by decide, fun p hp => ?_⟩⟩
          have s2 := s1.upd (o := .tup [.str z, .int d]) hp
          have npl : p ≠ l := Ne.symm (ne_of_none hl2 hp)
          have l2 := (Same.put (o := .tup [.str z, .int d]) hp) l _ hl2
          have sF : Same H (upd (upd H' p (.tup [.str z, .int d])) l (.lst (xs ++ [.ref p]))) := fun b o e => by rw [upd_ne (ne_of_none e hl1)]; exact s2 b o e
          have tp : (upd (upd H' p (.tup [.str z, .int d])) l (.lst (xs ++ [.ref p]))) p = some (.tup [.str z, .int d]) := by rw [upd_ne npl]; exact upd_same
          have e1 : deepAfter 0 (ns ++ [(z, d)]) = if 12 < d + 1 then 12 else d + 1 := by
            rw [deepAfter_append]
            show min (d + 1) 12 = _
            split <;> omega
          refine ⟨xs, l2, by rw [hn.length]; exact small1000 (by omega), sF, _, upd_same, ns ++ [(z, d)], ?_, ?_, ?_, ?_, ch, some (.int j), some (.int d), ?_⟩
          · refine NodesAt.append (hn.tups fun b ys e => ?_) ⟨⟨p, rfl, tp⟩, trivial⟩
            rw [upd_ne (ne_of e hl2 (fun z => nomatch z)), upd_ne (ne_of_none e hp)]
            exact e
          · exact depthOk_append.mpr ⟨hd, hz z hz1, he0, by rw [hD]; exact he1, trivial⟩
          · rw [List.length_append, hi]; rfl
          · rw [e1]; split <;> omega
          · rw [e1]; exact StIs.rfl
        · have he0 := m0
          have he1 : j / 14 % (d + 1) ≤ d := by omega
          refine ⟨.inl ⟨rfl, _, SqL.of hl2⟩, j, m, zs, rfl, s1 _ _ hm, hz0, fun z hz1 => ⟨by decide, fun p hp => ?_⟩⟩
          have s2 := s1.upd (o := .tup [.str z, .int (j / 14 % (d + 1))]) hp
          have npl : p ≠ l := Ne.symm (ne_of_none hl2 hp)
          have l2 := (Same.put (o := .tup [.str z, .int (j / 14 % (d + 1))]) hp) l _ hl2
          have sF : Same H (upd (upd H' p (.tup [.str z, .int (j / 14 % (d + 1))])) l (.lst (xs ++ [.ref p]))) := fun b o e => by rw [upd_ne (ne_of_none e hl1)]; exact s2 b o e
          have tp : (upd (upd H' p (.tup [.str z, .int (j / 14 % (d + 1))])) l (.lst (xs ++ [.ref p]))) p = some (.tup [.str z, .int (j / 14 % (d + 1))]) := by rw [upd_ne npl]; exact upd_same
          have e1 : deepAfter 0 (ns ++ [(z, (j / 14 % (d + 1)))]) = if 12 < (j / 14 % (d + 1)) + 1 then 12 else (j / 14 % (d + 1)) + 1 := by
            rw [deepAfter_append]
            show min ((j / 14 % (d + 1)) + 1) 12 = _
            split <;> omega
          refine ⟨xs, l2, by rw [hn.length]; exact small1000 (by omega), sF, _, upd_same, ns ++ [(z, (j / 14 % (d + 1)))], ?_, ?_, ?_, ?_, ch, some (.int j), some (.int (j / 14 % (d + 1))), ?_⟩
          · refine NodesAt.append (hn.tups fun b ys e => ?_) ⟨⟨p, rfl, tp⟩, trivial⟩
            rw [upd_ne (ne_of e hl2 (fun z => nomatch z)), upd_ne (ne_of_none e hp)]
            exact e
          · exact depthOk_append.mpr ⟨hd, hz z hz1, he0, by rw [hD]; exact he1, trivial⟩
          · rw [List.length_append, hi]; rfl
          · rw [e1]; split <;> omega
          · rw [e1]; exact StIs.rfl
      · rintro σ H' ⟨s1, xs, ns, ch, o5, o6, hl2, hn, hd, hi, hd0, rfl⟩
        rw [List.length_map] at hi
        and_intros
        exact k ns xs l H' s1 hl2 hn hd (by omega)
    · refine ⟨_, rfl, c, rfl, ⟨_, SqL.of (s0 _ _ hc)⟩, for_list (xs := ms.map V.int) (fun i σ H' => Same H H' ∧ ∃ (xs : List V) (ns : List Nd) (ch : Bool) (o5 o6 : Option V), H' l = some (.lst xs) ∧ NodesAt H' xs ns ∧ depthOk 0 ns ∧ ns.length = i ∧ 0 ≤ deepAfter 0 ns ∧ StIs σ [some (.ref c), some (.ref m), some (.ref l), some (.int (deepAfter 0 ns)), some (.bl ch), o5, o6]) ⟨s0, [], [], _, none, none, upd_same, trivial, trivial, rfl, Int.le_refl _, StIs.rfl⟩ ?_ ?_ ?_⟩
      · rintro i σ H' _ ⟨s1, _⟩
        exact SqL.of (s1 _ _ hc)
      · rintro i x σ H' hx ⟨s1, xs, ns, ch, o5, o6, hl2, hn, hd, hi, hd0, rfl⟩
        have hi40 : i < ms.length := by have := (List.getElem?_eq_some_iff.mp hx).1; rw [List.length_map] at this; exact this
        obtain ⟨j, _, rfl⟩ := List.mem_map.mp (List.mem_of_getElem? hx)
        generalize hD : deepAfter 0 ns = d at hd0 ⊢
        and_intros
        have m0 := Int.emod_nonneg (j / 14) (show d + 1 ≠ 0 by omega)
        have m1 := Int.emod_lt_of_pos (j / 14) (show 0 < d + 1 by omega)
        refine ⟨by omega, ite2 (fun _ => ?_) fun _ => ite2 (fun _ => ?_) fun _ => ?_⟩
        · have he0 := hd0
          have he1 := Int.le_refl d
          refine ⟨.inl ⟨rfl, _, SqL.of hl2⟩, j, m, zs, rfl, s1 _ _ hm, hz0, fun z hz1 => ⟨by decide, fun p hp => ?_⟩⟩
          have s2 := s1.upd (o := .tup [.str z, .int d]) hp
          have npl : p ≠ l := Ne.symm (ne_of_none hl2 hp)
          have l2 := (Same.put (o := .tup [.str z, .int d]) hp) l _ hl2
          have sF : Same H (upd (upd H' p (.tup [.str z, .int d])) l (.lst (xs ++ [.ref p]))) := fun b o e => by rw [upd_ne (ne_of_none e hl1)]; exact s2 b o e
          have tp : (upd (upd H' p (.tup [.str z, .int d])) l (.lst (xs ++ [.ref p]))) p = some (.tup [.str z, .int d]) := by rw [upd_ne npl]; exact upd_same
          have e1 : deepAfter 0 (ns ++ [(z, d)]) = if 12 < d + 1 then 12 else d + 1 := by
            rw [deepAfter_append]
            show min (d + 1) 12 = _
            split <;> omega
          refine ⟨xs, l2, by rw [hn.length]; exact small1000 (by omega), sF, _, upd_same, ns ++ [(z, d)], ?_, ?_, ?_, ?_, ch, some (.int j), some (.int d), ?_⟩
          · refine NodesAt.append (hn.tups fun b ys e => ?_) ⟨⟨p, rfl, tp⟩, trivial⟩
            rw [upd_ne (ne_of e hl2 (fun z => nomatch z)), upd_ne (ne_of_none e hp)]
            exact e
          · exact depthOk_append.mpr ⟨hd, hz z hz1, he0, by rw [hD]; exact he1, trivial⟩
          · rw [List.length_append, hi]; rfl
          · rw [e1]; split <;> omega
          · rw [e1]; exact StIs.rfl
        · have he0 := hd0
          have he1 := Int.le_refl d
          refine ⟨.inl ⟨rfl, _, SqL.of hl2⟩, j, m, zs, rfl, s1 _ _ hm, hz0, fun z hz1 => ⟨by decide, fun p hp => ?_⟩⟩
          have s2 := s1.upd (o := .tup [.str z, .int d]) hp
          have npl : p ≠ l := Ne.symm (ne_of_none hl2 hp)
          have l2 := (Same.put (o := .tup [.str z, .int d]) hp) l _ hl2
          have sF : Same H (upd (upd H' p (.tup [.str z, .int d])) l (.lst (xs ++ [.ref p]))) := fun b o e => by rw [upd_ne (ne_of_none e hl1)]; exact s2 b o e
          have tp : (upd (upd H' p (.tup [.str z, .int d])) l (.lst (xs ++ [.ref p]))) p = some (.tup [.str z, .int d]) := by rw [upd_ne npl]; exact upd_same
          have e1 : deepAfter 0 (ns ++ [(z, d)]) = if 12 < d + 1 then 12 else d + 1 := by
            rw [deepAfter_append]
            show min (d + 1) 12 = _
            split <;> omega
          refine ⟨xs, l2, by rw [hn.length]; exact small1000 (by omega), sF, _, upd_same, ns ++ [(z, d)], ?_, ?_, ?_, ?_, ch, some (.int j), some (.int d), ?_⟩
          · refine NodesAt.append (hn.tups fun b ys e => ?_) ⟨⟨p, rfl, tp⟩, trivial⟩
            rw [upd_ne (ne_of e hl2 (fun z => nomatch z)), upd_ne (ne_of_none e hp)]
            exact e
          · exact depthOk_append.mpr ⟨hd, hz z hz1, he0, by rw [hD]; exact he1, trivial⟩
          · rw [List.length_append, hi]; rfl
          · rw [e1]; split <;> omega
          · rw [e1]; exact StIs.rfl
        · have he0 := m0
          have he1 : j / 14 % (d + 1) ≤ d := by omega
          refine ⟨.inl ⟨rfl, _, SqL.of hl2⟩, j, m, zs, rfl, s1 _ _ hm, hz0, fun z hz1 => ⟨by decide, fun p hp => ?_⟩⟩
          have s2 := s1.upd (o := .tup [.str z, .int (j / 14 % (d + 1))]) hp
          have npl : p ≠ l := Ne.symm (ne_of_none hl2 hp)
          have l2 := (Same.put (o := .tup [.str z, .int (j / 14 % (d + 1))]) hp) l _ hl2
          have sF : Same H (upd (upd H' p (.tup [.str z, .int (j / 14 % (d + 1))])) l (.lst (xs ++ [.ref p]))) := fun b o e => by rw [upd_ne (ne_of_none e hl1)]; exact s2 b o e
          have tp : (upd (upd H' p (.tup [.str z, .int (j / 14 % (d + 1))])) l (.lst (xs ++ [.ref p]))) p = some (.tup [.str z, .int (j / 14 % (d + 1))]) := by rw [upd_ne npl]; exact upd_same
          have e1 : deepAfter 0 (ns ++ [(z, (j / 14 % (d + 1)))]) = if 12 < (j / 14 % (d + 1)) + 1 then 12 else (j / 14 % (d + 1)) + 1 := by
            rw [deepAfter_append]
            show min ((j / 14 % (d + 1)) + 1) 12 = _
            split <;> omega
          refine ⟨xs, l2, by rw [hn.length]; exact small1000 (by omega), sF, _, upd_same, ns ++ [(z, (j / 14 % (d + 1)))], ?_, ?_, ?_, ?_, ch, some (.int j), some (.int (j / 14 % (d + 1))), ?_⟩
          · refine NodesAt.append (hn.tups fun b ys e => ?_) ⟨⟨p, rfl, tp⟩, trivial⟩
            rw [upd_ne (ne_of e hl2 (fun z => nomatch z)), upd_ne (ne_of_none e hp)]
            exact e
          · exact depthOk_append.mpr ⟨hd, hz z hz1, he0, by rw [hD]; exact he1, trivial⟩
          · rw [List.length_append, hi]; rfl
          · rw [e1]; split <;> omega
          · rw [e1]; exact StIs.rfl
      · rintro σ H' ⟨s1, xs, ns, ch, o5, o6, hl2, hn, hd, hi, hd0, rfl⟩
        rw [List.length_map] at hi
        and_intros
        exact k ns xs l H' s1 hl2 hn hd (by omega)
theorem ok__law_some {f : Addr} {fd : FuncData} (D : Def K mg "_law_some" s__law_some ["_law_cell", "_law_many"] f fd) (T : Txt K mg ad) {f__law_mix : Addr} {fd__law_mix : FuncData} (G__law_mix : FnOk P w K mg base CX0 1 f__law_mix fd__law_mix ["_law_seed", "_law_k"] sp__law_mix) (D__law_mix : Def K mg "_law_mix" s__law_mix ["_law_seed", "_law_k"] f__law_mix fd__law_mix) : FnOk P w K mg base CX0 2 f fd ["_law_cell", "_law_many"] sp__law_some := by
  refine D.F.ok sc__law_some (fun vs H Q E h => ?_) (fun cdv A outer s H vs Q E hr h => ?_)
  · obtain ⟨c, n, rfl, _⟩ := h
    rfl
  · obtain ⟨c, n, rfl, hn, k⟩ := h
    refine ⟨_, (@pss_cons _ _ _ _ _ (ps_set (i := 2) sc__law_some.nd rfl (Or.inl rfl) (pe_lst pa_nil))
      (@pss_cons _ _ _ _ _ (ps_set (i := 3) sc__law_some.nd rfl (Or.inl rfl) (pe_op op_fdiv (pv 0) pe_int))
      (@pss_cons _ _ _ _ _ (ps_set (i := 4) sc__law_some.nd rfl (Or.inl rfl) (pe_op op_mod (pe_op op_fdiv (pv 0) pe_int) pe_int))
      (@pss_cons _ _ _ _ _ (ps_for PassesOwn.never rfl (pi_range1 rfl T.range (pa_cons (pv 1) pa_nil)) (pg_name (i := 5) sc__law_some.nd rfl (Or.inl rfl))
      (@pss_cons _ _ _ _ _ (ps_set (i := 6) sc__law_some.nd rfl (Or.inl rfl) (pe_cmpR op_eq (pe_op op_mod (pv 3) pe_int) pe_int (nomark _)))
      (@pss_cons _ _ _ _ _ (ps_set (i := 3) sc__law_some.nd rfl (Or.inl rfl) (pe_op op_fdiv (pv 3) pe_int))
      (@pss_cons _ _ _ _ _ (ps_if (pt_cmpR op_eq (pe_op op_mod (pv 0) pe_int) pe_int (nomark _))
      (@pss_cons _ _ _ _ _ (ps_set (i := 6) sc__law_some.nd rfl (Or.inl rfl) (pe_cmpR op_gt (pe_op op_mod (pe_call G__law_mix (hr.mono (by decide)) rfl D__law_mix.mg D__law_mix.F.kp D__law_mix.b .nil pass0 (pa_cons (pe_op op_fdiv (pv 0) pe_int) (pa_cons (pv 5) pa_nil))) pe_int) pe_int (nomark _)))
      (@pss_cons _ _ _ _ _ (ps_if (pt_cmpR op_eq (pv 4) pe_int (nomark _))
      (@pss_one _ _ _ (ps_set (i := 6) sc__law_some.nd rfl (Or.inl rfl) (pe_cmpR op_eq (pe_op op_mod (pe_call G__law_mix (hr.mono (by decide)) rfl D__law_mix.mg D__law_mix.F.kp D__law_mix.b .nil pass0 (pa_cons (pe_op op_fdiv (pv 0) pe_int) (pa_cons (pv 5) pa_nil))) pe_int) pe_int (nomark _))))
      pss_nil)
      (@pss_cons _ _ _ _ _ (ps_if (pt_cmpR op_eq (pv 4) pe_int (nomark _))
      (@pss_one _ _ _ (ps_set (i := 6) sc__law_some.nd rfl (Or.inl rfl) (pe_cmpR op_ne (pv 5) (pe_op op_mod (pe_op op_fdiv (pv 0) pe_int) (pv 1)) (nomark _))))
      pss_nil)
      (@pss_one _ _ _ (ps_if (pt_cmpR op_eq (pv 4) pe_int (nomark _))
      (@pss_one _ _ _ (ps_set (i := 6) sc__law_some.nd rfl (Or.inl rfl) (pe_cmpR op_eq (pe_op op_mod (pe_op op_fdiv (pv 0) pe_int) pe_int) pe_int (nomark _))))
      pss_nil)))))
      pss_nil)
      (@pss_one _ _ _ (ps_if (pt_val (pv 6))
      (@pss_one _ _ _ (ps_expr (pe_bm PySem.F.plainAttrs_list PySem.F.slot_list_append PySem.F.type_list_append mt_append (pv 2) (pa_cons (pv 5) pa_nil))))
      pss_nil))))))
      (@pss_one _ _ _ (ps_ret (pv 2))))))), ?_⟩
    and_intros
    refine ⟨by decide, fun l hl => ⟨_, rfl, n, rfl, by omega, by omega, ?_⟩⟩
    rw [Int.toNat_natCast]
    refine for_range (n := n) (fun i σ H' => ∃ (ps : List Int) (rest : Int) (o5 o6 : Option V), H' = upd H l (.lst (ps.map V.int)) ∧ placesOk 0 n ps ∧ lowAfter 0 ps ≤ i ∧ StIs σ [some (.int c), some (.int n), some (.ref l), some (.int rest), some (.int (c / 2 % 4)), o5, o6]) ⟨[], _, none, none, rfl, trivial, Int.le_refl _, StIs.rfl⟩ ?_ ?_
    · rintro i σ H' hi ⟨ps, rest, o5, o6, rfl, hok, hlo, rfl⟩
      and_intros
      have lps := places_len hok (by omega)
      repeat' (first
        | refine ite2 (fun _ => ?_) fun _ => ?_
        | refine ⟨c / 8, 0 + i, rfl, by omega, by omega, _, rfl, ?_⟩
        | refine ⟨show (0 : Int) < n by omega, ?_⟩
        | exact ⟨.inl ⟨rfl, _, SqL.of upd_same⟩, _, upd_same, by rw [List.length_map]; exact small1000 (by omega), ps ++ [0 + (i : Int)], by rw [upd_upd, List.map_append]; rfl, placesOk_append.mpr ⟨hok, by omega, by omega, trivial⟩, by rw [lowAfter_append]; show (0 + (i : Int)) + 1 ≤ _; omega, _, _, _, StIs.rfl⟩
        | exact ⟨ps, rfl, hok, by omega, _, _, _, StIs.rfl⟩)
    · rintro σ H' ⟨ps, rest, o5, o6, rfl, hok, hlo, rfl⟩
      and_intros
      exact k ps l _ (Same.put hl) upd_same hok
theorem ok__law_forest_text {f : Addr} {fd : FuncData} (D : Def K mg "_law_forest_text" s__law_forest_text ["_law_nodes_here"] f fd) (T : Txt K mg ad) : FnOk P w K mg base CX0 1 f fd ["_law_nodes_here"] (sp__law_forest_text K) := by
  refine D.F.ok sc__law_forest_text (fun vs H Q E h => ?_) (fun cdv A outer s H vs Q E hr h => ?_)
  · obtain ⟨t, ys, ns, rfl, _⟩ := h
    rfl
  · obtain ⟨t, ys, ns, rfl, ht, hn, hd, hl, h0, k⟩ := h
    refine ⟨_, (@pss_cons _ _ _ _ _ (ps_set (i := 1) sc__law_forest_text.nd rfl (Or.inl rfl) pe_str)
      (@pss_cons _ _ _ _ _ (ps_for PassesOwn.never rfl (pi_range1 rfl T.range (pa_cons (pe_callB call_lenT rfl T.len PySem.boot_len (pa_cons (pv 0) pa_nil)) pa_nil)) (pg_name (i := 2) sc__law_forest_text.nd rfl (Or.inl rfl))
      (@pss_cons _ _ _ _ _ (ps_if (PW.pt (pw_and (pt_cmpR op_gt (pv 2) pe_int (nomark _)) (pw_and1 (pt_cmpR op_gt (pe_ix ix_tup (pe_ix ix_tup (pv 0) (pv 2) (fun _ _ => rfl)) pe_int (fun _ _ => rfl)) (pe_ix ix_tup (pe_ix ix_tup (pv 0) (pe_op op_sub (pv 2) pe_int) (fun _ _ => rfl)) pe_int (fun _ _ => rfl)) (nomark _)))))
      (@pss_one _ _ _ (ps_set (i := 1) sc__law_forest_text.nd rfl (Or.inl rfl) (pe_op op_add_str (pv 1) pe_str)))
      pss_nil)
      (@pss_cons _ _ _ _ _ (ps_if (PW.pt (pw_and (pt_cmpR op_gt (pv 2) pe_int (nomark _)) (pw_and1 (pt_cmpR op_le (pe_ix ix_tup (pe_ix ix_tup (pv 0) (pv 2) (fun _ _ => rfl)) pe_int (fun _ _ => rfl)) (pe_ix ix_tup (pe_ix ix_tup (pv 0) (pe_op op_sub (pv 2) pe_int) (fun _ _ => rfl)) pe_int (fun _ _ => rfl)) (nomark _)))))
      (@pss_cons _ _ _ _ _ (ps_for PassesOwn.never rfl (pi_range1 rfl T.range (pa_cons (pe_op op_sub (pe_ix ix_tup (pe_ix ix_tup (pv 0) (pe_op op_sub (pv 2) pe_int) (fun _ _ => rfl)) pe_int (fun _ _ => rfl)) (pe_ix ix_tup (pe_ix ix_tup (pv 0) (pv 2) (fun _ _ => rfl)) pe_int (fun _ _ => rfl))) pa_nil)) (pg_name (i := 3) sc__law_forest_text.nd rfl (Or.inl rfl))
      (@pss_one _ _ _ (ps_set (i := 1) sc__law_forest_text.nd rfl (Or.inl rfl) (pe_op op_add_str (pv 1) pe_str))))
      (@pss_one _ _ _ (ps_set (i := 1) sc__law_forest_text.nd rfl (Or.inl rfl) (pe_op op_add_str (pv 1) pe_str))))
      pss_nil)
      (@pss_one _ _ _ (ps_set (i := 1) sc__law_forest_text.nd rfl (Or.inl rfl) (pe_op op_add_str (pv 1) (pe_ix ix_tup (pe_ix ix_tup (pv 0) (pv 2) (fun _ _ => rfl)) pe_int (fun _ _ => rfl))))))))
      (@pss_cons _ _ _ _ _ (ps_if (pt_cmpR op_gt (pe_callB call_lenT rfl T.len PySem.boot_len (pa_cons (pv 0) pa_nil)) pe_int (nomark _))
      (@pss_one _ _ _ (ps_for PassesOwn.never rfl (pi_range1 rfl T.range (pa_cons (pe_ix ix_tup (pe_ix ix_tup (pv 0) (pe_un un_neg pe_int) (fun _ _ => rfl)) pe_int (fun _ _ => rfl)) pa_nil)) (pg_name (i := 3) sc__law_forest_text.nd rfl (Or.inl rfl))
      (@pss_one _ _ _ (ps_set (i := 1) sc__law_forest_text.nd rfl (Or.inl rfl) (pe_op op_add_str (pv 1) pe_str)))))
      pss_nil)
      (@pss_one _ _ _ (ps_ret (pv 1)))))), ?_⟩
    have il := ins_len hd hl
    have ly := hn.length
    refine tseq_open fun B hB => ?_
    and_intros
    subst hB
    refine tseq_open fun B hB => ?_
    refine (show tFor _ _ _ _ _ _ from ?_)
    refine (show iRng1 _ _ _ _ from ?_)
    refine split_it (fun J H1 => H1 = H ∧ J = Itr 0 ns.length) (fun G hG => ?_) ?_
    · and_intros
      refine ⟨_, ht, by omega, by omega, ?_⟩
      rw [ly, Int.toNat_natCast]
      exact hG _ _ ⟨rfl, rfl⟩
    rintro _ H1 ⟨rfl, rfl⟩
    refine for_range (n := ns.length) (fun i σ H' => H' = H1 ∧ ∃ L : List Nat, ((i = 0 ∧ L = []) ∨ ∃ (m : Str) (e : Nat), 0 < i ∧ ns[i - 1]? = some (m, (e : Int)) ∧ L ++ restF e ((ns.drop i).map toW) = insL ns) ∧ ∃ o2 o3 : Option V, StIs σ [some (.ref t), some (.str (mkS L)), o2, o3]) ⟨rfl, [], .inl ⟨rfl, rfl⟩, none, none, StIs.rfl⟩ ?_ ?_
    · rintro i σ H' hi ⟨rfl, L, hL, o2, o3, rfl⟩
      obtain ⟨n, en⟩ : ∃ n, ns[i]? = some n := ⟨_, List.getElem?_eq_getElem hi⟩
      obtain ⟨x0, hx0⟩ : ∃ x, ys[i]? = some x := ⟨_, List.getElem?_eq_getElem (by omega)⟩
      obtain ⟨n', en', tn, ex, htn⟩ := hn.get hx0
      rw [en] at en'
      cases en'
      subst ex
      have hm := List.mem_of_getElem? en
      have hda := depthOk_all hd n hm
      have h12 := deepF12 hd (by omega) n hm
      have edr := drop_cons en
      obtain ⟨m, d⟩ := n
      obtain ⟨dn, edn⟩ := Int.eq_ofNat_of_zero_le (show 0 ≤ d from hda.2)
      subst edn
      have h12' : (dn : Int) ≤ 12 := h12
      have l8 := mark_all (show markS m = true from hda.1)
      have a0 : atI ys (i : Int) = some (.ref tn) := atI_nat hx0
      have ei : (0 : Int) + (i : Int) = (i : Int) := Int.zero_add _
      refine tseq_open fun B2 hB2 => ?_
      refine ends_gen fun D0 hD0 => ?_
      have c1 : (Str.ofString "(").length = 1 := by decide +kernel
      have c2 : (Str.ofString ")").length = 1 := by decide +kernel
      have c3 : (Str.ofString ",").length = 1 := by decide +kernel
      have lm : m.length = m.cps.toList.length := rfl
      have fin : ∀ (o3 : Option V) (L' : List Nat), L' ++ m.cps.toList ++ restF dn ((ns.drop (i + 1)).map toW) = insL ns → (tAsg (tOp (fun x y H Q => ∃ i j, x = V.str i ∧ y = V.str j ∧ i.length + j.length ≤ sizeLine ∧ Q (V.str (i ++ j)) H) (tVar 1) (tOp (rIxT K) (tOp (rIxT K) (tVar 0) (tVar 2)) (tC (V.int 0)))) (gName 1)) D0 [some (.ref t), some (.str (mkS L')), some (.int (i : Int)), o3] H' := fun o3 L' hL' => by
        have ll := congrArg List.length hL'
        rw [List.length_append, List.length_append] at ll
        have lL : (mkS L').length = L'.length := rfl
        have em : mkS L' ++ m = mkS (L' ++ m.cps.toList) := by
          conv => lhs; rw [← mkS_of m]
          rw [mkS_app]
        and_intros
        refine ⟨_, ht, _, a0, tn, rfl, _, SqT.of htn, _, rfl, m, rfl, big9 (by omega), ?_⟩
        rw [hD0]
        dsimp only
        refine ⟨rfl, L' ++ m.cps.toList, .inr ⟨m, dn, Nat.succ_pos _, by rw [Nat.add_sub_cancel]; exact en, hL'⟩, some (.int (i : Int)), o3, ?_⟩
        rw [em]
        exact StIs.rfl
      rcases hL with ⟨rfl, rfl⟩ | ⟨m', e, hi0, em', hL⟩
      · and_intros
        rw [if_neg (by decide)]
        subst hB2
        refine tseq_open fun B3 hB3 => ?_
        and_intros
        rw [if_neg (by decide)]
        subst hB3
        have d0 : dn = 0 := by
          have e0 : ns = (m, (dn : Int)) :: ns.drop 1 := by
            have hi := (List.getElem?_eq_some_iff.mp en).1
            conv => lhs; rw [← List.drop_zero (l := ns), List.drop_eq_getElem_cons hi, (List.getElem?_eq_some_iff.mp en).2]
          rw [e0] at hd
          have : (dn : Int) ≤ 0 := hd.2.2.1
          omega
        subst d0
        refine fin o3 [] ?_
        have e0 : ns = (m, ((0 : Nat) : Int)) :: ns.drop 1 := by
          have hi := (List.getElem?_eq_some_iff.mp en).1
          conv => lhs; rw [← List.drop_zero (l := ns), List.drop_eq_getElem_cons hi, (List.getElem?_eq_some_iff.mp en).2]
        conv => rhs; rw [e0]
        rfl
      · obtain ⟨x1, hx1⟩ : ∃ x, ys[i - 1]? = some x := ⟨_, List.getElem?_eq_getElem (by omega)⟩
        obtain ⟨n1, en1, tn1, ex1, htn1⟩ := hn.get hx1
        rw [em'] at en1
        cases en1
        subst ex1
        have a1 : atI ys ((i : Int) - 1) = some (.ref tn1) := by rw [show (i : Int) - 1 = ((i - 1 : Nat) : Int) by omega]; exact atI_nat hx1
        rw [edr] at hL
        have hL2 : L ++ sgL e dn ++ m.cps.toList ++ restF dn ((ns.drop (i + 1)).map toW) = insL ns := by
          rw [← hL, List.append_assoc, List.append_assoc]
          show _ = L ++ ((sgL e dn ++ m.cps.toList) ++ restF dn _)
          rw [List.append_assoc]
        have ll := congrArg List.length hL2
        rw [List.length_append, List.length_append, List.length_append] at ll
        have lL : (mkS L).length = L.length := rfl
        and_intros
        rw [ei, if_pos (by omega)]
        refine ⟨_, ht, _, a0, tn, rfl, _, SqT.of htn, _, rfl, _, ht, _, a1, tn1, rfl, _, SqT.of htn1, _, rfl, _, rfl, _, rfl, ?_⟩
        refine ite2 (fun h1 => ?_) fun h1 => ?_
        · have h1' : (e : Int) < (dn : Int) := h1
          have es : sgL e dn = [40] := if_pos (by omega)
          rw [es] at hL2 ll
          have k40 : mkS L ++ Str.ofString "(" = mkS (L ++ [40]) := by rw [show Str.ofString "(" = mkS [40] by decide +kernel, mkS_app]
          refine ⟨big9 (by omega), ?_⟩
          rw [k40]
          subst hB2
          refine tseq_open fun B3 hB3 => ?_
          and_intros
          rw [if_pos (by omega)]
          refine ⟨_, ht, _, a0, tn, rfl, _, SqT.of htn, _, rfl, _, ht, _, a1, tn1, rfl, _, SqT.of htn1, _, rfl, _, rfl, _, rfl, ?_⟩
          rw [if_neg (by show ¬ (dn : Int) ≤ (e : Int); omega)]
          subst hB3
          exact fin o3 (L ++ [40]) hL2
        · have h1' : ¬ (e : Int) < (dn : Int) := h1
          have es : sgL e dn = closes (e - dn) ++ [44] := if_neg (by omega)
          subst hB2
          refine tseq_open fun B3 hB3 => ?_
          and_intros
          rw [if_pos (by omega)]
          refine ⟨_, ht, _, a0, tn, rfl, _, SqT.of htn, _, rfl, _, ht, _, a1, tn1, rfl, _, SqT.of htn1, _, rfl, _, rfl, _, rfl, ?_⟩
          rw [if_pos (by show (dn : Int) ≤ (e : Int); omega)]
          have lc := congrArg List.length es
          rw [List.length_append, show (closes (e - dn)).length = e - dn from List.length_replicate] at lc
          have l44 : ([44] : List Nat).length = 1 := rfl
          refine (show iRng1 _ _ _ _ from ?_)
          refine split_it (fun J H2 => H2 = H' ∧ J = Itr 0 (e - dn)) (fun G hG => ?_) ?_
          · and_intros
            refine ⟨_, ht, _, a1, tn1, rfl, _, SqT.of htn1, _, rfl, _, ht, _, a0, tn, rfl, _, SqT.of htn, _, rfl, _, rfl, _, rfl, by omega, by omega, ?_⟩
            rw [show ((e : Int) - (dn : Int)).toNat = e - dn by omega]
            exact hG _ _ ⟨rfl, rfl⟩
          rintro _ H2 ⟨rfl, rfl⟩
          refine for_range (n := e - dn) (fun j σ H3 => H3 = H2 ∧ ∃ o3 : Option V, StIs σ [some (.ref t), some (.str (mkS (L ++ closes j))), some (.int (i : Int)), o3]) ⟨rfl, o3, by rw [show closes 0 = [] from rfl, List.append_nil]; exact StIs.rfl⟩ ?_ ?_
          · rintro j σ H3 hj ⟨rfl, o3, rfl⟩
            have lj : (mkS (L ++ closes j)).length = L.length + j := by rw [mkS_len, List.length_append, show (closes j).length = j from List.length_replicate]
            have ej : mkS (L ++ closes j) ++ Str.ofString ")" = mkS (L ++ closes (j + 1)) := by
              rw [show Str.ofString ")" = mkS [41] by decide +kernel, mkS_app, List.append_assoc, show closes j ++ [41] = closes (j + 1) from (List.replicate_succ' (n := j) (a := 41)).symm]
            and_intros
            rw [ej]
            exact ⟨big9 (by omega), _, StIs.rfl⟩
          · rintro σ H3 ⟨rfl, o3, rfl⟩
            have lj : (mkS (L ++ closes (e - dn))).length = L.length + (e - dn) := by rw [mkS_len, List.length_append, show (closes (e - dn)).length = e - dn from List.length_replicate]
            have ej : mkS (L ++ closes (e - dn)) ++ Str.ofString "," = mkS (L ++ sgL e dn) := by
              rw [show Str.ofString "," = mkS [44] by decide +kernel, mkS_app, List.append_assoc, ← es]
            dsimp only
            and_intros
            rw [ej]
            subst hB3
            exact ⟨big9 (by omega), fin o3 _ hL2⟩
    · rintro σ H' ⟨rfl, L, hL, o2, o3, rfl⟩
      have hp := List.length_pos_iff.mpr h0
      rcases hL with ⟨h, _⟩ | ⟨m, e, _, em, hL⟩
      · omega
      have h12 : (e : Int) ≤ 12 := deepF12 hd (by omega) (m, (e : Int)) (List.mem_of_getElem? em)
      rw [List.drop_length] at hL
      have hL' : L ++ closes e = insL ns := hL
      have ll := congrArg List.length hL'
      rw [List.length_append, show (closes e).length = e from List.length_replicate] at ll
      obtain ⟨x1, hx1⟩ : ∃ x, ys[ys.length - 1]? = some x := ⟨_, List.getElem?_eq_getElem (by omega)⟩
      obtain ⟨n1, en1, tn1, ex1, htn1⟩ := hn.get hx1
      rw [ly, em] at en1
      cases en1
      subst ex1
      have a1 : atI ys (-1) = some (.ref tn1) := by
        have ixm : ixN ys.length (-1) = some (ys.length - 1) := by
          unfold ixN
          rw [if_neg (by decide), if_pos (by omega), show (-1 + (ys.length : Int)).toNat = ys.length - 1 by omega]
        unfold atI
        rw [ixm]
        exact hx1
      have c2 : (Str.ofString ")").length = 1 := by decide +kernel
      dsimp only
      subst hB
      refine tseq_open fun B hB => ?_
      and_intros
      refine ⟨_, ht, ?_⟩
      rw [if_pos (by omega)]
      refine (show iRng1 _ _ _ _ from ?_)
      refine split_it (fun J H2 => H2 = H' ∧ J = Itr 0 e) (fun G hG => ?_) ?_
      · and_intros
        refine ⟨_, ht, _, a1, tn1, rfl, _, SqT.of htn1, _, rfl, _, rfl, by omega, by omega, ?_⟩
        rw [Int.toNat_natCast]
        exact hG _ _ ⟨rfl, rfl⟩
      rintro _ H2 ⟨rfl, rfl⟩
      refine for_range (n := e) (fun j σ H3 => H3 = H2 ∧ ∃ o3 : Option V, StIs σ [some (.ref t), some (.str (mkS (L ++ closes j))), o2, o3]) ⟨rfl, o3, by rw [show closes 0 = [] from rfl, List.append_nil]; exact StIs.rfl⟩ ?_ ?_
      · rintro j σ H3 hj ⟨rfl, o3, rfl⟩
        have lj : (mkS (L ++ closes j)).length = L.length + j := by rw [mkS_len, List.length_append, show (closes j).length = j from List.length_replicate]
        have ej : mkS (L ++ closes j) ++ Str.ofString ")" = mkS (L ++ closes (j + 1)) := by
          rw [show Str.ofString ")" = mkS [41] by decide +kernel, mkS_app, List.append_assoc, show closes j ++ [41] = closes (j + 1) from (List.replicate_succ' (n := j) (a := 41)).symm]
        and_intros
        rw [ej]
        exact ⟨big9 (by omega), _, StIs.rfl⟩
      · rintro σ H3 ⟨rfl, o3, rfl⟩
        rw [hL']
        dsimp only
        subst hB
        and_intros
        exact k H3 (Same.refl _)
theorem ok_law {f : Addr} {fd : FuncData} (D : Def K mg "law" s_law ["_law_script"] f fd) (T : Txt K mg ad) {f__law_cell_at : Addr} {fd__law_cell_at : FuncData} (G__law_cell_at : FnOk P w K mg base CX0 1 f__law_cell_at fd__law_cell_at ["_law_script", "_law_k"] (sp__law_cell_at K)) {f__law_marks : Addr} {fd__law_marks : FuncData} (G__law_marks : FnOk P w K mg base CX0 1 f__law_marks fd__law_marks ["_law_cell", "_law_many"] sp__law_marks) {f__law_how_many : Addr} {fd__law_how_many : FuncData} (G__law_how_many : FnOk P w K mg base CX0 1 f__law_how_many fd__law_how_many ["_law_number"] sp__law_how_many) {f_Forest_init : Addr} {fd_Forest_init : FuncData} (G_Forest_init : FnOk P w K mg base (CX1 P w) 4 f_Forest_init fd_Forest_init ["self", "nodes"] (sp_Forest_init ad)) {f__law_nodes : Addr} {fd__law_nodes : FuncData} (G__law_nodes : FnOk P w K mg base CX0 2 f__law_nodes fd__law_nodes ["_law_cells_here", "_law_marks_here"] sp__law_nodes) {f__law_cells : Addr} {fd__law_cells : FuncData} (G__law_cells : FnOk P w K mg base CX0 2 f__law_cells fd__law_cells ["_law_script", "_law_begin", "_law_seed", "_law_many"] (sp__law_cells K)) {f_Forest_left : Addr} {fd_Forest_left : FuncData} (G_Forest_left : FnOk P w K mg base (CX1 P w) 6 f_Forest_left fd_Forest_left ["self", "places"] (sp_Forest_left ad)) {f__law_some : Addr} {fd__law_some : FuncData} (G__law_some : FnOk P w K mg base CX0 2 f__law_some fd__law_some ["_law_cell", "_law_many"] sp__law_some) {f_Forest_many : Addr} {fd_Forest_many : FuncData} (G_Forest_many : FnOk P w K mg base CX0 1 f_Forest_many fd_Forest_many ["self"] (sp_many ad)) {f_Forest_form : Addr} {fd_Forest_form : FuncData} (G_Forest_form : FnOk P w K mg base CX0 1 f_Forest_form fd_Forest_form ["self"] (sp_form ad)) {f__law_forest_text : Addr} {fd__law_forest_text : FuncData} (G__law_forest_text : FnOk P w K mg base CX0 1 f__law_forest_text fd__law_forest_text ["_law_nodes_here"] (sp__law_forest_text K)) {f_show_thing : Addr} {fd_show_thing : FuncData} (G_show_thing : FnOk P w K mg base CX0 3 f_show_thing fd_show_thing ["thing"] (sp_show_thing ad)) {f_read_thing : Addr} {fd_read_thing : FuncData} (G_read_thing : FnOk P w K mg base (CX1 P w) 7 f_read_thing fd_read_thing ["text"] (sp_read_thing ad)) (D__law_cell_at : Def K mg "_law_cell_at" s__law_cell_at ["_law_script", "_law_k"] f__law_cell_at fd__law_cell_at) (D__law_marks : Def K mg "_law_marks" s__law_marks ["_law_cell", "_law_many"] f__law_marks fd__law_marks) (D__law_how_many : Def K mg "_law_how_many" s__law_how_many ["_law_number"] f__law_how_many fd__law_how_many) (D__law_nodes : Def K mg "_law_nodes" s__law_nodes ["_law_cells_here", "_law_marks_here"] f__law_nodes fd__law_nodes) (D__law_cells : Def K mg "_law_cells" s__law_cells ["_law_script", "_law_begin", "_law_seed", "_law_many"] f__law_cells fd__law_cells) (D__law_some : Def K mg "_law_some" s__law_some ["_law_cell", "_law_many"] f__law_some fd__law_some) (D__law_forest_text : Def K mg "_law_forest_text" s__law_forest_text ["_law_nodes_here"] f__law_forest_text fd__law_forest_text) (D_show_thing : Def K mg "show_thing" s_show_thing ["thing"] f_show_thing fd_show_thing) (D_read_thing : Def K mg "read_thing" s_read_thing ["text"] f_read_thing fd_read_thing) (B_Forest_init : Binds K fd_Forest_init ["self", "nodes"] []) (B_Forest_left : Binds K fd_Forest_left ["self", "places"] []) (B_Forest_many : Binds K fd_Forest_many ["self"] []) (B_Forest_form : Binds K fd_Forest_form ["self"] []) (ME_Forest_left : Meth K ad.Forest "left" f_Forest_left) (ME_Forest_many : Meth K ad.Forest "many" f_Forest_many) (ME_Forest_form : Meth K ad.Forest "form" f_Forest_form) (M_Forest : Mk K ad.Forest f_Forest_init) : FnOk P w K mg base CX0 8 f fd ["_law_script"] (sp_law K) := by
  refine D.F.ok sc_law (fun vs H Q E h => ?_) (fun cdv A outer s H vs Q E hr h => ?_)
  · obtain ⟨a, ns, rfl, _⟩ := h
    rfl
  · obtain ⟨a, ns, rfl, hS, hn, k⟩ := h
    have hu := hr.units
    refine ⟨_, (@pss_cons _ _ _ _ _ (ps_set (i := 1) sc_law.nd rfl (Or.inl rfl) (pe_call G__law_cell_at (hr.mono (by decide)) rfl D__law_cell_at.mg D__law_cell_at.F.kp D__law_cell_at.b .nil pass0 (pa_cons (pv 0) (pa_cons pe_int pa_nil))))
      (@pss_cons _ _ _ _ _ (ps_set (i := 2) sc_law.nd rfl (Or.inl rfl) (pe_call G__law_marks (hr.mono (by decide)) rfl D__law_marks.mg D__law_marks.F.kp D__law_marks.b .nil pass0 (pa_cons (pe_call G__law_cell_at (hr.mono (by decide)) rfl D__law_cell_at.mg D__law_cell_at.F.kp D__law_cell_at.b .nil pass0 (pa_cons (pv 0) (pa_cons pe_int pa_nil))) (pa_cons (pe_call G__law_how_many (hr.mono (by decide)) rfl D__law_how_many.mg D__law_how_many.F.kp D__law_how_many.b .nil pass0 (pa_cons (pe_op op_fdiv (pv 1) pe_int) pa_nil)) pa_nil))))
      (@pss_cons _ _ _ _ _ (ps_if (pt_cmpR op_eq (pe_op op_mod (pe_op op_fdiv (pv 1) pe_int) pe_int) pe_int (nomark _))
      (@pss_one _ _ _ (ps_set (i := 2) sc_law.nd rfl (Or.inl rfl) (pe_slice sl_list (pe_lst (pa_cons pe_str (pa_cons pe_str (pa_cons pe_str (pa_cons pe_str (pa_cons pe_str (pa_cons pe_str pa_nil))))))) po_none (po_some (pe_callB call_lenL rfl T.len PySem.boot_len (pa_cons (pv 2) pa_nil))))))
      pss_nil)
      (@pss_cons _ _ _ _ _ (ps_set (i := 3) sc_law.nd rfl (Or.inl rfl) (pe_make M_Forest G_Forest_init (hr.mono (by decide)) rfl T.c_Forest B_Forest_init .nil passE (pa_cons (pe_call G__law_nodes (hr.mono (by decide)) rfl D__law_nodes.mg D__law_nodes.F.kp D__law_nodes.b .nil pass0 (pa_cons (pe_call G__law_cells (hr.mono (by decide)) rfl D__law_cells.mg D__law_cells.F.kp D__law_cells.b .nil pass0 (pa_cons (pv 0) (pa_cons pe_int (pa_cons (pe_call G__law_cell_at (hr.mono (by decide)) rfl D__law_cell_at.mg D__law_cell_at.F.kp D__law_cell_at.b .nil pass0 (pa_cons (pv 0) (pa_cons pe_int pa_nil))) (pa_cons pe_int pa_nil))))) (pa_cons (pv 2) pa_nil))) pa_nil)))
      (@pss_cons _ _ _ _ _ (ps_if (pt_cmpR op_eq (pe_op op_mod (pv 1) pe_int) pe_int (nomark _))
      (@pss_one _ _ _ (ps_set (i := 3) sc_law.nd rfl (Or.inl rfl) (pe_meth (pv 3) T.cl_Forest ME_Forest_left G_Forest_left (hr.mono (by decide)) B_Forest_left .nil passE (pa_cons (pe_call G__law_some (hr.mono (by decide)) rfl D__law_some.mg D__law_some.F.kp D__law_some.b .nil pass0 (pa_cons (pe_call G__law_cell_at (hr.mono (by decide)) rfl D__law_cell_at.mg D__law_cell_at.F.kp D__law_cell_at.b .nil pass0 (pa_cons (pv 0) (pa_cons pe_int pa_nil))) (pa_cons (pe_meth0 (pv 3) T.cl_Forest ME_Forest_many G_Forest_many (hr.mono (by decide)) B_Forest_many .nil pass0) pa_nil))) pa_nil))))
      pss_nil)
      (@pss_cons _ _ _ _ _ (ps_set (i := 4) sc_law.nd rfl (Or.inl rfl) (pe_meth0 (pv 3) T.cl_Forest ME_Forest_form G_Forest_form (hr.mono (by decide)) B_Forest_form .nil pass0))
      (@pss_cons _ _ _ _ _ (ps_set (i := 5) sc_law.nd rfl (Or.inl rfl) pe_str)
      (@pss_cons _ _ _ _ _ (ps_if (pt_cmpR op_gt (pe_callB call_lenT rfl T.len PySem.boot_len (pa_cons (pe_ix ix_tup (pv 4) pe_int (fun _ _ => rfl)) pa_nil)) pe_int (nomark _))
      (@pss_one _ _ _ (ps_set (i := 5) sc_law.nd rfl (Or.inl rfl) (pe_op op_add_str pe_str (pe_call G__law_forest_text (hr.mono (by decide)) rfl D__law_forest_text.mg D__law_forest_text.F.kp D__law_forest_text.b .nil pass0 (pa_cons (pe_ix ix_tup (pv 4) pe_int (fun _ _ => rfl)) pa_nil)))))
      pss_nil)
      (@pss_cons _ _ _ _ _ (ps_set (i := 6) sc_law.nd rfl (Or.inl rfl) (pe_call G_show_thing (hr.mono (by decide)) rfl D_show_thing.mg D_show_thing.F.kp D_show_thing.b .nil pass0 (pa_cons (pv 3) pa_nil)))
      (@pss_cons _ _ _ _ _ (ps_if (PW.pt (pw_or (pt_not (pt_val (pe_callB call_isiT rfl T.isinstance PyProof.Rows.boot_isinstance (pa_cons (pv 6) (pa_cons (pe_ty rfl T.str PyProof.Rows.boot_str) pa_nil))))) (pw_or1 (pt_cmpR op_ne (pv 6) (pv 5) (nomark _)))))
      (@pss_one _ _ _ (ps_ret pe_bl))
      pss_nil)
      (@pss_cons _ _ _ _ _ (ps_set (i := 7) sc_law.nd rfl (Or.inl rfl) (pe_call G_read_thing (hr.mono (by decide)) rfl D_read_thing.mg D_read_thing.F.kp D_read_thing.b .nil passE (pa_cons (pv 6) pa_nil)))
      (@pss_one _ _ _ (ps_ret (pe_and (pe_cmpR (op_eqD hu) (pe_meth0 (pv 7) T.cl_Forest ME_Forest_form G_Forest_form (hr.mono (by decide)) B_Forest_form .nil pass0) (pv 4) (nomark _)) (pe_and (pe_cmpR (op_eqD hu) (pe_meth0 (pv 3) T.cl_Forest ME_Forest_form G_Forest_form (hr.mono (by decide)) B_Forest_form .nil pass0) (pv 4) (nomark _)) (pe_one (pe_cmpR op_eq (pe_call G_show_thing (hr.mono (by decide)) rfl D_show_thing.mg D_show_thing.F.kp D_show_thing.b .nil pass0 (pa_cons (pv 7) pa_nil)) (pv 6) (nomark _)))))))))))))))))), ?_⟩
    refine tseq_open fun B hB => ?_
    and_intros
    refine ⟨a, ns, 0, rfl, hS, ?_⟩
    generalize cellF ns 0 = sd
    subst hB
    refine tseq_open fun B hB => ?_
    and_intros
    refine ⟨a, ns, 1, rfl, hS, _, rfl, fun m m1 m25 => ⟨_, m, rfl, by omega, m25, fun zs l1 H1 hzl hzm s1 hl1 => ?_⟩⟩
    subst hB
    refine tseq_open fun B hB => ?_
    have hz0 : 0 < zs.length := by omega
    have main : ∀ (H2 : Hp) (l2 : Addr) (ws : List Str), Same H H2 → H2 l2 = some (.lst (ws.map V.str)) → 0 < ws.length → (∀ z ∈ ws, markS z = true) → B ({ nx := fun _ H' => Q .non H', rt := Q } : Ends) [some (.ref a), some (.int sd), some (.ref l2), none, none, none, none, none] H2 := fun H2 l2 ws s2 hl2 hw0 hwm => by
      have S2 := hS.same s2
      subst hB
      refine tseq_open fun B hB => ?_
      have made : ∀ p nd H3, Same H2 H3 → ThF ad H3 p nd → B ({ nx := fun _ H' => Q .non H', rt := Q } : Ends) [some (.ref a), some (.int sd), some (.ref l2), some (.ref p), none, none, none, none] H3 := fun p nd H3 s3 hT => by
        have S3 := S2.same s3
        subst hB
        refine tseq_open fun B hB => ?_
        have tail : ∀ q e H4, ThF ad H4 q e → B ({ nx := fun _ H' => Q .non H', rt := Q } : Ends) [some (.ref a), some (.int sd), some (.ref l2), some (.ref q), none, none, none, none] H4 := fun q e H4 hQ => by
          have eO := hQ.2.1
          have e40 := hQ.2.2
          have il := ins_len eO e40
          subst hB
          refine tseq_open fun B hB => ?_
          and_intros
          refine form_F hQ fun f H5 s5 hf5 => ?_
          have hQ5 := hQ.same s5
          subst hB
          refine tseq_open fun B hB => ?_
          and_intros
          subst hB
          refine tseq_open fun B hB => ?_
          have rest : ∀ H6, Same H5 H6 → B ({ nx := fun _ H' => Q .non H', rt := Q } : Ends) [some (.ref a), some (.int sd), some (.ref l2), some (.ref q), some (.ref f), some (.str (textF e)), none, none] H6 := fun H6 s6 => by
            subst hB
            refine tseq_open fun B hB => ?_
            and_intros
            refine ⟨q, e, rfl, hQ5.same s6, fun H7 s7 => ?_⟩
            subst hB
            refine tseq_open fun B hB => ?_
            and_intros
            refine ⟨_, .str _, true, rfl, ?_⟩
            rw [if_neg (by decide)]
            subst hB
            refine tseq_open fun B hB => ?_
            and_intros
            refine ⟨e, rfl, eO, e40, fun r H8 s8 hR => ?_⟩
            have s58 := (s6.trans s7).trans s8
            have hf8 := hf5.same s58
            subst hB
            and_intros
            refine form_F hR fun g H9 s9 hg => ?_
            refine ⟨_, _, hg.dat, (hf8.same s9).dat, shaped_F eO, shaped_F eO, ?_⟩
            rw [eqv_F eO]
            refine ⟨true, rfl, ?_⟩
            rw [if_pos rfl]
            refine form_F ((hQ5.same s58).same s9) fun g2 HA sA hg2 => ?_
            refine ⟨_, _, hg2.dat, ((hf8.same s9).same sA).dat, shaped_F eO, shaped_F eO, ?_⟩
            rw [eqv_F eO]
            refine ⟨true, rfl, ?_⟩
            rw [if_pos rfl]
            refine ⟨r, e, rfl, (hR.same s9).same sA, fun HB sB => ?_⟩
            dsimp only
            refine ⟨rfl, ?_⟩
            rw [decide_eq_true rfl]
            exact k _
          and_intros
          obtain ⟨t, ys, h1, h2, h3⟩ := id hf5
          have ly := h3.length
          refine ⟨_, SqT.of h1, _, rfl, t, rfl, _, SqT.of h2, ?_⟩
          by_cases he : e = []
          · have q := rest H5 (Same.refl _)
            rw [show textF e = Str.ofString "forest" from if_pos he] at q
            rw [if_neg (by rw [ly, he]; decide)]
            exact q
          · rw [if_pos (by rw [ly]; have := List.length_pos_iff.mpr he; omega)]
            refine ⟨_, SqT.of h1, _, rfl, t, ys, e, rfl, SqT.of h2, h3, eO, e40, he, fun H6 s6 => ?_⟩
            have q := rest H6 s6
            rw [show textF e = Str.ofString "forest " ++ insS e from (if_neg he).trans (by rw [show Str.ofString "forest" ++ Str.ofString " " = Str.ofString "forest " by decide +kernel])] at q
            have f7 : (Str.ofString "forest ").length = 7 := by decide +kernel
            have li : (insS e).length = (insL e).length := rfl
            exact ⟨_, rfl, big9 (by omega), q⟩
        and_intros
        refine ite2 (fun _ => ?_) fun _ => tail p nd H3 hT
        obtain ⟨⟨dx, t1, t2, xs, h1, _⟩, o1, o2⟩ := id hT
        refine ⟨dx, _, h1, lookup_no (by decide +kernel) (by decide +kernel), a, ns, 2, rfl, S3, dx, _, h1, lookup_no (by decide +kernel) (by decide +kernel), p, nd, rfl, hT.1, ?_⟩
        refine ⟨_, nd.length, rfl, by omega, fun ps lp H4 s4 hlp hp => ?_⟩
        have lps := places_len hp (by omega)
        refine ⟨p, .ref lp, nd, rfl, hT.1.same s4, o1, o2, thg2_ints hlp, fun a' qs e g _ q H' s r => ?_, fun nb => absurd ⟨lp, ps, rfl, hlp, hp⟩ nb⟩
        cases e
        rw [hlp] at g
        have := map_int_inj (HO.lst.inj (Option.some.inj g))
        subst this
        exact tail q _ H' ⟨r, left_ok o1 hp, by unfold leftN; rw [List.length_map]; omega⟩
      and_intros
      refine ⟨a, ns, 3, rfl, S2, a, ns, 4, _, rfl, by decide, S2, fun ms lc Hc hms sc hlc => ?_⟩
      refine ⟨lc, l2, ms, ws, rfl, hlc, sc _ _ hl2, hms, hw0, hwm, fun nd xs l3 H3 s3 hl3 hn3 hd3 hl40 x dx hx hdx hne => ?_⟩
      have hlen := hn3.length
      have n8 : ∀ n ∈ nd, n.1.length ≤ 1000 := fun n h => by have := (mark_all (depthOk_all hd3 n h).1).2.1; omega
      have s67 : Same H3 (upd (upd H3 dx (.own x)) x (.ins ad.Forest dx [])) := (Same.put hdx).upd (by rw [upd_ne (Ne.symm hne)]; exact hx)
      have hn7 := hn3.same s67
      refine ⟨x, dx, .ref l3, rfl, upd_same, thg4_lst (s67 _ _ hl3) (hn7.thg3 n8), fun a' xs' ns' e h _ hm' _ H8 hfor sb => ⟨rfl, ?_⟩, fun hb => absurd ⟨l3, _, _, rfl, s67 _ _ hl3, by omega, hn7, hd3⟩ hb⟩
      cases e
      rw [s67 _ _ hl3] at h
      cases h
      have := hm'.uniq hn7
      subst this
      exact made x ns' H8 ((sc.trans s3).trans fun b o e => sb b o (ne_of_none e hx) (s67 b o e)) ⟨hfor, hd3, hl40⟩
    and_intros
    refine ite2 (fun _ => ?_) fun _ => main H1 l1 zs s1 hl1 hz0 hzm
    refine ⟨by decide, fun p hp => ?_⟩
    have s2 := Same.put (o := .lst [V.str (Str.ofString "forest"), V.str (Str.ofString "row"), V.str (Str.ofString "table"), V.str (Str.ofString "not"), V.str (Str.ofString "many"), V.str (Str.ofString "has")]) hp
    have f2 : (upd H1 p (.lst [V.str (Str.ofString "forest"), V.str (Str.ofString "row"), V.str (Str.ofString "table"), V.str (Str.ofString "not"), V.str (Str.ofString "many"), V.str (Str.ofString "has")])) p = some (.lst [V.str (Str.ofString "forest"), V.str (Str.ofString "row"), V.str (Str.ofString "table"), V.str (Str.ofString "not"), V.str (Str.ofString "many"), V.str (Str.ofString "has")]) := upd_same
    generalize (upd H1 p (.lst [V.str (Str.ofString "forest"), V.str (Str.ofString "row"), V.str (Str.ofString "table"), V.str (Str.ofString "not"), V.str (Str.ofString "many"), V.str (Str.ofString "has")])) = H2 at s2 f2 ⊢
    refine ⟨_, SqL.of (s2 _ _ hl1), _, SqL.of f2, fun l2 hl2 => ?_⟩
    rw [List.length_map, cut_to rfl]
    refine main _ l2 ((["forest", "row", "table", "not", "many", "has"] : List Str).take zs.length) ((s1.trans s2).upd hl2) (by rw [upd_same, List.map_take]; rfl) (by rw [List.length_take]; show 0 < min zs.length 6; omega) fun z hz => ?_
    exact List.all_eq_true.mp (show ((["forest", "row", "table", "not", "many", "has"] : List Str).all markS) = true by decide +kernel) z (List.mem_of_mem_take hz)
end
def Lies (K : PySem.W.Frag) (f : Addr) (x d : Str) (st : Stmt) (fd : FuncData) : Prop := ∃ oc od kV dc pm an cd ct sl, fd = PySem.W.fnOf x d (defArgs st) (defBody st) (defScope st) .none kV dc pm an cd ct ∧ K.lookup f = some ⟨oc, od, .func fd, sl⟩ ∧ PySem.W.codeIn K cd d = true ∧ PySem.W.keepIn K (.ref f) = true ∧ PySem.W.isFn K (.ref f) = true
theorem Lies.fn {K : PySem.W.Frag} {f : Addr} {x d : Str} {st : Stmt} {fd : FuncData} (h : Lies K f x d st fd) : Fun K x d st f fd := by
  obtain ⟨oc, od, kV, dc, pm, an, cd, ct, sl, rfl, l, c, k, _⟩ := h
  exact fun_mk l c k
theorem Lies.kp {K : PySem.W.Frag} {f : Addr} {x d : Str} {st : Stmt} {fd : FuncData} (h : Lies K f x d st fd) : PySem.W.keepIn K (.ref f) = true := let ⟨_, _, _, _, _, _, _, _, _, _, _, _, k, _⟩ := h; k
theorem Lies.isf {K : PySem.W.Frag} {f : Addr} {x d : Str} {st : Stmt} {fd : FuncData} (h : Lies K f x d st fd) : PySem.W.isFn K (.ref f) = true := let ⟨_, _, _, _, _, _, _, _, _, _, _, _, _, n⟩ := h; n
theorem all_mk {l : PySem.W.OpenLaw} {w : World} {K : PySem.W.Frag} {h : Heap} {mg : Str → Option Value} {fa C_ShrinkError C_NoThing C_NoPlace C_NoText C_Thing C_Row C_Forest C_Table f_is_whole f_is_mark f_check_list f_check_node f_check_nodes f_check_places f_Thing_init f_Row_init f_Forest_init f_Forest_many f_Forest_left f_Forest_form f_Table_init f_show_line f_signs_between f_show_nodes f_show_thing f_nodes_in f_lines_in f_marks_in f_made_of f_read_thing f__law_cell_at f__law_mix f__law_how_many f__law_marks f__law_pick f__law_cells f__law_nodes f__law_some f__law_forest_text f_law : Addr} (X : K.In h) (G : h.Ns mainGlobals mg) (hfa : mg "law" = some (.ref fa))
    {fd_is_whole fd_is_mark fd_check_list fd_check_node fd_check_nodes fd_check_places fd_Thing_init fd_Row_init fd_Forest_init fd_Forest_many fd_Forest_left fd_Forest_form fd_Table_init fd_show_line fd_signs_between fd_show_nodes fd_show_thing fd_nodes_in fd_lines_in fd_marks_in fd_made_of fd_read_thing fd__law_cell_at fd__law_mix fd__law_how_many fd__law_marks fd__law_pick fd__law_cells fd__law_nodes fd__law_some fd__law_forest_text fd_law : FuncData} {tk_LETTERS tk_LONGEST_MARK tk_MOST_NODES tk_DEEPEST : Tok} {cd_NoPlace cd_NoText cd_NoThing : ClassData}
    (a_ShrinkError : PySem.W.nsIn K mainGlobals "ShrinkError" = some (some (.ref C_ShrinkError)))
    (a_NoThing : PySem.W.nsIn K mainGlobals "NoThing" = some (some (.ref C_NoThing)))
    (a_NoPlace : PySem.W.nsIn K mainGlobals "NoPlace" = some (some (.ref C_NoPlace)))
    (a_NoText : PySem.W.nsIn K mainGlobals "NoText" = some (some (.ref C_NoText)))
    (a_Thing : PySem.W.nsIn K mainGlobals "Thing" = some (some (.ref C_Thing)))
    (a_Row : PySem.W.nsIn K mainGlobals "Row" = some (some (.ref C_Row)))
    (a_Forest : PySem.W.nsIn K mainGlobals "Forest" = some (some (.ref C_Forest)))
    (a_Table : PySem.W.nsIn K mainGlobals "Table" = some (some (.ref C_Table)))
    (a_is_whole : PySem.W.nsIn K mainGlobals "is_whole" = some (some (.ref f_is_whole)))
    (l_is_whole : Lies K f_is_whole "is_whole" "is_whole" s_is_whole fd_is_whole)
    (a_is_mark : PySem.W.nsIn K mainGlobals "is_mark" = some (some (.ref f_is_mark)))
    (l_is_mark : Lies K f_is_mark "is_mark" "is_mark" s_is_mark fd_is_mark)
    (a_check_list : PySem.W.nsIn K mainGlobals "check_list" = some (some (.ref f_check_list)))
    (l_check_list : Lies K f_check_list "check_list" "check_list" s_check_list fd_check_list)
    (a_check_node : PySem.W.nsIn K mainGlobals "check_node" = some (some (.ref f_check_node)))
    (l_check_node : Lies K f_check_node "check_node" "check_node" s_check_node fd_check_node)
    (a_check_nodes : PySem.W.nsIn K mainGlobals "check_nodes" = some (some (.ref f_check_nodes)))
    (l_check_nodes : Lies K f_check_nodes "check_nodes" "check_nodes" s_check_nodes fd_check_nodes)
    (a_check_places : PySem.W.nsIn K mainGlobals "check_places" = some (some (.ref f_check_places)))
    (l_check_places : Lies K f_check_places "check_places" "check_places" s_check_places fd_check_places)
    (a_Thing_init : PySem.W.findCls K (.ref C_Thing) (.type "type") "__init__" = some (.val (.ref f_Thing_init)))
    (l_Thing_init : Lies K f_Thing_init "__init__" "Thing.__init__" s_Thing_init fd_Thing_init)
    (l_Row_init : Lies K f_Row_init "__init__" "Row.__init__" s_Row_init fd_Row_init)
    (l_Forest_init : Lies K f_Forest_init "__init__" "Forest.__init__" s_Forest_init fd_Forest_init)
    (i_Forest_many : PySem.W.findIn K (.ref C_Forest) "many" = some (some (.ref f_Forest_many)))
    (l_Forest_many : Lies K f_Forest_many "many" "Forest.many" s_Forest_many fd_Forest_many)
    (i_Forest_left : PySem.W.findIn K (.ref C_Forest) "left" = some (some (.ref f_Forest_left)))
    (l_Forest_left : Lies K f_Forest_left "left" "Forest.left" s_Forest_left fd_Forest_left)
    (i_Forest_form : PySem.W.findIn K (.ref C_Forest) "form" = some (some (.ref f_Forest_form)))
    (l_Forest_form : Lies K f_Forest_form "form" "Forest.form" s_Forest_form fd_Forest_form)
    (l_Table_init : Lies K f_Table_init "__init__" "Table.__init__" s_Table_init fd_Table_init)
    (a_show_line : PySem.W.nsIn K mainGlobals "show_line" = some (some (.ref f_show_line)))
    (l_show_line : Lies K f_show_line "show_line" "show_line" s_show_line fd_show_line)
    (a_signs_between : PySem.W.nsIn K mainGlobals "signs_between" = some (some (.ref f_signs_between)))
    (l_signs_between : Lies K f_signs_between "signs_between" "signs_between" s_signs_between fd_signs_between)
    (a_show_nodes : PySem.W.nsIn K mainGlobals "show_nodes" = some (some (.ref f_show_nodes)))
    (l_show_nodes : Lies K f_show_nodes "show_nodes" "show_nodes" s_show_nodes fd_show_nodes)
    (a_show_thing : PySem.W.nsIn K mainGlobals "show_thing" = some (some (.ref f_show_thing)))
    (l_show_thing : Lies K f_show_thing "show_thing" "show_thing" s_show_thing fd_show_thing)
    (a_nodes_in : PySem.W.nsIn K mainGlobals "nodes_in" = some (some (.ref f_nodes_in)))
    (l_nodes_in : Lies K f_nodes_in "nodes_in" "nodes_in" s_nodes_in fd_nodes_in)
    (a_lines_in : PySem.W.nsIn K mainGlobals "lines_in" = some (some (.ref f_lines_in)))
    (l_lines_in : Lies K f_lines_in "lines_in" "lines_in" s_lines_in fd_lines_in)
    (a_marks_in : PySem.W.nsIn K mainGlobals "marks_in" = some (some (.ref f_marks_in)))
    (l_marks_in : Lies K f_marks_in "marks_in" "marks_in" s_marks_in fd_marks_in)
    (a_made_of : PySem.W.nsIn K mainGlobals "made_of" = some (some (.ref f_made_of)))
    (l_made_of : Lies K f_made_of "made_of" "made_of" s_made_of fd_made_of)
    (a_read_thing : PySem.W.nsIn K mainGlobals "read_thing" = some (some (.ref f_read_thing)))
    (l_read_thing : Lies K f_read_thing "read_thing" "read_thing" s_read_thing fd_read_thing)
    (a__law_cell_at : PySem.W.nsIn K mainGlobals "_law_cell_at" = some (some (.ref f__law_cell_at)))
    (l__law_cell_at : Lies K f__law_cell_at "_law_cell_at" "_law_cell_at" s__law_cell_at fd__law_cell_at)
    (a__law_mix : PySem.W.nsIn K mainGlobals "_law_mix" = some (some (.ref f__law_mix)))
    (l__law_mix : Lies K f__law_mix "_law_mix" "_law_mix" s__law_mix fd__law_mix)
    (a__law_how_many : PySem.W.nsIn K mainGlobals "_law_how_many" = some (some (.ref f__law_how_many)))
    (l__law_how_many : Lies K f__law_how_many "_law_how_many" "_law_how_many" s__law_how_many fd__law_how_many)
    (a__law_marks : PySem.W.nsIn K mainGlobals "_law_marks" = some (some (.ref f__law_marks)))
    (l__law_marks : Lies K f__law_marks "_law_marks" "_law_marks" s__law_marks fd__law_marks)
    (a__law_pick : PySem.W.nsIn K mainGlobals "_law_pick" = some (some (.ref f__law_pick)))
    (l__law_pick : Lies K f__law_pick "_law_pick" "_law_pick" s__law_pick fd__law_pick)
    (a__law_cells : PySem.W.nsIn K mainGlobals "_law_cells" = some (some (.ref f__law_cells)))
    (l__law_cells : Lies K f__law_cells "_law_cells" "_law_cells" s__law_cells fd__law_cells)
    (a__law_nodes : PySem.W.nsIn K mainGlobals "_law_nodes" = some (some (.ref f__law_nodes)))
    (l__law_nodes : Lies K f__law_nodes "_law_nodes" "_law_nodes" s__law_nodes fd__law_nodes)
    (a__law_some : PySem.W.nsIn K mainGlobals "_law_some" = some (some (.ref f__law_some)))
    (l__law_some : Lies K f__law_some "_law_some" "_law_some" s__law_some fd__law_some)
    (a__law_forest_text : PySem.W.nsIn K mainGlobals "_law_forest_text" = some (some (.ref f__law_forest_text)))
    (l__law_forest_text : Lies K f__law_forest_text "_law_forest_text" "_law_forest_text" s__law_forest_text fd__law_forest_text)
    (a_law : PySem.W.nsIn K mainGlobals "law" = some (some (.ref f_law)))
    (l_law : Lies K f_law "law" "law" s_law fd_law)
    (z_all : PySem.W.nsIn K mainGlobals "all" = some none)
    (z_bool : PySem.W.nsIn K mainGlobals "bool" = some none)
    (z_dict : PySem.W.nsIn K mainGlobals "dict" = some none)
    (z_enumerate : PySem.W.nsIn K mainGlobals "enumerate" = some none)
    (z_int : PySem.W.nsIn K mainGlobals "int" = some none)
    (z_isinstance : PySem.W.nsIn K mainGlobals "isinstance" = some none)
    (z_len : PySem.W.nsIn K mainGlobals "len" = some none)
    (z_list : PySem.W.nsIn K mainGlobals "list" = some none)
    (z_min : PySem.W.nsIn K mainGlobals "min" = some none)
    (z_range : PySem.W.nsIn K mainGlobals "range" = some none)
    (z_str : PySem.W.nsIn K mainGlobals "str" = some none)
    (z_tuple : PySem.W.nsIn K mainGlobals "tuple" = some none)
    (g_LETTERS : PySem.W.nsIn K mainGlobals "LETTERS" = some (some (.str LET tk_LETTERS)))
    (g_LONGEST_MARK : PySem.W.nsIn K mainGlobals "LONGEST_MARK" = some (some (.int 8 tk_LONGEST_MARK)))
    (g_MOST_NODES : PySem.W.nsIn K mainGlobals "MOST_NODES" = some (some (.int 40 tk_MOST_NODES)))
    (g_DEEPEST : PySem.W.nsIn K mainGlobals "DEEPEST" = some (some (.int 12 tk_DEEPEST)))
    (x1_NoPlace : PySem.W.excIn K C_NoPlace [.type "ValueError", .type "Exception", .type "BaseException", .type "object"] "ValueError.__new__" = true)
    (x2_NoPlace : PySem.W.findIn K (.ref C_NoPlace) "__getattribute__" = some (some (.builtin "BaseException.__getattribute__")))
    (x3_NoPlace : PySem.W.findIn K (.ref C_NoPlace) "__getattr__" = some none)
    (x4_NoPlace : PySem.W.findIn K (.ref C_NoPlace) "__class__" = some (some (.builtin "object.__class__")))
    (x5_NoPlace : PySem.W.mroIn K C_NoPlace (.type "object") = some true)
    (x6_NoPlace : PySem.W.subIn K (.ref C_NoPlace) (.type "BaseException") = some true)
    (x7_NoPlace : PySem.W.clsIn K C_NoPlace = some cd_NoPlace)
    (x1_NoText : PySem.W.excIn K C_NoText [.type "ValueError", .type "Exception", .type "BaseException", .type "object"] "ValueError.__new__" = true)
    (x2_NoText : PySem.W.findIn K (.ref C_NoText) "__getattribute__" = some (some (.builtin "BaseException.__getattribute__")))
    (x3_NoText : PySem.W.findIn K (.ref C_NoText) "__getattr__" = some none)
    (x4_NoText : PySem.W.findIn K (.ref C_NoText) "__class__" = some (some (.builtin "object.__class__")))
    (x5_NoText : PySem.W.mroIn K C_NoText (.type "object") = some true)
    (x6_NoText : PySem.W.subIn K (.ref C_NoText) (.type "BaseException") = some true)
    (x7_NoText : PySem.W.clsIn K C_NoText = some cd_NoText)
    (x1_NoThing : PySem.W.excIn K C_NoThing [.type "ValueError", .type "Exception", .type "BaseException", .type "object"] "ValueError.__new__" = true)
    (x2_NoThing : PySem.W.findIn K (.ref C_NoThing) "__getattribute__" = some (some (.builtin "BaseException.__getattribute__")))
    (x3_NoThing : PySem.W.findIn K (.ref C_NoThing) "__getattr__" = some none)
    (x4_NoThing : PySem.W.findIn K (.ref C_NoThing) "__class__" = some (some (.builtin "object.__class__")))
    (x5_NoThing : PySem.W.mroIn K C_NoThing (.type "object") = some true)
    (x6_NoThing : PySem.W.subIn K (.ref C_NoThing) (.type "BaseException") = some true)
    (x7_NoThing : PySem.W.clsIn K C_NoThing = some cd_NoThing)
    (r1_Forest : PySem.W.plainGet K C_Forest Str.empty = true)
    (r2_Forest : PySem.W.hasDictIn K C_Forest = true)
    (r3_Forest : PySem.W.plainOver K C_Forest = true)
    (r4_Forest : PySem.W.findIn K (.ref C_Forest) "__setattr__" = some (some (.builtin "object.__setattr__")))
    (n_Forest_nodes : PySem.W.findIn K (.ref C_Forest) "nodes" = some none)
    (n_Forest_spot_marks : PySem.W.findIn K (.ref C_Forest) "spot_marks" = some none)
    (r6_Forest : PySem.W.findIn K (.ref C_Forest) "__class__" = some (some (.builtin "object.__class__")))
    (r9_Forest : PySem.W.mroIn K C_Forest (.type "object") = some true)
    (r1_Row : PySem.W.plainGet K C_Row Str.empty = true)
    (r2_Row : PySem.W.hasDictIn K C_Row = true)
    (r3_Row : PySem.W.plainOver K C_Row = true)
    (r4_Row : PySem.W.findIn K (.ref C_Row) "__setattr__" = some (some (.builtin "object.__setattr__")))
    (n_Row_spot_marks : PySem.W.findIn K (.ref C_Row) "spot_marks" = some none)
    (r6_Row : PySem.W.findIn K (.ref C_Row) "__class__" = some (some (.builtin "object.__class__")))
    (r9_Row : PySem.W.mroIn K C_Row (.type "object") = some true)
    (r1_Table : PySem.W.plainGet K C_Table Str.empty = true)
    (r2_Table : PySem.W.hasDictIn K C_Table = true)
    (r3_Table : PySem.W.plainOver K C_Table = true)
    (r4_Table : PySem.W.findIn K (.ref C_Table) "__setattr__" = some (some (.builtin "object.__setattr__")))
    (n_Table_columns : PySem.W.findIn K (.ref C_Table) "columns" = some none)
    (n_Table_lines : PySem.W.findIn K (.ref C_Table) "lines" = some none)
    (n_Table_spot_marks : PySem.W.findIn K (.ref C_Table) "spot_marks" = some none)
    (r6_Table : PySem.W.findIn K (.ref C_Table) "__class__" = some (some (.builtin "object.__class__")))
    (r9_Table : PySem.W.mroIn K C_Table (.type "object") = some true)
    (r7 : PySem.W.specialIn K (.builtin "object.__class__") "__get__" = some (some (.builtin "getset_descriptor.__get__")))
    (r8 : PySem.W.takesIn K (.builtin "object.__class__") = some true)
    (mi_Forest : PySem.W.findIn K (.ref C_Forest) "__init__" = some (some (.ref f_Forest_init)))
    (m1_Forest : PySem.W.makesIn K C_Forest = true)
    (m2_Forest : PySem.W.keepIn K (.ref C_Forest) = true)
    (mi_Row : PySem.W.findIn K (.ref C_Row) "__init__" = some (some (.ref f_Row_init)))
    (m1_Row : PySem.W.makesIn K C_Row = true)
    (m2_Row : PySem.W.keepIn K (.ref C_Row) = true)
    (mi_Table : PySem.W.findIn K (.ref C_Table) "__init__" = some (some (.ref f_Table_init)))
    (m1_Table : PySem.W.makesIn K C_Table = true)
    (m2_Table : PySem.W.keepIn K (.ref C_Table) = true)
    (th1_Thing : PySem.W.specialIn K (.ref C_Thing) "__getattribute__" = some (some (.builtin "type.__getattribute__")))
    (th2_Thing : PySem.W.readsIn K C_Thing (.type "type") = true) :
    ∃ fd : FuncData, (∀ (s : Shared) (v : Value), BindsTo s fd ⟨[v], []⟩ [("_law_script", v)]) ∧ ∀ base : Heap, K.In base → base.Ns mainGlobals mg → FnOk l.prog w K mg base CX0 8 fa fd ["_law_script"] (sp_law K) := by
  have e := hfa.symm.trans (PySem.W.mg_of X G a_law)
  cases e
  have T : Txt K mg ⟨C_ShrinkError, C_NoThing, C_NoPlace, C_NoText, C_Thing, C_Row, C_Forest, C_Table⟩ := ⟨PySem.W.mg_none_of X G z_all, PySem.W.mg_none_of X G z_bool, PySem.W.mg_none_of X G z_dict, PySem.W.mg_none_of X G z_enumerate, PySem.W.mg_none_of X G z_int, PySem.W.mg_none_of X G z_isinstance, PySem.W.mg_none_of X G z_len, PySem.W.mg_none_of X G z_list, PySem.W.mg_none_of X G z_min, PySem.W.mg_none_of X G z_range, PySem.W.mg_none_of X G z_str, PySem.W.mg_none_of X G z_tuple, PySem.W.mg_of X G a_ShrinkError, PySem.W.mg_of X G a_NoThing, PySem.W.mg_of X G a_NoPlace, PySem.W.mg_of X G a_NoText, PySem.W.mg_of X G a_Thing, PySem.W.mg_of X G a_Row, PySem.W.mg_of X G a_Forest, PySem.W.mg_of X G a_Table, ⟨_, PySem.W.mg_of X G g_LETTERS⟩, ⟨_, PySem.W.mg_of X G g_LONGEST_MARK⟩, ⟨_, PySem.W.mg_of X G g_MOST_NODES⟩, ⟨_, PySem.W.mg_of X G g_DEEPEST⟩, ⟨PySem.W.mg_of X G a_NoPlace, a_NoPlace, x1_NoPlace⟩, ⟨x2_NoPlace, x3_NoPlace, x4_NoPlace, x5_NoPlace, x6_NoPlace, by rw [x7_NoPlace]; rfl⟩, ⟨PySem.W.mg_of X G a_NoText, a_NoText, x1_NoText⟩, ⟨x2_NoText, x3_NoText, x4_NoText, x5_NoText, x6_NoText, by rw [x7_NoText]; rfl⟩, ⟨PySem.W.mg_of X G a_NoThing, a_NoThing, x1_NoThing⟩, ⟨x2_NoThing, x3_NoThing, x4_NoThing, x5_NoThing, x6_NoThing, by rw [x7_NoThing]; rfl⟩, ⟨r1_Forest, r2_Forest, r3_Forest, r4_Forest⟩, n_Forest_nodes, n_Forest_spot_marks, r6_Forest, r9_Forest, ⟨r1_Row, r2_Row, r3_Row, r4_Row⟩, n_Row_spot_marks, r6_Row, r9_Row, ⟨r1_Table, r2_Table, r3_Table, r4_Table⟩, n_Table_columns, n_Table_lines, n_Table_spot_marks, r6_Table, r9_Table, r7, r8⟩
  have F_is_whole := l_is_whole.fn
  have D_is_whole : Def K mg "is_whole" s_is_whole ["thing"] f_is_whole _ := ⟨F_is_whole, PySem.W.mg_of X G a_is_whole, F_is_whole.binds (ps := ["thing"]) fun _ _ _ _ _ _ us hl => match us, hl with | [_], _ => rfl⟩
  have F_is_mark := l_is_mark.fn
  have D_is_mark : Def K mg "is_mark" s_is_mark ["thing"] f_is_mark _ := ⟨F_is_mark, PySem.W.mg_of X G a_is_mark, F_is_mark.binds (ps := ["thing"]) fun _ _ _ _ _ _ us hl => match us, hl with | [_], _ => rfl⟩
  have F_check_list := l_check_list.fn
  have D_check_list : Def K mg "check_list" s_check_list ["thing", "most"] f_check_list _ := ⟨F_check_list, PySem.W.mg_of X G a_check_list, F_check_list.binds (ps := ["thing", "most"]) fun _ _ _ _ _ _ us hl => match us, hl with | [_, _], _ => rfl⟩
  have F_check_node := l_check_node.fn
  have D_check_node : Def K mg "check_node" s_check_node ["node", "deepest"] f_check_node _ := ⟨F_check_node, PySem.W.mg_of X G a_check_node, F_check_node.binds (ps := ["node", "deepest"]) fun _ _ _ _ _ _ us hl => match us, hl with | [_, _], _ => rfl⟩
  have F_check_nodes := l_check_nodes.fn
  have D_check_nodes : Def K mg "check_nodes" s_check_nodes ["nodes"] f_check_nodes _ := ⟨F_check_nodes, PySem.W.mg_of X G a_check_nodes, F_check_nodes.binds (ps := ["nodes"]) fun _ _ _ _ _ _ us hl => match us, hl with | [_], _ => rfl⟩
  have F_check_places := l_check_places.fn
  have D_check_places : Def K mg "check_places" s_check_places ["places", "many"] f_check_places _ := ⟨F_check_places, PySem.W.mg_of X G a_check_places, F_check_places.binds (ps := ["places", "many"]) fun _ _ _ _ _ _ us hl => match us, hl with | [_, _], _ => rfl⟩
  have F_Thing_init := l_Thing_init.fn
  have B_Thing_init : Binds K _ ["self", "spot_marks"] [] := F_Thing_init.binds (ps := ["self", "spot_marks"]) fun _ _ _ _ _ _ us hl => match us, hl with | [_, _], _ => rfl
  have F_Row_init := l_Row_init.fn
  have B_Row_init : Binds K _ ["self", "marks"] [] := F_Row_init.binds (ps := ["self", "marks"]) fun _ _ _ _ _ _ us hl => match us, hl with | [_, _], _ => rfl
  have F_Forest_init := l_Forest_init.fn
  have B_Forest_init : Binds K _ ["self", "nodes"] [] := F_Forest_init.binds (ps := ["self", "nodes"]) fun _ _ _ _ _ _ us hl => match us, hl with | [_, _], _ => rfl
  have F_Forest_many := l_Forest_many.fn
  have B_Forest_many : Binds K _ ["self"] [] := F_Forest_many.binds (ps := ["self"]) fun _ _ _ _ _ _ us hl => match us, hl with | [_], _ => rfl
  have F_Forest_left := l_Forest_left.fn
  have B_Forest_left : Binds K _ ["self", "places"] [] := F_Forest_left.binds (ps := ["self", "places"]) fun _ _ _ _ _ _ us hl => match us, hl with | [_, _], _ => rfl
  have F_Forest_form := l_Forest_form.fn
  have B_Forest_form : Binds K _ ["self"] [] := F_Forest_form.binds (ps := ["self"]) fun _ _ _ _ _ _ us hl => match us, hl with | [_], _ => rfl
  have F_Table_init := l_Table_init.fn
  have B_Table_init : Binds K _ ["self", "lines"] [] := F_Table_init.binds (ps := ["self", "lines"]) fun _ _ _ _ _ _ us hl => match us, hl with | [_, _], _ => rfl
  have F_show_line := l_show_line.fn
  have D_show_line : Def K mg "show_line" s_show_line ["line"] f_show_line _ := ⟨F_show_line, PySem.W.mg_of X G a_show_line, F_show_line.binds (ps := ["line"]) fun _ _ _ _ _ _ us hl => match us, hl with | [_], _ => rfl⟩
  have F_signs_between := l_signs_between.fn
  have D_signs_between : Def K mg "signs_between" s_signs_between ["last", "depth"] f_signs_between _ := ⟨F_signs_between, PySem.W.mg_of X G a_signs_between, F_signs_between.binds (ps := ["last", "depth"]) fun _ _ _ _ _ _ us hl => match us, hl with | [_, _], _ => rfl⟩
  have F_show_nodes := l_show_nodes.fn
  have D_show_nodes : Def K mg "show_nodes" s_show_nodes ["nodes"] f_show_nodes _ := ⟨F_show_nodes, PySem.W.mg_of X G a_show_nodes, F_show_nodes.binds (ps := ["nodes"]) fun _ _ _ _ _ _ us hl => match us, hl with | [_], _ => rfl⟩
  have F_show_thing := l_show_thing.fn
  have D_show_thing : Def K mg "show_thing" s_show_thing ["thing"] f_show_thing _ := ⟨F_show_thing, PySem.W.mg_of X G a_show_thing, F_show_thing.binds (ps := ["thing"]) fun _ _ _ _ _ _ us hl => match us, hl with | [_], _ => rfl⟩
  have F_nodes_in := l_nodes_in.fn
  have D_nodes_in : Def K mg "nodes_in" s_nodes_in ["text"] f_nodes_in _ := ⟨F_nodes_in, PySem.W.mg_of X G a_nodes_in, F_nodes_in.binds (ps := ["text"]) fun _ _ _ _ _ _ us hl => match us, hl with | [_], _ => rfl⟩
  have F_lines_in := l_lines_in.fn
  have D_lines_in : Def K mg "lines_in" s_lines_in ["text"] f_lines_in _ := ⟨F_lines_in, PySem.W.mg_of X G a_lines_in, F_lines_in.binds (ps := ["text"]) fun _ _ _ _ _ _ us hl => match us, hl with | [_], _ => rfl⟩
  have F_marks_in := l_marks_in.fn
  have D_marks_in : Def K mg "marks_in" s_marks_in ["text"] f_marks_in _ := ⟨F_marks_in, PySem.W.mg_of X G a_marks_in, F_marks_in.binds (ps := ["text"]) fun _ _ _ _ _ _ us hl => match us, hl with | [_], _ => rfl⟩
  have F_made_of := l_made_of.fn
  have D_made_of : Def K mg "made_of" s_made_of ["kind", "inside"] f_made_of _ := ⟨F_made_of, PySem.W.mg_of X G a_made_of, F_made_of.binds (ps := ["kind", "inside"]) fun _ _ _ _ _ _ us hl => match us, hl with | [_, _], _ => rfl⟩
  have F_read_thing := l_read_thing.fn
  have D_read_thing : Def K mg "read_thing" s_read_thing ["text"] f_read_thing _ := ⟨F_read_thing, PySem.W.mg_of X G a_read_thing, F_read_thing.binds (ps := ["text"]) fun _ _ _ _ _ _ us hl => match us, hl with | [_], _ => rfl⟩
  have F__law_cell_at := l__law_cell_at.fn
  have D__law_cell_at : Def K mg "_law_cell_at" s__law_cell_at ["_law_script", "_law_k"] f__law_cell_at _ := ⟨F__law_cell_at, PySem.W.mg_of X G a__law_cell_at, F__law_cell_at.binds (ps := ["_law_script", "_law_k"]) fun _ _ _ _ _ _ us hl => match us, hl with | [_, _], _ => rfl⟩
  have F__law_mix := l__law_mix.fn
  have D__law_mix : Def K mg "_law_mix" s__law_mix ["_law_seed", "_law_k"] f__law_mix _ := ⟨F__law_mix, PySem.W.mg_of X G a__law_mix, F__law_mix.binds (ps := ["_law_seed", "_law_k"]) fun _ _ _ _ _ _ us hl => match us, hl with | [_, _], _ => rfl⟩
  have F__law_how_many := l__law_how_many.fn
  have D__law_how_many : Def K mg "_law_how_many" s__law_how_many ["_law_number"] f__law_how_many _ := ⟨F__law_how_many, PySem.W.mg_of X G a__law_how_many, F__law_how_many.binds (ps := ["_law_number"]) fun _ _ _ _ _ _ us hl => match us, hl with | [_], _ => rfl⟩
  have F__law_marks := l__law_marks.fn
  have D__law_marks : Def K mg "_law_marks" s__law_marks ["_law_cell", "_law_many"] f__law_marks _ := ⟨F__law_marks, PySem.W.mg_of X G a__law_marks, F__law_marks.binds (ps := ["_law_cell", "_law_many"]) fun _ _ _ _ _ _ us hl => match us, hl with | [_, _], _ => rfl⟩
  have F__law_pick := l__law_pick.fn
  have D__law_pick : Def K mg "_law_pick" s__law_pick ["_law_cell", "_law_marks_here"] f__law_pick _ := ⟨F__law_pick, PySem.W.mg_of X G a__law_pick, F__law_pick.binds (ps := ["_law_cell", "_law_marks_here"]) fun _ _ _ _ _ _ us hl => match us, hl with | [_, _], _ => rfl⟩
  have F__law_cells := l__law_cells.fn
  have D__law_cells : Def K mg "_law_cells" s__law_cells ["_law_script", "_law_begin", "_law_seed", "_law_many"] f__law_cells _ := ⟨F__law_cells, PySem.W.mg_of X G a__law_cells, F__law_cells.binds (ps := ["_law_script", "_law_begin", "_law_seed", "_law_many"]) fun _ _ _ _ _ _ us hl => match us, hl with | [_, _, _, _], _ => rfl⟩
  have F__law_nodes := l__law_nodes.fn
  have D__law_nodes : Def K mg "_law_nodes" s__law_nodes ["_law_cells_here", "_law_marks_here"] f__law_nodes _ := ⟨F__law_nodes, PySem.W.mg_of X G a__law_nodes, F__law_nodes.binds (ps := ["_law_cells_here", "_law_marks_here"]) fun _ _ _ _ _ _ us hl => match us, hl with | [_, _], _ => rfl⟩
  have F__law_some := l__law_some.fn
  have D__law_some : Def K mg "_law_some" s__law_some ["_law_cell", "_law_many"] f__law_some _ := ⟨F__law_some, PySem.W.mg_of X G a__law_some, F__law_some.binds (ps := ["_law_cell", "_law_many"]) fun _ _ _ _ _ _ us hl => match us, hl with | [_, _], _ => rfl⟩
  have F__law_forest_text := l__law_forest_text.fn
  have D__law_forest_text : Def K mg "_law_forest_text" s__law_forest_text ["_law_nodes_here"] f__law_forest_text _ := ⟨F__law_forest_text, PySem.W.mg_of X G a__law_forest_text, F__law_forest_text.binds (ps := ["_law_nodes_here"]) fun _ _ _ _ _ _ us hl => match us, hl with | [_], _ => rfl⟩
  have F_law := l_law.fn
  have D_law : Def K mg "law" s_law ["_law_script"] fa _ := ⟨F_law, PySem.W.mg_of X G a_law, F_law.binds (ps := ["_law_script"]) fun _ _ _ _ _ _ us hl => match us, hl with | [_], _ => rfl⟩
  have M_Forest : Mk K C_Forest f_Forest_init := ⟨m1_Forest, mi_Forest, l_Forest_init.isf, m2_Forest⟩
  have M_Row : Mk K C_Row f_Row_init := ⟨m1_Row, mi_Row, l_Row_init.isf, m2_Row⟩
  have M_Table : Mk K C_Table f_Table_init := ⟨m1_Table, mi_Table, l_Table_init.isf, m2_Table⟩
  have CM_Thing_init : ClsM K C_Thing "__init__" f_Thing_init := ⟨th1_Thing, th2_Thing, a_Thing_init, l_Thing_init.kp⟩
  have ME_Forest_many : Meth K C_Forest "many" f_Forest_many := ⟨i_Forest_many, l_Forest_many.isf, l_Forest_many.kp⟩
  have ME_Forest_form : Meth K C_Forest "form" f_Forest_form := ⟨i_Forest_form, l_Forest_form.isf, l_Forest_form.kp⟩
  have ME_Forest_left : Meth K C_Forest "left" f_Forest_left := ⟨i_Forest_left, l_Forest_left.isf, l_Forest_left.kp⟩
  obtain ⟨oc_law, od_law, kV_law, dc_law, pm_law, an_law, cd_law, ct_law, sl_law, rfl, _⟩ := id l_law
  refine ⟨PySem.W.fnOf "law" "law" (defArgs s_law) (defBody s_law) (defScope s_law) .none kV_law dc_law pm_law an_law cd_law ct_law, fun s v => .of_eq rfl, fun base _ _ => ?_⟩
  have G_is_whole : FnOk l.prog w K mg base CX0 1 f_is_whole _ ["thing"] sp_is_whole := ok_is_whole D_is_whole T
  have G_is_mark : FnOk l.prog w K mg base CX0 1 f_is_mark _ ["thing"] sp_is_mark := ok_is_mark D_is_mark T
  have G_check_list : FnOk l.prog w K mg base (CX1 l.prog w) 1 f_check_list _ ["thing", "most"] (sp_check_list ⟨C_ShrinkError, C_NoThing, C_NoPlace, C_NoText, C_Thing, C_Row, C_Forest, C_Table⟩) := ok_check_list D_check_list T
  have G_check_node : FnOk l.prog w K mg base (CX1 l.prog w) 2 f_check_node _ ["node", "deepest"] (sp_check_node ⟨C_ShrinkError, C_NoThing, C_NoPlace, C_NoText, C_Thing, C_Row, C_Forest, C_Table⟩) := ok_check_node D_check_node T G_is_mark G_is_whole D_is_mark D_is_whole
  have G_check_nodes : FnOk l.prog w K mg base (CX1 l.prog w) 3 f_check_nodes _ ["nodes"] (sp_check_nodes ⟨C_ShrinkError, C_NoThing, C_NoPlace, C_NoText, C_Thing, C_Row, C_Forest, C_Table⟩) := ok_check_nodes D_check_nodes T G_check_list G_check_node D_check_list D_check_node
  have G_check_places : FnOk l.prog w K mg base (CX1 l.prog w) 2 f_check_places _ ["places", "many"] (sp_check_places ⟨C_ShrinkError, C_NoThing, C_NoPlace, C_NoText, C_Thing, C_Row, C_Forest, C_Table⟩) := ok_check_places D_check_places T G_is_whole D_is_whole
  have G_Thing_init : FnOk l.prog w K mg base CX0 1 f_Thing_init _ ["self", "spot_marks"] (sp_Thing_init ⟨C_ShrinkError, C_NoThing, C_NoPlace, C_NoText, C_Thing, C_Row, C_Forest, C_Table⟩) := ok_Thing_init F_Thing_init T
  have G_Row_init : FnOk l.prog w K mg base (CX1 l.prog w) 1 f_Row_init _ ["self", "marks"] sp_Row_init := ok_Row_init F_Row_init T
  have G_Forest_init : FnOk l.prog w K mg base (CX1 l.prog w) 4 f_Forest_init _ ["self", "nodes"] (sp_Forest_init ⟨C_ShrinkError, C_NoThing, C_NoPlace, C_NoText, C_Thing, C_Row, C_Forest, C_Table⟩) := ok_Forest_init F_Forest_init T G_check_nodes G_Thing_init D_check_nodes B_Thing_init CM_Thing_init
  have G_Forest_many : FnOk l.prog w K mg base CX0 1 f_Forest_many _ ["self"] (sp_many ⟨C_ShrinkError, C_NoThing, C_NoPlace, C_NoText, C_Thing, C_Row, C_Forest, C_Table⟩) := ok_Forest_many F_Forest_many T
  have G_Forest_left : FnOk l.prog w K mg base (CX1 l.prog w) 6 f_Forest_left _ ["self", "places"] (sp_Forest_left ⟨C_ShrinkError, C_NoThing, C_NoPlace, C_NoText, C_Thing, C_Row, C_Forest, C_Table⟩) := ok_Forest_left F_Forest_left T G_check_places G_Forest_many G_Forest_init D_check_places B_Forest_many B_Forest_init ME_Forest_many M_Forest
  have G_Forest_form : FnOk l.prog w K mg base CX0 1 f_Forest_form _ ["self"] (sp_form ⟨C_ShrinkError, C_NoThing, C_NoPlace, C_NoText, C_Thing, C_Row, C_Forest, C_Table⟩) := ok_Forest_form F_Forest_form T
  have G_Table_init : FnOk l.prog w K mg base (CX1 l.prog w) 1 f_Table_init _ ["self", "lines"] sp_Table_init := ok_Table_init F_Table_init T
  have G_show_line : FnOk l.prog w K mg base CX0 1 f_show_line _ ["line"] sp_show_line := ok_show_line D_show_line T
  have G_signs_between : FnOk l.prog w K mg base CX0 1 f_signs_between _ ["last", "depth"] sp_signs_between := ok_signs_between D_signs_between T
  have G_show_nodes : FnOk l.prog w K mg base CX0 2 f_show_nodes _ ["nodes"] (sp_show_nodes K) := ok_show_nodes D_show_nodes T G_signs_between D_signs_between
  have G_show_thing : FnOk l.prog w K mg base CX0 3 f_show_thing _ ["thing"] (sp_show_thing ⟨C_ShrinkError, C_NoThing, C_NoPlace, C_NoText, C_Thing, C_Row, C_Forest, C_Table⟩) := ok_show_thing D_show_thing T G_Forest_form G_show_nodes G_show_line D_show_nodes D_show_line B_Forest_form ME_Forest_form
  have G_nodes_in : FnOk l.prog w K mg base CX0 1 f_nodes_in _ ["text"] sp_nodes_in := ok_nodes_in D_nodes_in T
  have G_lines_in : FnOk l.prog w K mg base CX0 1 f_lines_in _ ["text"] sp_lines_in := ok_lines_in D_lines_in T
  have G_marks_in : FnOk l.prog w K mg base CX0 1 f_marks_in _ ["text"] sp_marks_in := ok_marks_in D_marks_in T
  have G_made_of : FnOk l.prog w K mg base (CX1 l.prog w) 6 f_made_of _ ["kind", "inside"] (sp_made_of ⟨C_ShrinkError, C_NoThing, C_NoPlace, C_NoText, C_Thing, C_Row, C_Forest, C_Table⟩) := ok_made_of D_made_of T G_Row_init G_marks_in G_Forest_init G_nodes_in G_Table_init G_lines_in D_marks_in D_nodes_in D_lines_in B_Row_init B_Forest_init B_Table_init M_Row M_Forest M_Table
  have G_read_thing : FnOk l.prog w K mg base (CX1 l.prog w) 7 f_read_thing _ ["text"] (sp_read_thing ⟨C_ShrinkError, C_NoThing, C_NoPlace, C_NoText, C_Thing, C_Row, C_Forest, C_Table⟩) := ok_read_thing D_read_thing T G_made_of G_show_thing D_made_of D_show_thing
  have G__law_cell_at : FnOk l.prog w K mg base CX0 1 f__law_cell_at _ ["_law_script", "_law_k"] (sp__law_cell_at K) := ok__law_cell_at D__law_cell_at T
  have G__law_mix : FnOk l.prog w K mg base CX0 1 f__law_mix _ ["_law_seed", "_law_k"] sp__law_mix := ok__law_mix D__law_mix T
  have G__law_how_many : FnOk l.prog w K mg base CX0 1 f__law_how_many _ ["_law_number"] sp__law_how_many := ok__law_how_many D__law_how_many T
  have G__law_marks : FnOk l.prog w K mg base CX0 1 f__law_marks _ ["_law_cell", "_law_many"] sp__law_marks := ok__law_marks D__law_marks T
  have G__law_pick : FnOk l.prog w K mg base CX0 1 f__law_pick _ ["_law_cell", "_law_marks_here"] sp__law_pick := ok__law_pick D__law_pick T
  have G__law_cells : FnOk l.prog w K mg base CX0 2 f__law_cells _ ["_law_script", "_law_begin", "_law_seed", "_law_many"] (sp__law_cells K) := ok__law_cells D__law_cells T G__law_mix D__law_mix
  have G__law_nodes : FnOk l.prog w K mg base CX0 2 f__law_nodes _ ["_law_cells_here", "_law_marks_here"] sp__law_nodes := ok__law_nodes D__law_nodes T G__law_pick D__law_pick
  have G__law_some : FnOk l.prog w K mg base CX0 2 f__law_some _ ["_law_cell", "_law_many"] sp__law_some := ok__law_some D__law_some T G__law_mix D__law_mix
  have G__law_forest_text : FnOk l.prog w K mg base CX0 1 f__law_forest_text _ ["_law_nodes_here"] (sp__law_forest_text K) := ok__law_forest_text D__law_forest_text T
  exact ok_law D_law T G__law_cell_at G__law_marks G__law_how_many G_Forest_init G__law_nodes G__law_cells G_Forest_left G__law_some G_Forest_many G_Forest_form G__law_forest_text G_show_thing G_read_thing D__law_cell_at D__law_marks D__law_how_many D__law_nodes D__law_cells D__law_some D__law_forest_text D_show_thing D_read_thing B_Forest_init B_Forest_left B_Forest_many B_Forest_form ME_Forest_left ME_Forest_many ME_Forest_form M_Forest
theorem walk {l : PySem.W.OpenLaw} {q : Program} {loose : List Str} {XP : (Str → Option Value) → Heap → Prop} {YP : World → Heap → Prop} {d : DefRec} {K : Params → PySem.W.Frag} (hn : l.most = some 63) (hdf : d.params.defaults = [])
    (hY : ∀ (w : World) (h : Heap), YP w h → (K w.params).In h)
    (F : ∀ (w : World) (mg : Str → Option Value) (fa : Addr) (h : Heap), (K w.params).In h → h.Ns mainGlobals mg → mg d.name = some (.ref fa) →
      ∃ fd : FuncData, (∀ (s : Shared) (u : Value), BindsTo s fd ⟨[u], []⟩ [("_law_script", u)]) ∧ ∀ base : Heap, (K w.params).In base → base.Ns mainGlobals mg → FnOk l.prog w (K w.params) mg base CX0 8 fa fd ["_law_script"] (sp_law (K w.params))) :
    PySem.W.WalkO q loose XP YP l.row.toRowW d [] (fun f vs => PySem.call f vs) :=
  L2.walk_of (n := 63) (k := 8) (x := "_law_script") (CX := fun _ => CX0) (sp := fun w => sp_law (K w.params)) hn (by decide) hdf ⟨rfl, by decide, by decide⟩ hY F (fun _ _ a ns hl _ hS => ⟨a, ns, rfl, hS, hl, fun _ => rfl⟩) fun _ _ _ _ _ z => z
end K35
def PySem.W.Fast.tw835929899909337791 : Nat := 0
def PySem.W.Fast.tw6908403074700749783 : Nat := 0
def PySem.W.Fast.tw1848901061465683132 : Nat := 0
def PySem.W.Fast.tw12258972158859443584 : Nat := 0
def PySem.W.Fast.tw3868000788326819875 : Nat := 0
def PySem.W.Fast.tw9132370570611553146 : Nat := 0
def PySem.W.Fast.tw1577153020774385607 : Nat := 0
def PySem.W.Fast.tw10578964927958949405 : Nat := 0
def PySem.W.Fast.tw5108255814122891589 : Nat := 0
def PySem.W.Fast.tw8190531331732557764 : Nat := 0
def PySem.W.Fast.tw13095886634972137628 : Nat := 0
def PySem.W.Fast.tw10060132084223863938 : Nat := 0
def PySem.W.Fast.tw11518592842489904355 : Nat := 0
def PySem.W.Fast.tw13691068271650415856 : Nat := 0
def PySem.W.Fast.tw7837827812788437521 : Nat := 0
def PySem.W.Fast.tw17321193211506685572 : Nat := 0
def PySem.W.Fast.tw14774862135401382190 : Nat := 0
def PySem.W.Fast.tw6627230548792212013 : Nat := 0
def PySem.W.Fast.tw3095647279854746911 : Nat := 0
def PySem.W.Fast.tw14419304490791268666 : Nat := 0
def PySem.W.Fast.tw12669602191656236563 : Nat := 0
def PySem.W.Fast.tw17781687185352700488 : Nat := 0
def PySem.W.Fast.tw16888644203506152478 : Nat := 0
def PySem.W.Fast.tw12235890687979226674 : Nat := 0
def PySem.W.Fast.tw9736802922433684818 : Nat := 0
def PySem.W.Fast.tw2776588283718825083 : Nat := 0
def PySem.W.Fast.tw1880217399226741233 : Nat := 0
def PySem.W.Fast.tw11210290900338952573 : Nat := 0
open PySem PySem.W PyProof.Rows
set_option maxRecDepth 100000 in
set_option maxHeartbeats 0 in
theorem PySem.Challenge.cw_shrinkhouse_k35_forests_as_texts_holds : PySem.Challenge.rw_shrinkhouse_k35_forests_as_texts.Holds := by
  w_on; o_law; k_head; (case hw => w_witness2)
  k_fill
  refine K35.walk (l := PySem.Challenge.rw_shrinkhouse_k35_forests_as_texts) rfl rfl (fun w h Y => PySem.W.kIn_of Y) ?F
  case F =>
    intro w mg fa h KX G hmg
    refine' K35.all_mk KX G hmg ?a_ShrinkError ?a_NoThing ?a_NoPlace ?a_NoText ?a_Thing ?a_Row ?a_Forest ?a_Table ?a_is_whole ?l_is_whole ?a_is_mark ?l_is_mark ?a_check_list ?l_check_list ?a_check_node ?l_check_node ?a_check_nodes ?l_check_nodes ?a_check_places ?l_check_places ?a_Thing_init ?l_Thing_init ?l_Row_init ?l_Forest_init ?i_Forest_many ?l_Forest_many ?i_Forest_left ?l_Forest_left ?i_Forest_form ?l_Forest_form ?l_Table_init ?a_show_line ?l_show_line ?a_signs_between ?l_signs_between ?a_show_nodes ?l_show_nodes ?a_show_thing ?l_show_thing ?a_nodes_in ?l_nodes_in ?a_lines_in ?l_lines_in ?a_marks_in ?l_marks_in ?a_made_of ?l_made_of ?a_read_thing ?l_read_thing ?a__law_cell_at ?l__law_cell_at ?a__law_mix ?l__law_mix ?a__law_how_many ?l__law_how_many ?a__law_marks ?l__law_marks ?a__law_pick ?l__law_pick ?a__law_cells ?l__law_cells ?a__law_nodes ?l__law_nodes ?a__law_some ?l__law_some ?a__law_forest_text ?l__law_forest_text ?a_law ?l_law ?z_all ?z_bool ?z_dict ?z_enumerate ?z_int ?z_isinstance ?z_len ?z_list ?z_min ?z_range ?z_str ?z_tuple ?g_LETTERS ?g_LONGEST_MARK ?g_MOST_NODES ?g_DEEPEST ?x1_NoPlace ?x2_NoPlace ?x3_NoPlace ?x4_NoPlace ?x5_NoPlace ?x6_NoPlace ?x7_NoPlace ?x1_NoText ?x2_NoText ?x3_NoText ?x4_NoText ?x5_NoText ?x6_NoText ?x7_NoText ?x1_NoThing ?x2_NoThing ?x3_NoThing ?x4_NoThing ?x5_NoThing ?x6_NoThing ?x7_NoThing ?r1_Forest ?r2_Forest ?r3_Forest ?r4_Forest ?n_Forest_nodes ?n_Forest_spot_marks ?r6_Forest ?r9_Forest ?r1_Row ?r2_Row ?r3_Row ?r4_Row ?n_Row_spot_marks ?r6_Row ?r9_Row ?r1_Table ?r2_Table ?r3_Table ?r4_Table ?n_Table_columns ?n_Table_lines ?n_Table_spot_marks ?r6_Table ?r9_Table ?r7 ?r8 ?mi_Forest ?m1_Forest ?m2_Forest ?mi_Row ?m1_Row ?m2_Row ?mi_Table ?m1_Table ?m2_Table ?th1_Thing ?th2_Thing
    case a_ShrinkError | a_NoThing | a_NoPlace | a_NoText | a_Thing | a_Row | a_Forest | a_Table | a_is_whole | a_is_mark | a_check_list | a_check_node | a_check_nodes | a_check_places | a_Thing_init | a_show_line | a_signs_between | a_show_nodes | a_show_thing | a_nodes_in | a_lines_in | a_marks_in | a_made_of | a_read_thing | a__law_cell_at | a__law_mix | a__law_how_many | a__law_marks | a__law_pick | a__law_cells | a__law_nodes | a__law_some | a__law_forest_text | a_law => k_is
    case mi_Forest | mi_Row | mi_Table => k_is
    case i_Forest_many | i_Forest_left | i_Forest_form => k_is
    case l_is_whole | l_is_mark | l_check_list | l_check_node | l_check_nodes | l_check_places | l_Thing_init | l_Row_init | l_Forest_init | l_Forest_many | l_Forest_left | l_Forest_form | l_Table_init | l_show_line | l_signs_between | l_show_nodes | l_show_thing | l_nodes_in | l_lines_in | l_marks_in | l_made_of | l_read_thing | l__law_cell_at | l__law_mix | l__law_how_many | l__law_marks | l__law_pick | l__law_cells | l__law_nodes | l__law_some | l__law_forest_text | l_law => exact ⟨_, _, _, _, _, _, _, _, _, rfl, by k_is, by k_is, by k_is, by k_is⟩
    case z_all | z_bool | z_dict | z_enumerate | z_int | z_isinstance | z_len | z_list | z_min | z_range | z_str | z_tuple | g_LETTERS | g_LONGEST_MARK | g_MOST_NODES | g_DEEPEST | x2_NoPlace | x3_NoPlace | x4_NoPlace | x5_NoPlace | x6_NoPlace | x7_NoPlace | x2_NoText | x3_NoText | x4_NoText | x5_NoText | x6_NoText | x7_NoText | x2_NoThing | x3_NoThing | x4_NoThing | x5_NoThing | x6_NoThing | x7_NoThing | r1_Forest | r2_Forest | r3_Forest | r4_Forest | n_Forest_nodes | n_Forest_spot_marks | r6_Forest | r9_Forest | r1_Row | r2_Row | r3_Row | r4_Row | n_Row_spot_marks | r6_Row | r9_Row | r1_Table | r2_Table | r3_Table | r4_Table | n_Table_columns | n_Table_lines | n_Table_spot_marks | r6_Table | r9_Table | r7 | r8 | m1_Forest | m2_Forest | m1_Row | m2_Row | m1_Table | m2_Table | th1_Thing | th2_Thing => k_is
    case x1_NoPlace | x1_NoText | x1_NoThing => k_exc
#print axioms PySem.Challenge.cw_shrinkhouse_k35_forests_as_texts_holds
