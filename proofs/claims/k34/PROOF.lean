import PyProof.Rows.All
import Wide.All
import OpenK.AllK
import Wide.FinOn
import Lean
import PyProof.EqAt
import PyProof.EqKinds
import PyProof.TupleCall
import PyProof.StrLawsIn
import KE.KTryMore
import PyProof.ListRange
import PyProof.StrLawsTight
import PyProof.StrLawsReplace
import PyProof.Rows.StrItems
import PyProof.Rows.StrWeight2
import PyProof.Rows.StrLawsPart
import PyProof.Rows.StrFirst
import PyProof.RulesTry
import KE.KDictOf
import PyProof.Draws
import PyProof.EnumMake
import PyProof.Rows.EnumRows
import PySem.Challenge.RW_shrinkhouse_k34_rows_and_tables_as_texts
set_option autoImplicit false
set_option Elab.async false
set_option linter.all false
set_option maxRecDepth 100000
set_option maxHeartbeats 4000000
namespace L2
open PySem PySem.Spec PyProof.Rows
abbrev Key := Sum Int Str
def keyIs : Key → Value → Bool
  | .inl k, v => Value.isInt k v
  | .inr x, v => Value.isStrOf x v
def keyH (w : World) : Key → Int
  | .inl k => hashInt k
  | .inr x => hashStr w x
theorem keyIs_shape : ∀ {k : Key} {v : Value}, keyIs k v = true → (∃ i t, k = Sum.inl i ∧ v = Value.int i t) ∨ (∃ x t, k = Sum.inr x ∧ v = Value.str x t)
  | .inl i, v, h => by
    obtain ⟨t, e⟩ := Value.isInt_shape (k := i) (v := v) h
    exact .inl ⟨i, t, rfl, e⟩
  | .inr x, v, h => by
    obtain ⟨t, e⟩ := Value.isStrOf_shape (x := x) (v := v) h
    exact .inr ⟨x, t, rfl, e⟩
theorem keyIs_int (i : Int) (t : Tok) : keyIs (.inl i) (.int i t) = true := by simp [keyIs, Value.isInt]
theorem keyIs_str (x : Str) (t : Tok) : keyIs (.inr x) (.str x t) = true := by simp [keyIs, Value.isStrOf]
theorem key_ll (a b : Int) : decide ((Sum.inl a : Key) = Sum.inl b) = (a == b) := by
  by_cases e : a = b
  · subst e; simp
  · have h : ¬ (Sum.inl a : Key) = Sum.inl b := fun q => e (Sum.inl.inj q)
    rw [decide_eq_false h]
    exact (beq_eq_false_iff_ne.mpr e).symm
theorem key_rr (a b : Str) : decide ((Sum.inr a : Key) = Sum.inr b) = decide (a = b) := by
  by_cases e : a = b
  · subst e; simp
  · have h : ¬ (Sum.inr a : Key) = Sum.inr b := fun q => e (Sum.inr.inj q)
    rw [decide_eq_false h, decide_eq_false e]
theorem key_lr (a : Int) (b : Str) : decide ((Sum.inl a : Key) = Sum.inr b) = false := decide_eq_false (fun q => nomatch q)
theorem key_rl (a : Str) (b : Int) : decide ((Sum.inr a : Key) = Sum.inl b) = false := decide_eq_false (fun q => nomatch q)
def mixKind (prog : Program) (w : World) : PySem.KeyKind prog w Key where
  is := keyIs
  hash := keyH w
  inj := fun v a b ha hb => by
    rcases keyIs_shape ha with ⟨i, t, rfl, rfl⟩ | ⟨x, t, rfl, rfl⟩
    · rcases keyIs_shape hb with ⟨j, u, rfl, e⟩ | ⟨y, u, rfl, e⟩
      · injection e with e1 _; rw [e1]
      · exact nomatch e
    · rcases keyIs_shape hb with ⟨j, u, rfl, e⟩ | ⟨y, u, rfl, e⟩
      · exact nomatch e
      · injection e with e1 _; rw [e1]
  byValue := fun k v h => by
    rcases keyIs_shape h with ⟨i, t, rfl, rfl⟩ | ⟨x, t, rfl, rfl⟩ <;> rfl
  pyHash := fun hv h => by
    rcases keyIs_shape hv with ⟨i, t, rfl, rfl⟩ | ⟨x, t, rfl, rfl⟩
    · exact wpAny_pyHash_int h
    · exact wpAny_pyHash_str h
  eqBool := fun hu hv h => by
    rcases keyIs_shape hu with ⟨i, t, rfl, rfl⟩ | ⟨x, t, rfl, rfl⟩
    · rcases keyIs_shape hv with ⟨j, u, rfl, rfl⟩ | ⟨y, u, rfl, rfl⟩
      · rw [key_ll] at h; exact wpAny_eqBool_int h
      · rw [key_lr] at h; exact SeqAt.EqAt.int_str i t y u _ _ _ _ h
    · rcases keyIs_shape hv with ⟨j, u, rfl, rfl⟩ | ⟨y, u, rfl, rfl⟩
      · rw [key_rl] at h; exact SeqAt.EqAt.str_int x t j u _ _ _ _ h
      · rw [key_rr] at h; exact wpAny_eqBool_str h
  «strs» := fun k x t v h => by
    rcases keyIs_shape h with ⟨i, u, rfl, e⟩ | ⟨y, u, rfl, e⟩
    · exact nomatch e
    · injection e with e1 _
      subst e1
      cases v <;> rfl
theorem mixKind_int (prog : Program) (w : World) (i : Int) (t : Tok) : (mixKind prog w).is (.inl i) (.int i t) = true := keyIs_int i t
theorem mixKind_str (prog : Program) (w : World) (x : Str) (t : Tok) : (mixKind prog w).is (.inr x) (.str x t) = true := keyIs_str x t
end L2
namespace L2
open PySem PySem.Spec PyProof.Rows
inductive V where
  | non | bl (b : Bool) | int (i : Int) | str (x : Str) | byt (b : Array UInt8) | flt (b : UInt64) | ref (a : Addr) | ty (n : String)
  deriving DecidableEq
def RelV : V → Value → Prop
  | .non, u => u = Value.none
  | .bl b, u => u = Value.bool b
  | .int i, u => ∃ t, u = Value.int i t
  | .str x, u => ∃ t, u = Value.str x t
  | .byt b, u => ∃ t, u = Value.bytes b t
  | .flt b, u => ∃ t, u = Value.float b t
  | .ref a, u => u = Value.ref a
  | .ty n, u => u = Value.type n
abbrev Vals : List V → List Value → Prop := Paired RelV
theorem Vals.length {xs : List V} {us : List Value} (r : Vals xs us) : xs.length = us.length := Paired.length r
theorem Vals.get : ∀ {xs : List V} {us : List Value} {i : Nat} {x : V}, Vals xs us → xs[i]? = some x → ∃ u, us[i]? = some u ∧ RelV x u
  | _, _, _, _, .nil, e => by simp at e
  | _, _, 0, _, .cons r _, e => by simp at e; subst e; exact ⟨_, rfl, r⟩
  | _, _, i + 1, x, .cons _ t, e => by
    obtain ⟨u, h1, h2⟩ := Vals.get (i := i) (x := x) t (by simpa using e)
    exact ⟨u, by simpa using h1, h2⟩
theorem Vals.set {x : V} {u : Value} (r : RelV x u) : ∀ {xs : List V} {us : List Value} (i : Nat), Vals xs us → Vals (xs.set i x) (us.set i u)
  | _, _, _, .nil => .nil
  | _, _, 0, .cons _ t => .cons r t
  | _, _, i + 1, .cons q t => .cons q (Vals.set r i t)
theorem Vals.append : ∀ {xs ys : List V} {us ws : List Value}, Vals xs us → Vals ys ws → Vals (xs ++ ys) (us ++ ws)
  | _, _, _, _, .nil, s => s
  | _, _, _, _, .cons r t, s => .cons r (Vals.append t s)
theorem Vals.take : ∀ {xs : List V} {us : List Value} (n : Nat), Vals xs us → Vals (xs.take n) (us.take n)
  | _, _, 0, _ => .nil
  | _, _, _ + 1, .nil => .nil
  | _, _, n + 1, .cons r t => .cons r (Vals.take n t)
theorem Vals.drop : ∀ {xs : List V} {us : List Value} (n : Nat), Vals xs us → Vals (xs.drop n) (us.drop n)
  | _, _, 0, r => r
  | _, _, _ + 1, .nil => .nil
  | _, _, n + 1, .cons _ t => Vals.drop n t
theorem Vals.none_of : ∀ {xs : List V} {us : List Value} {i : Nat}, Vals xs us → xs[i]? = none → us[i]? = none := fun {xs us i} r e => by
  have h1 := r.length
  have h2 : xs.length ≤ i := List.getElem?_eq_none_iff.mp e
  exact List.getElem?_eq_none_iff.mpr (by omega)
def RelO : Option V → Option Value → Prop
  | some v, some u => RelV v u
  | none, none => True
  | _, _ => False
def KV {κ : Type} : List (κ × V) → List (κ × Value) → Prop := Paired fun (p : κ × V) (q : κ × Value) => p.1 = q.1 ∧ RelV p.2 q.2
def kV : Key → V
  | .inl i => .int i
  | .inr x => .str x
inductive HO where
  
  | lst (xs : List V)
  
  | tup (xs : List V)
  
  | dK (kvs : List (Key × V)) | dT (kvs : List (List Key × V))
  
  | set (S : Int → Bool) (n : Nat)
  
  | ins (C dx : Addr) (fs : List (Str × V))
  
  | own (x : Addr)
  
  | xd (fs : List (Str × V))
  
  | met (f x : Addr)
  
  | rng (lo hi : Int)
  
  | frz (o : Obj) (u : HO)
  
  | tbl (ps : Array Value)
  
  | ext (φ : Heap → Prop)
abbrev Hp := Addr → Option HO
def upd (H : Hp) (a : Addr) (o : HO) : Hp := fun b => if b = a then some o else H b
theorem upd_same {H : Hp} {a : Addr} {o : HO} : upd H a o a = some o := by unfold upd; rw [if_pos rfl]
theorem upd_ne {H : Hp} {a b : Addr} {o : HO} (h : b ≠ a) : upd H a o b = H b := by unfold upd; rw [if_neg h]
theorem upd_upd {H : Hp} {a : Addr} {o u : HO} : upd (upd H a o) a u = upd H a u := by
  funext b; unfold upd; split <;> rfl
theorem ne_of {H : Hp} {a b : Addr} {o u : HO} (h : H a = some o) (h' : H b = some u) (d : o ≠ u) : a ≠ b := by
  intro e; subst e; rw [h] at h'; exact d (Option.some.inj h')
theorem ne_of_none {H : Hp} {a b : Addr} {o : HO} (h : H a = some o) (h' : H b = none) : a ≠ b := by
  intro e; subst e; rw [h] at h'; cases h'
section
variable (P : Program) (w : World)
def ObjOk (H : Hp) (h : Heap) (a : Addr) : HO → Prop
  | .lst xs => xs.length ≤ sizeLine ∧ ∃ (its : List Value) (n : Nat), Vals xs its ∧ h.get? a = some { cls := .type "list", data := .seq its.toArray n }
  | .tup xs => xs.length ≤ sizeLine ∧ ∃ its : List Value, Vals xs its ∧ IsTup h a its.toArray
  | .dK kvs => kvs.length ≤ sizeLine ∧ (a == sysModules) = false ∧ ∃ vs, KV kvs vs ∧ h.DictOf (mixKind P w) a vs
  | .dT kvs => kvs.length ≤ sizeLine ∧ (a == sysModules) = false ∧ ∃ xs : List (List Key × Addr × Value),
      Paired (fun (p : List Key × V) (q : List Key × Addr × Value) => p.1 = q.1 ∧ H q.2.1 = some (.tup (p.1.map kV)) ∧ RelV p.2 q.2.2) kvs xs ∧
      ∃ o es ep, h.get? a = some o ∧ o.ExactDict ∧ o.data = .dict es ep ∧ es.toList = xs.map (entryOfKey (tupleKind (mixKind P w))) ∧ (xs.map (·.1)).Nodup
  | .set S n => h.SetOf (intKind P w) a S n
  | .ins C dx fs => H dx = some (.own a) ∧ fs.length ≤ 1000 ∧ dx ≠ a ∧ h.get? a = some (PySem.W.instObj C dx) ∧
      ∃ mA, h.Ns1 dx mA ∧ (∀ f, RelO (fs.lookup f) (mA f)) ∧ PySem.Within mA (fs.map (·.1))
  | .own _ => ∃ o, h.get? a = some o
  | .xd fs => ∃ mA, h.Ns1 a mA ∧ ∀ f, RelO (fs.lookup f) (mA f)
  | .rng lo hi => ∃ t u v, h.get? a = some { cls := .type "range", data := .fields #[.int lo t, .int hi u, .int 1 v] }
  | .frz o u => h.get? a = some o ∧ ObjOk H h a u
  | .tbl ps => h.get? a = some { cls := .none, data := .fields ps }
  | .met f x => h.get? a = some (PySem.W.methodObj (.ref f) (.ref x))
  | .ext φ => φ h ∧ (∃ o, h.get? a = some o) ∧ ∀ h1 h2 : Heap, φ h1 → (∀ o, h1.get? a = some o → h2.get? a = some o) → φ h2
def HOk (H : Hp) (h : Heap) : Prop := ∀ a o, H a = some o → ObjOk P w H h a o
end
section
variable {P : Program} {w : World} {H H' : Hp} {h h' : Heap} {a : Addr} {o : HO}
theorem ObjOk.lt (x : ObjOk P w H h a o) : a < h.objs.size := by
  cases o with
  | lst xs => obtain ⟨_, _, _, _, e⟩ := x; exact Heap.lt_size e
  | tup xs => obtain ⟨_, _, _, p⟩ := x; exact p.lt
  | dK kvs => obtain ⟨_, _, _, _, o, _, _, e, _⟩ := x; exact Heap.lt_size e
  | dT kvs => obtain ⟨_, _, _, _, o, _, _, e, _⟩ := x; exact Heap.lt_size e
  | set S n => obtain ⟨o, _, _, _, e, _⟩ := x; exact Heap.lt_size e
  | ins C dx fs => obtain ⟨_, _, _, e, _⟩ := x; exact Heap.lt_size e
  | own y => obtain ⟨_, e⟩ := x; exact Heap.lt_size e
  | xd fs => obtain ⟨_, ⟨_, _, _, e, _⟩, _⟩ := x; exact Heap.lt_size e
  | rng lo hi => obtain ⟨_, _, _, e⟩ := x; exact Heap.lt_size e
  | frz ob u => obtain ⟨e, _⟩ := x; exact Heap.lt_size e
  | tbl ps => exact Heap.lt_size (show h.get? a = some _ from x)
  | met f y => exact Heap.lt_size (show h.get? a = some _ from x)
  | ext φ => obtain ⟨_, ⟨_, e⟩, _⟩ := x; exact Heap.lt_size e
theorem Paired.mapP {α β : Type} {F G : α → β → Prop} : ∀ {l₁ : List α} {l₂ : List β}, Paired F l₁ l₂ → (∀ a b, F a b → G a b) → Paired G l₁ l₂
  | _, _, .nil, _ => .nil
  | _, _, .cons r t, f => .cons (f _ _ r) (Paired.mapP t f)
theorem ObjOk.stay (x : ObjOk P w H h a o) (k : ∀ b u, (b = a ∨ H b = some (.own a)) → h.get? b = some u → h'.get? b = some u)
    (ho : ∀ b, H b = some (.own a) → H' b = some (.own a)) (ht : ∀ b xs, H b = some (.tup xs) → H' b = some (.tup xs)) : ObjOk P w H' h' a o := by
  induction o with
  | lst xs => obtain ⟨z, its, n, r, e⟩ := x; exact ⟨z, its, n, r, k _ _ (.inl rfl) e⟩
  | tup xs => obtain ⟨z, its, r, ob, e, c⟩ := x; exact ⟨z, its, r, ob, k _ _ (.inl rfl) e, c⟩
  | dK kvs => obtain ⟨z, y, vs, r, ob, es, ep, e, c⟩ := x; exact ⟨z, y, vs, r, ob, es, ep, k _ _ (.inl rfl) e, c⟩
  | dT kvs =>
    obtain ⟨z, y, xs, r, ob, es, ep, e, c⟩ := x
    exact ⟨z, y, xs, Paired.mapP r fun p q z => ⟨z.1, ht _ _ z.2.1, z.2.2⟩, ob, es, ep, k _ _ (.inl rfl) e, c⟩
  | set S n => obtain ⟨ob, es, ep, t, e, c⟩ := x; exact ⟨ob, es, ep, t, k _ _ (.inl rfl) e, c⟩
  | ins C dx fs =>
    obtain ⟨d, z, ne, e, mA, ⟨od, es, ep, e2, c⟩, r⟩ := x
    exact ⟨ho _ d, z, ne, k _ _ (.inl rfl) e, mA, ⟨od, es, ep, k _ _ (.inr d) e2, c⟩, r⟩
  | own y => obtain ⟨ob, e⟩ := x; exact ⟨ob, k _ _ (.inl rfl) e⟩
  | xd fs => obtain ⟨mA, ⟨od, es, ep, e, c⟩, r⟩ := x; exact ⟨mA, ⟨od, es, ep, k _ _ (.inl rfl) e, c⟩, r⟩
  | rng lo hi => obtain ⟨t, u, v, e⟩ := x; exact ⟨t, u, v, k _ _ (.inl rfl) e⟩
  | frz ob u ih => obtain ⟨e, q⟩ := x; exact ⟨k _ _ (.inl rfl) e, ih q⟩
  | tbl ps =>
    have e : h.get? a = some { cls := .none, data := .fields ps } := x
    show h'.get? a = some { cls := .none, data := .fields ps }
    exact k a _ (.inl rfl) e
  | met f y =>
    have e : h.get? a = some (PySem.W.methodObj (.ref f) (.ref y)) := x
    show h'.get? a = some (PySem.W.methodObj (.ref f) (.ref y))
    exact k a _ (.inl rfl) e
  | ext φ => obtain ⟨p, ⟨o, e⟩, st⟩ := x; exact ⟨st _ _ p fun o q => k _ _ (.inl rfl) q, ⟨o, k _ _ (.inl rfl) e⟩, st⟩
theorem HOk.lt (x : HOk P w H h) (e : H a = some o) : a < h.objs.size := (x a o e).lt
theorem HOk.fresh (x : HOk P w H h) (e : h.objs.size ≤ a) : H a = none := by
  cases q : H a with
  | none => rfl
  | some u => exact absurd (Nat.lt_of_lt_of_le (x.lt q) e) (Nat.lt_irrefl _)
theorem HOk.kept (x : HOk P w H h) (k : ∀ b u, h.get? b = some u → h'.get? b = some u) : HOk P w H h' := fun a o e =>
  (x a o e).stay (fun b u _ q => k b u q) (fun _ q => q) fun _ _ q => q
theorem HOk.laid (x : HOk P w H h) (k : ∀ b u, h.get? b = some u → h'.get? b = some u) (hp : h.objs.size ≤ a) (new : ObjOk P w (upd H a o) h' a o) : HOk P w (upd H a o) h' := fun b u e => by
  have hn := x.fresh hp
  by_cases hb : b = a
  · subst hb; rw [upd_same] at e; cases e; exact new
  · rw [upd_ne hb] at e
    exact (x b u e).stay (fun c v _ q => k c v q) (fun c q => by rw [upd_ne (ne_of_none q hn)]; exact q) fun c xs q => by rw [upd_ne (ne_of_none q hn)]; exact q
end
def Rd (H : Hp) (a : Addr) (u : HO) : Prop := H a = some u ∨ ∃ o, H a = some (.frz o u)
theorem Rd.of {H : Hp} {a : Addr} {u : HO} (h : H a = some u) : Rd H a u := .inl h
theorem Rd.ok {P : Program} {w : World} {H : Hp} {h : Heap} {a : Addr} {u : HO} (r : Rd H a u) (x : HOk P w H h) : ObjOk P w H h a u := by
  rcases r with r | ⟨o, r⟩
  · exact x a u r
  · obtain ⟨_, q⟩ := x a _ r
    exact q
def Mut : Option HO → Prop
  | some (.lst _) => True
  | some (.dK _) => True
  | some (.dT _) => True
  | some (.set _ _) => True
  | some (.ins _ _ _) => True
  | some (.ext _) => True
  | _ => False
section
variable {P : Program} {w : World} {H : Hp} {h h' : Heap} {x e : Addr} {o' : HO}
theorem HOk.write (ok : HOk P w H h) (mu : Mut (H x)) (he : e = x ∨ H e = some (.own x)) (k : ∀ b u, b ≠ e → h.get? b = some u → h'.get? b = some u) (heo : ∃ u, h'.get? e = some u)
    (new : ObjOk P w (upd H x o') h' x o') : HOk P w (upd H x o') h' := fun b u q => by
  have nown : ∀ c y, H c = some (.own y) → c ≠ x := fun c y r z => by subst z; rw [r] at mu; exact mu
  have ntup : ∀ c xs, H c = some (.tup xs) → c ≠ x := fun c xs r z => by subst z; rw [r] at mu; exact mu
  by_cases hb : b = x
  · subst hb; rw [upd_same] at q; cases q; exact new
  · rw [upd_ne hb] at q
    by_cases hbe : b = e
    · have q' : H b = some (.own x) := by
        rcases he with z | z
        · exact absurd (hbe.trans z) hb
        · rw [hbe]; exact z
      rw [q] at q'; cases q'
      obtain ⟨v, hv⟩ := heo
      exact ⟨v, by rw [hbe]; exact hv⟩
    · refine (ok b u q).stay (fun c v hc r => k c v ?_ r) (fun c r => by rw [upd_ne (nown c b r)]; exact r) fun c xs r => by rw [upd_ne (ntup c xs r)]; exact r
      rcases hc with rfl | hc
      · exact hbe
      · rintro rfl
        rcases he with z | z
        · exact nown c b hc z
        · rw [hc] at z; cases z; exact hb rfl
end
structure Un (fs ex : List Addr) (H H' : Hp) (h h' : Heap) : Prop where
  keep : ∀ b o, h.get? b = some o → H b = none → b ∉ fs → b ∉ ex → h'.get? b = some o
  slot : ∀ b o, h.get? b = some o → H b = none → b ∈ fs → b ∉ ex → ∃ sl, h'.get? b = some { o with slots := sl }
  free : ∀ b o, h.get? b = some o → H b = none → b ∉ ex → H' b = none
  there : ∀ b o, h.get? b = some o → b ∉ ex → ∃ o', h'.get? b = some o'
  tups : ∀ b xs, H b = some (.tup xs) → H' b = some (.tup xs)
  frzs : ∀ b o u, H b = some (.frz o u) → H' b = some (.frz o u)
  tbls : ∀ b ps, H b = some (.tbl ps) → ∃ more, H' b = some (.tbl (ps ++ more))
section
variable {fs fs' ex ex' : List Addr} {H H1 H2 : Hp} {h h1 h2 h' : Heap} {a x e : Addr} {o : HO}
theorem Un.any (u : Un fs ex H H1 h h1) {b : Addr} {ob : Obj} (q : h.get? b = some ob) (n : H b = none) (hx : b ∉ ex) : ∃ sl, h1.get? b = some { ob with slots := sl } := by
  by_cases hb : b ∈ fs
  · exact u.slot b ob q n hb hx
  · exact ⟨ob.slots, u.keep b ob q n hb hx⟩
theorem Un.trans (a : Un fs ex H H1 h h1) (b : Un fs ex H1 H2 h1 h2) : Un fs ex H H2 h h2 where
  keep := fun c ob q n hc hx => b.keep c ob (a.keep c ob q n hc hx) (a.free c ob q n hx) hc hx
  slot := fun c ob q n hc hx => by
    obtain ⟨sl, e1⟩ := a.slot c ob q n hc hx
    obtain ⟨sl', e2⟩ := b.slot c _ e1 (a.free c ob q n hx) hc hx
    exact ⟨sl', e2⟩
  free := fun c ob q n hx => by
    obtain ⟨o', e1⟩ := a.there c ob q hx
    exact b.free c o' e1 (a.free c ob q n hx) hx
  there := fun c ob q hx => by
    obtain ⟨o', e1⟩ := a.there c ob q hx
    exact b.there c o' e1 hx
  tups := fun c xs q => b.tups c xs (a.tups c xs q)
  frzs := fun c ob xs q => b.frzs c ob xs (a.frzs c ob xs q)
  tbls := fun c ps q => by
    obtain ⟨m1, e1⟩ := a.tbls c ps q
    obtain ⟨m2, e2⟩ := b.tbls c _ e1
    exact ⟨m1 ++ m2, by rw [e2, Array.append_assoc]⟩
theorem Un.kept (k : ∀ b u, h.get? b = some u → h'.get? b = some u) : Un fs ex H H h h' :=
  ⟨fun b ob q _ _ _ => k b ob q, fun b ob q _ _ _ => ⟨ob.slots, k b ob q⟩, fun _ _ _ n _ => n, fun b ob q _ => ⟨ob, k b ob q⟩, fun _ _ q => q, fun _ _ _ q => q, fun _ ps q => ⟨#[], by rw [q]; simp⟩⟩
theorem Un.refl : Un fs ex H H h h := Un.kept fun _ _ q => q
theorem Un.laid (k : ∀ b u, h.get? b = some u → h'.get? b = some u) (hp : h.objs.size ≤ a) (hn : H a = none) : Un fs ex H (upd H a o) h h' where
  keep := fun b u q _ _ _ => k b u q
  slot := fun b u q _ _ _ => ⟨u.slots, k b u q⟩
  free := fun b u q n _ => by rw [upd_ne (Nat.ne_of_lt (Nat.lt_of_lt_of_le (Heap.lt_size q) hp))]; exact n
  there := fun b u q _ => ⟨u, k b u q⟩
  tups := fun b xs q => by rw [upd_ne (ne_of_none q hn)]; exact q
  frzs := fun b u xs q => by rw [upd_ne (ne_of_none q hn)]; exact q
  tbls := fun b ps q => ⟨#[], by rw [upd_ne (ne_of_none q hn), q]; simp⟩
theorem Un.write (mu : Mut (H x)) (he : e = x ∨ H e = some (.own x)) (k : ∀ b u, b ≠ e → h.get? b = some u → h'.get? b = some u) (heo : ∃ u, h'.get? e = some u) : Un fs ex H (upd H x o) h h' := by
  have hx : ∀ b, H b = none → b ≠ x := fun b n z => by subst z; rw [n] at mu; exact mu
  have hb : ∀ b, H b = none → b ≠ e := fun b n z => by
    subst z
    rcases he with r | r
    · exact hx b n r
    · rw [n] at r; cases r
  have hm : ∀ b u, H b = some u → ¬ Mut (some u) → b ≠ x := fun b u q nm z => by subst z; rw [q] at mu; exact nm mu
  refine ⟨fun b u q n _ _ => k b u (hb b n) q, fun b u q n _ _ => ⟨u.slots, k b u (hb b n) q⟩, fun b u q n _ => by rw [upd_ne (hx b n)]; exact n, fun b u q _ => ?_,
    fun b xs q => by rw [upd_ne (hm b _ q fun z => z)]; exact q, fun b u xs q => by rw [upd_ne (hm b _ q fun z => z)]; exact q, fun b ps q => ⟨#[], by rw [upd_ne (hm b _ q fun z => z), q]; simp⟩⟩
  by_cases hbe : b = e
  · subst hbe; exact heo
  · exact ⟨u, k b u hbe q⟩
theorem Un.mono (u : Un fs ex H H1 h h1) (hs : ∀ b ∈ fs, b ∈ fs') (hx : ∀ b ∈ ex, b ∈ ex') : Un fs' ex' H H1 h h1 :=
  ⟨fun b ob q n hb he => u.keep b ob q n (fun z => hb (hs b z)) fun z => he (hx b z), fun _ _ q n _ he => u.any q n fun z => he (hx _ z), fun b ob q n he => u.free b ob q n fun z => he (hx b z), fun b ob q he => u.there b ob q fun z => he (hx b z), u.tups, u.frzs, u.tbls⟩
end
def trk (h : Heap) (H : Hp) : List Addr := (List.range h.objs.size).filter fun a => (H a).isSome
def hidT (h : Heap) (H : Hp) : Heap := PySem.W.hideAll h (trk h H)
theorem hidT_size (h : Heap) (H : Hp) : (hidT h H).objs.size = h.objs.size := PySem.W.hideAll_size _ _
theorem hidT_get {h : Heap} {H : Hp} {b : Addr} {o : Obj} (e : h.get? b = some o) (n : H b = none) : (hidT h H).get? b = some o :=
  PySem.W.hideAll_get _ e fun hm => by
    have q : (H b).isSome = true := (List.mem_filter.mp hm).2
    rw [n] at q; simp at q
theorem of_hidT {h : Heap} {H : Hp} {b : Addr} {o : Obj} (e : (hidT h H).get? b = some o) : h.get? b = some o ∧ H b = none := by
  have e' : h.get? b = some o := PySem.W.of_hideAll (trk h H) e
  refine ⟨e', ?_⟩
  cases q : H b with
  | none => rfl
  | some x =>
    have hm : b ∈ trk h H := List.mem_filter.mpr ⟨List.mem_range.mpr (Heap.lt_size e'), by simp [q]⟩
    have z : (hidT h H).get? b = none := PySem.W.hideAll_none (trk h H) hm
    rw [z] at e; cases e
def allNews (g h : Heap) (L : Addr) : List (Addr × Obj) := (List.range h.objs.size).filterMap fun a => if a = L ∨ (g.get? a).isSome = true then none else (h.get? a).map fun o => (a, o)
def rest (g h : Heap) (L d : Addr) : List (Addr × Obj) := (allNews g h L).filter fun p => decide (p.1 ≠ d)
end L2
namespace L2
open PySem PySem.Spec PyProof.Rows
structure Mod (K : PySem.W.Frag) (mg : Str → Option Value) (base : Heap) : Prop where
  kin : K.In base
  glob : base.Ns mainGlobals mg
  blt : ∃ mb, base.Ns builtinsNs mb ∧ ∀ x : Str, x ≠ "__name__" → mb x = bootBuiltins x
  nolimit : base.NoLimit
structure Cx where
  prog : Program
  w : World
  K : PySem.W.Frag
  mg : Str → Option Value
  base : Heap
  A : Around
  N : List Str
  s₀ : Shared
  H₀ : Hp
  env : Env
  outer : List Env
  stack : List Env
  ex : List Addr
  fn : Str → Bool
  calm : Bool
  pn : List (Addr × Obj)
  xe : Value → Shared → Prop
def frs (l : List Env) : List Addr := l.filterMap (·.frame)
abbrev Cx.fs (X : Cx) : List Addr := frs X.outer
def Vis (sc : Scope) (x : Str) : Prop := sc.names.lookup x = some .local ∨ sc.names.lookup x = some .cell ∨ sc.names.lookup x = some .free
def Loc (sc : Scope) (x : Str) : Prop := sc.names.lookup x = some .local ∨ sc.names.lookup x = some .cell
def Look (env : Env) (h : Heap) (m : Str → Option Value) (x : Str) (u : Value) : Prop :=
  (env.kindOf x = some .local ∧ m x = some u) ∨ ((env.kindOf x = some .cell ∨ env.kindOf x = some .free) ∧ ∃ c, env.cells.lookup x = some c ∧ h.IsCell c (some u))
structure Cx.Ok (X : Cx) : Prop where
  mod : Mod X.K X.mg X.base
  kind : X.env.scope.kind = .function
  glob : X.env.globals = mainGlobals
  blt : X.env.builtins = builtinsNs
  above : X.s₀.heap.objs.size ≤ X.env.locals
  inj : ∀ x y c, X.env.cells.lookup x = some c → X.env.cells.lookup y = some c → x = y
  has : ∀ x, (X.env.kindOf x = some .cell ∨ X.env.kindOf x = some .free) → ∃ c, X.env.cells.lookup x = some c
  cab : ∀ x c, X.fn x = true → X.env.cells.lookup x = some c → X.s₀.heap.objs.size ≤ c
  hd : X.calm = true → X.A.handled = none
  frames : X.A.frames = some X.stack
  stk : X.stack = X.outer ∨ (X.stack = X.env :: X.outer ∧ X.env.frame = some X.env.locals)
  exf : ∀ b ∈ X.ex, b ≠ X.env.locals ∧ ∀ x c, X.env.cells.lookup x = some c → c ≠ b
  bs : ∀ b o, X.base.get? b = some o → X.s₀.heap.get? b = some o ∧ X.H₀ b = none
  bsz : X.base.objs.size ≤ X.s₀.heap.objs.size
  noex : ∀ b o, X.base.get? b = some o → b ∉ X.ex
  exfs : ∀ b ∈ X.ex, b ∉ X.fs
  funs : X.s₀.heap.FunFrames X.base X.outer
  frf : ∀ b ∈ X.fs, X.H₀ b = none
structure Inv (X : Cx) (pins : List (Addr × Obj)) (σ : List (Option V)) (H : Hp) (s : Shared) : Prop where
  ok : X.Ok
  os : s.os = X.s₀.os
  bare : AllBare s.gens
  base : Un X.fs X.ex X.H₀ H X.s₀.heap s.heap
  loc : ∃ m, s.heap.Ns X.env.locals m ∧ ∀ (i : Nat) (x : Str) (v : V), X.N[i]? = some x → σ[i]? = some (some v) → Vis X.env.scope x → ∃ u, RelV v u ∧ Look X.env s.heap m x u
  cell : ∀ x c, X.env.cells.lookup x = some c → ∃ v, s.heap.IsCell c v
  free : H X.env.locals = none
  freeC : ∀ x c, X.env.cells.lookup x = some c → H c = none
  pin : ∀ p ∈ X.pn ++ pins, s.heap.get? p.1 = some p.2 ∧ H p.1 = none ∧ p.1 ≠ X.env.locals ∧ p.1 ∉ X.fs ∧ ∀ v, p.2.data ≠ .cell v
  hok : HOk X.prog X.w H s.heap
  len : σ.length = X.N.length
section
variable {X : Cx} {pins : List (Addr × Obj)} {σ : List (Option V)} {H H' : Hp} {s : Shared} {h' : Heap}
theorem Cx.Ok.nofr (ok : X.Ok) {b : Addr} {o : Obj} (e : X.base.get? b = some o) : b ∉ X.fs := fun hb => by
  have := (ok.funs.mem hb).1
  rw [e] at this; cases this
theorem Inv.bs (I : Inv X pins σ H s) : ∀ b o, X.base.get? b = some o → s.heap.get? b = some o ∧ H b = none := fun b o e =>
  ⟨I.base.keep b o (I.ok.bs b o e).1 (I.ok.bs b o e).2 (I.ok.nofr e) (I.ok.noex b o e), I.base.free b o (I.ok.bs b o e).1 (I.ok.bs b o e).2 (I.ok.noex b o e)⟩
theorem Inv.bk (I : Inv X pins σ H s) : ∀ b o, X.base.get? b = some o → s.heap.get? b = some o := fun b o e => (I.bs b o e).1
theorem Inv.mod (I : Inv X pins σ H s) : Mod X.K X.mg X.base := I.ok.mod
theorem Inv.kIn (I : Inv X pins σ H s) : X.K.In s.heap := I.ok.mod.kin.keeps I.bk
theorem Inv.nolimit (I : Inv X pins σ H s) : s.heap.NoLimit := I.ok.mod.nolimit.keeps I.bk
theorem Inv.fr (I : Inv X pins σ H s) : ∃ m, Fr X.base X.env.locals s.heap m :=
  let ⟨m, hn, _⟩ := I.loc
  ⟨m, hn, I.bk, Nat.le_trans I.ok.bsz I.ok.above⟩
theorem Inv.lt (I : Inv X pins σ H s) : X.env.locals < s.heap.objs.size := let ⟨_, hn, _⟩ := I.loc; hn.lt
theorem Inv.sz (I : Inv X pins σ H s) : X.s₀.heap.objs.size ≤ s.heap.objs.size := Nat.le_trans I.ok.above (Nat.le_of_lt I.lt)
theorem Inv.nofs (I : Inv X pins σ H s) {a : Addr} (h : s.heap.objs.size ≤ a) : a ∉ X.fs := fun hb => by
  obtain ⟨_, o, ho, _⟩ := I.ok.funs.mem hb
  exact absurd (Nat.lt_of_lt_of_le (Heap.lt_size ho) (Nat.le_trans I.sz h)) (Nat.lt_irrefl _)
theorem Inv.cne (I : Inv X pins σ H s) : ∀ x c, X.env.cells.lookup x = some c → c ≠ X.env.locals := fun x c e z => by
  obtain ⟨v, o, ho, hd⟩ := I.cell x c e
  obtain ⟨m, ⟨o', es, ep, ho', hd', _⟩, _⟩ := I.loc
  rw [z, ho'] at ho; cases ho; rw [hd'] at hd; cases hd
theorem Inv.funs (I : Inv X pins σ H s) : s.heap.FunFrames X.base X.outer := by
  have all : ∀ (l : List Env), (∀ b ∈ frs l, b ∈ X.fs) → X.s₀.heap.FunFrames X.base l → s.heap.FunFrames X.base l := by
    intro l
    induction l with
    | nil => intro _ _; trivial
    | cons env r ih =>
      intro hs hl
      obtain ⟨hk, ⟨L, o, hf, hn, ho, hd⟩, hr⟩ := hl
      have hL : L ∈ X.fs := hs L (by unfold frs; rw [List.filterMap_cons, hf]; exact List.mem_cons_self)
      obtain ⟨sl, e⟩ := I.base.slot L o ho (I.ok.frf L hL) hL fun z => I.ok.exfs L z hL
      exact ⟨hk, ⟨L, _, hf, hn, e, hd⟩, ih (fun b hb => hs b (by unfold frs; rw [List.filterMap_cons, hf]; exact List.mem_cons_of_mem _ hb)) hr⟩
  exact all X.outer (fun _ hb => hb) I.ok.funs
theorem Inv.stack (I : Inv X pins σ H s) : s.heap.FunFrames X.base X.stack := by
  rcases I.ok.stk with e | ⟨e, hf⟩
  · rw [e]; exact I.funs
  · rw [e]
    obtain ⟨m, hn, _⟩ := I.loc
    refine .cons (by rw [I.ok.kind]; decide) hf hn ?_ I.funs
    exact Heap.get?_none_of_le (Nat.le_trans I.ok.bsz I.ok.above)
theorem Inv.stkSub (I : Inv X pins σ H s) : ∀ b ∈ frs X.stack, b ∈ X.env.locals :: X.fs := fun b hb => by
  rcases I.ok.stk with e | ⟨e, hf⟩
  · rw [e] at hb; exact List.mem_cons_of_mem _ hb
  · rw [e] at hb
    unfold frs at hb
    rw [List.filterMap_cons, hf] at hb
    exact hb
theorem Inv.stkFree (I : Inv X pins σ H s) : ∀ b ∈ frs X.stack, H b = none := fun b hb => by
  rcases List.mem_cons.mp (I.stkSub b hb) with e | hb
  · rw [e]; exact I.free
  · obtain ⟨_, o, ho, _⟩ := I.ok.funs.mem hb
    exact I.base.free b o ho (I.ok.frf b hb) fun z => I.ok.exfs b z hb
theorem Inv.step {g' : Array GenState} {t' : Nat} {d' : Drawn} {ch : List Addr} (I : Inv X pins σ H s)
    (hch : ∀ b ∈ ch, (b ∈ X.ex ∨ X.s₀.heap.objs.size ≤ b) ∧ b ≠ X.env.locals ∧ (∀ x c, X.env.cells.lookup x = some c → c ≠ b) ∧ ∀ p ∈ X.pn ++ pins, p.1 ≠ b)
    (keep : ∀ b o, b ≠ X.env.locals → b ∉ X.fs → b ∉ ch → s.heap.get? b = some o → H b = none → h'.get? b = some o)
    (slot : ∀ b o, b ≠ X.env.locals → b ∈ X.fs → b ∉ ch → s.heap.get? b = some o → H b = none → ∃ sl, h'.get? b = some { o with slots := sl }) (free : ∀ b o, b ∉ ch → s.heap.get? b = some o → H b = none → H' b = none)
    (there : ∀ b o, b ∉ ch → s.heap.get? b = some o → ∃ o', h'.get? b = some o')
    (tups : ∀ b xs, H b = some (.tup xs) → H' b = some (.tup xs)) (frzs : ∀ b o u, H b = some (.frz o u) → H' b = some (.frz o u)) (tbls : ∀ b ps, H b = some (.tbl ps) → ∃ more, H' b = some (.tbl (ps ++ more)))
    (ns : ∀ m, s.heap.Ns X.env.locals m → h'.Ns X.env.locals m) (hok : HOk X.prog X.w H' h') (hg : AllBare g') :
    Inv X pins σ H' { s with heap := h', gens := g', drawn := d', toks := t' } := by
  have neL : ∀ b o, X.s₀.heap.get? b = some o → b ≠ X.env.locals := fun b o e => Nat.ne_of_lt (Nat.lt_of_lt_of_le (Heap.lt_size e) I.ok.above)
  have neC : ∀ b o, X.s₀.heap.get? b = some o → b ∉ X.ex → b ∉ ch := fun b o e hx hb => by
    rcases (hch b hb).1 with z | z
    · exact hx z
    · exact absurd (Nat.lt_of_lt_of_le (Heap.lt_size e) z) (Nat.lt_irrefl _)
  have cellK : ∀ x c, X.env.cells.lookup x = some c → ∀ v, s.heap.IsCell c v → h'.IsCell c v := fun x c e v ⟨o, ho, hd⟩ => by
    have nch : c ∉ ch := fun z => (hch c z).2.2.1 x c e rfl
    by_cases hc : c ∈ X.fs
    · obtain ⟨sl, q⟩ := slot c o (I.cne x c e) hc nch ho (I.freeC x c e)
      exact ⟨_, q, hd⟩
    · exact ⟨o, keep c o (I.cne x c e) hc nch ho (I.freeC x c e), hd⟩
  refine ⟨I.ok, I.os, hg, ⟨fun b o e n hb hx => ?_, fun b o e n hb hx => ?_, fun b o e n hx => ?_, fun b o e hx => ?_, fun b xs e => tups b xs (I.base.tups b xs e), fun b o xs e => frzs b o xs (I.base.frzs b o xs e), fun b ps e => ?_⟩, ?_, fun x c e => ?_, ?_, fun x c e => ?_, fun p hp => ?_, hok, I.len⟩
  · exact keep b o (neL b o e) hb (neC b o e hx) (I.base.keep b o e n hb hx) (I.base.free b o e n hx)
  · obtain ⟨sl, e1⟩ := I.base.slot b o e n hb hx
    obtain ⟨sl', e2⟩ := slot b _ (neL b o e) hb (neC b o e hx) e1 (I.base.free b o e n hx)
    exact ⟨sl', e2⟩
  · obtain ⟨o', e1⟩ := I.base.there b o e hx
    exact free b o' (neC b o e hx) e1 (I.base.free b o e n hx)
  · obtain ⟨o', e1⟩ := I.base.there b o e hx
    exact there b o' (neC b o e hx) e1
  · obtain ⟨m1, e1⟩ := I.base.tbls b ps e
    obtain ⟨m2, e2⟩ := tbls b _ e1
    exact ⟨m1 ++ m2, by rw [e2, Array.append_assoc]⟩
  · obtain ⟨m, hn, hl⟩ := I.loc
    refine ⟨m, ns m hn, fun i x v e1 e2 e3 => ?_⟩
    obtain ⟨u, r, l⟩ := hl i x v e1 e2 e3
    refine ⟨u, r, ?_⟩
    rcases l with l | ⟨k, c, e, z⟩
    · exact .inl l
    · exact .inr ⟨k, c, e, cellK x c e _ z⟩
  · obtain ⟨v, z⟩ := I.cell x c e
    exact ⟨v, cellK x c e v z⟩
  · obtain ⟨m, ⟨o, _, _, ho, _⟩, _⟩ := I.loc
    exact free _ o (fun z => (hch _ z).2.1 rfl) ho I.free
  · obtain ⟨v, o, ho, hd⟩ := I.cell x c e
    exact free c o (fun z => (hch c z).2.2.1 x c e rfl) ho (I.freeC x c e)
  · obtain ⟨e, n, ne, nf, d⟩ := I.pin p hp
    have nch : p.1 ∉ ch := fun z => (hch p.1 z).2.2.2 p hp rfl
    exact ⟨keep p.1 p.2 ne nf nch e n, free p.1 p.2 nch e n, ne, nf, d⟩
theorem Inv.un {t' : Nat} (I : Inv X pins σ H s) (u : Un X.fs [] H H' s.heap h') (hok : HOk X.prog X.w H' h') : Inv X pins σ H' { s with heap := h', toks := t' } := by
  obtain ⟨m, ⟨o, es, ep, ho, r⟩, _⟩ := id I.loc
  obtain ⟨sl, hL⟩ := u.any ho I.free (by simp)
  exact I.step (g' := s.gens) (d' := s.drawn) (ch := []) (fun _ z => nomatch z) (fun b o _ hb _ e n => u.keep b o e n hb (by simp)) (fun b o _ hb _ e n => u.slot b o e n hb (by simp)) (fun b o _ e n => u.free b o e n (by simp)) (fun b o _ e => u.there b o e (by simp)) u.tups u.frzs u.tbls (fun m' hm => by
    obtain ⟨o', es', ep', ho', r'⟩ := hm
    rw [ho] at ho'; cases ho'
    exact ⟨_, es', ep', hL, r'⟩) hok I.bare
theorem Inv.call {g' : Array GenState} {t' : Nat} {d' : Drawn} {ch : List Addr} (I : Inv X pins σ H s) (u : Un (frs X.stack) ch H H' s.heap h') (hok : HOk X.prog X.w H' h') (hg : AllBare g')
    (hch : ∀ b ∈ ch, (b ∈ X.ex ∨ X.s₀.heap.objs.size ≤ b) ∧ b ≠ X.env.locals ∧ (∀ x c, X.env.cells.lookup x = some c → c ≠ b) ∧ ∀ p ∈ X.pn ++ pins, p.1 ≠ b) :
    Inv X pins σ H' { s with heap := h', gens := g', drawn := d', toks := t' } := by
  obtain ⟨m, ⟨o, es, ep, ho, r⟩, _⟩ := id I.loc
  obtain ⟨sl, hL⟩ := u.any ho I.free fun z => (hch _ z).2.1 rfl
  exact I.step (ch := ch) hch (fun b o hL hb hc e n => u.keep b o e n (fun z => (List.mem_cons.mp (I.stkSub b z)).elim hL hb) hc) (fun b o _ _ hc e n => u.any e n hc) (fun b o hc e n => u.free b o e n hc) (fun b o hc e => u.there b o e hc) u.tups u.frzs u.tbls (fun m' hm => by
    obtain ⟨o', es', ep', ho', r'⟩ := hm
    rw [ho] at ho'; cases ho'
    exact ⟨_, es', ep', hL, r'⟩) hok hg
theorem Inv.turned {t' : Nat} {it : Addr} (I : Inv X pins σ H s) (k : ∀ b o, b ≠ it → s.heap.get? b = some o → h'.get? b = some o) (hn : H it = none) (hL : it ≠ X.env.locals)
    (h1 : it ∈ X.ex ∨ X.s₀.heap.objs.size ≤ it) (h2 : ∀ x c, X.env.cells.lookup x = some c → c ≠ it) (h3 : ∀ p ∈ X.pn ++ pins, p.1 ≠ it) : Inv X pins σ H { s with heap := h', toks := t' } := by
  have nit : ∀ b u, H b = some u → b ≠ it := fun b u e z => by rw [z, hn] at e; cases e
  refine I.step (g' := s.gens) (d' := s.drawn) (ch := [it]) (fun b hb => ?_) (fun b o _ _ hc e _ => k b o (fun z => hc (by simp [z])) e) (fun b o _ _ hc e _ => ⟨o.slots, k b o (fun z => hc (by simp [z])) e⟩) (fun _ _ _ _ n => n)
    (fun b o hc e => ⟨o, k b o (fun z => hc (by simp [z])) e⟩) (fun _ _ e => e) (fun _ _ _ e => e) (fun b ps e => ⟨#[], by rw [e]; simp⟩) (fun m hm => ?_) (fun b u e => ?_) I.bare
  · have e : b = it := by simpa using hb
    subst e
    exact ⟨h1, hL, h2, h3⟩
  · obtain ⟨o, es, ep, ho, r⟩ := hm
    exact ⟨o, es, ep, k _ o (Ne.symm hL) ho, r⟩
  · refine (I.hok b u e).stay (fun c v hc q => k c v ?_ q) (fun _ q => q) fun _ _ q => q
    rcases hc with z | z
    · rw [z]; exact nit b u e
    · exact nit c _ z
theorem Inv.tok (I : Inv X pins σ H s) (t : Nat) : Inv X pins σ H { s with toks := t } := I.un (h' := s.heap) (t' := t) Un.refl I.hok
theorem Inv.kept {t' : Nat} (I : Inv X pins σ H s) (k : ∀ b u, s.heap.get? b = some u → h'.get? b = some u) : Inv X pins σ H { s with heap := h', toks := t' } := I.un (Un.kept k) (I.hok.kept k)
theorem Inv.laid {a : Addr} {o : HO} {t' : Nat} (I : Inv X pins σ H s) (k : ∀ b u, s.heap.get? b = some u → h'.get? b = some u) (hp : s.heap.objs.size ≤ a) (new : ObjOk X.prog X.w (upd H a o) h' a o) :
    Inv X pins σ (upd H a o) { s with heap := h', toks := t' } := I.un (Un.laid k hp (I.hok.fresh hp)) (I.hok.laid k hp new)
theorem Inv.write {x e : Addr} {o : HO} {t' : Nat} (I : Inv X pins σ H s) (mu : Mut (H x)) (he : e = x ∨ H e = some (.own x)) (k : ∀ b u, b ≠ e → s.heap.get? b = some u → h'.get? b = some u) (heo : ∃ u, h'.get? e = some u)
    (new : ObjOk X.prog X.w (upd H x o) h' x o) : Inv X pins σ (upd H x o) { s with heap := h', toks := t' } := I.un (Un.write mu he k heo) (I.hok.write mu he k heo new)
theorem Inv.pins_of {pins' : List (Addr × Obj)} (I : Inv X pins σ H s) (h : ∀ p ∈ pins', s.heap.get? p.1 = some p.2 ∧ H p.1 = none ∧ p.1 ≠ X.env.locals ∧ p.1 ∉ X.fs ∧ ∀ v, p.2.data ≠ .cell v) : Inv X pins' σ H s :=
  ⟨I.ok, I.os, I.bare, I.base, I.loc, I.cell, I.free, I.freeC, fun p hp => (List.mem_append.mp hp).elim (fun z => I.pin p (List.mem_append_left _ z)) (h p), I.hok, I.len⟩
theorem nodup_ix {N : List Str} (hN : N.Nodup) {i j : Nat} {x : Str} (a : N[i]? = some x) (b : N[j]? = some x) : i = j := by
  obtain ⟨h1, e1⟩ := List.getElem?_eq_some_iff.mp a
  obtain ⟨h2, e2⟩ := List.getElem?_eq_some_iff.mp b
  exact (List.getElem_inj hN).mp (e1.trans e2.symm)
theorem store_ok2 {M : Model} {A : Around} {E : Value → Shared → Prop} {i : Nat} {x : Str} {v : V} {u : Value} {Q : Unit → Shared → Prop} (I : Inv X pins σ H s) (hN : X.N.Nodup) (hi : X.N[i]? = some x) (hx : Loc X.env.scope x) (r : RelV v u)
    (h : ∀ s', Inv X pins (σ.set i (some v)) H s' → (∃ a, Heap.SameBut a s.heap s'.heap ∧ (a = X.env.locals ∨ X.env.cells.lookup x = some a)) → Q () s') (hf : X.fn x = true ∨ X.env.scope.names.lookup x = some .local := by first | exact .inl rfl | exact .inr rfl | assumption) : wpAny M A (storeName X.env x u) Q E s := by
  obtain ⟨m, hn, hl⟩ := id I.loc
  have hcls : (X.env.scope.kind == .class || (X.env.scope.kind == .module && X.env.locals != X.env.globals)) = false := by rw [I.ok.kind]; rfl
  have hiσ : i < σ.length := by rw [I.len]; exact (List.getElem?_eq_some_iff.mp hi).1
  have cne := I.cne
  have tracked : ∀ {a : Addr} {h' : Heap}, (∃ o, s.heap.get? a = some o ∧ H a = none) → Heap.SameBut a s.heap h' → HOk X.prog X.w H h' := fun {a h'} ha hs b ob e => by
    obtain ⟨_, _, hfree⟩ := ha
    refine (I.hok b ob e).stay (fun c w' hc q => (hs.2 c ?_).trans q) (fun _ q => q) fun _ _ q => q
    rintro rfl
    rcases hc with rfl | hc
    · rw [hfree] at e; cases e
    · rw [hfree] at hc; cases hc
  rcases hx with hk | hk
  · refine wpAny_storeName_local hk hn (fun h' hn' hs => ?_) hcls
    obtain ⟨oL, _, _, hoL, _⟩ := id hn
    refine h _ ⟨I.ok, I.os, I.bare, ⟨fun b o e n hb hx => ?_, fun b o e n hb hx => ?_, I.base.free, fun b o e hx => ?_, I.base.tups, I.base.frzs, I.base.tbls⟩, ⟨_, hn', fun j y v' e1 e2 e3 => ?_⟩, fun y c e => ?_, I.free, I.freeC, fun p hp => ?_, tracked ⟨oL, hoL, I.free⟩ hs, by simpa using I.len⟩ ⟨_, hs, .inl rfl⟩
    · exact (hs.2 b (Nat.ne_of_lt (Nat.lt_of_lt_of_le (Heap.lt_size e) I.ok.above))).trans (I.base.keep b o e n hb hx)
    · obtain ⟨sl, e1⟩ := I.base.slot b o e n hb hx
      exact ⟨sl, (hs.2 b (Nat.ne_of_lt (Nat.lt_of_lt_of_le (Heap.lt_size e) I.ok.above))).trans e1⟩
    · obtain ⟨o', e1⟩ := I.base.there b o e hx
      exact ⟨o', (hs.2 b (Nat.ne_of_lt (Nat.lt_of_lt_of_le (Heap.lt_size e) I.ok.above))).trans e1⟩
    · by_cases hj : j = i
      · subst hj
        rw [hi] at e1; cases e1
        rw [List.getElem?_set_self hiσ] at e2
        cases e2
        exact ⟨u, r, .inl ⟨hk, by simp⟩⟩
      · rw [List.getElem?_set_ne (Ne.symm hj)] at e2
        obtain ⟨u', r', q⟩ := hl j y v' e1 e2 e3
        refine ⟨u', r', ?_⟩
        rcases q with ⟨k, e⟩ | ⟨k, c, e, z⟩
        · refine .inl ⟨k, ?_⟩
          have : y ≠ x := fun e => hj (nodup_ix hN e1 (e ▸ hi))
          simp [this, e]
        · exact .inr ⟨k, c, e, z.sameBut hs (cne y c e)⟩
    · obtain ⟨w', z⟩ := I.cell y c e
      exact ⟨w', z.sameBut hs (cne y c e)⟩
    · obtain ⟨e, n, ne, nf, d⟩ := I.pin p hp
      exact ⟨(hs.2 p.1 ne).trans e, n, ne, nf, d⟩
  · have hfn : X.fn x = true := by
      rcases hf with z | z
      · exact z
      · rw [z] at hk; cases hk
    obtain ⟨c, hc⟩ := I.ok.has x (.inl hk)
    obtain ⟨w', z⟩ := I.cell x c hc
    refine wpAny_storeName_cell I.ok.kind hk hc z (fun h' hc' hs => ?_)
    obtain ⟨oc, hoc, hocd⟩ := id z
    refine h { s with heap := h' } ⟨I.ok, I.os, I.bare, ⟨fun b o e n hb hx => ?_, fun b o e n hb hx => ?_, I.base.free, fun b o e hx => ?_, I.base.tups, I.base.frzs, I.base.tbls⟩, ⟨m, hn.sameBut hs (Ne.symm (cne x c hc)), fun j y v' e1 e2 e3 => ?_⟩, fun y c' e => ?_, I.free, I.freeC, fun p hp => ?_, tracked ⟨oc, hoc, I.freeC x c hc⟩ hs, by simpa using I.len⟩ ⟨c, hs, .inr hc⟩
    · exact (hs.2 b (Nat.ne_of_lt (Nat.lt_of_lt_of_le (Heap.lt_size e) (I.ok.cab x c hfn hc)))).trans (I.base.keep b o e n hb hx)
    · obtain ⟨sl, e1⟩ := I.base.slot b o e n hb hx
      exact ⟨sl, (hs.2 b (Nat.ne_of_lt (Nat.lt_of_lt_of_le (Heap.lt_size e) (I.ok.cab x c hfn hc)))).trans e1⟩
    · obtain ⟨o', e1⟩ := I.base.there b o e hx
      exact ⟨o', (hs.2 b (Nat.ne_of_lt (Nat.lt_of_lt_of_le (Heap.lt_size e) (I.ok.cab x c hfn hc)))).trans e1⟩
    · by_cases hj : j = i
      · subst hj
        rw [hi] at e1; cases e1
        rw [List.getElem?_set_self hiσ] at e2
        cases e2
        exact ⟨u, r, .inr ⟨.inl hk, c, hc, hc'⟩⟩
      · rw [List.getElem?_set_ne (Ne.symm hj)] at e2
        obtain ⟨u', r', q⟩ := hl j y v' e1 e2 e3
        refine ⟨u', r', ?_⟩
        rcases q with q | ⟨k, c', e, z'⟩
        · exact .inl q
        · refine .inr ⟨k, c', e, z'.sameBut hs ?_⟩
          rintro rfl
          exact hj (nodup_ix hN e1 (I.ok.inj _ _ _ e hc ▸ hi))
    · by_cases hcc : c' = c
      · subst hcc; exact ⟨_, hc'⟩
      · obtain ⟨w2, z2⟩ := I.cell y c' e
        exact ⟨w2, z2.sameBut hs hcc⟩
    · obtain ⟨e, n, ne, nf, d⟩ := I.pin p hp
      refine ⟨(hs.2 p.1 ?_).trans e, n, ne, nf, d⟩
      intro q
      rw [q, hoc] at e
      have q' : oc = p.2 := Option.some.inj e
      exact d w' (by rw [← q']; exact hocd)
theorem store_ok {M : Model} {A : Around} {E : Value → Shared → Prop} {i : Nat} {x : Str} {v : V} {u : Value} {Q : Unit → Shared → Prop} (I : Inv X pins σ H s) (hN : X.N.Nodup) (hi : X.N[i]? = some x) (hx : Loc X.env.scope x) (r : RelV v u)
    (h : ∀ s', Inv X pins (σ.set i (some v)) H s' → Q () s') (hf : X.fn x = true ∨ X.env.scope.names.lookup x = some .local := by first | exact .inl rfl | exact .inr rfl | assumption) : wpAny M A (storeName X.env x u) Q E s :=
  store_ok2 I hN hi hx r (fun s' I' _ => h s' I') hf
theorem Inv.call' {s' : Shared} {ch : List Addr} (I : Inv X pins σ H s) (ho : s'.os = s.os) (u : Un (frs X.stack) ch H H' s.heap s'.heap) (hok : HOk X.prog X.w H' s'.heap) (hg : AllBare s'.gens)
    (hch : ∀ b ∈ ch, (b ∈ X.ex ∨ X.s₀.heap.objs.size ≤ b) ∧ b ≠ X.env.locals ∧ (∀ x c, X.env.cells.lookup x = some c → c ≠ b) ∧ ∀ p ∈ X.pn ++ pins, p.1 ≠ b) : Inv X pins σ H' s' := by
  obtain ⟨h', g', d', t', o'⟩ := s'
  have e : o' = s.os := ho
  subst e
  exact I.call (g' := g') (t' := t') (d' := d') u hok hg hch
end
abbrev XK := Value → Option Addr → Hp → Prop
abbrev St := List (Option V)
abbrev VK := V → Hp → Prop
abbrev TE := St → Hp → VK → Prop
abbrev TT := St → Hp → (Bool → Hp → Prop) → Prop
abbrev TA := St → Hp → (List V → Hp → Prop) → Prop
structure Ends where
  nx : St → Hp → Prop
  rt : VK
  bk : St → Hp → Prop := fun _ _ => False
  ct : St → Hp → Prop := fun _ _ => False
abbrev TS := Ends → St → Hp → Prop
def EP (X : Cx) (pins : List (Addr × Obj)) (σ : St) (Q : VK) (u : Value) (s' : Shared) : Prop := ∃ v H', Inv X pins σ H' s' ∧ RelV v u ∧ Q v H'
def TP (X : Cx) (pins : List (Addr × Obj)) (σ : St) (Q : Bool → Hp → Prop) (b : Bool) (s' : Shared) : Prop := ∃ H', Inv X pins σ H' s' ∧ Q b H'
def AP (X : Cx) (pins : List (Addr × Obj)) (σ : St) (Q : List V → Hp → Prop) (us : List Value) (s' : Shared) : Prop := ∃ vs H', Inv X pins σ H' s' ∧ Vals vs us ∧ Q vs H'
def SP (X : Cx) (pins : List (Addr × Obj)) (D : Ends) (f : Flow) (s' : Shared) : Prop :=
  match f with
  | .next => ∃ σ' H', Inv X pins σ' H' s' ∧ D.nx σ' H'
  | .brk => ∃ σ' H', Inv X pins σ' H' s' ∧ D.bk σ' H'
  | .cont => ∃ σ' H', Inv X pins σ' H' s' ∧ D.ct σ' H'
  | .ret u => ∃ v σ' H', Inv X pins σ' H' s' ∧ RelV v u ∧ D.rt v H'
def PE (X : Cx) (e : Expr) (t : TE) : Prop :=
  ∀ (pins : List (Addr × Obj)) (s : Shared) (σ : St) (H : Hp) (Q : VK), Inv X pins σ H s → t σ H Q → wpAny (model X.prog X.w) X.A (eval e X.env) (EP X pins σ Q) X.xe s
def PT (X : Cx) (e : Expr) (t : TT) : Prop :=
  ∀ (pins : List (Addr × Obj)) (s : Shared) (σ : St) (H : Hp) (Q : Bool → Hp → Prop), Inv X pins σ H s → t σ H Q → wpAny (model X.prog X.w) X.A (isTrue e X.env (eval e X.env)) (TP X pins σ Q) X.xe s
def PW (X : Cx) (e : Expr) (t : TT) : Prop :=
  ∀ (whole : Sem Value) (pins : List (Addr × Obj)) (s : Shared) (σ : St) (H : Hp) (Q : Bool → Hp → Prop), Inv X pins σ H s → t σ H Q → wpAny (model X.prog X.w) X.A (isTrue e X.env whole) (TP X pins σ Q) X.xe s
theorem PW.pt {X : Cx} {e : Expr} {t : TT} (h : PW X e t) : PT X e t := h _
def PA (X : Cx) (es : List Expr) (t : TA) : Prop :=
  ∀ (pos : Pos) (pins : List (Addr × Obj)) (s : Shared) (σ : St) (H : Hp) (Q : List V → Hp → Prop), Inv X pins σ H s → t σ H Q → wpAny (model X.prog X.w) X.A (spliced (backTo pos (starEach es X.env))) (AP X pins σ Q) X.xe s
def PS (X : Cx) (st : Stmt) (t : TS) : Prop :=
  ∀ (pins : List (Addr × Obj)) (s : Shared) (σ : St) (H : Hp) (D : Ends), Inv X pins σ H s → t D σ H → wpAny (model X.prog X.w) X.A (exec st X.env) (SP X pins D) X.xe s
def PSs (X : Cx) (st : List Stmt) (t : TS) : Prop :=
  ∀ (pins : List (Addr × Obj)) (s : Shared) (σ : St) (H : Hp) (D : Ends), Inv X pins σ H s → t D σ H → wpAny (model X.prog X.w) X.A (execs st X.env) (SP X pins D) X.xe s
theorem thn {α : Type} {t : Sem α} {Q Q' : α → Shared → Prop} {M : Model} {A : Around} {E : Value → Shared → Prop} {s : Shared} (h : wpAny M A t Q E s) (hQ : ∀ a s, Q a s → Q' a s) : wpAny M A t Q' E s := wpAny_mono h hQ fun _ _ x => x
end L2
namespace L2
open PySem PySem.Spec PyProof.Rows
section
variable {X : Cx}
def tVar (i : Nat) : TE := fun σ H Q => ∃ v, σ[i]? = some (some v) ∧ Q v H
def tC (v : V) : TE := fun _ H Q => Q v H
theorem pe_var {i : Nat} {x : Str} {pos : Pos} (hN : X.N[i]? = some x) (hv : Vis X.env.scope x) (hd : (x == ("__debug__" : Str)) = false := by decide) (hcd : (x == ("__classdict__" : Str)) = false := by decide) : PE X (.Name x pos) (tVar i) := by
  intro pins s σ H Q I h
  obtain ⟨v, e, h⟩ := h
  obtain ⟨m, hn, hl⟩ := I.loc
  obtain ⟨u, r, l⟩ := hl i x v hN e hv
  have fin : EP X pins σ Q u s := ⟨v, H, I, r, h⟩
  rcases l with ⟨hk, hm⟩ | ⟨hk, c, hc, hcell⟩
  · exact wpAny_Name (wpAny_loadName_local I.ok.kind hk hn hm fin) hd
  · rcases hk with hk | hk
    · exact wpAny_Name (wpAny_loadName_cell I.ok.kind hk hc hcell fin) hd
    · exact wpAny_Name (wpAny_loadName_free I.ok.kind hk hc hcell fin hcd) hd
theorem pe_int {i j pos} : PE X (.Constant (.int i) j pos) (tC (.int i)) := fun _ _ _ H _ I h => wpAny_Constant_int ⟨.int i, H, I.tok _, ⟨_, rfl⟩, h⟩
theorem pe_bl {b j pos} : PE X (.Constant (.bool b) j pos) (tC (.bl b)) := fun _ _ _ H _ I h => Constant_bool ⟨.bl b, H, I, rfl, h⟩
theorem pe_str {x j pos} : PE X (.Constant (.str x) j pos) (tC (.str x)) := fun _ _ _ H _ I h => Calls.Constant_str ⟨.str x, H, I.tok _, ⟨_, rfl⟩, h⟩
def Gl (X : Cx) (x : Str) : Prop := X.env.kindOf x = some .globalImplicit
theorem ld_glob {E : Value → Shared → Prop} {pins : List (Addr × Obj)} {s : Shared} {σ : St} {H : Hp} {x : Str} {u : Value} {pos : Pos} {Q : Value → Shared → Prop} (I : Inv X pins σ H s) (hg : Gl X x) (hm : X.mg x = some u) (h : Q u s)
    (hd : (x == ("__debug__" : Str)) = false := by decide) : wpAny (model X.prog X.w) X.A (eval (.Name x pos) X.env) Q E s :=
  Calls.Name_function_global I.ok.kind hg (Calls.loadGlobal_global (by rw [I.ok.glob]; exact I.mod.glob.keeps I.bk) hm h) hd
theorem ld_blt {E : Value → Shared → Prop} {pins : List (Addr × Obj)} {s : Shared} {σ : St} {H : Hp} {x : Str} {u : Value} {pos : Pos} {Q : Value → Shared → Prop} (I : Inv X pins σ H s) (hg : Gl X x) (hm : X.mg x = none) (hv : bootBuiltins x = some u) (h : Q u s)
    (hn : x ≠ "__name__" := by decide) (hd : (x == ("__debug__" : Str)) = false := by decide) : wpAny (model X.prog X.w) X.A (eval (.Name x pos) X.env) Q E s := by
  obtain ⟨mb, h1, h2⟩ := I.mod.blt
  exact Calls.Name_function_global I.ok.kind hg (Calls.loadGlobal_builtin (by rw [I.ok.glob]; exact I.mod.glob.keeps I.bk) hm (by rw [I.ok.blt]; exact h1.keeps I.bk) ((h2 x hn).trans hv) h) hd
theorem pe_glob {x : Str} {v : V} {u : Value} {pos : Pos} (hg : Gl X x) (hm : X.mg x = some u) (r : RelV v u) (hd : (x == ("__debug__" : Str)) = false := by decide) : PE X (.Name x pos) (tC v) :=
  fun _ _ _ H _ I h => ld_glob I hg hm ⟨v, H, I, r, h⟩ hd
theorem pe_bltn {x : Str} {v : V} {u : Value} {pos : Pos} (hg : Gl X x) (hm : X.mg x = none) (hv : bootBuiltins x = some u) (r : RelV v u) (hn : x ≠ "__name__" := by decide) (hd : (x == ("__debug__" : Str)) = false := by decide) : PE X (.Name x pos) (tC v) :=
  fun _ _ _ H _ I h => ld_blt I hg hm hv ⟨v, H, I, r, h⟩ hn hd
def t2I (ta tb : TE) (k : Int → Int → Hp → Prop) : St → Hp → Prop := fun σ H => ta σ H fun x H1 => tb σ H1 fun y H2 => ∃ i j, x = .int i ∧ y = .int j ∧ k i j H2
variable {a b : Expr} {ta tb : TE} {pos : Pos}
def PC (X : Cx) (op : CmpOp) (a b : Expr) (t : TE) : Prop :=
  ∀ (pins : List (Addr × Obj)) (s : Shared) (σ : St) (H : Hp) (Q : VK), Inv X pins σ H s → t σ H Q →
    wpAny (model X.prog X.w) X.A (eval a X.env) (fun v s₁ => wpAny (model X.prog X.w) X.A (eval b X.env) (fun u s₂ => wpAny (model X.prog X.w) X.A (compareOp op v u) (EP X pins σ Q) X.xe s₂) X.xe s₁) X.xe s
theorem nobehind (b : Expr) {op : CmpOp} (h : op ≠ .In) (h2 : op ≠ .NotIn) : behindInMarks op b = false := by
  have e1 : (op == CmpOp.In) = false := by cases op <;> first | rfl | exact absurd rfl h
  have e2 : (op == CmpOp.NotIn) = false := by cases op <;> first | rfl | exact absurd rfl h2
  cases b <;> simp [behindInMarks, e1, e2]
def tCmp (p : Int → Int → Bool) (ta tb : TE) : TE := fun σ H Q => t2I ta tb (fun i j H2 => Q (.bl (p i j)) H2) σ H
abbrev tLt : TE → TE → TE := tCmp fun i j => decide (i < j)
abbrev tLe : TE → TE → TE := tCmp fun i j => decide (i ≤ j)
abbrev tGt : TE → TE → TE := tCmp fun i j => decide (j < i)
abbrev tGe : TE → TE → TE := tCmp fun i j => decide (j ≤ i)
abbrev tEqI : TE → TE → TE := tCmp fun i j => decide (i = j)
abbrev tNeI : TE → TE → TE := tCmp fun i j => !decide (i = j)
def tB (t : TE) : TT := fun σ H Q => t σ H fun x H1 => ∃ c, x = .bl c ∧ Q c H1
theorem pt_cmp {op : CmpOp} {t : TE} (h : PC X op a b t) (h1 : behindInMarks op b = false := by first | exact nobehind _ (by decide) (by decide) | rfl) : PT X (.Compare a [op] [b] pos) (tB t) := by
  intro pins s σ H Q I hw
  refine wpAny_isTrue_Compare1 (thn (h pins s σ H _ I hw) fun v s1 h1 => thn h1 fun u s2 h2 => thn h2 fun c s3 ⟨x, H1, I1, r1, q1⟩ => ?_) h1
  obtain ⟨d, rfl, q⟩ := q1
  cases r1
  exact wpAny_truthy_bool ⟨H1, I1, q⟩
theorem pt_val {e : Expr} {t : TE} (h : PE X e t) (he : ∀ whole, isTrue e X.env whole = (do let v ← whole; standAt e.pos; holding [v] (truthy v)) := by intro _; rfl) : PT X e (tB t) := by
  intro pins s σ H Q I hw
  refine isTrue_plain (thn (h pins s σ H _ I hw) fun v s1 ⟨x, H1, I1, r1, q1⟩ => ?_) (he _)
  obtain ⟨d, rfl, q⟩ := q1
  cases r1
  exact wpAny_truthy_bool ⟨H1, I1, q⟩
variable {tA tB' : TT} {rest : List Expr}
def tAnd (t u : TT) : TT := fun σ H Q => t σ H fun c H1 => if c = true then u σ H1 Q else Q false H1
def tOr (t u : TT) : TT := fun σ H Q => t σ H fun c H1 => if c = true then Q true H1 else u σ H1 Q
def tNot (t : TT) : TT := fun σ H Q => t σ H fun c H1 => Q (!c) H1
theorem pw_and1 (ha : PT X a tA) : PW X (.BoolOp .And [a] pos) tA := by
  intro wh pins s σ H Q I h
  refine isTrue_and (thn (ha pins s σ H Q I h) fun c s1 e => ?_)
  cases c with
  | true => exact isTrue_and_nil e
  | false => exact e
theorem pw_or1 (ha : PT X a tA) : PW X (.BoolOp .Or [a] pos) tA := by
  intro wh pins s σ H Q I h
  refine isTrue_or (thn (ha pins s σ H Q I h) fun c s1 e => ?_)
  cases c with
  | false => exact isTrue_or_nil e
  | true => exact e
theorem pw_and (ha : PT X a tA) (hb : PW X (.BoolOp .And (b :: rest) pos) tB') : PW X (.BoolOp .And (a :: b :: rest) pos) (tAnd tA tB') := by
  intro wh pins s σ H Q I h
  refine isTrue_and (thn (ha pins s σ H _ I h) fun c s1 ⟨H1, I1, q1⟩ => ?_)
  cases c with
  | true => exact hb wh pins s1 σ H1 Q I1 q1
  | false => exact ⟨H1, I1, q1⟩
theorem pw_or (ha : PT X a tA) (hb : PW X (.BoolOp .Or (b :: rest) pos) tB') : PW X (.BoolOp .Or (a :: b :: rest) pos) (tOr tA tB') := by
  intro wh pins s σ H Q I h
  refine isTrue_or (thn (ha pins s σ H _ I h) fun c s1 ⟨H1, I1, q1⟩ => ?_)
  cases c with
  | true => exact ⟨H1, I1, q1⟩
  | false => exact hb wh pins s1 σ H1 Q I1 q1
theorem pt_not (ha : PT X a tA) : PT X (.UnaryOp .Not a pos) (tNot tA) := by
  intro pins s σ H Q I h
  exact isTrue_not (ha pins s σ H (fun c H1 => Q (!c) H1) I h)
def tAndV (ta tb : TE) : TE := fun σ H Q => ta σ H fun x H1 => ∃ c, x = .bl c ∧ if c = true then tb σ H1 Q else Q (.bl false) H1
def tOrV (ta tb : TE) : TE := fun σ H Q => ta σ H fun x H1 => ∃ c, x = .bl c ∧ if c = true then Q (.bl true) H1 else tb σ H1 Q
def tNotV (ta : TE) : TE := fun σ H Q => ta σ H fun x H1 => ∃ c, x = .bl c ∧ Q (.bl (!c)) H1
theorem pe_one {op} {t : TE} (h : PE X a t) : PE X (.BoolOp op [a] pos) t := fun pins s σ H Q I hw => BoolOp_one (h pins s σ H Q I hw)
theorem pe_and (ha : PE X a ta) (hb : PE X (.BoolOp .And (b :: rest) pos) tb) : PE X (.BoolOp .And (a :: b :: rest) pos) (tAndV ta tb) := by
  intro pins s σ H Q I h
  refine BoolOp_and (thn (ha pins s σ H _ I h) fun v s1 ⟨x, H1, I1, r1, q1⟩ => ?_)
  obtain ⟨c, rfl, q1⟩ := q1
  cases r1
  refine wpAny_truthy_bool ?_
  cases c with
  | true => exact hb pins s1 σ H1 Q I1 q1
  | false => exact ⟨.bl false, H1, I1, rfl, q1⟩
theorem pe_not (ha : PE X a ta) : PE X (.UnaryOp .Not a pos) (tNotV ta) := by
  intro pins s σ H Q I h
  refine UnaryOp_ (thn (ha pins s σ H _ I h) fun v s1 ⟨x, H1, I1, r1, q1⟩ => ?_)
  obtain ⟨c, rfl, q1⟩ := q1
  cases r1
  exact not_of (wpAny_truthy_bool ⟨.bl (!c), H1, I1, rfl, q1⟩)
def tIf (t : TT) (ta tb : TE) : TE := fun σ H Q => t σ H fun c H1 => if c = true then ta σ H1 Q else tb σ H1 Q
theorem pe_ifExp {c : Expr} (hc : PT X c tA) (ha : PE X a ta) (hb : PE X b tb) : PE X (.IfExp c a b pos) (tIf tA ta tb) := by
  intro pins s σ H Q I h
  refine wpAny_IfExp (thn (hc pins s σ H _ I h) fun d s1 ⟨H1, I1, q1⟩ => ?_)
  cases d with
  | true => exact ha pins s1 σ H1 Q I1 q1
  | false => exact hb pins s1 σ H1 Q I1 q1
end
end L2
namespace L2
open PySem PySem.Spec PyProof.Rows
def SqL (K : PySem.W.Frag) (H : Hp) (a : Addr) (xs : List V) : Prop :=
  Rd H a (.lst xs) ∨
    ∃ (o : Obj) (its : Array Value) (n : Nat), K.lookup a = some o ∧ o.cls = .type "list" ∧ o.dict = none ∧ o.data = .seq its n ∧ its.size ≤ sizeLine ∧ Vals xs its.toList
def SqT (K : PySem.W.Frag) (H : Hp) (a : Addr) (xs : List V) : Prop :=
  Rd H a (.tup xs) ∨
    ∃ (o : Obj) (its : Array Value) (n : Nat), K.lookup a = some o ∧ o.cls = .type "tuple" ∧ o.data = .seq its n ∧ its.size ≤ sizeLine ∧ Vals xs its.toList
def absV : Value → Option V
  | .none => some .non
  | .bool b => some (.bl b)
  | .int i _ => some (.int i)
  | .str x _ => some (.str x)
  | .bytes b _ => some (.byt b)
  | .float b _ => some (.flt b)
  | .ref a => some (.ref a)
  | .type n => some (.ty n)
  | _ => none
theorem RelV.abs {x : V} {u : Value} (r : RelV x u) : absV u = some x := by
  cases x with
  | non => cases r; rfl
  | bl _ => cases r; rfl
  | int _ => obtain ⟨t, rfl⟩ := r; rfl
  | str _ => obtain ⟨t, rfl⟩ := r; rfl
  | byt _ => obtain ⟨t, rfl⟩ := r; rfl
  | flt _ => obtain ⟨t, rfl⟩ := r; rfl
  | ref _ => cases r; rfl
  | ty _ => cases r; rfl
theorem RelV.inj {x y : V} {u : Value} (r : RelV x u) (q : RelV y u) : x = y := Option.some.inj (r.abs.symm.trans q.abs)
theorem Vals.inj : ∀ {xs ys : List V} {us : List Value}, Vals xs us → Vals ys us → xs = ys
  | _, _, _, .nil, .nil => rfl
  | _, _, _, .cons r t, .cons r' t' => by rw [r.inj r', Vals.inj t t']
section
variable {X : Cx} {pins : List (Addr × Obj)} {σ : St} {H : Hp} {s : Shared} {a : Addr} {xs ys : List V}
theorem SqL.of {K : PySem.W.Frag} (h : H a = some (.lst xs)) : SqL K H a xs := .inl (.inl h)
theorem SqT.of {K : PySem.W.Frag} (h : H a = some (.tup xs)) : SqT K H a xs := .inl (.inl h)
theorem Inv.list (I : Inv X pins σ H s) (h : SqL X.K H a xs) : ∃ its : List Value, Vals xs its ∧ PlainL s.heap a its.toArray ∧ xs.length ≤ sizeLine := by
  rcases h with h | ⟨o, its, n, hk, hc, hd, hs, hz, r⟩
  · obtain ⟨z, its, n, r, e⟩ := h.ok I.hok
    exact ⟨its, r, ⟨_, n, e, rfl, rfl, rfl⟩, z⟩
  · refine ⟨its.toList, r, ⟨o, n, I.kIn a o hk, hc, hd, by simpa using hs⟩, ?_⟩
    have e := r.length
    simp only [Array.length_toList] at e
    omega
theorem Inv.tuple (I : Inv X pins σ H s) (h : SqT X.K H a xs) : ∃ its : List Value, Vals xs its ∧ IsTup s.heap a its.toArray ∧ xs.length ≤ sizeLine := by
  rcases h with h | ⟨o, its, n, hk, hc, hs, hz, r⟩
  · obtain ⟨z, its, r, p⟩ := h.ok I.hok
    exact ⟨its, r, p, z⟩
  · refine ⟨its.toList, r, ⟨o, I.kIn a o hk, hc, n, by simpa using hs⟩, ?_⟩
    have e := r.length
    simp only [Array.length_toList] at e
    omega
theorem Inv.list_inj (I : Inv X pins σ H s) (h : SqL X.K H a xs) (h' : SqL X.K H a ys) : xs = ys := by
  obtain ⟨its, r, ⟨o, n, e, _, _, d⟩, _⟩ := I.list h
  obtain ⟨its', r', ⟨o', n', e', _, _, d'⟩, _⟩ := I.list h'
  rw [e] at e'; cases e'
  rw [d] at d'
  injection d' with d1 _
  have : its = its' := by simpa using congrArg Array.toList d1
  subst this
  exact r.inj r'
theorem Inv.tuple_inj (I : Inv X pins σ H s) (h : SqT X.K H a xs) (h' : SqT X.K H a ys) : xs = ys := by
  obtain ⟨its, r, ⟨o, e, _, n, d⟩, _⟩ := I.tuple h
  obtain ⟨its', r', ⟨o', e', _, n', d'⟩, _⟩ := I.tuple h'
  rw [e] at e'; cases e'
  rw [d] at d'
  injection d' with d1 _
  have : its = its' := by simpa using congrArg Array.toList d1
  subst this
  exact r.inj r'
end
abbrev Cx.wish (X : Cx) (E : Value → Shared → Prop) : Cx := { X with xe := E }
abbrev Cx.nox (X : Cx) : Cx := X.wish fun _ _ => False
theorem Cx.Ok.wish {X : Cx} (ok : X.Ok) (E : Value → Shared → Prop) : (X.wish E).Ok :=
  ⟨ok.mod, ok.kind, ok.glob, ok.blt, ok.above, ok.inj, ok.has, ok.cab, ok.hd, ok.frames, ok.stk, ok.exf, ok.bs, ok.bsz, ok.noex, ok.exfs, ok.funs, ok.frf⟩
theorem Cx.Ok.unwish {X : Cx} {E : Value → Shared → Prop} (ok : (X.wish E).Ok) : X.Ok :=
  ⟨ok.mod, ok.kind, ok.glob, ok.blt, ok.above, ok.inj, ok.has, ok.cab, ok.hd, ok.frames, ok.stk, ok.exf, ok.bs, ok.bsz, ok.noex, ok.exfs, ok.funs, ok.frf⟩
section
variable {X : Cx} {pins : List (Addr × Obj)} {σ : St} {H : Hp} {s : Shared} {E : Value → Shared → Prop}
theorem Inv.wish (I : Inv X pins σ H s) (E : Value → Shared → Prop) : Inv (X.wish E) pins σ H s := ⟨I.ok.wish E, I.os, I.bare, I.base, I.loc, I.cell, I.free, I.freeC, I.pin, I.hok, I.len⟩
theorem Inv.unwish (I : Inv (X.wish E) pins σ H s) : Inv X pins σ H s := ⟨I.ok.unwish, I.os, I.bare, I.base, I.loc, I.cell, I.free, I.freeC, I.pin, I.hok, I.len⟩
theorem SP.unwish {D : Ends} {f : Flow} {s' : Shared} (h : SP (X.wish E) pins D f s') : SP X pins D f s' := by
  cases f with
  | next => obtain ⟨σ', H', I, q⟩ := h; exact ⟨σ', H', I.unwish, q⟩
  | brk => obtain ⟨σ', H', I, q⟩ := h; exact ⟨σ', H', I.unwish, q⟩
  | cont => obtain ⟨σ', H', I, q⟩ := h; exact ⟨σ', H', I.unwish, q⟩
  | ret u => obtain ⟨v, σ', H', I, r, q⟩ := h; exact ⟨v, σ', H', I.unwish, r, q⟩
theorem PE.nox {e : Expr} {t : TE} (h : PE X.nox e t) : PE X e t := fun pins s σ H Q I hw =>
  wpAny_mono (h pins s σ H Q (I.wish _) hw) (fun _ _ ⟨v, H', I', r, q⟩ => ⟨v, H', I'.unwish, r, q⟩) fun _ _ z => False.elim z
theorem PT.nox {e : Expr} {t : TT} (h : PT X.nox e t) : PT X e t := fun pins s σ H Q I hw =>
  wpAny_mono (h pins s σ H Q (I.wish _) hw) (fun _ _ ⟨H', I', q⟩ => ⟨H', I'.unwish, q⟩) fun _ _ z => False.elim z
theorem PSs.nox {st : List Stmt} {t : TS} (h : PSs X.nox st t) : PSs X st t := fun pins s σ H D I hw =>
  wpAny_mono (h pins s σ H D (I.wish _) hw) (fun _ _ q => q.unwish) fun _ _ z => False.elim z
end
section
variable {X : Cx} {st : Stmt} {rest : List Stmt} {t u : TS} {e : Expr} {te : TE} {pos : Pos}
def tNext : TS := fun D σ H => D.nx σ H
def tSeq (t u : TS) : TS := fun D σ H => t { D with nx := u D } σ H
theorem pss_nil : PSs X [] tNext := fun _ _ σ H _ I h => wpAny_execs_nil ⟨σ, H, I, h⟩
theorem pss_cons (h1 : PS X st t) (h2 : PSs X rest u) : PSs X (st :: rest) (tSeq t u) := by
  intro pins s σ H D I h
  refine wpAny_execs_cons (thn (h1 pins s σ H { D with nx := u D } I h) fun f s1 q => ?_)
  cases f with
  | next =>
    obtain ⟨σ', H', I', q⟩ := q
    exact h2 pins s1 σ' H' D I' q
  | ret v => exact q
  | brk => exact q
  | cont => exact q
theorem pss_one (h1 : PS X st t) : PSs X [st] t := by
  intro pins s σ H D I h
  refine wpAny_execs_cons (thn (h1 pins s σ H D I h) fun f s1 q => ?_)
  cases f with
  | next => exact wpAny_execs_nil q
  | ret v => exact q
  | brk => exact q
  | cont => exact q
theorem Inv.quiet {pins : List (Addr × Obj)} {σ : St} {H : Hp} {s : Shared} (I : Inv X pins σ H s) : interactive X.env = false := by simp [interactive, I.ok.kind]
def tDrop (te : TE) : TS := fun D σ H => te σ H fun _ H1 => D.nx σ H1
theorem ps_expr (he : PE X e te) (hs : swapsWith e none pos.line X.env = pure false := by rfl) : PS X (.Expr e pos) (tDrop te) := by
  intro pins s σ H D I h
  exact wpAny_Expr_any (thn (he pins s σ H _ I h) fun v s1 ⟨x, H1, I1, r1, q1⟩ => ⟨σ, H1, I1, q1⟩) I.quiet hs
def tRet (te : TE) : TS := fun D σ H => te σ H D.rt
theorem ps_ret (he : PE X e te) : PS X (.Return (some e) pos) (tRet te) := by
  intro pins s σ H D I h
  exact wpAny_Return_some (thn (he pins s σ H _ I h) fun v s1 ⟨x, H1, I1, r1, q1⟩ => ⟨x, σ, H1, I1, r1, q1⟩)
def tRetN : TS := fun D _ H => D.rt .non H
def tIfS (c : TT) (t u : TS) : TS := fun D σ H => c σ H fun b H1 => if b = true then t D σ H1 else u D σ H1
theorem ps_if {c : Expr} {a b : List Stmt} {tc : TT} (hc : PT X c tc) (ha : PSs X a t) (hb : PSs X b u) : PS X (.If c a b pos) (tIfS tc t u) := by
  intro pins s σ H D I h
  refine wpAny_If (thn (hc pins s σ H _ I h) fun d s1 ⟨H1, I1, q1⟩ => ?_)
  cases d with
  | true => exact ha pins s1 σ H1 D I1 q1
  | false => exact hb pins s1 σ H1 D I1 q1
def tNever : TS := fun _ _ _ => False
end
abbrev TG := V → St → Hp → (St → Hp → Prop) → Prop
abbrev TGs := List V → St → Hp → (St → Hp → Prop) → Prop
def PG (X : Cx) (target : Expr) (t : TG) : Prop :=
  ∀ (pins : List (Addr × Obj)) (s : Shared) (σ : St) (H : Hp) (v : V) (u : Value) (Q : St → Hp → Prop), Inv X pins σ H s → RelV v u → t v σ H Q →
    wpAny (model X.prog X.w) X.A (assign target X.env u) (fun _ s' => ∃ σ' H', Inv X pins σ' H' s' ∧ Q σ' H') X.xe s
def PGs (X : Cx) (ts : List Expr) (t : TGs) : Prop :=
  ∀ (pins : List (Addr × Obj)) (s : Shared) (σ : St) (H : Hp) (vs : List V) (us : List Value) (Q : St → Hp → Prop), Inv X pins σ H s → Vals vs us → t vs σ H Q →
    wpAny (model X.prog X.w) X.A (assignInOrder ((assignEach ts X.env).map (·.2)) us) (fun _ s' => ∃ σ' H', Inv X pins σ' H' s' ∧ Q σ' H') X.xe s
abbrev TSet := V → V → V → Hp → (Hp → Prop) → Prop
abbrev TIp := V → V → Hp → VK → Prop
section
variable {X : Cx} {pos : Pos}
def gName (i : Nat) : TG := fun v σ H Q => Q (σ.set i (some v)) H
theorem pg_name {i : Nat} {x : Str} (hN : X.N.Nodup) (hi : X.N[i]? = some x) (hx : Loc X.env.scope x) (hf : X.fn x = true ∨ X.env.scope.names.lookup x = some .local := by first | exact .inl rfl | exact .inr rfl | assumption) : PG X (.Name x pos) (gName i) := by
  intro pins s σ H v u Q I r h
  exact wpAny_assign_Name (store_ok I hN hi hx r (fun s' I' => ⟨_, H, I', h⟩) hf)
def gNil : TGs := fun vs σ H Q => vs = [] ∧ Q σ H
def gCons (t : TG) (u : TGs) : TGs := fun vs σ H Q => ∃ v r, vs = v :: r ∧ t v σ H fun σ' H' => u r σ' H' Q
theorem pgs_nil : PGs X [] gNil := by
  intro pins s σ H vs us Q I r h
  obtain ⟨e, h⟩ := h
  subst e
  cases r
  exact assignInOrder_nil ⟨σ, H, I, h⟩
theorem pgs_cons {e : Expr} {es : List Expr} {t : TG} {u : TGs} (h1 : PG X e t) (h2 : PGs X es u)
    (hs : (assignEach (e :: es) X.env).map (·.2) = assign e X.env :: (assignEach es X.env).map (·.2) := by rfl) : PGs X (e :: es) (gCons t u) := by
  intro pins s σ H vs us Q I r h
  obtain ⟨v, vr, e1, h⟩ := h
  subst e1
  cases r with
  | cons r rr =>
    rw [hs]
    refine assignInOrder_cons (thn (h1 pins s σ H _ _ _ I r h) fun _ s1 ⟨σ1, H1, I1, q1⟩ => ?_)
    exact h2 pins s1 σ1 H1 _ _ Q I1 rr q1
def gTup (K : PySem.W.Frag) (n : Nat) (t : TGs) : TG := fun v σ H Q => ∃ a xs, v = .ref a ∧ SqT K H a xs ∧ xs.length = n ∧ t xs σ H Q
theorem pg_tup {es : List Expr} {k : Nat} {t : TGs} {n : Nat} (hc : X.calm = true) (h : PGs X es t)
    (hn : (assignEach es X.env).length = n := by rfl) (hst : (assignEach es X.env).findIdx? (·.1) = none := by rfl) : PG X (.Tuple es k pos) (gTup X.K n t) := by
  intro pins s σ H v u Q I r hw
  obtain ⟨a, xs, e1, hq, hl, hw⟩ := hw
  subst e1
  cases r
  obtain ⟨its, rv, ht, hz⟩ := I.tuple hq
  refine assign_Tuple_tuple (I.ok.hd hc) ht (by simp [hn, ← hl, rv.length]) hst fun h' hx => ?_
  have I1 : Inv X pins σ H { s with heap := h' } := I.kept (t' := s.toks) fun b o e => hx b o (Nat.ne_of_lt (Heap.lt_size e)) e
  exact h pins _ σ H xs _ Q I1 (by simpa using rv) hw
def gSub (to ti : TE) (t : TSet) : TG := fun v σ H Q => to σ H fun o H1 => ti σ H1 fun i H2 => t o i v H2 fun H3 => Q σ H3
def tAsg (te : TE) (g : TG) : TS := fun D σ H => te σ H fun x H1 => g x σ H1 D.nx
theorem ps_set {i : Nat} {x : Str} {e : Expr} {te : TE} {pos' : Pos} (hN : X.N.Nodup) (hi : X.N[i]? = some x) (hx : Loc X.env.scope x) (he : PE X e te) (hs : swapsWith e (some (.Name x pos')) pos.line X.env = pure false := by rfl) (hf : X.fn x = true ∨ X.env.scope.names.lookup x = some .local := by first | exact .inl rfl | exact .inr rfl | assumption) :
    PS X (.Assign [.Name x pos'] e pos) (tAsg te (gName i)) := by
  intro pins s σ H D I h
  refine wpAny_Assign_Name (thn (he pins s σ H _ I h) fun v s1 ⟨y, H1, I1, r1, q1⟩ => ?_) hs
  exact store_ok I1 hN hi hx r1 (fun s2 I2 => ⟨_, H1, I2, q1⟩) hf
end
section
variable {X : Cx} {pos : Pos}
end
structure It where
  go : Nat → Hp → Prop
  yld : Nat → Hp → V → Hp → Prop
  stop : Nat → Hp → Prop
def FpOk (X : Cx) (pins : List (Addr × Obj)) (H : Hp) (b : Addr) : Prop :=
  H b = none ∧ b ≠ X.env.locals ∧ b ∉ X.fs ∧ (b ∈ X.ex ∨ X.s₀.heap.objs.size ≤ b) ∧ (∀ x c, X.env.cells.lookup x = some c → c ≠ b) ∧ ∀ p ∈ X.pn ++ pins, p.1 ≠ b
theorem Inv.fpOk {X : Cx} {pins : List (Addr × Obj)} {σ : St} {H H' : Hp} {s : Shared} {b : Addr} (I : Inv X pins σ H s) (hb : s.heap.objs.size ≤ b) (hn : H' b = none) : FpOk X pins H' b := by
  refine ⟨hn, Nat.ne_of_gt (Nat.lt_of_lt_of_le I.lt hb), I.nofs hb, .inr (Nat.le_trans I.sz hb), fun x c e z => ?_, fun p hp z => ?_⟩
  · obtain ⟨v, q⟩ := I.cell x c e
    exact absurd (Nat.lt_of_lt_of_le q.lt (by rw [z]; exact hb)) (Nat.lt_irrefl _)
  · exact absurd (Nat.lt_of_lt_of_le (Heap.lt_size (I.pin p hp).1) (by rw [z]; exact hb)) (Nat.lt_irrefl _)
structure Turn (P : Program) (w : World) (K : PySem.W.Frag) (tg : Expr) (J : It) (fp : List Addr) (it : Addr) (tn : Nat → Heap → Prop) : Prop where
  mem : it ∈ fp
  obj : ∀ i h, tn i h → ∀ b ∈ fp, ∃ o, h.get? b = some o ∧ ∀ v, o.data ≠ .cell v
  keep : ∀ i h h', tn i h → (∀ b ∈ fp, ∀ o, h.get? b = some o → h'.get? b = some o) → tn i h'
  item : ∀ (X : Cx), X.prog = P → X.w = w → X.K = K → X.calm = true → ∀ (i : Nat) (pins : List (Addr × Obj)) (s : Shared) (σ : St) (H : Hp) (E : Value → Shared → Prop), Inv X pins σ H s → (∀ b ∈ fp, FpOk X pins H b) → tn i s.heap → J.go i H →
    wpAny (model P w) X.A (pyNext (.ref it)) (fun r s1 => ∃ u, r = some u ∧
      wpAny (model P w) X.A (letOwnedTupleGo tg (.ref it) u) (fun _ s2 => ∃ x H', Inv X pins σ H' s2 ∧ RelV x u ∧ J.yld i H x H' ∧ tn (i + 1) s2.heap ∧ ∀ b ∈ fp, H' b = none) E s1) E s
  done : ∀ (X : Cx), X.prog = P → X.w = w → X.K = K → X.calm = true → ∀ (i : Nat) (pins : List (Addr × Obj)) (s : Shared) (σ : St) (H : Hp) (E : Value → Shared → Prop), Inv X pins σ H s → (∀ b ∈ fp, FpOk X pins H b) → tn i s.heap → J.stop i H →
    wpAny (model P w) X.A (pyNext (.ref it)) (fun r s1 => r = none ∧ Inv X pins σ H s1) E s
  self : ∀ (A : Around) (i : Nat) (s : Shared) (Q : Value → Shared → Prop) (E : Value → Shared → Prop), tn i s.heap → Q (.ref it) s → wpAny (model P w) A (pyIter (.ref it)) Q E s
abbrev TI := St → Hp → (It → Hp → Prop) → Prop
def PIE (X : Cx) (pins : List (Addr × Obj)) (σ : St) (tg : Expr) (R : It → Hp → Prop) (itv : Value) (s2 : Shared) : Prop :=
  ∃ (it : Addr) (fp : List Addr) (tn : Nat → Heap → Prop) (J : It) (H' : Hp), itv = .ref it ∧ Inv X pins σ H' s2 ∧ Turn X.prog X.w X.K tg J fp it tn ∧ tn 0 s2.heap ∧ (∀ b ∈ fp, FpOk X pins H' b) ∧ R J H'
def PI (X : Cx) (tg iter : Expr) (wi : TI) : Prop :=
  ∀ (pins : List (Addr × Obj)) (s : Shared) (σ : St) (H : Hp) (R : It → Hp → Prop), Inv X pins σ H s → wi σ H R →
    wpAny (model X.prog X.w) X.A (eval iter X.env) (fun v s1 => wpAny (model X.prog X.w) X.A (pyIter v) (PIE X pins σ tg R) X.xe s1) X.xe s
theorem go_of {M : Model} {A : Around} {E : Value → Shared → Prop} {s : Shared} {tg : Expr} {it : Addr} {u : Value} {o : Obj} {n : String} {vs : Array Value} {Q : Unit → Shared → Prop} (ho : s.heap.get? it = some o) (hc : o.cls = .type n) (hd : o.data = .fields vs)
    (hn : ["enumerate", "zip", "dict_itemiterator", "dict_reverseitemiterator", "odict_iterator", "itertools.zip_longest", "itertools.pairwise"].contains n = false) (hQ : Q () s) : wpAny M A (letOwnedTupleGo tg (.ref it) u) Q E s := by
  unfold letOwnedTupleGo
  cases tg <;> first
    | exact wpAny_pure hQ
    | (cases u <;> first
        | exact wpAny_pure hQ
        | (refine wpAny_bind (wpAny_load ho ?_)
           rw [hc, hd]
           show wpAny M A (if (["enumerate", "zip", "dict_itemiterator", "dict_reverseitemiterator", "odict_iterator", "itertools.zip_longest", "itertools.pairwise"].contains n && vs[0]? == some (rawInt _)) = true then _ else _) Q E s
           rw [if_neg (by intro h; rw [hn, Bool.false_and] at h; cases h)]
           exact wpAny_pure hQ))
def Itl (K : PySem.W.Frag) (a : Addr) : It :=
  ⟨fun i H => ∃ xs x, SqL K H a xs ∧ xs[i]? = some x, fun i H x H' => H' = H ∧ ∀ xs, SqL K H a xs → xs[i]? = some x, fun i H => ∃ xs, SqL K H a xs ∧ xs.length ≤ i⟩
def Itt (K : PySem.W.Frag) (a : Addr) : It :=
  ⟨fun i H => ∃ xs x, SqT K H a xs ∧ xs[i]? = some x, fun i H x H' => H' = H ∧ ∀ xs, SqT K H a xs → xs[i]? = some x, fun i H => ∃ xs, SqT K H a xs ∧ xs.length ≤ i⟩
def Itr (lo : Int) (n : Nat) : It := ⟨fun i _ => i < n, fun i H x H' => H' = H ∧ x = .int (lo + i), fun i _ => n ≤ i⟩
theorem turn_list {P : Program} {w : World} {K : PySem.W.Frag} {tg : Expr} (a it : Addr) : Turn P w K tg (Itl K a) [it] it (fun i h => h.IsListIter it a i) where
  mem := by simp
  obj := fun i h st b hb => by
    have e : b = it := by simpa using hb
    subst e
    obtain ⟨o, e, c, d⟩ := st
    exact ⟨o, e, fun v z => by rw [d] at z; cases z⟩
  keep := fun i h h' st k => st.at fun o e => k it (by simp) o e
  item := by
    intro X hP hw hK hc i pins s σ H E I hf st hg
    subst hP hw hK
    obtain ⟨xs, x, hq, hx⟩ := hg
    obtain ⟨its, rv, p, hz⟩ := I.list hq
    obtain ⟨u, hu, ru⟩ := rv.get hx
    obtain ⟨f0, f1, f2, f3, f4, f5⟩ := hf it (by simp)
    refine wpAny_pyNext_list_item st p.isList (x := u) (by simpa using hu) fun h' st' sb => ?_
    have I1 : Inv X pins σ H { s with heap := h' } := I.turned (t' := s.toks) (fun b o hb e => (sb.2 b hb).trans e) f0 f1 f3 f4 f5
    obtain ⟨o, e, c, d⟩ := id st'
    exact ⟨u, rfl, go_of (s := { s with heap := h' }) e c d (by decide) ⟨x, H, I1, ru, ⟨rfl, fun ys hy => by rw [I.list_inj hy hq]; exact hx⟩, st', fun b hb => (hf b hb).1⟩⟩
  done := by
    intro X hP hw hK hc i pins s σ H E I hf st hg
    subst hP hw hK
    obtain ⟨xs, hq, hx⟩ := hg
    obtain ⟨its, rv, p, hz⟩ := I.list hq
    obtain ⟨f0, f1, f2, f3, f4, f5⟩ := hf it (by simp)
    have hl := rv.length
    exact wpAny_pyNext_list_end (I.ok.hd hc) st p.isList (by simp; omega) fun h' eb => ⟨rfl, I.turned (t' := s.toks) (fun b o hb e => eb b o hb e) f0 f1 f3 f4 f5⟩
  self := fun _ _ _ _ _ st h => wpAny_pyIter_listiter st h
theorem turn_tuple {P : Program} {w : World} {K : PySem.W.Frag} {tg : Expr} (a it : Addr) : Turn P w K tg (Itt K a) [it] it (fun i h => h.IsTupleIter it a i) where
  mem := by simp
  obj := fun i h st b hb => by
    have e : b = it := by simpa using hb
    subst e
    obtain ⟨o, e, c, d⟩ := st
    exact ⟨o, e, fun v z => by rw [d] at z; cases z⟩
  keep := fun i h h' st k => st.at fun o e => k it (by simp) o e
  item := by
    intro X hP hw hK hc i pins s σ H E I hf st hg
    subst hP hw hK
    obtain ⟨xs, x, hq, hx⟩ := hg
    obtain ⟨its, rv, p, hz⟩ := I.tuple hq
    obtain ⟨u, hu, ru⟩ := rv.get hx
    obtain ⟨f0, f1, f2, f3, f4, f5⟩ := hf it (by simp)
    refine wpAny_pyNext_tuple_item st (show s.heap.IsTuple a its.toArray from p) (x := u) (by simpa using hu) fun h' st' sb => ?_
    have I1 : Inv X pins σ H { s with heap := h' } := I.turned (t' := s.toks) (fun b o hb e => (sb.2 b hb).trans e) f0 f1 f3 f4 f5
    obtain ⟨o, e, c, d⟩ := id st'
    exact ⟨u, rfl, go_of (s := { s with heap := h' }) e c d (by decide) ⟨x, H, I1, ru, ⟨rfl, fun ys hy => by rw [I.tuple_inj hy hq]; exact hx⟩, st', fun b hb => (hf b hb).1⟩⟩
  done := by
    intro X hP hw hK hc i pins s σ H E I hf st hg
    subst hP hw hK
    obtain ⟨xs, hq, hx⟩ := hg
    obtain ⟨its, rv, p, hz⟩ := I.tuple hq
    obtain ⟨f0, f1, f2, f3, f4, f5⟩ := hf it (by simp)
    have hl := rv.length
    exact wpAny_pyNext_tuple_end (I.ok.hd hc) st (show s.heap.IsTuple a its.toArray from p) (by simp; omega) fun h' eb => ⟨rfl, I.turned (t' := s.toks) (fun b o hb e => eb b o hb e) f0 f1 f3 f4 f5⟩
  self := fun _ _ _ _ _ st h => wpAny_pyIter_tupleiter st h
theorem turn_range {P : Program} {w : World} {K : PySem.W.Frag} {tg : Expr} (it : Addr) (lo : Int) (n : Nat) : Turn P w K tg (Itr lo n) [it] it (fun i h => IsRangeIter h it (lo + (i : Nat) * 1) ((n : Int) - (i : Nat)) 1) where
  mem := by simp
  obj := fun i h st b hb => by
    have e : b = it := by simpa using hb
    subst e
    exact ⟨_, st, fun v z => by
      have z' : Data.fields _ = Data.cell v := z
      cases z'⟩
  keep := fun i h h' st k => k it (by simp) _ st
  item := by
    intro X hP hw hK hc i pins s σ H E I hf st hg
    subst hP hw hK
    obtain ⟨f0, f1, f2, f3, f4, f5⟩ := hf it (by simp)
    have W := Walks.range (prog := X.prog) (w := X.w) (I.ok.hd hc) it lo 1 n
    refine W.item i s _ _ hg st fun v h' tk hv st' kk => ?_
    obtain ⟨t, rfl⟩ := hv
    have I1 : Inv X pins σ H { s with heap := h', toks := tk } := I.turned (fun b o hb e => kk b o (by simpa using hb) e) f0 f1 f3 f4 f5
    refine ⟨_, rfl, go_of (s := { s with heap := h', toks := tk }) (n := "range_iterator") st' rfl rfl (by decide) ⟨.int (lo + i), H, I1, ⟨t, ?_⟩, ⟨rfl, rfl⟩, st', fun b hb => (hf b hb).1⟩⟩
    rw [Int.mul_one]
  done := by
    intro X hP hw hK hc i pins s σ H E I hf st hg
    subst hP hw hK
    obtain ⟨f0, f1, f2, f3, f4, f5⟩ := hf it (by simp)
    exact wpAny_pyNext_range_end (I.ok.hd hc) st (by have : n ≤ i := hg; omega) fun h' eb => ⟨rfl, I.turned (t' := s.toks) (fun b o hb e => eb b o hb e) f0 f1 f3 f4 f5⟩
  self := fun _ _ _ _ _ st h => wpAny_pyIter_rangeiter st h
end L2
namespace L2
open PySem PySem.Spec PyProof.Rows
section
variable {X : Cx} {tg : Expr}
def iList (K : PySem.W.Frag) (tl : TE) : TI := fun σ H R => tl σ H fun x H1 => ∃ a, x = .ref a ∧ (∃ xs, SqL K H1 a xs) ∧ R (Itl K a) H1
def iTup (K : PySem.W.Frag) (tl : TE) : TI := fun σ H R => tl σ H fun x H1 => ∃ a, x = .ref a ∧ (∃ xs, SqT K H1 a xs) ∧ R (Itt K a) H1
theorem pi_list {l : Expr} {tl : TE} (hl : PE X l tl) : PI X tg l (iList X.K tl) := by
  intro pins s σ H R I h
  refine thn (hl pins s σ H _ I h) fun v s1 ⟨x, H1, I1, r1, q1⟩ => ?_
  obtain ⟨a, e, ⟨xs, hq⟩, q⟩ := q1
  subst e
  cases r1
  obtain ⟨its, rv, p, hz⟩ := I1.list hq
  refine wpAny_pyIter_list p.isList ?_
  refine ⟨s1.heap.objs.size, [s1.heap.objs.size], _, _, H1, rfl, I1.kept (t' := s1.toks) fun b o e => Heap.get?_push_of_some _ e, turn_list a _, ⟨_, Heap.get?_push_size _ rfl, rfl, rfl⟩, fun b hb => ?_, q⟩
  have e : b = s1.heap.objs.size := by simpa using hb
  subst e
  exact I1.fpOk (Nat.le_refl _) (I1.hok.fresh (Nat.le_refl _))
theorem pi_tup {l : Expr} {tl : TE} (hl : PE X l tl) : PI X tg l (iTup X.K tl) := by
  intro pins s σ H R I h
  refine thn (hl pins s σ H _ I h) fun v s1 ⟨x, H1, I1, r1, q1⟩ => ?_
  obtain ⟨a, e, ⟨xs, hq⟩, q⟩ := q1
  subst e
  cases r1
  obtain ⟨its, rv, p, hz⟩ := I1.tuple hq
  refine wpAny_pyIter_tuple (show s1.heap.IsTuple a its.toArray from p) ?_
  refine ⟨s1.heap.objs.size, [s1.heap.objs.size], _, _, H1, rfl, I1.kept (t' := s1.toks) fun b o e => Heap.get?_push_of_some _ e, turn_tuple a _, ⟨_, Heap.get?_push_size _ rfl, rfl, rfl⟩, fun b hb => ?_, q⟩
  have e : b = s1.heap.objs.size := by simpa using hb
  subst e
  exact I1.fpOk (Nat.le_refl _) (I1.hok.fresh (Nat.le_refl _))
theorem range_it {pins : List (Addr × Obj)} {σ : St} {H : Hp} {s : Shared} {R : It → Hp → Prop} {E : Value → Shared → Prop} {lo hi : Int} {t u v : Tok} {tk : Nat} (I : Inv X pins σ H s) (h1 : -(2 ^ 62) ≤ lo) (h2 : lo < 2 ^ 62) (h3 : -(2 ^ 62) ≤ hi) (h4 : hi < 2 ^ 62)
    (q : R (Itr lo (hi - lo).toNat) H) : wpAny (model X.prog X.w) X.A (pyIter (.ref s.heap.objs.size)) (PIE X pins σ tg R) E { s with heap := s.heap.push { cls := .type "range", data := .fields #[.int lo t, .int hi u, .int 1 v] }, toks := tk } := by
  refine wpAny_pyIter_range (IsRange.new ..) (small_one h1 h2 h3 h4) ?_
  have I1 : Inv X pins σ H { s with heap := s.heap.push { cls := .type "range", data := .fields #[.int lo t, .int hi u, .int 1 v] }, toks := tk } := I.kept fun b o e => Heap.get?_push_of_some _ e
  refine ⟨(s.heap.push { cls := .type "range", data := .fields #[.int lo t, .int hi u, .int 1 v] }).objs.size, [(s.heap.push { cls := .type "range", data := .fields #[.int lo t, .int hi u, .int 1 v] }).objs.size], _, _, H, rfl,
    I1.kept (t' := tk) fun b o e => Heap.get?_push_of_some _ e, turn_range _ lo (hi - lo).toNat, ?_, fun b hb => ?_, q⟩
  · have e1 : lo + ((0 : Nat) : Int) * 1 = lo := by simp
    have e2 : (((hi - lo).toNat : Nat) : Int) - ((0 : Nat) : Int) = Builtin.Range.rangeSize lo hi 1 := by rw [rangeSize_one]; split <;> omega
    show IsRangeIter _ _ (lo + ((0 : Nat) : Int) * 1) ((((hi - lo).toNat : Nat) : Int) - ((0 : Nat) : Int)) 1
    rw [e1, e2]
    exact Heap.get?_push_size _ rfl
  · have e : b = (s.heap.push { cls := .type "range", data := .fields #[.int lo t, .int hi u, .int 1 v] }).objs.size := by simpa using hb
    subst e
    exact I1.fpOk (Nat.le_refl _) (I1.hok.fresh (Nat.le_refl _))
def iRng1 (ta : TA) : TI := fun σ H R => ta σ H fun vs H1 => ∃ j : Int, vs = [.int j] ∧ -(2 ^ 62) ≤ j ∧ j < 2 ^ 62 ∧ R (Itr 0 j.toNat) H1
def iRng2 (ta : TA) : TI := fun σ H R => ta σ H fun vs H1 => ∃ i j : Int, vs = [.int i, .int j] ∧ (-(2 ^ 62) ≤ i ∧ i < 2 ^ 62 ∧ -(2 ^ 62) ≤ j ∧ j < 2 ^ 62) ∧ R (Itr i (j - i).toNat) H1
theorem pi_range1 {a : Expr} {ta : TA} {p pos : Pos} (hg : Gl X "range") (hm : X.mg "range" = none) (ha : PA X [a] ta) (hs : starEach [a] X.env = [(false, eval a X.env)] := by rfl) : PI X tg (.Call (.Name "range" p) [a] [] pos) (iRng1 ta) := by
  intro pins s σ H R I h
  refine Call_ (ld_blt I hg hm boot_range (PyProof.Rows.callWith_type1 (thn (ha pos pins s σ H _ I h) fun us s1 ⟨vs, H1, I1, r1, q1⟩ => ?_) hs rfl))
  obtain ⟨j, e, q1, q2, q⟩ := q1
  subst e
  cases r1 with
  | cons r rr =>
    cases rr
    obtain ⟨t, rfl⟩ := r
    exact call_range_1 (range_it I1 (by omega) (by omega) q1 q2 (by simpa using q))
def tFor (wi : TI) (g : TG) (tb : TS) : TS := fun D σ H => wi σ H fun J H1 => ∃ W : Nat → Nat → St → Hp → Prop, (∃ m, W 0 m σ H1) ∧ ∀ i m σ H, W i m σ H →
  (J.stop i H ∧ D.nx σ H) ∨ (J.go i H ∧ ∃ N : St → Hp → Prop, (∀ σ' H', N σ' H' → ∃ m', m' < m ∧ W (i + 1) m' σ' H') ∧ ∀ x H', J.yld i H x H' → g x σ H' fun σ2 H2 => tb { D with nx := N, ct := N, bk := D.nx } σ2 H2)
def pinsAt (fp : List Addr) (h : Heap) : List (Addr × Obj) := fp.filterMap fun b => (h.get? b).map fun o => (b, o)
theorem mem_pinsAt {fp : List Addr} {h : Heap} {b : Addr} {o : Obj} (hb : b ∈ fp) (e : h.get? b = some o) : (b, o) ∈ pinsAt fp h := List.mem_filterMap.mpr ⟨b, hb, by rw [e]; rfl⟩
theorem of_pinsAt {fp : List Addr} {h : Heap} {p : Addr × Obj} (hp : p ∈ pinsAt fp h) : p.1 ∈ fp ∧ h.get? p.1 = some p.2 := by
  obtain ⟨b, hb, e⟩ := List.mem_filterMap.mp hp
  cases q : h.get? b with
  | none => rw [q] at e; cases e
  | some o =>
    rw [q] at e
    have e' : (b, o) = p := Option.some.inj e
    subst e'
    exact ⟨hb, q⟩
theorem Inv.pinned {pins : List (Addr × Obj)} {σ : St} {H : Hp} {s : Shared} {fp : List Addr} (I : Inv X pins σ H s) (hf : ∀ b ∈ fp, FpOk X pins H b) (ho : ∀ b ∈ fp, ∃ o, s.heap.get? b = some o ∧ ∀ v, o.data ≠ .cell v) : Inv X (pins ++ pinsAt fp s.heap) σ H s :=
  I.pins_of fun p hp => (List.mem_append.mp hp).elim (fun z => I.pin p (List.mem_append_right _ z)) fun z => by
    obtain ⟨hb, e⟩ := of_pinsAt z
    obtain ⟨f0, f1, f2, _⟩ := hf p.1 hb
    obtain ⟨o, e', d⟩ := ho p.1 hb
    rw [e] at e'; cases e'
    exact ⟨e, f0, f1, f2, d⟩
theorem Inv.unpinned {pins pl : List (Addr × Obj)} {σ : St} {H : Hp} {s : Shared} (I : Inv X (pins ++ pl) σ H s) : Inv X pins σ H s := I.pins_of fun p hp => I.pin p (List.mem_append_right _ (List.mem_append_left _ hp))
theorem ps_for {iter : Expr} {body : List Stmt} {wi : TI} {g : TG} {tb : TS} {pos : Pos} (hp : PassesOwn (model X.prog X.w) X.A X.env X.xe) (hc : X.calm = true) (hi : PI X tg iter wi) (hg : PG X tg g) (hb : PSs X body tb)
    (hs : ∀ x, foldedSetIterable iter X.env x = pure x := by intro _; rfl) : PS X (.For tg iter body [] pos) (tFor wi g tb) := by
  intro pins s σ H D I h
  refine wpAny_For (thn (hi pins s σ H _ I h) fun v s1 h1 => thn h1 fun itv s2 h2 => ?_) hs
  obtain ⟨it, fp, tn, J, H2, e, I2, T, st2, f2, W, ⟨m0, w0⟩, turn⟩ := h2
  subst e
  have stat : ∀ {H' : Hp}, (∀ b ∈ fp, H' b = none) → ∀ b ∈ fp, FpOk X pins H' b := fun hn b hb => ⟨hn b hb, (f2 b hb).2⟩
  refine codeAny_forLoop_any (fun n s' => ∃ i σ' H', Inv X pins σ' H' s' ∧ tn i s'.heap ∧ (∀ b ∈ fp, H' b = none) ∧ W i n σ' H') ?_ m0 ⟨0, σ, H2, I2, st2, fun b hb => (f2 b hb).1, w0⟩
  rintro n s3 ⟨i, σ3, H3, I3, st3, fr3, w3⟩
  rcases turn i n σ3 H3 w3 with ⟨stop, qn⟩ | ⟨go, N, hN, step⟩
  · refine wpAny_passesOwn hp (thn (T.done X rfl rfl rfl hc i pins s3 σ3 H3 X.xe I3 (stat fr3) st3 stop) fun r s4 ⟨hr, I4⟩ => ?_)
    subst hr
    exact wpAny_execs_nil ⟨σ3, H3, I4, qn⟩
  · refine wpAny_passesOwn hp (thn (T.item X rfl rfl rfl hc i pins s3 σ3 H3 X.xe I3 (stat fr3) st3 go) fun r s4 ⟨u, hr, h4⟩ => ?_)
    subst hr
    refine wpAny_passesOwn hp (thn h4 fun _ s5 ⟨x, H5, I5, r5, y5, st5, fr5⟩ => ?_)
    have I5' := I5.pinned (stat fr5) (T.obj _ _ st5)
    refine wpAny_passesOwn hp (thn (hg _ s5 σ3 H5 x u _ I5' r5 (step x H5 y5)) fun _ s6 ⟨σ6, H6, I6, q6⟩ => ?_)
    refine wpAny_passesOwn hp (thn (hb _ s6 σ6 H6 _ I6 q6) fun f s7 q7 => ?_)
    have again : ∀ {σ7 : St} {H7 : Hp}, Inv X (pins ++ pinsAt fp s5.heap) σ7 H7 s7 → N σ7 H7 → ∃ m, m < n ∧ ∃ i σ' H', Inv X pins σ' H' s7 ∧ tn i s7.heap ∧ (∀ b ∈ fp, H' b = none) ∧ W i m σ' H' := fun {σ7 H7} I7 n7 => by
      obtain ⟨m', hm, w7⟩ := hN σ7 H7 n7
      refine ⟨m', hm, i + 1, σ7, H7, I7.unpinned, T.keep _ _ _ st5 fun b hb o e => (I7.pin (b, o) (List.mem_append_right _ (List.mem_append_right _ (mem_pinsAt hb e)))).1, fun b hb => ?_, w7⟩
      obtain ⟨o, e, d⟩ := T.obj _ _ st5 b hb
      exact (I7.pin (b, o) (List.mem_append_right _ (List.mem_append_right _ (mem_pinsAt hb e)))).2.1
    cases f with
    | next => obtain ⟨σ7, H7, I7, n7⟩ := q7; exact again I7 n7
    | cont => obtain ⟨σ7, H7, I7, n7⟩ := q7; exact again I7 n7
    | brk => obtain ⟨σ7, H7, I7, q7⟩ := q7; exact ⟨σ7, H7, I7.unpinned, q7⟩
    | ret v => obtain ⟨x7, σ7, H7, I7, r7, q7⟩ := q7; exact ⟨x7, σ7, H7, I7.unpinned, r7, q7⟩
end
theorem for_list {K : PySem.W.Frag} {a : Addr} {xs : List V} {g : TG} {tb : TS} {D : Ends} {σ : St} {H : Hp} (Pv : Nat → St → Hp → Prop) (h0 : Pv 0 σ H) (hl : ∀ i σ H, i ≤ xs.length → Pv i σ H → SqL K H a xs)
    (hs : ∀ i x σ H, xs[i]? = some x → Pv i σ H → g x σ H fun σ2 H2 => tb { D with nx := Pv (i + 1), ct := Pv (i + 1), bk := D.nx } σ2 H2) (hd : ∀ σ H, Pv xs.length σ H → D.nx σ H) :
    ∃ W : Nat → Nat → St → Hp → Prop, (∃ m, W 0 m σ H) ∧ ∀ i m σ H, W i m σ H →
      ((Itl K a).stop i H ∧ D.nx σ H) ∨ ((Itl K a).go i H ∧ ∃ N : St → Hp → Prop, (∀ σ' H', N σ' H' → ∃ m', m' < m ∧ W (i + 1) m' σ' H') ∧ ∀ x H', (Itl K a).yld i H x H' → g x σ H' fun σ2 H2 => tb { D with nx := N, ct := N, bk := D.nx } σ2 H2) := by
  refine ⟨fun i m σ H => m = xs.length - i ∧ i ≤ xs.length ∧ Pv i σ H, ⟨xs.length, by simp, Nat.zero_le _, h0⟩, ?_⟩
  rintro i m σ H ⟨rfl, hi, p⟩
  have q := hl i σ H hi p
  by_cases hlt : i < xs.length
  · refine .inr ⟨⟨xs, xs[i], q, by simp [hlt]⟩, Pv (i + 1), fun σ' H' p' => ⟨xs.length - (i + 1), by omega, rfl, hlt, p'⟩, fun x H' y => ?_⟩
    obtain ⟨e, y⟩ := y
    subst e
    exact hs i x σ _ (y xs q) p
  · have e : i = xs.length := by omega
    subst e
    exact .inl ⟨⟨xs, q, Nat.le_refl _⟩, hd σ H p⟩
theorem for_tup {K : PySem.W.Frag} {a : Addr} {xs : List V} {g : TG} {tb : TS} {D : Ends} {σ : St} {H : Hp} (Pv : Nat → St → Hp → Prop) (h0 : Pv 0 σ H) (hl : ∀ i σ H, i ≤ xs.length → Pv i σ H → SqT K H a xs)
    (hs : ∀ i x σ H, xs[i]? = some x → Pv i σ H → g x σ H fun σ2 H2 => tb { D with nx := Pv (i + 1), ct := Pv (i + 1), bk := D.nx } σ2 H2) (hd : ∀ σ H, Pv xs.length σ H → D.nx σ H) :
    ∃ W : Nat → Nat → St → Hp → Prop, (∃ m, W 0 m σ H) ∧ ∀ i m σ H, W i m σ H →
      ((Itt K a).stop i H ∧ D.nx σ H) ∨ ((Itt K a).go i H ∧ ∃ N : St → Hp → Prop, (∀ σ' H', N σ' H' → ∃ m', m' < m ∧ W (i + 1) m' σ' H') ∧ ∀ x H', (Itt K a).yld i H x H' → g x σ H' fun σ2 H2 => tb { D with nx := N, ct := N, bk := D.nx } σ2 H2) := by
  refine ⟨fun i m σ H => m = xs.length - i ∧ i ≤ xs.length ∧ Pv i σ H, ⟨xs.length, by simp, Nat.zero_le _, h0⟩, ?_⟩
  rintro i m σ H ⟨rfl, hi, p⟩
  have q := hl i σ H hi p
  by_cases hlt : i < xs.length
  · refine .inr ⟨⟨xs, xs[i], q, by simp [hlt]⟩, Pv (i + 1), fun σ' H' p' => ⟨xs.length - (i + 1), by omega, rfl, hlt, p'⟩, fun x H' y => ?_⟩
    obtain ⟨e, y⟩ := y
    subst e
    exact hs i x σ _ (y xs q) p
  · have e : i = xs.length := by omega
    subst e
    exact .inl ⟨⟨xs, q, Nat.le_refl _⟩, hd σ H p⟩
theorem for_range {lo : Int} {n : Nat} {g : TG} {tb : TS} {D : Ends} {σ : St} {H : Hp} (Pv : Nat → St → Hp → Prop) (h0 : Pv 0 σ H)
    (hs : ∀ i σ H, i < n → Pv i σ H → g (.int (lo + i)) σ H fun σ2 H2 => tb { D with nx := Pv (i + 1), ct := Pv (i + 1), bk := D.nx } σ2 H2) (hd : ∀ σ H, Pv n σ H → D.nx σ H) :
    ∃ W : Nat → Nat → St → Hp → Prop, (∃ m, W 0 m σ H) ∧ ∀ i m σ H, W i m σ H →
      ((Itr lo n).stop i H ∧ D.nx σ H) ∨ ((Itr lo n).go i H ∧ ∃ N : St → Hp → Prop, (∀ σ' H', N σ' H' → ∃ m', m' < m ∧ W (i + 1) m' σ' H') ∧ ∀ x H', (Itr lo n).yld i H x H' → g x σ H' fun σ2 H2 => tb { D with nx := N, ct := N, bk := D.nx } σ2 H2) := by
  refine ⟨fun i m σ H => m = n - i ∧ i ≤ n ∧ Pv i σ H, ⟨n, by simp, Nat.zero_le _, h0⟩, ?_⟩
  rintro i m σ H ⟨rfl, hi, p⟩
  by_cases hlt : i < n
  · refine .inr ⟨hlt, Pv (i + 1), fun σ' H' p' => ⟨n - (i + 1), by omega, rfl, hlt, p'⟩, fun x H' y => ?_⟩
    obtain ⟨e, y⟩ := y
    subst e y
    exact hs i σ _ hlt p
  · have e : i = n := by omega
    subst e
    exact .inl ⟨Nat.le_refl _, hd σ H p⟩
end L2
namespace L2
open PySem PySem.Spec PyProof.Rows
abbrev R2 := V → V → Hp → VK → Prop
def OpR (X : Cx) (f : Value → Value → Sem Value) (r : R2) : Prop :=
  ∀ (pins : List (Addr × Obj)) (s : Shared) (σ : St) (H : Hp) (x y : V) (v u : Value) (Q : VK), Inv X pins σ H s → RelV x v → RelV y u → r x y H Q →
    wpAny (model X.prog X.w) X.A (f v u) (EP X pins σ Q) X.xe s
def UnR (X : Cx) (f : Value → Sem Value) (r : V → Hp → VK → Prop) : Prop :=
  ∀ (pins : List (Addr × Obj)) (s : Shared) (σ : St) (H : Hp) (x : V) (v : Value) (Q : VK), Inv X pins σ H s → RelV x v → r x H Q →
    wpAny (model X.prog X.w) X.A (f v) (EP X pins σ Q) X.xe s
def CallR (X : Cx) (f : Value) (r : List V → Hp → VK → Prop) : Prop :=
  ∀ (pins : List (Addr × Obj)) (s : Shared) (σ : St) (H : Hp) (xs : List V) (us : List Value) (Q : VK), Inv X pins σ H s → Vals xs us → r xs H Q →
    wpAny (model X.prog X.w) X.A (call f us) (EP X pins σ Q) X.xe s
def TruR (X : Cx) (r : V → Hp → (Bool → Hp → Prop) → Prop) : Prop :=
  ∀ (pins : List (Addr × Obj)) (s : Shared) (σ : St) (H : Hp) (x : V) (v : Value) (Q : Bool → Hp → Prop), Inv X pins σ H s → RelV x v → r x H Q →
    wpAny (model X.prog X.w) X.A (truthy v) (TP X pins σ Q) X.xe s
def tOp (r : R2) (ta tb : TE) : TE := fun σ H Q => ta σ H fun x H1 => tb σ H1 fun y H2 => r x y H2 Q
def tUn (r : V → Hp → VK → Prop) (ta : TE) : TE := fun σ H Q => ta σ H fun x H1 => r x H1 Q
def rI (C : Int → Int → Prop) (g : Int → Int → V) : R2 := fun x y H Q => ∃ i j, x = .int i ∧ y = .int j ∧ C i j ∧ Q (g i j) H
def rI0 (g : Int → Int → V) : R2 := fun x y H Q => ∃ i j, x = .int i ∧ y = .int j ∧ Q (g i j) H
def rU (g : Int → V) : V → Hp → VK → Prop := fun x H Q => ∃ i, x = .int i ∧ Q (g i) H
section
variable {X : Cx} {a b c : Expr} {ta tb tc : TE} {pos : Pos}
theorem binT (ha : PE X a ta) (hb : PE X b tb) {pins : List (Addr × Obj)} {s : Shared} {σ : St} {H : Hp} {R : V → V → Hp → Prop} (I : Inv X pins σ H s)
    (h : ta σ H fun x H1 => tb σ H1 fun y H2 => R x y H2) {Q : Value → Shared → Prop} {f : Value → Value → Sem Value}
    (hf : ∀ v u s2 x y H2, Inv X pins σ H2 s2 → RelV x v → RelV y u → R x y H2 → wpAny (model X.prog X.w) X.A (f v u) Q X.xe s2) :
    wpAny (model X.prog X.w) X.A (eval a X.env) (fun v s₁ => wpAny (model X.prog X.w) X.A (eval b X.env) (fun u s₂ => wpAny (model X.prog X.w) X.A (f v u) Q X.xe s₂) X.xe s₁) X.xe s := by
  refine thn (ha pins s σ H _ I h) fun v s1 ⟨x, H1, I1, r1, q1⟩ => ?_
  refine thn (hb pins s1 σ H1 _ I1 q1) fun u s2 ⟨y, H2, I2, r2, q2⟩ => ?_
  exact hf v u s2 x y H2 I2 r1 r2 q2
theorem pe_op {op : Operator} {r : R2} (ho : OpR X (binaryOp op) r) (ha : PE X a ta) (hb : PE X b tb) : PE X (.BinOp a op b pos) (tOp r ta tb) := by
  intro pins s σ H Q I h
  exact wpAny_BinOp (binT ha hb I h fun v u s2 x y H2 I2 rx ry q => ho pins s2 σ H2 x y v u Q I2 rx ry q)
theorem pe_un {op : UnaryOp} {r : V → Hp → VK → Prop} (ho : UnR X (unaryOp op) r) (ha : PE X a ta) : PE X (.UnaryOp op a pos) (tUn r ta) := by
  intro pins s σ H Q I h
  exact UnaryOp_ (thn (ha pins s σ H _ I h) fun v s1 ⟨x, H1, I1, r1, q1⟩ => ho pins s1 σ H1 x v Q I1 r1 q1)
theorem opI {f : Value → Value → Sem Value} {C : Int → Int → Prop} {g : Int → Int → Int}
    (rule : ∀ (i j : Int) (t u : Tok) (s : Shared) (Q : Value → Shared → Prop) (E : Value → Shared → Prop), C i j → Q (.int (g i j) s.toks) { s with toks := s.toks + 1 } → wpAny (model X.prog X.w) X.A (f (.int i t) (.int j u)) Q E s) :
    OpR X f (rI C fun i j => .int (g i j)) := by
  intro pins s σ H x y v u Q I rx ry h
  obtain ⟨i, j, rfl, rfl, hc, q⟩ := h
  obtain ⟨t, rfl⟩ := rx
  obtain ⟨t', rfl⟩ := ry
  exact rule i j t t' s _ _ hc ⟨.int (g i j), H, I.tok _, ⟨_, rfl⟩, q⟩
theorem opI0 {f : Value → Value → Sem Value} {g : Int → Int → Int}
    (rule : ∀ (i j : Int) (t u : Tok) (s : Shared) (Q : Value → Shared → Prop) (E : Value → Shared → Prop), Q (.int (g i j) s.toks) { s with toks := s.toks + 1 } → wpAny (model X.prog X.w) X.A (f (.int i t) (.int j u)) Q E s) :
    OpR X f (rI0 fun i j => .int (g i j)) := by
  intro pins s σ H x y v u Q I rx ry h
  obtain ⟨i, j, rfl, rfl, q⟩ := h
  obtain ⟨t, rfl⟩ := rx
  obtain ⟨t', rfl⟩ := ry
  exact rule i j t t' s _ _ ⟨.int (g i j), H, I.tok _, ⟨_, rfl⟩, q⟩
theorem opB0 {f : Value → Value → Sem Value} {g : Int → Int → Bool}
    (rule : ∀ (i j : Int) (t u : Tok) (s : Shared) (Q : Value → Shared → Prop) (E : Value → Shared → Prop), Q (.bool (g i j)) s → wpAny (model X.prog X.w) X.A (f (.int i t) (.int j u)) Q E s) :
    OpR X f (rI0 fun i j => .bl (g i j)) := by
  intro pins s σ H x y v u Q I rx ry h
  obtain ⟨i, j, rfl, rfl, q⟩ := h
  obtain ⟨t, rfl⟩ := rx
  obtain ⟨t', rfl⟩ := ry
  exact rule i j t t' s _ _ ⟨.bl (g i j), H, I, rfl, q⟩
def CDiv (i j : Int) : Prop := 0 < j ∧ j < 1073741824
def CPow (i j : Int) : Prop := 0 ≤ j ∧ j ≤ 1000000 ∧ i.natAbs < 2 ^ 64
def CMul (i j : Int) : Prop := (-(2 ^ 64) < i ∧ i < 2 ^ 64) ∨ (-(2 ^ 64) < j ∧ j < 2 ^ 64)
theorem CMul.ok {i j : Int} (h : CMul i j) : IntMulOk i j := by
  rcases h with ⟨h1, h2⟩ | ⟨h1, h2⟩
  · exact .of_left (intBits_le_64 h1 h2)
  · exact .of_right (intBits_le_64 h1 h2)
theorem op_add : OpR X (binaryOp .Add) (rI0 fun i j => .int (i + j)) := opI0 fun _ _ _ _ _ _ _ q => add_int q
theorem op_sub : OpR X (binaryOp .Sub) (rI0 fun i j => .int (i - j)) := opI0 fun _ _ _ _ _ _ _ q => sub_int q
theorem op_mul : OpR X (binaryOp .Mult) (rI CMul fun i j => .int (i * j)) := opI fun _ _ _ _ _ _ _ hc q => mul_int q hc.ok
theorem op_fdiv : OpR X (binaryOp .FloorDiv) (rI CDiv fun i j => .int (i / j)) := opI fun i j _ _ _ _ _ hc q => by
  have h1 : (0 : Int) < j := hc.1
  have h2 : j < 1073741824 := hc.2
  exact floordiv_int (by omega) (by rw [Int.fdiv_eq_ediv_of_nonneg i (by omega)]; exact q) (.inl (PyProof.noPylong_small (by omega)))
theorem op_mod : OpR X (binaryOp .Mod) (rI (fun _ j => 0 < j) fun i j => .int (i % j)) := opI fun i j _ _ _ _ _ hc q => by
  have h1 : (0 : Int) < j := hc
  exact mod_int' (by omega) (by rw [Int.fmod_eq_emod_of_nonneg i (by omega)]; exact q)
theorem op_pow : OpR X (binaryOp .Pow) (rI CPow fun i j => .int (i ^ j.toNat)) := opI fun _ _ _ _ _ _ _ hc q => pow_int_small hc.1 hc.2.1 hc.2.2 q
theorem unI {f : Value → Sem Value} {g : Int → Int}
    (rule : ∀ (i : Int) (t : Tok) (s : Shared) (Q : Value → Shared → Prop) (E : Value → Shared → Prop), Q (.int (g i) s.toks) { s with toks := s.toks + 1 } → wpAny (model X.prog X.w) X.A (f (.int i t)) Q E s) :
    UnR X f (rU fun i => .int (g i)) := by
  intro pins s σ H x v Q I rx h
  obtain ⟨i, rfl, q⟩ := h
  obtain ⟨t, rfl⟩ := rx
  exact rule i t s _ _ ⟨.int (g i), H, I.tok _, ⟨_, rfl⟩, q⟩
theorem un_neg : UnR X (unaryOp .USub) (rU fun i => .int (-i)) := unI fun _ _ _ _ _ q => neg_int q
end
def scal : V → V → Bool
  | .non, .non => true | .non, .int _ => true | .int _, .non => true | .non, .bl _ => true | .bl _, .non => true | .non, .str _ => true | .str _, .non => true
  | .int _, .int _ => true | .bl _, .bl _ => true | .str _, .str _ => true | .byt _, .byt _ => true
  | .int _, .str _ => true | .str _, .int _ => true | .bl _, .str _ => true | .str _, .bl _ => true
  | _, _ => false
def rEq : R2 := fun x y H Q => scal x y = true ∧ Q (.bl (decide (x = y))) H
def rNe : R2 := fun x y H Q => scal x y = true ∧ Q (.bl (!decide (x = y))) H
theorem dec_int {i j : Int} : decide (V.int i = V.int j) = (i == j) := by
  rw [Bool.eq_iff_iff]
  simp
theorem dec_bl {i j : Bool} : decide (V.bl i = V.bl j) = (i == j) := by
  rw [Bool.eq_iff_iff]
  simp
theorem dec_str {i j : Str} : decide (V.str i = V.str j) = (i == j) := by
  rw [Bool.eq_iff_iff]
  simp
theorem dec_byt {i j : Array UInt8} : decide (V.byt i = V.byt j) = (i.toList == j.toList) := by
  rw [Bool.eq_iff_iff]
  cases i
  cases j
  simp
section
variable {X : Cx} {a b c : Expr} {ta tb tc : TE} {pos : Pos}
theorem fin_bl {pins : List (Addr × Obj)} {σ : St} {H : Hp} {s : Shared} {Q : VK} {k k' : Bool} (I : Inv X pins σ H s) (q : Q (.bl k) H) (e : k = k') : EP X pins σ Q (.bool k') s := by
  subst e
  exact ⟨.bl k, H, I, rfl, q⟩
theorem op_eq : OpR X (compareOp .Eq) rEq := by
  intro pins s σ H x y v u Q I rx ry h
  obtain ⟨hs, q⟩ := h
  cases x with
  | non =>
    cases rx
    cases y with
    | non => cases ry; exact PySem.EqNone.eq_none_none (fin_bl I q (by simp))
    | bl j => cases ry; exact PySem.EqNone.eq_none_bool (fin_bl I q (by simp))
    | int j => obtain ⟨t', rfl⟩ := ry; exact PySem.EqNone.eq_none_int (fin_bl I q (by simp))
    | str j => obtain ⟨t', rfl⟩ := ry; exact PySem.EqNone.eq_none_str (fin_bl I q (by simp))
    | _ => exact absurd (show false = true from hs) Bool.false_ne_true
  | bl i =>
    cases rx
    cases y with
    | non => cases ry; exact PySem.EqNone.eq_bool_none (fin_bl I q (by simp))
    | bl j => cases ry; exact eq_bool (fin_bl I q dec_bl)
    | str j => obtain ⟨t', rfl⟩ := ry; exact PySem.EqMixed.eq_bool_str (fin_bl I q (by simp))
    | _ => exact absurd (show false = true from hs) Bool.false_ne_true
  | int i =>
    obtain ⟨t, rfl⟩ := rx
    cases y with
    | non => cases ry; exact PySem.EqNone.eq_int_none (fin_bl I q (by simp))
    | int j => obtain ⟨t', rfl⟩ := ry; exact eq_int (fin_bl I q dec_int)
    | str j => obtain ⟨t', rfl⟩ := ry; exact PySem.EqMixed.eq_int_str (fin_bl I q (by simp))
    | _ => exact absurd (show false = true from hs) Bool.false_ne_true
  | str i =>
    obtain ⟨t, rfl⟩ := rx
    cases y with
    | non => cases ry; exact PySem.EqNone.eq_str_none (fin_bl I q (by simp))
    | bl j => cases ry; exact PySem.EqMixed.eq_str_bool (fin_bl I q (by simp))
    | int j => obtain ⟨t', rfl⟩ := ry; exact PySem.EqMixed.eq_str_int (fin_bl I q (by simp))
    | str j => obtain ⟨t', rfl⟩ := ry; exact eq_str (fin_bl I q dec_str)
    | _ => exact absurd (show false = true from hs) Bool.false_ne_true
  | byt i =>
    obtain ⟨t, rfl⟩ := rx
    cases y with
    | byt j => obtain ⟨t', rfl⟩ := ry; exact PySem.W.eq_bytes (fin_bl I q dec_byt)
    | _ => exact absurd (show false = true from hs) Bool.false_ne_true
  | _ => cases y <;> exact absurd (show false = true from hs) Bool.false_ne_true
theorem op_ne : OpR X (compareOp .NotEq) rNe := by
  intro pins s σ H x y v u Q I rx ry h
  obtain ⟨hs, q⟩ := h
  cases x with
  | non =>
    cases rx
    cases y with
    | non => cases ry; exact PySem.EqNone.ne_none_none (fin_bl I q (by simp))
    | bl j => cases ry; exact PySem.EqNone.ne_none_bool (fin_bl I q (by simp))
    | int j => obtain ⟨t', rfl⟩ := ry; exact PySem.EqNone.ne_none_int (fin_bl I q (by simp))
    | str j => obtain ⟨t', rfl⟩ := ry; exact PySem.EqNone.ne_none_str (fin_bl I q (by simp))
    | _ => exact absurd (show false = true from hs) Bool.false_ne_true
  | bl i =>
    cases rx
    cases y with
    | non => cases ry; exact PySem.EqNone.ne_bool_none (fin_bl I q (by simp))
    | bl j => cases ry; exact ne_bool (fin_bl I q (congrArg not dec_bl))
    | str j => obtain ⟨t', rfl⟩ := ry; exact PySem.EqMixed.ne_bool_str (fin_bl I q (by simp))
    | _ => exact absurd (show false = true from hs) Bool.false_ne_true
  | int i =>
    obtain ⟨t, rfl⟩ := rx
    cases y with
    | non => cases ry; exact PySem.EqNone.ne_int_none (fin_bl I q (by simp))
    | int j => obtain ⟨t', rfl⟩ := ry; exact ne_int (fin_bl I q (congrArg not dec_int))
    | str j => obtain ⟨t', rfl⟩ := ry; exact PySem.EqMixed.ne_int_str (fin_bl I q (by simp))
    | _ => exact absurd (show false = true from hs) Bool.false_ne_true
  | str i =>
    obtain ⟨t, rfl⟩ := rx
    cases y with
    | non => cases ry; exact PySem.EqNone.ne_str_none (fin_bl I q (by simp))
    | bl j => cases ry; exact PySem.EqMixed.ne_str_bool (fin_bl I q (by simp))
    | int j => obtain ⟨t', rfl⟩ := ry; exact PySem.EqMixed.ne_str_int (fin_bl I q (by simp))
    | str j => obtain ⟨t', rfl⟩ := ry; exact ne_str (fin_bl I q (congrArg not dec_str))
    | _ => exact absurd (show false = true from hs) Bool.false_ne_true
  | byt i =>
    obtain ⟨t, rfl⟩ := rx
    cases y with
    | byt j => obtain ⟨t', rfl⟩ := ry; exact PySem.W.ne_bytes (fin_bl I q (congrArg not dec_byt))
    | _ => exact absurd (show false = true from hs) Bool.false_ne_true
  | _ => cases y <;> exact absurd (show false = true from hs) Bool.false_ne_true
theorem op_lt : OpR X (compareOp .Lt) (rI0 fun i j => .bl (decide (i < j))) := opB0 fun _ _ _ _ _ _ _ q => lt_int q
theorem op_le : OpR X (compareOp .LtE) (rI0 fun i j => .bl (decide (i ≤ j))) := opB0 fun _ _ _ _ _ _ _ q => le_int q
theorem op_gt : OpR X (compareOp .Gt) (rI0 fun i j => .bl (decide (j < i))) := opB0 fun _ _ _ _ _ _ _ q => gt_int q
theorem op_ge : OpR X (compareOp .GtE) (rI0 fun i j => .bl (decide (j ≤ i))) := opB0 fun _ _ _ _ _ _ _ q => ge_int q
theorem op_in_str : OpR X (compareOp .In) (fun x y H Q => ∃ i j, x = .str i ∧ y = .str j ∧ Q (.bl (!(Builtin.Str.occurrences j i 0 j.length 1).isEmpty)) H) := by
  intro pins s σ H x y v u Q I rx ry h
  obtain ⟨i, j, rfl, rfl, q⟩ := h
  obtain ⟨t, rfl⟩ := rx
  obtain ⟨t', rfl⟩ := ry
  exact in_str (fin_bl I q rfl)
theorem nomark (b : Expr) {op : CmpOp} (h : op ≠ .In := by decide) (h2 : op ≠ .NotIn := by decide) : behindInMarks op b = false := by
  have e1 : (op == CmpOp.In) = false := by cases op <;> first | rfl | exact absurd rfl h
  have e2 : (op == CmpOp.NotIn) = false := by cases op <;> first | rfl | exact absurd rfl h2
  cases b <;> simp [behindInMarks, e1, e2]
theorem pe_cmpR {op : CmpOp} {r : R2} (ho : OpR X (compareOp op) r) (ha : PE X a ta) (hb : PE X b tb) (hm : behindInMarks op b = false) : PE X (.Compare a [op] [b] pos) (tOp r ta tb) := by
  intro pins s σ H Q I h
  exact wpAny_Compare1 (binT ha hb I h fun v u s2 x y H2 I2 rx ry q => ho pins s2 σ H2 x y v u Q I2 rx ry q) hm
def tTest (t : TE) : TT := fun σ H Q => t σ H fun x H' => ∃ k, x = .bl k ∧ Q k H'
theorem pt_cmpR {op : CmpOp} {r : R2} (ho : OpR X (compareOp op) r) (ha : PE X a ta) (hb : PE X b tb) (hm : behindInMarks op b = false) : PT X (.Compare a [op] [b] pos) (tTest (tOp r ta tb)) := by
  intro pins s σ H Q I h
  refine wpAny_isTrue_Compare1 (thn (ha pins s σ H _ I h) fun v s1 ⟨x, H1, I1, r1, q1⟩ => thn (hb pins s1 σ H1 _ I1 q1) fun u s2 ⟨y, H2, I2, r2, q2⟩ =>
    thn (ho pins s2 σ H2 x y v u _ I2 r1 r2 q2) fun c s3 ⟨z, H3, I3, r3, k, e, q3⟩ => ?_) hm
  subst e
  cases r3
  exact wpAny_truthy_bool ⟨H3, I3, q3⟩
def tChain (r r' : R2) (ta tb tc : TE) : TE := fun σ H Q => ta σ H fun x H1 => tb σ H1 fun y H2 => r x y H2 fun z H3 => ∃ k, z = .bl k ∧
  (if k = true then tc σ H3 fun w' H4 => r' y w' H4 Q else Q (.bl false) H3)
theorem pt_chain {op op' : CmpOp} {r r' : R2} (ho : OpR X (compareOp op) r) (ho' : OpR X (compareOp op') r') (ha : PE X a ta) (hb : PE X b tb) (hc : PE X c tc)
    (hm : lastMarks [op, op'] [b, c] = false := by with_unfolding_all rfl) : PT X (.Compare a [op, op'] [b, c] pos) (tTest (tChain r r' ta tb tc)) := by
  intro pins s σ H Q I h
  refine isTrue_chain (thn (ha pins s σ H _ I h) fun v s1 ⟨x, H1, I1, r1, q1⟩ => test_link (thn (hb pins s1 σ H1 _ I1 q1) fun u s2 ⟨y, H2, I2, r2, q2⟩ =>
    thn (ho pins s2 σ H2 x y v u _ I2 r1 r2 q2) fun d s3 ⟨z, H3, I3, r3, k, e, q3⟩ => ?_)) hm
  subst e
  cases r3
  refine wpAny_truthy_bool ?_
  cases k with
  | false =>
    obtain ⟨k', e', q'⟩ := q3
    cases e'
    exact ite_ff ⟨H3, I3, q'⟩
  | true =>
    refine ite_tt (test_last (thn (hc pins s3 σ H3 _ I3 q3) fun w' s4 ⟨z', H4, I4, r4, q4⟩ => thn (ho' pins s4 σ H4 y z' u w' _ I4 r2 r4 q4) fun d' s5 ⟨z2, H5, I5, r5, k2, e2, q5⟩ => ?_))
    subst e2
    cases r5
    exact wpAny_truthy_bool ⟨H5, I5, q5⟩
def TruV (K : PySem.W.Frag) (x : V) (H : Hp) (k : Bool) : Prop :=
  match x with
  | .non => k = false
  | .bl b => k = b
  | .int i => k = (i != 0)
  | .str y => y.length ≤ sizeLine ∧ k = ((y.length : Int) != 0)
  | .byt y => y.size ≤ sizeLine ∧ k = ((y.size : Int) != 0)
  | .ref p => (∃ xs, SqL K H p xs ∧ k = !xs.isEmpty) ∨ (∃ xs, SqT K H p xs ∧ k = !xs.isEmpty) ∨ ∃ kvs, H p = some (.dK kvs) ∧ k = !kvs.isEmpty
  | _ => False
theorem isEmpty_kv {κ : Type} {kvs : List (κ × V)} {vs : List (κ × Value)} (r : KV kvs vs) : (!vs.isEmpty) = !kvs.isEmpty := by
  cases r <;> rfl
theorem isEmpty_of {xs : List V} {its : List Value} (r : Vals xs its) : (!its.toArray.isEmpty) = !xs.isEmpty := by
  cases r <;> simp
theorem line63 : (sizeLine : Nat) < 2 ^ 63 := by rw [sizeLine_eq]; decide
theorem tru_ok : TruR X (fun x H Q => ∃ k, TruV X.K x H k ∧ Q k H) := by
  intro pins s σ H x v Q I rx h
  obtain ⟨k, e, q⟩ := h
  have hl := line63
  have hs : sizeLine = 16777216 := sizeLine_eq
  cases x with
  | non =>
    cases rx
    have e' : k = false := e
    subst e'
    exact truthy_none ⟨H, I, q⟩
  | bl b =>
    cases rx
    have e' : k = b := e
    subst e'
    exact wpAny_truthy_bool ⟨H, I, q⟩
  | int i =>
    obtain ⟨t, rfl⟩ := rx
    have e' : k = (i != 0) := e
    subst e'
    exact PySem.P.truthy_int ⟨H, I, q⟩
  | str y =>
    obtain ⟨t, rfl⟩ := rx
    obtain ⟨hy, e'⟩ : y.length ≤ sizeLine ∧ k = ((y.length : Int) != 0) := e
    subst e'
    exact PySem.P.truthy_str (by omega) ⟨H, I.tok _, q⟩
  | byt y =>
    obtain ⟨t, rfl⟩ := rx
    obtain ⟨hy, e'⟩ : y.size ≤ sizeLine ∧ k = ((y.size : Int) != 0) := e
    subst e'
    exact PySem.W.truthy_bytes (by omega) ⟨H, I.tok _, q⟩
  | ref p =>
    cases rx
    have e' : (∃ xs, SqL X.K H p xs ∧ k = !xs.isEmpty) ∨ (∃ xs, SqT X.K H p xs ∧ k = !xs.isEmpty) ∨ ∃ kvs, H p = some (.dK kvs) ∧ k = !kvs.isEmpty := e
    rcases e' with ⟨xs, hx, e'⟩ | ⟨xs, hx, e'⟩ | ⟨kvs, hx, e'⟩
    · subst e'
      obtain ⟨its, r, pl, hz⟩ := I.list hx
      have hlen := r.length
      exact wpAny_truthy_list pl.isList (by simp only [List.size_toArray]; omega) ⟨H, I.tok _, by rw [isEmpty_of r]; exact q⟩
    · subst e'
      obtain ⟨its, r, pl, hz⟩ := I.tuple hx
      have hlen := r.length
      exact truthy_tuple pl (by simp only [List.size_toArray]; omega) ⟨H, I.tok _, by rw [isEmpty_of r]; exact q⟩
    · subst e'
      obtain ⟨hz, hS, vs, r, m⟩ : kvs.length ≤ sizeLine ∧ (p == sysModules) = false ∧ ∃ vs, KV kvs vs ∧ s.heap.DictOf (mixKind X.prog X.w) p vs := I.hok p _ hx
      have hlen : kvs.length = vs.length := Paired.length r
      exact wpAny_truthy_dict hS m (by omega) ⟨H, I.tok _, by rw [isEmpty_kv r]; exact q⟩
  | _ => exact (show False from e).elim
theorem pt_truth (ha : PE X a ta) (he : ∀ whole, isTrue a X.env whole = (do let v ← whole; standAt a.pos; holding [v] (truthy v))) :
    PT X a (fun σ H Q => ta σ H fun x H' => ∃ k, TruV X.K x H' k ∧ Q k H') := by
  intro pins s σ H Q I h
  exact isTrue_plain (thn (ha pins s σ H _ I h) fun v s1 ⟨x, H1, I1, r1, q1⟩ => tru_ok pins s1 σ H1 x v Q I1 r1 q1) (he _)
theorem op_add_str : OpR X (binaryOp .Add) (fun x y H Q => ∃ i j, x = .str i ∧ y = .str j ∧ i.length + j.length ≤ sizeLine ∧ Q (.str (i ++ j)) H) := by
  intro pins s σ H x y v u Q I rx ry h
  obtain ⟨i, j, rfl, rfl, hz, q⟩ := h
  obtain ⟨t, rfl⟩ := rx
  obtain ⟨t', rfl⟩ := ry
  exact add_str (fun t' tk => ⟨.str (i ++ j), H, I.tok _, ⟨_, rfl⟩, q⟩) hz
theorem vals1 {x : V} {us : List Value} (r : Vals [x] us) : ∃ u, us = [u] ∧ RelV x u := by
  cases r with
  | cons r1 r2 => cases r2; exact ⟨_, rfl, r1⟩
theorem vals2 {x y : V} {us : List Value} (r : Vals [x, y] us) : ∃ u w', us = [u, w'] ∧ RelV x u ∧ RelV y w' := by
  cases r with
  | cons r1 r2 =>
    cases r2 with
    | cons r3 r4 => cases r4; exact ⟨_, _, rfl, r1, r3⟩
theorem call_max2 (hc : X.calm = true) : CallR X (.builtin "max") (fun xs H Q => ∃ i j, xs = [.int i, .int j] ∧ Q (.int (if j > i then j else i)) H) := by
  intro pins s σ H xs us Q I r h
  obtain ⟨i, j, rfl, q⟩ := h
  obtain ⟨u, w', rfl, ⟨t, rfl⟩, ⟨t', rfl⟩⟩ := vals2 r
  refine max_two_ints (I.ok.hd hc) fun h' tk k => ⟨_, H, I.kept k, ?_, q⟩
  by_cases hj : j > i
  · rw [if_pos hj, if_pos hj]; exact ⟨_, rfl⟩
  · rw [if_neg hj, if_neg hj]; exact ⟨_, rfl⟩
theorem call_min2 (hc : X.calm = true) : CallR X (.builtin "min") (fun xs H Q => ∃ i j, xs = [.int i, .int j] ∧ Q (.int (if j < i then j else i)) H) := by
  intro pins s σ H xs us Q I r h
  obtain ⟨i, j, rfl, q⟩ := h
  obtain ⟨u, w', rfl, ⟨t, rfl⟩, ⟨t', rfl⟩⟩ := vals2 r
  refine min_two_ints (I.ok.hd hc) fun h' tk k => ⟨_, H, I.kept k, ?_, q⟩
  by_cases hj : j < i
  · rw [if_pos hj, if_pos hj]; exact ⟨_, rfl⟩
  · rw [if_neg hj, if_neg hj]; exact ⟨_, rfl⟩
end
end L2
namespace L2
open PySem PySem.Spec PyProof.Rows
structure ObjM (h : Heap) (x dx C : Addr) (mA : Str → Option Value) : Prop where
  obj : h.get? x = some (PySem.W.instObj C dx)
  ns : h.Ns1 dx mA
  ne : dx ≠ x
theorem lookIn_ns {h : Heap} {dx : Addr} {mA : Str → Option Value} (n : h.Ns1 dx mA) : ∃ od, h.get? dx = some od ∧ ∀ name, PySem.W.lookIn name od = some (mA name) := by
  obtain ⟨o, es, ep, ho, hd, hk, _, hm⟩ := n
  refine ⟨o, ho, fun name => ?_⟩
  have e := hm name
  unfold nsFind findBy at e
  rw [← Array.find?_toList] at e
  unfold PySem.W.lookIn
  rw [hd]
  dsimp only
  split
  · rename_i y q
    rw [q] at e
    exact congrArg some e
  · rename_i q
    rw [q] at e
    have a : es.toList.any (·.refKey) = false := by
      rw [List.any_eq_false]
      intro y hy
      obtain ⟨z, t, hkey⟩ := hk y (Array.mem_toList_iff.mp hy)
      simp [DictEntry.refKey, hkey]
    have a' : ¬ es.toList.any (·.refKey) = true := by rw [a]; exact Bool.false_ne_true
    rw [if_neg a']
    exact congrArg some e
theorem ObjM.look {h : Heap} {x dx C : Addr} {mA : Str → Option Value} (I : ObjM h x dx C mA) : ∃ od, PySem.W.InstAt h x (PySem.W.instObj C dx) C (some od) ∧ ∀ name, PySem.W.lookIn name od = some (mA name) :=
  let ⟨od, ho, hl⟩ := lookIn_ns I.ns
  ⟨od, ⟨I.obj, rfl, rfl, ho⟩, hl⟩
section
variable {prog : Program} {w : World} {A : Around} {E : Value → Shared → Prop} {s : Shared} {K : PySem.W.Frag} {x dx C f : Addr} {mA : Str → Option Value} {name : Str} {v : Value}
theorem get_map {expr : Bool} {Q : Value → Shared → Prop} (X : K.In s.heap) (I : ObjM s.heap x dx C mA) (hg : PySem.W.plainGet K C name = true) (hh : PySem.W.hasDictIn K C = true)
    (ha : PySem.W.findIn K (.ref C) name = some none) (hv : mA name = some v) (hv' : PySem.W.handedIn v = true) (h : Q v { s with toks := s.toks + 1 }) :
    wpAny (model prog w) A (getAttr (.ref x) name expr) Q E s := by
  obtain ⟨od, J, hl⟩ := I.look
  exact PySem.W.get_value X J (PySem.W.plainGet_of hg).1 (PySem.W.findObj_own hh ha rfl (by rw [hl, hv])) hv' h
theorem get_meth {pl : Sem Bool} {Q : Value × List Value → Shared → Prop} (X : K.In s.heap) (I : ObjM s.heap x dx C mA) (hg : PySem.W.plainGet K C name = true)
    (hf : PySem.W.findIn K (.ref C) name = some (some (.ref f))) (ht : PySem.W.isFn K (.ref f) = true) (hv : mA name = none) (h : Q (.ref f, [.ref x]) s) :
    wpAny (model prog w) A (getMethod (.ref x) name pl) Q E s := by
  obtain ⟨od, J, hl⟩ := I.look
  exact PySem.W.method_fn X J (PySem.W.plainGet_of hg).1 (PySem.W.plainGet_of hg).2 hf (beq_iff_eq.mp ht) (by show (PySem.W.lookIn name od).map (·.isSome) = some false; rw [hl, hv]; rfl) h
theorem set_map {ns : List Str} {Q : Unit → Shared → Prop} (X : K.In s.heap) (I : ObjM s.heap x dx C mA)
    (hs : PySem.W.findIn K (.ref C) "__setattr__" = some (some (.builtin "object.__setattr__"))) (hp : PySem.W.plainOver K C = true) (ht : PySem.W.takerIn K C name = some none) (hh : PySem.W.hasDictIn K C = true)
    (hw : PySem.Within mA ns) (hsz : ns.length ≤ sizeLine)
    (h : ∀ h', ObjM h' x dx C (fun y => if y = name then some v else mA y) → Heap.SameBut dx s.heap h' → Q () { s with heap := h', toks := s.toks + 2 }) :
    wpAny (model prog w) A (setAttr (.ref x) name v) Q E s := by
  obtain ⟨od, J, hl⟩ := I.look
  refine PySem.W.set_plain X J hs (PySem.W.osa_open (s := { s with toks := s.toks + 1 }) (r := none) X J hp ht fun b => ?_)
  obtain ⟨cd, hc, hd'⟩ := PySem.W.any_some hh
  have hx : s.heap.get? x = some ⟨.ref C, some dx, .plain, #[]⟩ := I.obj
  refine wpAny_bind (wpAny_pure (wpAny_bind (wpAny_bind (wpAny_loadPart hx (wpAny_bind (PySem.W.Looks.here (s := { s with toks := s.toks + 1 }) (PySem.W.looks_clsIn X hc) ?_))))))
  rw [hd']
  refine wpAny_pure (a := some dx) (wpAny_bind (wpAny_pure (wpAny_bind ?_)))
  refine wpAny_nsSet1 (s := { s with toks := s.toks + 1 }) I.ns fun h' hn2 hs2 => ?_
  obtain ⟨oD, esD, epD, hoD, hdD, hcD⟩ := hn2.count (PySem.Within.cons name v hw)
  refine wpAny_bind (wpAny_lookBehind hoD (by rw [hdD]; exact pastItsLine_dict (Nat.le_trans hcD (by rw [List.length_cons]; omega))) ?_)
  exact wpAny_pure (h _ ⟨(hs2.2 _ (Ne.symm I.ne)).trans I.obj, hn2, I.ne⟩ hs2)
theorem make_map {R : Result → Shared → Prop} {vs : List Value} {kw : List (Str × Value)} (X : K.In s.heap) (hm : PySem.W.makesIn K C = true)
    (hi : PySem.W.findIn K (.ref C) "__init__" = some (some (.ref f))) (hf : PySem.W.typeIn K (.ref f) = some (.type "function"))
    (h : codeAny (model prog w) (A.under (.builtin "type.__call__" ⟨.ref C :: vs, kw⟩)) (.call (.ref f) ⟨.ref (s.heap.objs.size + 1) :: vs, kw⟩) (PySem.W.InitBack (s.heap.objs.size + 1) R)
      { s with heap := (s.heap.push PySem.W.emptyDict).push (PySem.W.instObj C s.heap.objs.size) }) :
    codeAny (model prog w) A (.call (.ref C) ⟨vs, kw⟩) R s := by
  obtain ⟨hh, g, d, t, os⟩ := s
  exact PySem.W.make_core (PySem.W.makes_of X hm) (PySem.W.looks_findIn X hi) (fun self => PySem.W.bind_fn X self hf) (.inl rfl) h
end
def putF (f : Str) (v : V) : List (Str × V) → List (Str × V)
  | [] => [(f, v)]
  | (g, x) :: r => if g = f then (g, v) :: r else (g, x) :: putF f v r
theorem lookup_putF (f g : Str) (v : V) : ∀ fs : List (Str × V), (putF f v fs).lookup g = if g = f then some v else fs.lookup g
  | [] => by
    show List.lookup g [(f, v)] = _
    by_cases h : g = f
    · have hb : (g == f) = true := beq_iff_eq.mpr h
      simp only [List.lookup, hb, if_pos h]
    · have hb : (g == f) = false := beq_eq_false_iff_ne.mpr h
      simp only [List.lookup, hb, if_neg h]
  | (k, x) :: r => by
    have ih := lookup_putF f g v r
    rw [show putF f v ((k, x) :: r) = (if k = f then (k, v) :: r else (k, x) :: putF f v r) from rfl]
    by_cases hk : k = f
    · rw [if_pos hk]
      by_cases h : g = k
      · have hb : (g == k) = true := beq_iff_eq.mpr h
        simp only [List.lookup, hb, if_pos (h.trans hk)]
      · have hb : (g == k) = false := beq_eq_false_iff_ne.mpr h
        simp only [List.lookup, hb, if_neg (fun e : g = f => h (e.trans hk.symm))]
    · rw [if_neg hk]
      by_cases h : g = k
      · have hb : (g == k) = true := beq_iff_eq.mpr h
        simp only [List.lookup, hb, if_neg (fun e : g = f => hk (h.symm.trans e))]
      · have hb : (g == k) = false := beq_eq_false_iff_ne.mpr h
        simp only [List.lookup, hb]
        exact ih
theorem keys_putF (f : Str) (v : V) : ∀ fs : List (Str × V), f ∈ (putF f v fs).map (·.1) ∧ ∀ g, g ∈ fs.map (·.1) → g ∈ (putF f v fs).map (·.1)
  | [] => ⟨by simp [putF], fun g h => by simp at h⟩
  | (k, x) :: r => by
    obtain ⟨i1, i2⟩ := keys_putF f v r
    rw [show putF f v ((k, x) :: r) = (if k = f then (k, v) :: r else (k, x) :: putF f v r) from rfl]
    by_cases hk : k = f
    · rw [if_pos hk]
      subst hk
      exact ⟨by simp, fun g h => by simpa using h⟩
    · rw [if_neg hk]
      refine ⟨?_, fun g h => ?_⟩
      · rw [List.map_cons]
        exact List.mem_cons_of_mem _ i1
      · rw [List.map_cons] at h ⊢
        rcases List.mem_cons.mp h with e | e
        · exact List.mem_cons.mpr (.inl e)
        · exact List.mem_cons_of_mem _ (i2 g e)
theorem length_putF (f : Str) (v : V) : ∀ fs : List (Str × V), (putF f v fs).length ≤ fs.length + 1
  | [] => by simp [putF]
  | (k, x) :: r => by
    have ih := length_putF f v r
    rw [show putF f v ((k, x) :: r) = (if k = f then (k, v) :: r else (k, x) :: putF f v r) from rfl]
    by_cases hk : k = f
    · rw [if_pos hk, List.length_cons, List.length_cons]; omega
    · rw [if_neg hk, List.length_cons, List.length_cons]; omega
theorem RelO.some_of {v : V} {o : Option Value} (r : RelO (some v) o) : ∃ u, o = some u ∧ RelV v u := by
  cases o with
  | none => exact (show False from r).elim
  | some u => exact ⟨u, rfl, r⟩
theorem RelO.none_of {o : Option Value} (r : RelO none o) : o = none := by
  cases o with
  | none => rfl
  | some u => exact (show False from r).elim
theorem handed_of {v : V} {u : Value} (r : RelV v u) : PySem.W.handedIn u = true := by
  cases v with
  | non => cases (show u = Value.none from r); rfl
  | bl b => cases (show u = Value.bool b from r); rfl
  | int i => obtain ⟨t, e⟩ := (show ∃ t, u = Value.int i t from r); cases e; rfl
  | str x => obtain ⟨t, e⟩ := (show ∃ t, u = Value.str x t from r); cases e; rfl
  | byt b => obtain ⟨t, e⟩ := (show ∃ t, u = Value.bytes b t from r); cases e; rfl
  | flt b => obtain ⟨t, e⟩ := (show ∃ t, u = Value.float b t from r); cases e; rfl
  | ref a => cases (show u = Value.ref a from r); rfl
  | ty n => cases (show u = Value.type n from r); rfl
section
variable {P : Program} {w : World} {H H' : Hp} {h h' : Heap} {a C dx : Addr} {fs fs' : List (Str × V)}
theorem ins_get (hok : HOk P w H h) (e : H a = some (.ins C dx fs)) : ∃ mA, ObjM h a dx C mA ∧ (∀ f, RelO (fs.lookup f) (mA f)) ∧ PySem.Within mA (fs.map (·.1)) ∧ fs.length ≤ 1000 ∧ H dx = some (.own a) := by
  obtain ⟨d, z, ne, ob, mA, n, r, q⟩ := (show ObjOk P w H h a (.ins C dx fs) from hok a _ e)
  exact ⟨mA, ⟨ob, n, ne⟩, r, q, z, d⟩
end
structure Cls (K : PySem.W.Frag) (C : Addr) : Prop where
  pg : PySem.W.plainGet K C Str.empty = true
  hd : PySem.W.hasDictIn K C = true
  po : PySem.W.plainOver K C = true
  sa : PySem.W.findIn K (.ref C) "__setattr__" = some (some (.builtin "object.__setattr__"))
theorem Cls.get {K : PySem.W.Frag} {C : Addr} (c : Cls K C) (f : Str) : PySem.W.plainGet K C f = true := c.pg
def NoAttr (K : PySem.W.Frag) (C : Addr) (f : Str) : Prop := PySem.W.findIn K (.ref C) f = some none
theorem NoAttr.taker {K : PySem.W.Frag} {C : Addr} {f : Str} (n : NoAttr K C f) : PySem.W.takerIn K C f = some none := by
  unfold PySem.W.takerIn
  rw [show PySem.W.findIn K (.ref C) f = some none from n]
  rfl
structure Con (K : PySem.W.Frag) (C : Addr) (f : Str) (v : V) (u : Value) : Prop where
  at_ : PySem.W.findIn K (.ref C) f = some (some u)
  rel : RelV v u
  get : PySem.W.specialIn K u "__get__" = some none
  cp : PySem.W.copiedNames.contains f = false
structure Meth (K : PySem.W.Frag) (C : Addr) (m : Str) (f : Addr) : Prop where
  at_ : PySem.W.findIn K (.ref C) m = some (some (.ref f))
  fn : PySem.W.isFn K (.ref f) = true
  kp : PySem.W.keepIn K (.ref f) = true
section
variable {X : Cx} {pins : List (Addr × Obj)} {σ : St} {H : Hp} {s : Shared} {a C dx : Addr} {fs : List (Str × V)} {f : Str} {v : V} {A : Around} {E : Value → Shared → Prop}
theorem getattr_ok {b : Bool} {Q : Value → Shared → Prop} (I : Inv X pins σ H s) (e : H a = some (.ins C dx fs)) (c : Cls X.K C) (n : NoAttr X.K C f) (l : fs.lookup f = some v)
    (h : ∀ u s', Inv X pins σ H s' → RelV v u → Q u s') : wpAny (model X.prog X.w) A (getAttr (.ref a) f b) Q E s := by
  obtain ⟨mA, O, r, _, _, _⟩ := ins_get I.hok e
  obtain ⟨u, hu, ru⟩ := RelO.some_of (v := v) (o := mA f) (by rw [← l]; exact r f)
  exact get_map I.kIn O (c.get f) c.hd n hu (handed_of ru) (h u _ (I.tok _) ru)
theorem getmeth_ok {m : Str} {g : Addr} {pl : Sem Bool} {Q : Value × List Value → Shared → Prop} (I : Inv X pins σ H s) (e : H a = some (.ins C dx fs)) (c : Cls X.K C) (k : Meth X.K C m g) (l : fs.lookup m = none)
    (h : Q (.ref g, [.ref a]) s) : wpAny (model X.prog X.w) A (getMethod (.ref a) m pl) Q E s := by
  obtain ⟨mA, O, r, _, _, _⟩ := ins_get I.hok e
  have hn : mA m = none := RelO.none_of (by rw [← l]; exact r m)
  exact get_meth I.kIn O (c.get m) k.at_ k.fn hn h
theorem setattr_ok {y : V} {u : Value} {Q : Unit → Shared → Prop} (I : Inv X pins σ H s) (e : H a = some (.ins C dx fs)) (c : Cls X.K C) (n : NoAttr X.K C f) (hl : fs.length < 1000) (ry : RelV y u)
    (h : ∀ s', Inv X pins σ (upd H a (.ins C dx (putF f y fs))) s' → Q () s') : wpAny (model X.prog X.w) A (setAttr (.ref a) f u) Q E s := by
  obtain ⟨mA, O, r, wi, _, ho⟩ := ins_get I.hok e
  have hz : (fs.map (·.1)).length ≤ sizeLine := by rw [List.length_map, sizeLine_eq]; omega
  refine set_map I.kIn O c.sa c.po n.taker c.hd wi hz fun h' O' sb => h _ ?_
  have hd : ∃ o, h'.get? dx = some o := let ⟨o, _, _, e', _⟩ := O'.ns; ⟨o, e'⟩
  refine I.write (x := a) (e := dx) (by rw [e]; exact True.intro) (.inr ho) (fun b q hb z => (sb.2 b hb).trans z) hd ?_
  refine ⟨by rw [upd_ne O.ne]; exact ho, ?_, O.ne, O'.obj, _, O'.ns, fun g => ?_, fun g hg => ?_⟩
  · have := length_putF f y fs; omega
  · show RelO ((putF f y fs).lookup g) (if g = f then some u else mA g)
    rw [lookup_putF]
    by_cases q : g = f
    · rw [if_pos q, if_pos q]; exact ry
    · rw [if_neg q, if_neg q]; exact r g
  · by_cases q : g = f
    · rw [q]; exact (keys_putF f y fs).1
    · refine (keys_putF f y fs).2 g (wi g fun z => hg ?_)
      show (if g = f then some u else mA g) = none
      rw [if_neg q]; exact z
theorem Inv.made (I : Inv X pins σ H s) : Inv X pins σ (upd (upd H s.heap.objs.size (.own (s.heap.objs.size + 1))) (s.heap.objs.size + 1) (.ins C s.heap.objs.size []))
    { s with heap := (s.heap.push PySem.W.emptyDict).push (PySem.W.instObj C s.heap.objs.size) } := by
  have e1 : (s.heap.push PySem.W.emptyDict).get? s.heap.objs.size = some PySem.W.emptyDict := Heap.get?_push_size s.heap rfl
  have e2 : ((s.heap.push PySem.W.emptyDict).push (PySem.W.instObj C s.heap.objs.size)).get? (s.heap.objs.size + 1) = some (PySem.W.instObj C s.heap.objs.size) := by
    have := Heap.get?_push_size (s.heap.push PySem.W.emptyDict) (o := PySem.W.instObj C s.heap.objs.size) rfl
    rwa [Heap.size_push] at this
  have e3 : (s.heap.push PySem.W.emptyDict).Ns s.heap.objs.size (fun _ => none) := ⟨PySem.W.emptyDict, #[], _, e1, rfl, (fun e he => absurd he (by simp)), fun _ => rfl⟩
  have I1 := I.laid (a := s.heap.objs.size) (o := .own (s.heap.objs.size + 1)) (h' := s.heap.push PySem.W.emptyDict) (t' := s.toks) (fun b u q => Heap.get?_push_of_some _ q) (Nat.le_refl _) ⟨_, e1⟩
  refine I1.laid (a := s.heap.objs.size + 1) (o := .ins C s.heap.objs.size []) (t' := s.toks) (fun b u q => Heap.get?_push_of_some _ q) (Nat.le_of_eq (Heap.size_push _ _)) ?_
  have ne : s.heap.objs.size ≠ s.heap.objs.size + 1 := Nat.ne_of_lt (Nat.lt_succ_self _)
  refine ⟨by rw [upd_ne ne, upd_same], Nat.zero_le _, ne, e2, fun _ => none, (Heap.Ns1.of_empty e3).at fun o q => Heap.get?_push_of_some _ q, fun _ => True.intro, fun y hy => absurd rfl hy⟩
theorem attr_of {prog : Program} {w : World} {env : Env} {e : Expr} {f : Str} {pos : Pos} {s : Shared} {Q : Value → Shared → Prop} (hb : attributeBase e f env (eval e env) = eval e env)
    (h : wpAny (model prog w) A (eval e env) (fun o s₁ => wpAny (model prog w) A (getAttr o f true) Q E s₁) E s) : wpAny (model prog w) A (eval (.Attribute e f pos) env) Q E s :=
  Attribute_any_ h (by rw [arm_eval_Attribute, hb])
end
def tFld (K : PySem.W.Frag) (ta : TE) (f : Str) : TE := fun σ H Q => ta σ H fun x H1 => ∃ a C dx fs v, x = .ref a ∧ H1 a = some (.ins C dx fs) ∧ Cls K C ∧ NoAttr K C f ∧ fs.lookup f = some v ∧ Q v H1
def sFld (K : PySem.W.Frag) (ta tv : TE) (f : Str) : TS := fun D σ H => tv σ H fun y H1 => ta σ H1 fun x H2 => ∃ a C dx fs, x = .ref a ∧ H2 a = some (.ins C dx fs) ∧ Cls K C ∧ NoAttr K C f ∧ fs.length < 1000 ∧
  D.nx σ (upd H2 a (.ins C dx (putF f y fs)))
section
variable {X : Cx} {o e value : Expr} {f : Str} {pos pos' tpos : Pos} {ta tv : TE}
theorem pe_fld (he : PE X e ta) (hb : attributeBase e f X.env (eval e X.env) = eval e X.env) : PE X (.Attribute e f pos) (tFld X.K ta f) := by
  intro pins s σ H Q I h
  refine attr_of hb (thn (he pins s σ H _ I h) fun u s1 ⟨x, H1, I1, rx, a, C, dx, fs, v, ex, ea, c, n, l, q⟩ => ?_)
  subst ex
  obtain rfl : u = Value.ref a := rx
  exact getattr_ok I1 ea c n l fun u' s2 I2 ru => ⟨v, H1, I2, ru, q⟩
theorem ps_fld (ha : PE X o ta) (hv : PE X value tv) (hs : swapsWith value (some (.Attribute o f pos')) pos.line X.env = pure false) : PS X (.Assign [.Attribute o f pos'] value pos) (sFld X.K ta tv f) := by
  intro pins s σ H D I h
  refine plainObj_wpAny_Assign_Attribute (thn (hv pins s σ H _ I h) fun u s1 ⟨y, H1, I1, ry, q⟩ => thn (ha pins s1 σ H1 _ I1 q) fun ov s2 ⟨x, H2, I2, rx, a, C, dx, fs, ex, ea, c, n, l, q2⟩ => ?_) hs
  subst ex
  obtain rfl : ov = Value.ref a := rx
  exact setattr_ok I2 ea c n l ry fun s3 I3 => ⟨σ, _, I3, q2⟩
end
section
variable {X : Cx} {pins : List (Addr × Obj)} {σ : St} {H : Hp} {s : Shared} {A : Around} {E : Value → Shared → Prop} {Q : Value → Shared → Prop} {c : Value} {b : Bool}
inductive TyOf (K : PySem.W.Frag) (H : Hp) : V → Value → Prop where
  | non : TyOf K H .non (.type "NoneType")
  | bl (x : Bool) : TyOf K H (.bl x) (.type "bool")
  | int (i : Int) : TyOf K H (.int i) (.type "int")
  | str (x : Str) : TyOf K H (.str x) (.type "str")
  | flt (x : UInt64) : TyOf K H (.flt x) (.type "float")
  | lst {a : Addr} {xs : List V} (e : H a = some (.lst xs)) : TyOf K H (.ref a) (.type "list")
  | frz {a : Addr} {o : Obj} {xs : List V} (e : H a = some (.frz o (.lst xs))) : TyOf K H (.ref a) (.type "list")
  | tup {a : Addr} {xs : List V} (e : H a = some (.tup xs)) : TyOf K H (.ref a) (.type "tuple")
  | dK {a : Addr} {kvs : List (Key × V)} (e : H a = some (.dK kvs)) : TyOf K H (.ref a) (.type "dict")
  | dT {a : Addr} {kvs : List (List Key × V)} (e : H a = some (.dT kvs)) : TyOf K H (.ref a) (.type "dict")
  | ins {a C dx : Addr} {fs : List (Str × V)} (e : H a = some (.ins C dx fs)) (cl : Cls K C) (ha : PySem.W.findIn K (.ref C) "__class__" = some (some (.builtin "object.__class__")))
      (hn : PySem.W.specialIn K (.builtin "object.__class__") "__get__" = some (some (.builtin "getset_descriptor.__get__"))) (htk : PySem.W.takesIn K (.builtin "object.__class__") = some true)
      (hm : PySem.W.mroIn K C (.type "object") = some true) : TyOf K H (.ref a) (.ref C)
theorem isinst_ok {x : V} {u t : Value} (I : Inv X pins σ H s) (rx : RelV x u) (ty : TyOf X.K H x t) (e : PySem.W.kitOne X.K t c = some b) (h : ∀ tk, Q (.bool b) { s with toks := tk }) :
    wpAny (model X.prog X.w) A (call (.builtin "isinstance") [u, c]) Q E s := by
  cases ty with
  | non => cases (show u = Value.none from rx); exact PySem.W.kia_one PySem.W.kitx_none I.kIn True.intro e (fun z => nomatch z) h
  | bl y => cases (show u = Value.bool y from rx); exact PySem.W.kia_one PySem.W.kitx_bool I.kIn True.intro e (fun z => nomatch z) h
  | int i => obtain ⟨t, q⟩ := (show ∃ t, u = Value.int i t from rx); cases q; exact PySem.W.kia_one PySem.W.kitx_int I.kIn True.intro e (fun z => nomatch z) h
  | str y => obtain ⟨t, q⟩ := (show ∃ t, u = Value.str y t from rx); cases q; exact PySem.W.kia_one PySem.W.kitx_str I.kIn True.intro e (fun z => nomatch z) h
  | flt y => obtain ⟨t, q⟩ := (show ∃ t, u = Value.float y t from rx); cases q; exact PySem.W.kia_one PySem.W.kitx_float I.kIn True.intro e (fun z => nomatch z) h
  | @lst a xs ea =>
    cases (show u = Value.ref a from rx)
    obtain ⟨_, _, n, _, h1⟩ := (show ObjOk X.prog X.w H s.heap a (.lst xs) from I.hok a _ ea)
    exact PySem.W.kia_one PySem.W.kitx_list I.kIn ⟨_, h1, rfl⟩ e (fun z => nomatch z) h
  | @frz a ob xs ea =>
    cases (show u = Value.ref a from rx)
    obtain ⟨_, _, _, n, _, h1⟩ := (show ObjOk X.prog X.w H s.heap a (.frz ob (.lst xs)) from I.hok a _ ea)
    exact PySem.W.kia_one PySem.W.kitx_list I.kIn ⟨_, h1, rfl⟩ e (fun z => nomatch z) h
  | @tup a xs ea =>
    cases (show u = Value.ref a from rx)
    obtain ⟨_, _, _, p⟩ := (show ObjOk X.prog X.w H s.heap a (.tup xs) from I.hok a _ ea)
    obtain ⟨o, h1, h2, _⟩ := p
    exact PySem.W.kia_one PySem.W.kitx_tuple I.kIn ⟨o, h1, h2⟩ e (fun z => nomatch z) h
  | @dK a kvs ea =>
    cases (show u = Value.ref a from rx)
    obtain ⟨_, _, vs, _, p⟩ := (show ObjOk X.prog X.w H s.heap a (.dK kvs) from I.hok a _ ea)
    obtain ⟨o, es, ep, h1, h2, _⟩ := p
    exact PySem.W.kia_one PySem.W.kitx_dict I.kIn ⟨o, h1, h2.1⟩ e (fun z => nomatch z) h
  | @dT a kvs ea =>
    cases (show u = Value.ref a from rx)
    obtain ⟨_, _, xs, _, o, es, ep, h1, h2, _⟩ := (show ObjOk X.prog X.w H s.heap a (.dT kvs) from I.hok a _ ea)
    exact PySem.W.kia_one PySem.W.kitx_dict I.kIn ⟨o, h1, h2.1⟩ e (fun z => nomatch z) h
  | @ins a C dx fs ea cl ha hn htk hm =>
    cases (show u = Value.ref a from rx)
    obtain ⟨mA, O, _⟩ := ins_get I.hok ea
    obtain ⟨od, J, _⟩ := O.look
    exact PySem.W.kia_one (PySem.W.kitx_own (cl.get _) cl.hd ha hn htk hm) I.kIn J e (fun z => nomatch z) h
end
end L2
namespace L2
open PySem PySem.Spec PyProof.Rows
structure Room (k : Nat) (A : Around) : Prop where
  hd : A.handled = none
  dp : A.depth + 3 * k + 5 < recursionLimit
  un : A.units + 16 * k + 200 < cLine
theorem Room.mono {j k : Nat} {A : Around} (r : Room k A) (h : j ≤ k) : Room j A := ⟨r.hd, by have := r.dp; omega, by have := r.un; omega⟩
theorem Room.deeper {k : Nat} {A : Around} (r : Room (k + 1) A) (env : Env) : Room k (A.deeper env) :=
  ⟨r.hd, by have := r.dp; show A.depth + 1 + 3 * k + 5 < _; omega, by have := r.un; show A.units + 3 + 16 * k + 200 < _; omega⟩
theorem Room.in1 {k : Nat} {A : Around} (r : Room (k + 1) A) : Room k A.in1 :=
  ⟨r.hd, by have := r.dp; show A.depth + 3 * k + 5 < _; omega, by have := r.un; show A.units + 1 + 16 * k + 200 < _; omega⟩
theorem make_depth {A : Around} {C : Addr} {us : List Value} {kw : List (Str × Value)} : (A.under (.builtin "type.__call__" ⟨.ref C :: us, kw⟩)).depth = A.depth + 1 := by
  first | rfl | simp [Around.under, Code.weight, Code.isCreation, Code.isGuard, Code.isCaller, Code.frames, Code.isFrame, guardIds]
theorem make_units {A : Around} {C : Addr} {us : List Value} {kw : List (Str × Value)} : (A.under (.builtin "type.__call__" ⟨.ref C :: us, kw⟩)).units = A.units + 1 := by
  first | rfl | simp [Around.under, Code.cUnits, Code.frames, Code.isFrame]
theorem Room.make {k : Nat} {A : Around} (r : Room (k + 1) A) (C : Addr) (us : List Value) (kw : List (Str × Value)) : Room k (A.under (.builtin "type.__call__" ⟨.ref C :: us, kw⟩)) :=
  ⟨r.hd, by have := r.dp; rw [make_depth]; omega, by have := r.un; rw [make_units]; omega⟩
theorem Room.depth {k : Nat} {A : Around} (r : Room k A) : A.depth < recursionLimit := by have := r.dp; omega
theorem Room.units {k : Nat} {A : Around} (r : Room k A) : A.units + 64 < cLine := by have := r.un; omega
def tNil : TA := fun _ H Q => Q [] H
def tCons (ta : TE) (tr : TA) : TA := fun σ H Q => ta σ H fun x H1 => tr σ H1 fun xs H2 => Q (x :: xs) H2
section
variable {X : Cx} {e : Expr} {es : List Expr} {te : TE} {t : TA} {pos : Pos}
theorem pa_nil : PA X [] tNil := fun _ _ _ _ H Q I h => Calls.spliced_nil ⟨[], H, I, .nil, h⟩
theorem pa_cons (ha : PE X e te) (hr : PA X es t) (hs : starEach (e :: es) X.env = (false, eval e X.env) :: starEach es X.env := by rfl) : PA X (e :: es) (tCons te t) := by
  intro pos pins s σ H Q I h
  rw [hs]
  show wpAny _ _ (spliced ((false, eval e X.env) :: backTo pos (starEach es X.env))) _ _ s
  refine Calls.spliced_cons (thn (ha pins s σ H _ I h) fun u s1 ⟨x, H1, I1, r1, q1⟩ => ?_)
  exact thn (hr pos pins s1 σ H1 _ I1 q1) fun us s2 ⟨xs, H2, I2, r2, q2⟩ => ⟨x :: xs, H2, I2, .cons r1 r2, q2⟩
def tTup (t : TA) : TE := fun σ H Q => t σ H fun xs H1 => xs.length ≤ sizeLine ∧ ∀ p, H1 p = none → Q (.ref p) (upd H1 p (.tup xs))
def tLst (t : TA) : TE := fun σ H Q => t σ H fun xs H1 => xs.length ≤ sizeLine ∧ ∀ p, H1 p = none → Q (.ref p) (upd H1 p (.lst xs))
theorem pe_tup {x1} (h : PA X es t) : PE X (.Tuple es x1 pos) (tTup t) := by
  intro pins s σ H Q I hq
  refine wpAny_Tuple_spliced (thn (h pos pins s σ H _ I hq) fun us s1 ⟨xs, H1, I1, r, z, q⟩ => ⟨by rw [← r.length]; exact z, ?_⟩)
  have hf : H1 s1.heap.objs.size = none := I1.hok.fresh (Nat.le_refl _)
  refine ⟨.ref s1.heap.objs.size, upd H1 s1.heap.objs.size (.tup xs), I1.laid (t' := s1.toks) (fun b u e => Heap.get?_push_of_some _ e) (Nat.le_refl _) ?_, rfl, q _ hf⟩
  exact ⟨z, us, r, ⟨_, Heap.get?_push_size _ rfl, rfl, _, rfl⟩⟩
theorem pe_lst (h : PA X es t) : PE X (.List es pos) (tLst t) := by
  intro pins s σ H Q I hq
  refine wpAny_List_spliced (thn (h pos pins s σ H _ I hq) fun us s1 ⟨xs, H1, I1, r, z, q⟩ => ⟨by rw [← r.length]; exact z, ?_⟩)
  have hf : H1 s1.heap.objs.size = none := I1.hok.fresh (Nat.le_refl _)
  refine ⟨.ref s1.heap.objs.size, upd H1 s1.heap.objs.size (.lst xs), I1.laid (t' := s1.toks) (fun b u e => Heap.get?_push_of_some _ e) (Nat.le_refl _) ?_, rfl, q _ hf⟩
  exact ⟨z, us, 0, r, Heap.get?_push_size _ rfl⟩
end
abbrev Sp := List V → Hp → VK → XK → Prop
abbrev CXT := List Env → Hp → Shared → XK → Value → Shared → Prop
structure Env0 (P : Program) (w : World) (K : PySem.W.Frag) (mg : Str → Option Value) (base : Heap) (A : Around) (outer : List Env) (s : Shared) (H : Hp) : Prop where
  frames : A.frames = some outer
  mod : Mod K mg base
  bs : ∀ b o, base.get? b = some o → s.heap.get? b = some o ∧ H b = none
  bsz : base.objs.size ≤ s.heap.objs.size
  funs : s.heap.FunFrames base outer
  frf : ∀ b ∈ frs outer, H b = none
  hok : HOk P w H s.heap
  bare : AllBare s.gens
def CE (outer : List Env) (P : Program) (w : World) (H : Hp) (s : Shared) (Q : VK) (u : Value) (s' : Shared) : Prop :=
  ∃ v H', s'.os = s.os ∧ AllBare s'.gens ∧ Un (frs outer) [] H H' s.heap s'.heap ∧ HOk P w H' s'.heap ∧ RelV v u ∧ Q v H'
def CR (CX : CXT) (outer : List Env) (P : Program) (w : World) (H : Hp) (s : Shared) (Q : VK) (E : XK) (r : Result) (s' : Shared) : Prop :=
  match r with
  | .ok (.ret u) => CE outer P w H s Q u s'
  | .ok _ => False
  | .error e => CX outer H s E e s'
structure FnOk (P : Program) (w : World) (K : PySem.W.Frag) (mg : Str → Option Value) (base : Heap) (CX : CXT) (k : Nat) (f : Addr) (fd : FuncData) (ps : List Str) (sp : Sp) : Prop where
  len : ∀ vs H Q E, sp vs H Q E → vs.length = ps.length
  run : ∀ (A : Around) (outer : List Env) (s : Shared) (H : Hp) (args : Args) (us : List Value) (vs : List V) (Q : VK) (E : XK), Room k A → Env0 P w K mg base A outer s H → BindsTo s fd args (ps.zip us) → Vals vs us → sp vs H Q E →
    codeAny (model P w) A (.call (.ref f) args) (CR CX outer P w H s Q E) s
theorem FnOk.mono {P : Program} {w : World} {K : PySem.W.Frag} {mg : Str → Option Value} {base : Heap} {CX : CXT} {j k : Nat} {f : Addr} {fd : FuncData} {ps : List Str} {sp : Sp} (F : FnOk P w K mg base CX j f fd ps sp) (h : j ≤ k) :
    FnOk P w K mg base CX k f fd ps sp := ⟨F.len, fun A outer s H args us vs Q E hr => F.run A outer s H args us vs Q E (hr.mono h)⟩
theorem FnOk.imp {P : Program} {w : World} {K : PySem.W.Frag} {mg : Str → Option Value} {base : Heap} {CX : CXT} {k : Nat} {f : Addr} {fd : FuncData} {ps : List Str} {sp sp' : Sp} (F : FnOk P w K mg base CX k f fd ps sp)
    (h : ∀ vs H Q E, sp' vs H Q E → sp vs H Q E) : FnOk P w K mg base CX k f fd ps sp' :=
  ⟨fun vs H Q E q => F.len vs H Q E (h _ _ _ _ q), fun A outer s H args us vs Q E hr he hb hv hs => F.run A outer s H args us vs Q E hr he hb hv (h _ _ _ _ hs)⟩
theorem Env0.make {P : Program} {w : World} {K : PySem.W.Frag} {mg : Str → Option Value} {base : Heap} {A : Around} {outer : List Env} {s : Shared} {H : Hp} (e : Env0 P w K mg base A outer s H) (C : Addr) (us : List Value) (kw : List (Str × Value)) :
    Env0 P w K mg base (A.under (.builtin "type.__call__" ⟨.ref C :: us, kw⟩)) outer s H := ⟨by first | exact e.frames | (simpa [Around.under, Code.envs, Code.isFrame, pushEnvs] using e.frames), e.mod, e.bs, e.bsz, e.funs, e.frf, e.hok, e.bare⟩
theorem Env0.in1 {P : Program} {w : World} {K : PySem.W.Frag} {mg : Str → Option Value} {base : Heap} {A : Around} {outer : List Env} {s : Shared} {H : Hp} (e : Env0 P w K mg base A outer s H) :
    Env0 P w K mg base A.in1 outer s H := ⟨e.frames, e.mod, e.bs, e.bsz, e.funs, e.frf, e.hok, e.bare⟩
section
variable {X : Cx} {pins : List (Addr × Obj)} {σ : St} {H : Hp} {s s' : Shared}
theorem Inv.env0 (I : Inv X pins σ H s) : Env0 X.prog X.w X.K X.mg X.base X.A X.stack s H :=
  ⟨I.ok.frames, I.ok.mod, I.bs, Nat.le_trans I.ok.bsz I.sz, I.stack, I.stkFree, I.hok, I.bare⟩
theorem Inv.after {Q : VK} {u : Value} (I : Inv X pins σ H s) (h : CE X.stack X.prog X.w H s Q u s') : EP X pins σ Q u s' := by
  obtain ⟨v, H', os, bare, un, hok, r, q⟩ := h
  obtain ⟨hh, g, d, t, os'⟩ := s'
  obtain rfl : os' = s.os := os
  exact ⟨v, H', I.call (h' := hh) (g' := g) (d' := d) (t' := t) (ch := []) un hok bare (fun b z => absurd z (by simp)), r, q⟩
end
def tCall (sp : Sp) (dvs : List V) (E : XK) (t : TA) : TE := fun σ H Q => t σ H fun vs H1 => sp (vs ++ dvs) H1 Q E
def tMeth (C : Addr) (m : Str) (sp : Sp) (dvs : List V) (E : XK) (ta : TE) (t : TA) : TE := fun σ H Q => ta σ H fun x H1 => ∃ a dx fs, x = .ref a ∧ H1 a = some (.ins C dx fs) ∧ fs.lookup m = none ∧
  t σ H1 fun vs H2 => sp (x :: (vs ++ dvs)) H2 Q E
def tMake (C : Addr) (sp : Sp) (dvs : List V) (E : XK) (t : TA) : TE := fun σ H Q => t σ H fun vs H1 => ∀ x dx, H1 x = none → H1 dx = none → dx ≠ x →
  sp (.ref x :: (vs ++ dvs)) (upd (upd H1 dx (.own x)) x (.ins C dx [])) (fun v H2 => v = .non ∧ Q (.ref x) H2) E
def Binds (K : PySem.W.Frag) (fd : FuncData) (ps : List Str) (ds : List Value) : Prop :=
  ∀ (s : Shared) (us : List Value), K.In s.heap → (us ++ ds).length = ps.length → BindsTo s fd ⟨us, []⟩ (ps.zip (us ++ ds))
theorem Binds.all {K : PySem.W.Frag} {fd : FuncData} {ps : List Str} (h : ∀ us : List Value, us.length = ps.length → bindArgs fd ⟨us, []⟩ = pure (ps.zip us)) : Binds K fd ps [] := fun s us _ hl => by
  rw [List.append_nil] at hl ⊢
  exact .of_eq (h us hl)
def Passes (CX : CXT) (X : Cx) (E : XK) : Prop := ∀ (pins : List (Addr × Obj)) (σ : St) (H : Hp) (s : Shared) (e : Value) (s' : Shared), Inv X pins σ H s → CX X.stack H s E e s' → X.xe e s'
section
variable {X : Cx} {CX : CXT} {k : Nat} {f C : Addr} {fd : FuncData} {ps : List Str} {sp : Sp} {dvs : List V} {ds : List Value} {E : XK} {x m : Str} {p pos apos : Pos} {e o : Expr} {es : List Expr} {ta : TE} {t : TA}
theorem run_fn {pins : List (Addr × Obj)} {σ : St} {H : Hp} {s : Shared} {Q : VK} {us : List Value} {vs : List V} (F : FnOk X.prog X.w X.K X.mg X.base CX k f fd ps sp) (hr : Room k X.A) (hb : Binds X.K fd ps ds) (hd : Vals dvs ds) (hx : Passes CX X E)
    (I : Inv X pins σ H s) (r : Vals vs us) (h : sp (vs ++ dvs) H Q E) : wpAny (model X.prog X.w) X.A (call (.ref f) us) (EP X pins σ Q) X.xe s := by
  have r2 : Vals (vs ++ dvs) (us ++ ds) := r.append hd
  have hl : (us ++ ds).length = ps.length := by rw [← r2.length]; exact F.len _ _ _ _ h
  refine wpAny_call (codeAny_mono (F.run X.A X.stack s H ⟨us, []⟩ (us ++ ds) (vs ++ dvs) Q E hr I.env0 (hb s us I.kIn hl) r2 h) fun r s' hq => ?_)
  cases r with
  | error e => exact hx pins σ H s e s' I hq
  | ok fl =>
    cases fl with
    | ret u => exact I.after hq
    | next => exact False.elim hq
    | brk => exact False.elim hq
    | cont => exact False.elim hq
theorem pe_call (F : FnOk X.prog X.w X.K X.mg X.base CX k f fd ps sp) (hr : Room k X.A) (hg : Gl X x) (hm : X.mg x = some (.ref f)) (hk : PySem.W.keepIn X.K (.ref f) = true) (hb : Binds X.K fd ps ds) (hd : Vals dvs ds) (hx : Passes CX X E)
    (ha : PA X (e :: es) t) (hdb : (x == ("__debug__" : Str)) = false := by decide) (he : starEach (e :: es) X.env = (false, eval e X.env) :: starEach es X.env := by rfl) (hpl : (backTo pos (starEach es X.env)).any (·.1) = false := by rfl) :
    PE X (.Call (.Name x p) (e :: es) [] pos) (tCall sp dvs E t) := by
  intro pins s σ H Q I h
  refine wpAny_Call_Name_kw (ld_glob I hg hm ?_ hdb)
  refine PySem.W.callWith_K (h₀ := X.base) I.ok.mod.kin hk (thn (ha pos pins s σ H _ I h) fun us s1 ⟨vs, H1, I1, r, q⟩ => ⟨I1.kIn, ?_⟩) he hpl
  exact run_fn F hr hb hd hx I1 r q
theorem pe_meth {pl : Sem Bool} (he : PE X o ta) (c : Cls X.K C) (hm : Meth X.K C m f) (F : FnOk X.prog X.w X.K X.mg X.base CX k f fd ps sp) (hr : Room k X.A) (hb : Binds X.K fd ps ds) (hd : Vals dvs ds) (hx : Passes CX X E) (ha : PA X (e :: es) t)
    (hst : starEach (e :: es) X.env = (false, eval e X.env) :: starEach es X.env := by rfl) (hpl : (backTo pos (starEach es X.env)).any (·.1) = false := by rfl)
    (ht : eval (.Call (.Attribute o m apos) (e :: es) [] pos) X.env = (do
      let ov ← eval o X.env
      standAt apos.atName
      let (f, first) ← holding [ov] (getMethod ov m pl)
      callWith pos f first (backTo pos (starEach (e :: es) X.env)) (backToKw pos (keywordEach [] X.env))) := by rfl) :
    PE X (.Call (.Attribute o m apos) (e :: es) [] pos) (tMeth C m sp dvs E ta t) := by
  intro pins s σ H Q I h
  refine PySem.W.methodCall_KW (pl := pl) (thn (he pins s σ H _ I h) fun u s1 ⟨x, H1, I1, rx, a, dx, fs, ex, ea, l, q⟩ => ?_) ht
  subst ex
  obtain rfl : u = Value.ref a := rx
  refine getmeth_ok I1 ea c hm l ?_
  refine PySem.W.callWith_K (first := [.ref a]) (h₀ := X.base) I.ok.mod.kin hm.kp (thn (ha pos pins s1 σ H1 _ I1 q) fun us s2 ⟨vs, H2, I2, r, q2⟩ => ⟨I2.kIn, ?_⟩) hst hpl
  exact run_fn (us := .ref a :: us) (vs := .ref a :: vs) F hr hb hd hx I2 (.cons rfl r) q2
theorem pe_meth0 {pl : Sem Bool} (he : PE X o ta) (c : Cls X.K C) (hm : Meth X.K C m f) (F : FnOk X.prog X.w X.K X.mg X.base CX k f fd ps sp) (hr : Room k X.A) (hb : Binds X.K fd ps ds) (hd : Vals dvs ds) (hx : Passes CX X E)
    (ht : eval (.Call (.Attribute o m apos) [] [] pos) X.env = (do
      let ov ← eval o X.env
      standAt apos.atName
      let (f, first) ← holding [ov] (getMethod ov m pl)
      callWith pos f first (backTo pos (starEach [] X.env)) (backToKw pos (keywordEach [] X.env))) := by rfl) :
    PE X (.Call (.Attribute o m apos) [] [] pos) (tMeth C m sp dvs E ta tNil) := by
  intro pins s σ H Q I h
  refine PySem.W.methodCall_KW (pl := pl) (thn (he pins s σ H _ I h) fun u s1 ⟨x, H1, I1, rx, a, dx, fs, ex, ea, l, q⟩ => ?_) ht
  subst ex
  obtain rfl : u = Value.ref a := rx
  refine getmeth_ok I1 ea c hm l ?_
  exact PySem.W.callWith_K0 (first := [.ref a]) I1.kIn hm.kp (run_fn (us := [.ref a]) (vs := [.ref a]) F hr hb hd hx I1 (.cons rfl .nil) q)
structure Mk (K : PySem.W.Frag) (C f : Addr) : Prop where
  makes : PySem.W.makesIn K C = true
  init : PySem.W.findIn K (.ref C) "__init__" = some (some (.ref f))
  fn : PySem.W.isFn K (.ref f) = true
  kp : PySem.W.keepIn K (.ref C) = true
theorem run_make {pins : List (Addr × Obj)} {σ : St} {H : Hp} {s : Shared} {Q : VK} {us : List Value} {vs : List V} (M : Mk X.K C f) (F : FnOk X.prog X.w X.K X.mg X.base CX k f fd ps sp) (hr : Room (k + 1) X.A) (hb : Binds X.K fd ps ds) (hd : Vals dvs ds)
    (hx : Passes CX X E) (I : Inv X pins σ H s) (r : Vals vs us)
    (h : ∀ x dx, H x = none → H dx = none → dx ≠ x → sp (.ref x :: (vs ++ dvs)) (upd (upd H dx (.own x)) x (.ins C dx [])) (fun v H2 => v = .non ∧ Q (.ref x) H2) E) :
    wpAny (model X.prog X.w) X.A (call (.ref C) us) (EP X pins σ Q) X.xe s := by
  have hq := h (s.heap.objs.size + 1) s.heap.objs.size (I.hok.fresh (Nat.le_succ _)) (I.hok.fresh (Nat.le_refl _)) (Nat.ne_of_lt (Nat.lt_succ_self _))
  have I2 := Inv.made (C := C) I
  have r2 : Vals (V.ref (s.heap.objs.size + 1) :: (vs ++ dvs)) (Value.ref (s.heap.objs.size + 1) :: (us ++ ds)) := .cons rfl (r.append hd)
  have hl : (Value.ref (s.heap.objs.size + 1) :: us ++ ds).length = ps.length := by
    have e := r2.length
    rw [F.len _ _ _ _ hq] at e
    exact e.symm
  refine wpAny_call (make_map (f := f) I.kIn M.makes M.init (beq_iff_eq.mp M.fn) (codeAny_mono (F.run _ X.stack _ _ ⟨Value.ref (s.heap.objs.size + 1) :: us, []⟩ (Value.ref (s.heap.objs.size + 1) :: (us ++ ds)) _ _ E (hr.make C us [])
    (I2.env0.make C us []) (hb _ (Value.ref (s.heap.objs.size + 1) :: us) I2.kIn hl) r2 hq) fun r s' hq' => ?_))
  cases r with
  | error e => exact hx pins σ _ _ e s' I2 hq'
  | ok fl =>
    cases fl with
    | ret u =>
      obtain ⟨v, H', I3, rv, ev, q3⟩ := I2.after hq'
      subst ev
      exact ⟨rv, ⟨V.ref (s.heap.objs.size + 1), H', I3, rfl, q3⟩⟩
    | next => exact False.elim hq'
    | brk => exact False.elim hq'
    | cont => exact False.elim hq'
theorem pe_make (M : Mk X.K C f) (F : FnOk X.prog X.w X.K X.mg X.base CX k f fd ps sp) (hr : Room (k + 1) X.A) (hg : Gl X x) (hm : X.mg x = some (.ref C)) (hb : Binds X.K fd ps ds) (hd : Vals dvs ds) (hx : Passes CX X E)
    (ha : PA X (e :: es) t) (hdb : (x == ("__debug__" : Str)) = false := by decide) (he : starEach (e :: es) X.env = (false, eval e X.env) :: starEach es X.env := by rfl) (hpl : (backTo pos (starEach es X.env)).any (·.1) = false := by rfl) :
    PE X (.Call (.Name x p) (e :: es) [] pos) (tMake C sp dvs E t) := by
  intro pins s σ H Q I h
  refine wpAny_Call_Name_kw (ld_glob I hg hm ?_ hdb)
  refine PySem.W.callWith_K (h₀ := X.base) I.ok.mod.kin M.kp (thn (ha pos pins s σ H _ I h) fun us s1 ⟨vs, H1, I1, r, q⟩ => ⟨I1.kIn, ?_⟩) he hpl
  exact run_make M F hr hb hd hx I1 r q
end
section
variable {X : Cx} {CX : CXT} {k : Nat} {f C : Addr} {fd : FuncData} {ps ks : List Str} {sp : Sp} {E : XK} {x m : Str} {p pos apos kpos : Pos} {e o : Expr} {es : List Expr} {kws : List Keyword} {te ta : TE} {t tk : TA} {nm : Option Str}
structure KBinds (K : PySem.W.Frag) (fd : FuncData) (ps ks : List Str) (g : List Value → List Value → List Value) (gV : List V → List V → List V) : Prop where
  to : ∀ (s : Shared) (us ws : List Value), K.In s.heap → (g us ws).length = ps.length → BindsTo s fd ⟨us, ks.zip ws⟩ (ps.zip (g us ws))
  rel : ∀ {vs : List V} {us : List Value} {zs : List V} {ws : List Value}, Vals vs us → Vals zs ws → Vals (gV vs zs) (g us ws)
variable {g : List Value → List Value → List Value} {gV : List V → List V → List V}
end
structure FnScope (N P : List Str) (sc : Scope) : Prop where
  kind : sc.kind = .function
  co : sc.isCoroutine = false
  gen : sc.isGenerator = false
  nd : N.Nodup
  pre : N.take P.length = P
  par : ∀ x ∈ P, sc.names.lookup x = some .local ∨ sc.names.lookup x = some .cell
  nofree : ∀ y ∈ sc.names, y.2 ≠ .free
theorem bindL_out {kindOf : Str → Option NameKind} {x : Str} : ∀ {binds : List (Str × Value)} {m : Str → Option Value}, (∀ v, (x, v) ∉ binds) → bindL kindOf binds m x = m x
  | [], _, _ => rfl
  | (n, v) :: r, m, h => by
    unfold bindL
    rw [bindL_out fun w hw => h w (List.mem_cons_of_mem _ hw)]
    split
    · have : x ≠ n := by rintro rfl; exact h v List.mem_cons_self
      simp [this]
    · rfl
theorem bindC_out {kindOf : Str → Option NameKind} {x : Str} : ∀ {binds : List (Str × Value)} {m : Str → Option Value}, (∀ v, (x, v) ∉ binds) → bindC kindOf binds m x = m x
  | [], _, _ => rfl
  | (n, v) :: r, m, h => by
    unfold bindC
    rw [bindC_out fun w hw => h w (List.mem_cons_of_mem _ hw)]
    split
    · rfl
    · have : x ≠ n := by rintro rfl; exact h v List.mem_cons_self
      simp [this]
theorem bindL_get {kindOf : Str → Option NameKind} {x : Str} {v : Value} : ∀ {P : List Str} {vs : List Value} {i : Nat} {m : Str → Option Value}, P.Nodup → P[i]? = some x → vs[i]? = some v → kindOf x = some .local →
    bindL kindOf (P.zip vs) m x = some v
  | [], _, _, _, _, h, _, _ => by simp at h
  | _ :: _, [], _, _, _, _, h, _ => by simp at h
  | p :: P, w :: vs, 0, m, nd, h1, h2, hk => by
    simp at h1 h2; subst h1; subst h2
    show bindL kindOf ((p, w) :: P.zip vs) m p = _
    unfold bindL
    rw [bindL_out fun v hv => (List.nodup_cons.mp nd).1 (List.of_mem_zip hv).1, if_pos hk]
    simp
  | p :: P, w :: vs, i + 1, m, nd, h1, h2, hk => by
    show bindL kindOf ((p, w) :: P.zip vs) m x = _
    unfold bindL
    exact bindL_get (i := i) (List.nodup_cons.mp nd).2 (by simpa using h1) (by simpa using h2) hk
theorem bindC_get {kindOf : Str → Option NameKind} {x : Str} {v : Value} : ∀ {P : List Str} {vs : List Value} {i : Nat} {m : Str → Option Value}, P.Nodup → P[i]? = some x → vs[i]? = some v → kindOf x ≠ some .local →
    bindC kindOf (P.zip vs) m x = some v
  | [], _, _, _, _, h, _, _ => by simp at h
  | _ :: _, [], _, _, _, _, h, _ => by simp at h
  | p :: P, w :: vs, 0, m, nd, h1, h2, hk => by
    simp at h1 h2; subst h1; subst h2
    show bindC kindOf ((p, w) :: P.zip vs) m p = _
    unfold bindC
    rw [bindC_out fun v hv => (List.nodup_cons.mp nd).1 (List.of_mem_zip hv).1, if_neg hk]
    simp
  | p :: P, w :: vs, i + 1, m, nd, h1, h2, hk => by
    show bindC kindOf ((p, w) :: P.zip vs) m x = _
    unfold bindC
    exact bindC_get (i := i) (List.nodup_cons.mp nd).2 (by simpa using h1) (by simpa using h2) hk
def start (N : List Str) (vs : List V) : St := vs.map some ++ List.replicate (N.length - vs.length) none
def cxOf (CX : CXT) (P : Program) (w : World) (K : PySem.W.Frag) (mg : Str → Option Value) (base : Heap) (N : List Str) (qual : Str) (scope : Scope) (f : Addr) (cd : Value) (A : Around) (outer : List Env) (s : Shared) (H : Hp) (E : XK) : Cx where
  prog := P
  w := w
  K := K
  mg := mg
  base := base
  A := A.deeper (envOfC qual scope s.heap.objs.size f cd)
  N := N
  s₀ := s
  H₀ := H
  env := envOfC qual scope s.heap.objs.size f cd
  outer := outer
  stack := envOfC qual scope s.heap.objs.size f cd :: outer
  ex := []
  calm := true
  fn := fun _ => true
  pn := []
  xe := fun e s' => wpAny (model P w) (A.deeper (envOfC qual scope s.heap.objs.size f cd)) (leaving (envOfC qual scope s.heap.objs.size f cd) e) (fun _ s'' => CX outer H s E e s'') (fun e' s'' => CX outer H s E e' s'') s'
theorem cell_has {sc : Scope} {n : Nat} {x : Str} (h : sc.names.lookup x = some .cell) : ∃ c, (cellsFrom n sc.names []).lookup x = some c := by
  have q := PySem.W.cellsFrom_some sc.names n [] (.inl h)
  exact Option.isSome_iff_exists.mp q
theorem inv_start {CX : CXT} {P : Program} {w : World} {K : PySem.W.Frag} {mg : Str → Option Value} {base : Heap} {N ps : List Str} {qual : Str} {scope : Scope} {f : Addr} {cd : Value} {A : Around} {outer : List Env} {s s1 : Shared} {H : Hp} {E : XK} {us : List Value} {vs : List V}
    (S : FnScope N ps scope) (hd : A.handled = none) (e0 : Env0 P w K mg base A outer s H) (hl : vs.length = ps.length) (r : Vals vs us)
    (x : InCallC s s.heap.objs.size (bindL (envOfC qual scope s.heap.objs.size f cd).kindOf (ps.zip us) fun _ => none) (cellsFrom (s.heap.objs.size + 1) scope.names []) (bindC (envOfC qual scope s.heap.objs.size f cd).kindOf (ps.zip us) fun _ => none) s1) :
    Inv (cxOf CX P w K mg base N qual scope f cd A outer s H E) [] (start N vs) H s1 := by
  have hpl : ps.length ≤ N.length := by have := congrArg List.length S.pre; rw [List.length_take] at this; omega
  obtain ⟨h1, tk, rfl, hk⟩ := x.done
  have noA : ∀ b : Addr, b ∉ (cxOf CX P w K mg base N qual scope f cd A outer s H E).ex := fun b z => absurd (show b ∈ ([] : List Addr) from z) (by simp)
  refine ⟨⟨e0.mod, S.kind, rfl, rfl, Nat.le_refl _, fun y z c h1 h2 => ?_, fun y hy => ?_, fun y c _ h => ?_, fun _ => hd, Around.frames_deeper e0.frames, .inr ⟨rfl, rfl⟩, fun b z => absurd z (noA b), e0.bs, e0.bsz, fun b _ _ => noA b, fun b z => absurd z (noA b), e0.funs, e0.frf⟩,
    rfl, e0.bare, Un.kept hk, ⟨_, x.toInCall.ns, fun i y v h1 h2 h3 => ?_⟩, fun y c h => ⟨_, x.cell y c h⟩, e0.hok.fresh (Nat.le_refl _), fun y c h => ?_, fun p hp => absurd (show p ∈ ([] : List (Addr × Obj)) from hp) (by simp), e0.hok.kept hk, ?_⟩
  · exact name_of_addr x.apart (PySem.mem_of_lookup h1) (PySem.mem_of_lookup h2)
  · have hy : scope.names.lookup y = some .cell ∨ scope.names.lookup y = some .free := hy
    rcases hy with hy | hy
    · exact cell_has hy
    · exact absurd rfl (S.nofree _ (PySem.mem_of_lookup hy))
  · exact Nat.le_of_lt (x.above y c (PySem.mem_of_lookup h))
  · have hi : i < vs.length := by
      unfold start at h2
      by_cases hi : i < vs.length
      · exact hi
      · rw [List.getElem?_append_right (by simpa using hi)] at h2
        rw [List.getElem?_replicate] at h2
        split at h2 <;> cases h2
    have ha : vs[i]? = some v := by
      unfold start at h2
      rw [List.getElem?_append_left (by simpa using hi), List.getElem?_map] at h2
      cases e : vs[i]? with
      | none => rw [e] at h2; cases h2
      | some a => rw [e] at h2; cases h2; rfl
    obtain ⟨u, hu, rv⟩ := r.get ha
    have hp : ps[i]? = some y := by
      rw [← S.pre, List.getElem?_take_of_lt (by omega)]; exact h1
    have ndP : ps.Nodup := by rw [← S.pre]; exact S.nd.sublist (List.take_sublist _ _)
    refine ⟨u, rv, ?_⟩
    rcases S.par y (List.mem_of_getElem? hp) with k | k
    · exact .inl ⟨k, bindL_get ndP hp hu k⟩
    · obtain ⟨c, e⟩ := cell_has (n := s.heap.objs.size + 1) k
      refine .inr ⟨.inl k, c, e, ?_⟩
      have q := x.cell y c e
      rw [bindC_get ndP hp hu (by show scope.names.lookup y ≠ _; rw [k]; decide)] at q
      exact q
  · exact e0.hok.fresh (Nat.le_of_lt (x.above y c (PySem.mem_of_lookup h)))
  · unfold start
    show _ = N.length
    rw [List.length_append, List.length_map, List.length_replicate]
    omega
theorem fn_of {CX : CXT} {P : Program} {w : World} {K : PySem.W.Frag} {mg : Str → Option Value} {base : Heap} {k : Nat} {f : Addr} {name qual : Str} {params : Arguments} {body : List Stmt} {scope : Scope} {dV kV doc pm cdv ct oc : Value} {an od : Option Addr}
    {osl : Array (Option Value)} {N ps : List Str} {sp : Sp} (lk : K.lookup f = some ⟨oc, od, .func (PySem.W.fnOf name qual params body scope dV kV doc pm an cdv ct), osl⟩) (hcd : PySem.W.codeIn K cdv qual = true) (S : FnScope N ps scope)
    (len : ∀ vs H Q E, sp vs H Q E → vs.length = ps.length)
    (hbody : ∀ (A : Around) (outer : List Env) (s : Shared) (H : Hp) (vs : List V) (Q : VK) (E : XK), Room k (A.deeper (envOfC qual scope s.heap.objs.size f cdv)) → sp vs H Q E →
      ∃ t, PSs (cxOf CX P w K mg base N qual scope f cdv A outer s H E) body t ∧ t { nx := fun _ H' => Q .non H', rt := Q } (start N vs) H) :
    FnOk P w K mg base CX (k + 1) f (PySem.W.fnOf name qual params body scope dV kV doc pm an cdv ct) ps sp := by
  refine ⟨len, fun A outer s H args us vs Q E hr e0 hb r hsp => ?_⟩
  have hl := len _ _ _ _ hsp
  have KX : K.In s.heap := e0.mod.kin.keeps fun b o e => (e0.bs b o e).1
  have lim : s.heap.NoLimit := e0.mod.nolimit.keeps fun b o e => (e0.bs b o e).1
  have hkind : ∀ y ∈ ps.zip us, scope.names.lookup y.1 = some .local ∨ (scope.names.lookup y.1 = some .cell ∧ ((cellsFrom (s.heap.objs.size + 1) scope.names []).lookup y.1).isSome = true) := fun ⟨n, v⟩ hy => by
    rcases S.par n (List.of_mem_zip hy).1 with q | q
    · exact .inl q
    · exact .inr ⟨q, PySem.W.cellsFrom_some _ _ _ (.inl q)⟩
  refine codeAny_call_function hr.depth (KX _ _ lk) rfl S.co S.gen rfl (PySem.W.codeRec_of KX hcd) (hb _ _ _ _ ?_)
  refine wpAny_newFunctionEnv_cells S.kind hkind fun env he s1 x => ?_
  subst he
  refine ⟨lim.keeps x.toInCall.keep, codeAny_func ?_⟩
  obtain ⟨t, ht, hq⟩ := hbody A outer s H vs Q E (hr.deeper _) hsp
  have I : Inv (cxOf CX P w K mg base N qual scope f cdv A outer s H E) [] (start N vs) H s1 := inv_start S hr.hd e0 hl r x
  refine wpAny_mono (ht [] s1 (start N vs) H _ I hq) (fun fl s' hs => ?_) fun e s' hs => hs
  have fin : ∀ {σ' : St} {H' : Hp} {v : V} {u : Value}, Inv (cxOf CX P w K mg base N qual scope f cdv A outer s H E) [] σ' H' s' → RelV v u → Q v H' → CE outer P w H s Q u s' :=
    fun {σ' H' v u} J rv q => ⟨v, H', J.os, J.bare, J.base, J.hok, rv, q⟩
  cases fl with
  | ret u =>
    obtain ⟨v, σ', H', J, rv, q⟩ := hs
    exact fin J rv q
  | next =>
    obtain ⟨σ', H', J, q⟩ := hs
    exact fin (v := V.non) (u := Value.none) J rfl q
  | brk =>
    obtain ⟨_, _, _, q⟩ := hs
    exact False.elim q
  | cont =>
    obtain ⟨_, _, _, q⟩ := hs
    exact False.elim q
end L2
namespace L2
open PySem PySem.Spec PyProof.Rows
section
variable {X : Cx} {x : Str} {p pos : Pos} {e : Expr} {es : List Expr} {t : TA} {id T : String} {r : List V → Hp → VK → Prop}
def tCB (r : List V → Hp → VK → Prop) (t : TA) : TE := fun σ H Q => t σ H fun vs H1 => r vs H1 Q
theorem pe_callB (hc : CallR X (.builtin id) r) (hg : Gl X x) (hm : X.mg x = none) (hv : bootBuiltins x = some (.builtin id)) (ha : PA X (e :: es) t) (hn : x ≠ "__name__" := by decide) (hdb : (x == ("__debug__" : Str)) = false := by decide)
    (he : starEach (e :: es) X.env = (false, eval e X.env) :: starEach es X.env := by rfl) (hpl : (backTo pos (starEach es X.env)).any (·.1) = false := by rfl) : PE X (.Call (.Name x p) (e :: es) [] pos) (tCB r t) := by
  intro pins s σ H Q I h
  refine wpAny_Call_Name_kw (ld_blt I hg hm hv ?_ hn hdb)
  exact PyProof.Rows.callWith_builtin1 (thn (ha pos pins s σ H _ I h) fun us s1 ⟨vs, H1, I1, r1, q1⟩ => hc pins s1 σ H1 vs us Q I1 r1 q1) he hpl
theorem pe_callTy (hc : CallR X (.type T) r) (hg : Gl X x) (hm : X.mg x = none) (hv : bootBuiltins x = some (.type T)) (ha : PA X (e :: es) t) (hn : x ≠ "__name__" := by decide) (hdb : (x == ("__debug__" : Str)) = false := by decide)
    (he : starEach (e :: es) X.env = (false, eval e X.env) :: starEach es X.env := by rfl) (hpl : (backTo pos (starEach es X.env)).any (·.1) = false := by rfl) : PE X (.Call (.Name x p) (e :: es) [] pos) (tCB r t) := by
  intro pins s σ H Q I h
  refine wpAny_Call_Name_kw (ld_blt I hg hm hv ?_ hn hdb)
  exact PyProof.Rows.callWith_type1 (thn (ha pos pins s σ H _ I h) fun us s1 ⟨vs, H1, I1, r1, q1⟩ => hc pins s1 σ H1 vs us Q I1 r1 q1) he hpl
end
end L2
namespace HT
open PySem PyProof.Rows
section
open PySem.SeqAt
open PySem.AutoSeq1 (wpAny_loadPart')
open PySem.MeetsSeq PySem.MeetsSeq2 PySem.MeetsSeq3
end
section
variable {prog : Program} {w : World} {A : Around} {E : Value → Shared → Prop} {s : Shared}
def sIx (n d : Nat) : Option Int → Nat
  | none => d
  | some v => if v < 0 then (v + (n : Int)).toNat else min v.toNat n
theorem sIx_none (n d : Nat) : sIx n d none = d := rfl
theorem sIx_nat (n d k : Nat) : sIx n d (some (k : Int)) = min k n := by
  show (if (k : Int) < 0 then ((k : Int) + (n : Int)).toNat else min (k : Int).toNat n) = min k n
  rw [if_neg (by omega), Int.toNat_natCast]
end
end HT
namespace L2
open PySem PySem.Spec PyProof.Rows
abbrev TO := St → Hp → (Option Int → Hp → Prop) → Prop
def PO (X : Cx) (e : Option Expr) (t : TO) : Prop :=
  ∀ (pins : List (Addr × Obj)) (s : Shared) (σ : St) (H : Hp) (Q : Option Int → Hp → Prop), Inv X pins σ H s → t σ H Q →
    wpAny (model X.prog X.w) X.A (evalPart e X.env) (fun u s' => ∃ o H', Inv X pins σ H' s' ∧ IsPart u o ∧ Q o H') X.xe s
def tNoPart : TO := fun _ H Q => Q none H
def tPart (t : TE) : TO := fun σ H Q => t σ H fun x H1 => ∃ i, x = .int i ∧ Q (some i) H1
section
variable {X : Cx} {e : Expr} {te : TE} {lo hi : Option Expr} {tl th : TO} {pos p2 : Pos}
theorem po_none : PO X none tNoPart := by
  intro pins s σ H Q I h
  rw [evalPart_none]
  exact wpAny_pure ⟨none, H, I, .none, h⟩
theorem po_some (h : PE X e te) : PO X (some e) (tPart te) := by
  intro pins s σ H Q I hw
  rw [evalPart_some]
  refine thn (h pins s σ H _ I hw) fun u s1 ⟨x, H1, I1, r1, q1⟩ => ?_
  obtain ⟨i, rfl, q⟩ := q1
  obtain ⟨t, rfl⟩ := r1
  exact ⟨some i, H1, I1, .int i t, q⟩
def SlR (X : Cx) (r : V → Option Int → Option Int → Hp → VK → Prop) : Prop :=
  ∀ (pins : List (Addr × Obj)) (s : Shared) (σ : St) (H : Hp) (x : V) (v vl vu : Value) (lo hi : Option Int) (sl : Addr) (Q : VK), Inv X pins σ H s → RelV x v → s.heap.IsSliceOf sl vl vu .none → IsPart vl lo → IsPart vu hi → r x lo hi H Q →
    ∃ T id, typeLookup (.type T) "__getitem__" = pure (some (.builtin id)) ∧ s.TypeIs v T ∧ wpAny (model X.prog X.w) X.A (getItem v (.ref sl)) (EP X pins σ Q) X.xe s
def tSl (r : V → Option Int → Option Int → Hp → VK → Prop) (te : TE) (tl th : TO) : TE := fun σ H Q => te σ H fun x H1 => tl σ H1 fun l H2 => th σ H2 fun u H3 => r x l u H3 Q
theorem pe_slice {r : V → Option Int → Option Int → Hp → VK → Prop} (hr : SlR X r) (he : PE X e te) (hl : PO X lo tl) (hu : PO X hi th) : PE X (.Subscript e (.Slice lo hi none p2) pos) (tSl r te tl th) := by
  intro pins s σ H Q I h
  refine Subscript_ (thn (he pins s σ H _ I h) fun v s1 ⟨x, H1, I1, r1, q1⟩ => ?_)
  refine wpAny_Slice (thn (hl pins s1 σ H1 _ I1 q1) fun vl s2 ⟨l, H2, I2, pl, q2⟩ => thn (hu pins s2 σ H2 _ I2 q2) fun vu s3 ⟨u, H3, I3, pu, q3⟩ => ?_)
  rw [evalPart_none]
  refine wpAny_pure ?_
  have I4 : Inv X pins σ H3 { s3 with heap := s3.heap.push { cls := .type "slice", data := .fields #[vl, vu, .none] } } := I3.kept (t' := s3.toks) fun b ob q => Heap.get?_push_of_some _ q
  obtain ⟨T, id, hT, ht, hg⟩ := hr pins { s3 with heap := s3.heap.push { cls := .type "slice", data := .fields #[vl, vu, .none] } } σ H3 x v vl vu l u s3.heap.objs.size Q I4 r1 (Heap.IsSliceOf.new ..) pl pu q3
  show wpAny (model X.prog X.w) X.A (subscriptTail e (.Slice lo hi none p2) v (.ref s3.heap.objs.size)) (EP X pins σ Q) X.xe { s3 with heap := s3.heap.push { cls := .type "slice", data := .fields #[vl, vu, .none] } }
  exact tail_any (ops := [.ref s3.heap.objs.size, v]) ht hT hg (by with_unfolding_all rfl)
def cutV (xs : List V) (lo hi : Option Int) : List V := (xs.drop (HT.sIx xs.length 0 lo)).take (HT.sIx xs.length xs.length hi - HT.sIx xs.length 0 lo)
theorem cutV_length (xs : List V) (lo hi : Option Int) : (cutV xs lo hi).length ≤ xs.length := by
  unfold cutV
  rw [List.length_take, List.length_drop]
  omega
end
end L2
namespace L2
open PySem PySem.Spec PyProof.Rows
def ixN (n : Nat) (i : Int) : Option Nat := if 0 ≤ i then (if i < n then some i.toNat else none) else if -(n : Int) ≤ i then some (i + n).toNat else none
def atI {α : Type} (xs : List α) (i : Int) : Option α := (ixN xs.length i).bind fun j => xs[j]?
theorem ixN_seq {n : Nat} {i : Int} {j : Nat} (h : ixN n i = some j) : seqIndex? i n = some j ∧ j < n ∧ -(n : Int) ≤ i ∧ i < n := by
  unfold ixN at h
  by_cases h0 : 0 ≤ i
  · rw [if_pos h0] at h
    by_cases h1 : i < n
    · rw [if_pos h1] at h
      have e : i.toNat = j := Option.some.inj h
      exact ⟨by rw [seqIndex_of h0 h1, e], by omega, by omega, h1⟩
    · rw [if_neg h1] at h; cases h
  · rw [if_neg h0] at h
    by_cases h1 : -(n : Int) ≤ i
    · rw [if_pos h1] at h
      have e : (i + n).toNat = j := Option.some.inj h
      exact ⟨by rw [seqIndex_neg (by omega) h1, e], by omega, h1, by omega⟩
    · rw [if_neg h1] at h; cases h
theorem atI_get {α : Type} {xs : List α} {i : Int} {v : α} (h : atI xs i = some v) : ∃ j, seqIndex? i xs.length = some j ∧ xs[j]? = some v ∧ j < xs.length ∧ -(xs.length : Int) ≤ i ∧ i < xs.length := by
  unfold atI at h
  cases e : ixN xs.length i with
  | none => rw [e] at h; cases h
  | some j =>
    rw [e] at h
    obtain ⟨h1, h2, h3, h4⟩ := ixN_seq e
    exact ⟨j, h1, h, h2, h3, h4⟩
theorem atI_nat {α : Type} {xs : List α} {j : Nat} {v : α} (h : xs[j]? = some v) : atI xs (j : Int) = some v := by
  have hj : j < xs.length := (List.getElem?_eq_some_iff.mp h).1
  have e : ixN xs.length (j : Int) = some j := by
    unfold ixN
    rw [if_pos (by omega), if_pos (by omega)]; simp
  unfold atI; rw [e]; exact h
theorem atI_last {α : Type} (xs : List α) (v : α) : atI (xs ++ [v]) (-1) = some v := by
  have hl : (xs ++ [v]).length = xs.length + 1 := by simp
  have e : ixN (xs ++ [v]).length (-1) = some xs.length := by
    unfold ixN
    rw [hl, if_neg (by decide), if_pos (by omega)]
    congr 1
    omega
  unfold atI
  rw [e]
  show (xs ++ [v])[xs.length]? = some v
  simp
def PlainIx (b : Expr) : Prop := ∀ o i, subscripted b false o i = operate [o, i] (getItem o i)
def IxR (X : Cx) (r : R2) : Prop :=
  ∀ (value slice : Expr) (pins : List (Addr × Obj)) (s : Shared) (σ : St) (H : Hp) (x y : V) (v u : Value) (Q : VK), Inv X pins σ H s → RelV x v → RelV y u → r x y H Q →
    subscripted slice false v u = operate [v, u] (getItem v u) → wpAny (model X.prog X.w) X.A (subscriptTail value slice v u) (EP X pins σ Q) X.xe s
def MtR (X : Cx) (id : String) (r : V → List V → Hp → VK → Prop) : Prop :=
  ∀ (pins : List (Addr × Obj)) (s : Shared) (σ : St) (H : Hp) (x : V) (xs : List V) (v : Value) (us : List Value) (Q : VK), Inv X pins σ H s → RelV x v → Vals xs us → r x xs H Q →
    wpAny (model X.prog X.w) X.A (call (.builtin id) (v :: us)) (EP X pins σ Q) X.xe s
section
variable {X : Cx} {a b : Expr} {ta tb : TE} {pos : Pos}
theorem pe_ix {r : R2} (hr : IxR X r) (ha : PE X a ta) (hb : PE X b tb) (hs : PlainIx b) : PE X (.Subscript a b pos) (tOp r ta tb) := by
  intro pins s σ H Q I h
  exact Subscript_ (binT ha hb I h fun v u s2 x y H2 I2 rx ry q => hr a b pins s2 σ H2 x y v u Q I2 rx ry q (hs _ _))
def rIxL (K : PySem.W.Frag) : R2 := fun x y H Q => ∃ p xs i v, x = .ref p ∧ y = .int i ∧ SqL K H p xs ∧ atI xs i = some v ∧ Q v H
def rIxT (K : PySem.W.Frag) : R2 := fun x y H Q => ∃ p xs i v, x = .ref p ∧ y = .int i ∧ SqT K H p xs ∧ atI xs i = some v ∧ Q v H
def rIxS : R2 := fun x y H Q => ∃ z i c, x = .str z ∧ y = .int i ∧ z.length ≤ sizeLine ∧ atI z.cps.toList i = some c ∧ Q (.str ⟨#[c]⟩) H
theorem ix_list : IxR X (rIxL X.K) := by
  intro value slice pins s σ H x y v u Q I rx ry h hs
  obtain ⟨p, xs, i, z, rfl, rfl, hq, he, q⟩ := h
  cases rx
  obtain ⟨t, rfl⟩ := ry
  obtain ⟨its, r, pl, hz⟩ := I.list hq
  obtain ⟨j, h1, h2, h3, h4, h5⟩ := atI_get he
  obtain ⟨w, ew, rw'⟩ := r.get h2
  have hl := r.length
  have hn := line63
  have fin : EP X pins σ Q w s := ⟨z, H, I, rw', q⟩
  by_cases h0 : 0 ≤ i
  · have hj : i.toNat = j := by
      rw [seqIndex_of h0 h5] at h1
      exact Option.some.inj h1
    exact item_listR pl.isList h0 (by omega) (by rw [hj]; simpa using ew) fin hs
  · have hj : (i + (its.toArray.size : Int)).toNat = j := by
      rw [seqIndex_neg (by omega) h4] at h1
      rw [List.size_toArray, ← hl]
      exact Option.some.inj h1
    exact subscriptTail_builtinR (x := w) pl.isList.typeIs slot_list_getitem.lookup
      (wpAny_getItem_list_neg (Q := fun r s' => r = w ∧ EP X pins σ Q r s') pl.isList (by omega) (by rw [List.size_toArray] <;> omega) (by omega) (by rw [hj]; simpa using ew) ⟨rfl, fin⟩) hs
theorem ix_tup : IxR X (rIxT X.K) := by
  intro value slice pins s σ H x y v u Q I rx ry h hs
  obtain ⟨p, xs, i, z, rfl, rfl, hq, he, q⟩ := h
  cases rx
  obtain ⟨t, rfl⟩ := ry
  obtain ⟨its, r, pl, hz⟩ := I.tuple hq
  obtain ⟨j, h1, h2, h3, h4, h5⟩ := atI_get he
  obtain ⟨w, ew, rw'⟩ := r.get h2
  have hl := r.length
  have hn := line63
  have fin : EP X pins σ Q w s := ⟨z, H, I, rw', q⟩
  exact subscriptTail_builtinR (x := w) pl.typeIs slot_tuple_getitem.lookup
    (getItem_tuple (j := j) (Q := fun r s' => r = w ∧ EP X pins σ Q r s') pl (by omega) (by omega) (by rw [List.size_toArray, ← hl]; exact h1) (by simpa using ew) ⟨rfl, fin⟩) hs
theorem ix_str : IxR X rIxS := by
  intro value slice pins s σ H x y v u Q I rx ry h hs
  obtain ⟨z, i, c, rfl, rfl, hz, he, q⟩ := h
  obtain ⟨t, rfl⟩ := rx
  obtain ⟨t', rfl⟩ := ry
  obtain ⟨j, h1, h2, h3, h4, h5⟩ := atI_get he
  have hl : z.cps.toList.length = z.length := by simp [Str.length]
  rw [hl] at h1 h4 h5
  have hn := line63
  exact tail_any (typeIs_str s z t) slot_str_getitem.lookup (getItem_str (c := c) (by
    have e1 : decide (i < -(2 ^ 63 : Int)) = false := decide_eq_false (by omega)
    have e2 : decide (i ≥ 2 ^ 63) = false := decide_eq_false (by omega)
    rw [e1, e2, Bool.or_false]) (by rw [h1]; simpa using h2) ⟨.str ⟨#[c]⟩, H, I.tok _, ⟨_, rfl⟩, q⟩) hs
theorem Inv.lst {pins : List (Addr × Obj)} {σ : St} {H : Hp} {s : Shared} {p : Addr} {xs : List V} (I : Inv X pins σ H s) (h : H p = some (.lst xs)) :
    ∃ (its : List Value) (n : Nat), Vals xs its ∧ s.heap.get? p = some { cls := .type "list", data := .seq its.toArray n } ∧ xs.length ≤ sizeLine := by
  obtain ⟨z, its, n, r, e⟩ := I.hok p _ h
  exact ⟨its, n, r, e, z⟩
def rSetL : V → V → V → Hp → (Hp → Prop) → Prop := fun o i v H Q => ∃ p xs k j, o = .ref p ∧ i = .int k ∧ H p = some (.lst xs) ∧ ixN xs.length k = some j ∧ Q (upd H p (.lst (xs.set j v)))
theorem slice_bounds (lo hi : Option Int) (n : Nat) : (sliceBounds lo hi none n).1 = ((HT.sIx n 0 lo : Nat) : Int) ∧ (sliceBounds lo hi none n).2.1 = ((HT.sIx n n hi : Nat) : Int) ∧ (sliceBounds lo hi none n).2.2 = 1 := by
  refine ⟨?_, ?_, rfl⟩
  · cases lo with
    | none => simp [sliceBounds, HT.sIx]
    | some i =>
      simp only [sliceBounds, HT.sIx, Option.getD_none, show (1 : Int) > 0 by decide, if_true]
      by_cases h : i < 0
      · simp only [h, if_true] <;> omega
      · simp only [h, if_false] <;> omega
  · cases hi with
    | none => simp [sliceBounds, HT.sIx]
    | some i =>
      simp only [sliceBounds, HT.sIx, Option.getD_none, show (1 : Int) > 0 by decide, if_true]
      by_cases h : i < 0
      · simp only [h, if_true] <;> omega
      · simp only [h, if_false] <;> omega
theorem slicePick_cut (its : List Value) (lo hi : Option Int) : slicePick its.toArray lo hi none = ((its.drop (HT.sIx its.length 0 lo)).take (HT.sIx its.length its.length hi - HT.sIx its.length 0 lo)).toArray := by
  obtain ⟨h1, h2, h3⟩ := slice_bounds lo hi its.toArray.size
  unfold slicePick
  rw [h1, h2, h3]
  simp only [sliceRange_one, pick_run, List.size_toArray] <;> rfl
def rSlL (K : PySem.W.Frag) : V → Option Int → Option Int → Hp → VK → Prop := fun x lo hi H Q => ∃ a xs, x = .ref a ∧ SqL K H a xs ∧ ∀ p, H p = none → Q (.ref p) (upd H p (.lst (cutV xs lo hi)))
theorem sl_list : SlR X (rSlL X.K) := by
  intro pins s σ H x v vl vu lo hi sl Q I rx hs pl pu h
  obtain ⟨a, xs, rfl, hx, q⟩ := h
  cases rx
  obtain ⟨its, r, ht, hz⟩ := I.list hx
  have hlen := r.length
  refine ⟨"list", _, slot_list_getitem.lookup, ht.isList.typeIs, ?_⟩
  refine wpAny_getItem_list_slice ht.isList hs pl pu .none (by simp) ?_ (by rw [List.size_toArray] <;> omega)
  rw [slicePick_cut, ← hlen]
  refine ⟨.ref s.heap.objs.size, _, I.laid (t' := s.toks) (o := .lst (cutV xs lo hi)) (fun b ob q => Heap.get?_push_of_some _ q) (Nat.le_refl _) ?_, rfl, q _ (I.hok.fresh (Nat.le_refl _))⟩
  exact ⟨Nat.le_trans (cutV_length xs lo hi) hz, _, 0, (r.drop (HT.sIx xs.length 0 lo)).take (HT.sIx xs.length xs.length hi - HT.sIx xs.length 0 lo), Heap.get?_push_size _ rfl⟩
theorem call_len_seq : CallR X (.builtin "len") (fun xs H Q => ∃ p ys, xs = [.ref p] ∧ (SqL X.K H p ys ∨ SqT X.K H p ys) ∧ Q (.int ys.length) H) := by
  intro pins s σ H xs us Q I r h
  obtain ⟨p, ys, rfl, hq, q⟩ := h
  obtain ⟨u, rfl, rx⟩ := vals1 r
  cases rx
  have hn := line63
  rcases hq with hq | hq
  · obtain ⟨its, r', pl, hz⟩ := I.list hq
    have hlen := r'.length
    exact Calls.call_len_list pl.isList (by simp only [List.size_toArray] <;> omega) ⟨.int ys.length, H, I.tok _, ⟨s.toks + 1, by rw [List.size_toArray, hlen]⟩, q⟩
  · obtain ⟨its, r', pl, hz⟩ := I.tuple hq
    have hlen := r'.length
    exact len_tuple pl (by simp only [List.size_toArray] <;> omega) ⟨.int ys.length, H, I.tok _, ⟨s.toks + 1, by rw [List.size_toArray, hlen]⟩, q⟩
theorem call_len_str : CallR X (.builtin "len") (fun xs H Q => ∃ z, xs = [.str z] ∧ z.length ≤ sizeLine ∧ Q (.int z.length) H) := by
  intro pins s σ H xs us Q I r h
  obtain ⟨z, rfl, hz, q⟩ := h
  obtain ⟨u, rfl, t, rfl⟩ := vals1 r
  have hn := line63
  exact len_str (by omega) ⟨.int z.length, H, I.tok _, ⟨_, rfl⟩, q⟩
theorem call_tuple_of : CallR X (.type "tuple") (fun xs H Q => ∃ p ys, xs = [.ref p] ∧ ((SqL X.K H p ys ∧ ∀ l, H l = none → Q (.ref l) (upd H l (.tup ys))) ∨ (SqT X.K H p ys ∧ Q (.ref p) H))) := by
  intro pins s σ H xs us Q I r h
  obtain ⟨p, ys, rfl, h⟩ := h
  obtain ⟨u, rfl, rx⟩ := vals1 r
  cases rx
  rcases h with ⟨hq, q⟩ | ⟨hq, q⟩
  · obtain ⟨its, r', pl, hz⟩ := I.list hq
    have hlen := r'.length
    refine call_tuple_list pl.isList (fun h' kp => ?_) (by simp only [List.size_toArray] <;> omega)
    have I1 : Inv X pins σ H { s with heap := h' } := I.kept (t' := s.toks) kp
    have I2 : Inv X pins σ (upd H h'.objs.size (.tup ys)) { s with heap := h'.push { cls := .type "tuple", data := .seq its.toArray } } :=
      I1.laid (t' := s.toks) (fun b o e => Heap.get?_push_of_some _ e) (Nat.le_refl _) (show ObjOk X.prog X.w _ _ _ (.tup ys) from ⟨hz, its, r', IsTup.new _ _⟩)
    exact ⟨.ref h'.objs.size, _, I2, rfl, q _ (I1.hok.fresh (Nat.le_refl _))⟩
  · obtain ⟨its, r', pl, hz⟩ := I.tuple hq
    exact call_tuple_same pl ⟨.ref p, H, I, rfl, q⟩
def tyV (K : PySem.W.Frag) (T : String) (x : V) (H : Hp) : Prop := match x with
  | .str _ => T = "str"
  | .int _ => T = "int"
  | .ref p => (T = "list" ∧ ∃ xs, SqL K H p xs) ∨ (T = "tuple" ∧ ∃ o, K.lookup p = some o ∧ o.cls = .type "tuple" ∧ o.dict = none) ∨
      (T = "dict" ∧ ((∃ kvs, H p = some (.dK kvs)) ∨ ∃ kvs, H p = some (.dT kvs))) ∨ (T = "set" ∧ ∃ S n, H p = some (.set S n))
  | _ => False
theorem tyV_is {pins : List (Addr × Obj)} {σ : St} {H : Hp} {s : Shared} {T : String} {x : V} {v : Value} (I : Inv X pins σ H s) (r : RelV x v) (ty : tyV X.K T x H) :
    s.TypeIs v T ∧ ∀ a, v = .ref a → ∃ ob, s.heap.get? a = some ob ∧ ob.dict = none := by
  cases x with
  | str z =>
    obtain ⟨t, rfl⟩ := r
    cases (show T = "str" from ty)
    exact ⟨typeIs_str s z t, fun _ e => nomatch e⟩
  | int i =>
    obtain ⟨t, rfl⟩ := r
    cases (show T = "int" from ty)
    exact ⟨typeIs_int s i t, fun _ e => nomatch e⟩
  | ref p =>
    cases r
    rcases ty with ⟨rfl, xs, hq⟩ | ⟨rfl, o, hk, hc, hd⟩ | ⟨rfl, hk⟩ | ⟨rfl, S, n, hk⟩
    · obtain ⟨its, _, pl, _⟩ := I.list hq
      refine ⟨pl.isList.typeIs, fun a e => ?_⟩
      cases e
      obtain ⟨o, n, e, c, hd, _⟩ := pl
      exact ⟨o, e, hd⟩
    · refine ⟨⟨o, I.kIn p o hk, hc⟩, fun a e => ?_⟩
      cases e
      exact ⟨o, I.kIn _ o hk, hd⟩
    · have z : ∃ o, s.heap.get? p = some o ∧ o.ExactDict := by
        rcases hk with ⟨kvs, hk⟩ | ⟨kvs, hk⟩
        · obtain ⟨_, _, _, _, o, _, _, e, ex, _⟩ := I.hok p _ hk
          exact ⟨o, e, ex⟩
        · obtain ⟨_, _, _, _, o, _, _, e, ex, _⟩ := I.hok p _ hk
          exact ⟨o, e, ex⟩
      obtain ⟨o, e, ex⟩ := z
      refine ⟨⟨o, e, ex.1⟩, fun a e2 => ?_⟩
      cases e2
      exact ⟨o, e, ex.2.1⟩
    · obtain ⟨o, _, _, _, e, ex, _⟩ := I.hok p _ hk
      refine ⟨⟨o, e, ex.1⟩, fun a e2 => ?_⟩
      cases e2
      exact ⟨o, e, ex.2.1⟩
  | _ => exact False.elim ty
def tBM0 (K : PySem.W.Frag) (T : String) (r : V → List V → Hp → VK → Prop) (to : TE) : TE := fun σ H Q => to σ H fun x H1 => tyV K T x H1 ∧ r x [] H1 Q
def tBM (K : PySem.W.Frag) (T : String) (r : V → List V → Hp → VK → Prop) (to : TE) (t : TA) : TE := fun σ H Q => to σ H fun x H1 => tyV K T x H1 ∧ t σ H1 fun xs H2 => r x xs H2 Q
variable {o e : Expr} {es : List Expr} {to : TE} {t : TA} {name : Str} {apos cpos : Pos} {T id : String} {r : V → List V → Hp → VK → Prop}
theorem pe_bm (pa : PlainAttrs T) (slot : Slot T name id) (hty : typeOf (.builtin id) = pure (.type "method_descriptor")) (hm : MtR X id r) (ho : PE X o to) (ha : PA X (e :: es) t)
    (hbase : attributeBase o name X.env (eval o X.env) = eval o X.env := by rfl)
    (hfew : ((backTo cpos (starEach (e :: es) X.env)).all (fun x => !x.1) && (backToKw cpos (keywordEach [] X.env)).all (fun x => x.1.isSome)
      && decide ((e :: es).length + ([] : List Keyword).length + (if ([] : List Keyword).isEmpty then 0 else 1) < 30)) = true := by rfl)
    (hline : (apos.endLine == cpos.line) = true := by rfl) (hs : starEach (e :: es) X.env = (false, eval e X.env) :: starEach es X.env := by rfl) (hplain : (backTo cpos (starEach es X.env)).any (·.1) = false := by rfl) :
    PE X (.Call (.Attribute o name apos) (e :: es) [] cpos) (tBM X.K T r to t) := by
  intro pins s σ H Q I h
  refine wpAny_Call_method_late hbase hfew hline rfl (thn (ho pins s σ H _ I h) fun v s1 ⟨x, H1, I1, r1, ty, q1⟩ => ?_)
  obtain ⟨h1, h2⟩ := tyV_is I1 r1 ty
  refine ⟨T, id, pa, slot, hty, h1, h2, ?_⟩
  have hA := ha cpos pins s1 σ H1 _ I1 q1
  rw [hs] at hA ⊢
  refine Calls.callWith_builtin (by show (false || (backTo cpos (starEach es X.env)).any (·.1)) = false; rw [hplain] <;> rfl) (Calls.evalArgs_plain ?_)
  exact thn hA fun us s2 ⟨vs, H2, I2, r2, q2⟩ => hm pins s2 σ H2 x vs v us Q I2 r1 r2 q2
end
end L2
namespace L2
open PySem PySem.Spec PyProof.Rows
def MtM (X : Cx) (id : String) (r : V → List V → Hp → VK → Prop) : Prop :=
  ∀ (pins : List (Addr × Obj)) (s : Shared) (σ : St) (H : Hp) (x : V) (xs : List V) (v : Value) (us : List Value) (Q : VK), Inv X pins σ H s → RelV x v → Vals xs us → r x xs H Q →
    wpAny (model X.prog X.w) X.A (call (.builtin id) (v :: us)) (EP X pins σ Q) X.xe s
theorem Vals.one : ∀ {x : V} {us : List Value}, Vals [x] us → ∃ u, us = [u] ∧ RelV x u
  | _, _, .cons r .nil => ⟨_, rfl, r⟩
theorem Vals.zero : ∀ {us : List Value}, Vals [] us → us = []
  | _, .nil => rfl
theorem Vals.dropLast {xs : List V} {us : List Value} (h : Vals xs us) : Vals xs.dropLast us.dropLast := by
  induction h with
  | nil => exact .nil
  | cons r t ih =>
    cases t with
    | nil => exact .nil
    | cons q t' => exact .cons r ih
section
variable {X : Cx} {pins : List (Addr × Obj)} {σ : St} {H : Hp} {s : Shared} {l b : Addr} {xs ys zs : List V}
theorem Inv.lset {its its' : List Value} {n : Nat} {f : Array Value → Array Value} {t' : Nat} (I : Inv X pins σ H s) (hH : H l = some (.lst xs))
    (e : s.heap.get? l = some { cls := .type "list", data := .seq its.toArray n }) (hf : f its.toArray = its'.toArray) (hv : Vals ys its') (hz : ys.length ≤ sizeLine) :
    Inv X pins σ (upd H l (.lst ys)) { s with heap := s.heap.update l (Obj.mapSeq f), toks := t' } := by
  have q := PySem.IsL.update e f
  rw [hf] at q
  refine I.write (x := l) (e := l) (by rw [hH]; exact trivial) (.inl rfl) (fun b' u hb hu => (Heap.get?_update_other s.heap (Obj.mapSeq f) (Ne.symm hb)).trans hu) ⟨_, q⟩ ?_
  exact ⟨hz, its', _, hv, q⟩
theorem Inv.lnew {its : List Value} {t' : Nat} (I : Inv X pins σ H s) (hv : Vals ys its) (hz : ys.length ≤ sizeLine) :
    Inv X pins σ (upd H s.heap.objs.size (.lst ys)) { s with heap := s.heap.push { cls := .type "list", data := .seq its.toArray }, toks := t' } :=
  I.laid (fun _ _ q => Heap.get?_push_of_some _ q) (Nat.le_refl _) ⟨hz, its, 0, hv, Heap.get?_push_size _ rfl⟩
theorem Inv.fresh (I : Inv X pins σ H s) : H s.heap.objs.size = none := I.hok.fresh (Nat.le_refl _)
theorem Inv.lstM (I : Inv X pins σ H s) (hH : H l = some (.lst xs)) : xs.length ≤ sizeLine ∧ ∃ (its : List Value) (n : Nat), Vals xs its ∧ xs.length = its.length ∧ s.heap.get? l = some { cls := .type "list", data := .seq its.toArray n } := by
  obtain ⟨z, its, n, r, e⟩ := I.hok l _ hH
  exact ⟨z, its, n, r, r.length, e⟩
theorem notLongL {n : Nat} (h : n ≤ sizeLine) : Builtin.List.listTooLong n = false := by
  unfold Builtin.List.listTooLong
  exact decide_eq_false (by omega)
end
section
variable {X : Cx}
def rAppend : V → List V → Hp → VK → Prop := fun x vs H Q => ∃ l xs y, x = .ref l ∧ vs = [y] ∧ H l = some (.lst xs) ∧ xs.length < sizeLine ∧ Q .non (upd H l (.lst (xs ++ [y])))
theorem mt_append : MtM X "list.append" rAppend := by
  intro pins s σ H x vs v us Q I rx rv h
  obtain ⟨l, xs, y, rfl, rfl, hH, hz, q⟩ := h
  cases rx
  obtain ⟨u, rfl, ru⟩ := rv.one
  obtain ⟨z, its, n, r, hl, e⟩ := I.lstM hH
  refine call_meets F.slot_list_append ⟨_, e, rfl⟩ F.entry_list_append (F.args_list_append_2 _ _) (PySem.list_append l its.toArray n u (by rw [List.size_toArray]; omega)) ⟨e, ?_⟩
  refine ⟨.non, _, I.lset (its' := its ++ [u]) hH e (by simp) (r.append (.cons ru .nil)) ?_, rfl, q⟩
  rw [List.length_append, List.length_singleton]
  omega
def rExtend : V → List V → Hp → VK → Prop := fun x vs H Q => ∃ l b xs zs, x = .ref l ∧ vs = [.ref b] ∧ H l = some (.lst xs) ∧ H b = some (.lst zs) ∧ xs.length + zs.length ≤ sizeLine ∧ Q .non (upd H l (.lst (xs ++ zs)))
theorem mt_extend : MtM X "list.extend" rExtend := by
  intro pins s σ H x vs v us Q I rx rv h
  obtain ⟨l, b, xs, zs, rfl, rfl, hH, hB, hz, q⟩ := h
  cases rx
  obtain ⟨u, rfl, ru⟩ := rv.one
  cases ru
  obtain ⟨z, its, n, r, hl, e⟩ := I.lstM hH
  obtain ⟨z2, its2, n2, r2, hl2, e2⟩ := I.lstM hB
  have hsz : its.toArray.size + its2.toArray.size ≤ sizeLine := by rw [List.size_toArray, List.size_toArray]; omega
  have hlong : ¬ (!its.toArray.isEmpty && Builtin.List.listTooLong (its.toArray.size + its2.toArray.size)) = true := by
    rw [notLongL hsz, Bool.and_false]
    exact Bool.false_ne_true
  refine call_meets F.slot_list_extend ⟨_, e, rfl⟩ F.entry_list_extend (F.args_list_extend_2 _ _)
    (AutoSeq1.list_extend_list_list_0 l its.toArray n b its2.toArray n2 hlong (by rw [List.size_toArray]; omega) (by omega)) ⟨e, e2, ?_⟩
  refine ⟨.non, _, I.lset (its' := its ++ its2) hH e (by simp) (r.append r2) ?_, rfl, q⟩
  rw [List.length_append]
  omega
end
section
variable {prog : Program} {w : World} {A : Around} {E : Value → Shared → Prop} {s : Shared}
set_option maxRecDepth 100000 in
end
section
variable {X : Cx}
end
end L2
namespace Att
open PySem PySem.W PySem.Calls PyProof.Rows
theorem ints_of_wellAll {P : Params} {h : Heap} : ∀ (ns : List Int) (vs : List Value), WellAll P h vs (ns.map WData.int) → IntsAre vs ns := by
  intro ns
  induction ns with
  | nil =>
    intro vs w
    rw [List.map_nil] at w
    cases w
    exact .nil
  | cons n ns ih =>
    intro vs w
    rw [List.map_cons] at w
    cases w with
    | cons a b =>
      cases a
      exact .cons _ _ (ih _ b)
theorem script_of {l : OpenLaw} {n : Nat} (hn : l.most = some n) {P : Params} {h : Heap} {args : List WData} {vals : List Value}
    (hpre : l.row.toRowW.claim.pre args = true) (hwl : WellAll P h vals args) :
    ∃ a vs ns, vals = [Value.ref a] ∧ args = [WData.list (ns.map WData.int)] ∧ h.get? a = some { cls := .type "list", data := .seq vs.toArray } ∧ IntsAre vs ns ∧ ns.length ≤ n := by
  have hsh : WShape.hasAll [] args [.list .int] = true := (pre_splitW hpre).1
  have hc : l.pre.holds [] { args := args } = true := (pre_splitW hpre).2
  obtain ⟨d, r, rfl, h1, h2⟩ := hasAllW_cons hsh
  obtain rfl := hasAllW_nil h2
  obtain ⟨xs, rfl, h3⟩ := hasW_list h1
  obtain ⟨ns, rfl⟩ := items_int h3
  have hlen : ns.length ≤ n := by
    unfold OpenLaw.pre at hc
    have h4 : (WTm.not (.lt (.lit (.int (n : Int))) (.len (.arg 0)))).holds [] { args := [.list (ns.map .int)] } = true := by
      have h4 := (holds_andW hc).1
      rw [hn] at h4
      exact h4
    have h5 := condW_of h4 (w_not (w_lt w_lit (w_len_list (w_arg rfl))))
    rw [List.length_map] at h5
    refine Nat.le_of_not_lt fun q => ?_
    have q' : (n : Int) < ((ns.length : Nat) : Int) := by omega
    first
      | (rw [decide_eq_true q'] at h5; exact absurd h5 (by decide))
      | (simp at h5; omega)
  cases hwl with
  | cons w1 w2 =>
    cases w2
    cases w1 with
    | list ho hall => exact ⟨_, _, ns, rfl, rfl, ho, ints_of_wellAll ns _ hall, hlen⟩
theorem post_true (l : OpenLaw) (args : List WData) : l.row.toRowW.claim.post args (.bool true) args = true :=
  postW_of (r := l.row.toRowW) (X := (true == true))
    (show WShape.has [] (.bool true) .bool = true by first | rfl | decide | simp [WShape.has, WShape.arms, WShape.armsAll])
    (show (WTm.eq .res (.lit (.bool true))).value [] { args := args, res := some (.bool true), after := args } = some (.bool (true == true)) from w_eq_bool (w_res rfl) w_lit) rfl
theorem attach_call {l : OpenLaw} {n : Nat} {q : Program} {loose : List Str} {XP : (Str → Option Value) → Heap → Prop} {YP : World → Heap → Prop} {d : DefRec}
    (hn : l.most = some n) (hdf : d.params.defaults = [])
    (call : ∀ (w : World) (s₀ s₁ : Shared) (mg mb : Str → Option Value) (fa : Addr) (o : Obj) (pm cd doc : Value) (a : Addr) (vs : List Value) (ns : List Int),
      Ground q loose [] XP w s₀ mg mb s₁.heap → YP w s₁.heap →
      s₁.heap.get? fa = some o → o.data = .func (docDef d.name d.params d.body d.scope pm cd doc) → s₁.heap.CodeRec cd d.name → mg d.name = some (.ref fa) →
      s₁.heap.get? a = some { cls := .type "list", data := .seq vs.toArray } → IntsAre vs ns → ns.length ≤ n → s₁.gens = #[] →
      codeAny (model l.prog w) callerA (.call (.ref fa) ⟨[.ref a], []⟩) (fun r s' => r = .ok (.ret (.bool true)) ∧ OldK s₁.heap s'.heap ∧ s'.os = s₁.os ∧ AllBare s'.gens) s₁) :
    WalkO q loose XP YP l.row.toRowW d [] (fun f vs => PySem.call f vs) := by
  intro w s₀ s₁ mg mb G Y fa o pm cd doc dV kV ho hd hcd hD hmg hg args vals as hpre hlay hrd hwl hlo
  obtain rfl : dV = .none := Dflts.none hD hdf
  obtain rfl : kV = .none := Dflts.noKw hD
  obtain ⟨a, vs, ns, rfl, rfl, hobj, hints, hlen⟩ := script_of hn hpre hwl
  refine enter_call (codeAny_mono (call w s₀ s₁ mg mb fa o pm cd doc a vs ns G Y ho (fd_plain hd) hcd hmg hobj hints hlen hg) fun r s' hq => ?_)
  obtain ⟨rfl, h2, h3, h4⟩ := hq
  exact ⟨.inl ⟨.bool true, .bool true, [], rfl, fun _ => rfl, .bool true, post_true l _, fun _ => ⟨List.Pairwise.nil, fun _ hm => (nomatch hm)⟩⟩, h2, h3, h4⟩
section
variable {prog : Program} {w : World} {A : Around} {E : Value → Shared → Prop} {s : Shared} {K : Frag}
end
end Att
namespace L2
open PySem PySem.Spec PyProof.Rows
theorem vals_ints : ∀ {vs : List Value} {ns : List Int}, IntsAre vs ns → Vals (ns.map V.int) vs
  | _, _, .nil => .nil
  | _, _, .cons n t h => .cons ⟨t, rfl⟩ (vals_ints h)
def Only (H : Hp) : Prop := ∀ b, H b = none ∨ ∃ o xs, H b = some (.frz o (.lst xs))
theorem law_call {P : Program} {w : World} {K : PySem.W.Frag} {mg mb : Str → Option Value} {CX : CXT} {k : Nat} {fa a : Addr} {fd : FuncData} {x : Str} {sp : Sp} {s₁ : Shared} {vs : List Value} {ns : List Int}
    (KX : K.In s₁.heap) (hns : s₁.heap.Ns mainGlobals mg) (hb : s₁.heap.Ns builtinsNs mb) (hbb : ∀ x : Str, x ≠ "__name__" → mb x = bootBuiltins x) (hlim : s₁.heap.NoLimit) (hg : s₁.gens = #[])
    (ha : s₁.heap.get? a = some { cls := .type "list", data := .seq vs.toArray }) (hi : IntsAre vs ns) (hl : ns.length ≤ sizeLine) (hr : Room k callerA)
    (F : ∀ base : Heap, K.In base → base.Ns mainGlobals mg → FnOk P w K mg base CX k fa fd [x] sp) (hbind : ∀ (s : Shared) (u : Value), BindsTo s fd ⟨[u], []⟩ [(x, u)])
    (hsp : ∀ H : Hp, Only H → SqL K H a (ns.map V.int) → sp [.ref a] H (fun v _ => v = .bl true) fun _ _ _ => False)
    (hCX : ∀ H e s', CX [] H s₁ (fun _ _ _ => False) e s' → False) :
    codeAny (model P w) callerA (.call (.ref fa) ⟨[.ref a], []⟩) (fun r s' => r = .ok (.ret (.bool true)) ∧ OldK s₁.heap s'.heap ∧ s'.os = s₁.os ∧ AllBare s'.gens) s₁ := by
  have rv := vals_ints hi
  have lenV := hi.length
  have core : ∀ H : Hp, Only H → SqL K H a (ns.map V.int) → HOk P w H s₁.heap → (∀ b, H b ≠ none → b = a) → (H a ≠ none → K.lookup a = none) →
      codeAny (model P w) callerA (.call (.ref fa) ⟨[.ref a], []⟩) (fun r s' => r = .ok (.ret (.bool true)) ∧ OldK s₁.heap s'.heap ∧ s'.os = s₁.os ∧ AllBare s'.gens) s₁ := by
    intro H hO hS hok hA hK
    have base_of : ∀ {b : Addr} {o : Obj}, s₁.heap.get? b = some o → H b = none → (hidT s₁.heap H).get? b = some o := fun e n => hidT_get e n
    have noA : ∀ {b : Addr} {o : Obj} {es : Array DictEntry} {ep : Nat}, s₁.heap.get? b = some o → o.data = .dict es ep → H b = none := fun {b o es ep} e d => by
      cases q : H b with
      | none => rfl
      | some u =>
        have e' : b = a := hA b (by rw [q]; simp)
        subst e'
        rw [ha] at e; cases e
        have d' : Data.seq vs.toArray _ = Data.dict es ep := d
        cases d'
    have nsK : ∀ {b : Addr} {m : Str → Option Value}, s₁.heap.Ns b m → (hidT s₁.heap H).Ns b m := fun {b m} ⟨o, es, ep, e, d, r⟩ => ⟨o, es, ep, base_of e (noA e d), d, r⟩
    have hKb : K.In (hidT s₁.heap H) := fun b o e => base_of (KX b o e) (by
      cases q : H b with
      | none => rfl
      | some u =>
        have e' : b = a := hA b (by rw [q]; simp)
        subst e'
        rw [hK (by rw [q]; simp)] at e; cases e)
    have hM : Mod K mg (hidT s₁.heap H) := ⟨hKb, nsK hns, ⟨mb, nsK hb, hbb⟩, let ⟨mc, h1, h2⟩ := hlim; ⟨mc, nsK h1, h2⟩⟩
    have e0 : Env0 P w K mg (hidT s₁.heap H) callerA [] s₁ H := ⟨rfl, hM, fun b o e => of_hidT e, Nat.le_of_eq (hidT_size _ _), trivial, fun b hb => absurd (show b ∈ ([] : List Addr) from hb) (by simp), hok, .of_eq hg⟩
    refine codeAny_mono ((F _ hKb (nsK hns)).run callerA [] s₁ H ⟨[.ref a], []⟩ [.ref a] [.ref a] _ _ hr e0 (hbind s₁ (.ref a)) (.cons rfl .nil) (hsp H hO hS)) fun r s' h => ?_
    cases r with
    | error e => exact (hCX H e s' h).elim
    | ok fl =>
      cases fl with
      | next => exact False.elim h
      | brk => exact False.elim h
      | cont => exact False.elim h
      | ret u =>
        obtain ⟨v, H', os, bare, un, hok', r', q⟩ := h
        have q' : v = .bl true := q
        subst q'
        obtain rfl : u = Value.bool true := r'
        refine ⟨rfl, OldK.of_keep fun b o e => ?_, os, bare⟩
        cases q : H b with
        | none => exact un.keep b o e q (by intro z; exact absurd (show b ∈ ([] : List Addr) from z) (by simp)) (by simp)
        | some u =>
          rcases hO b with z | ⟨ob, xs, z⟩
          · rw [q] at z; cases z
          · have z2 := un.frzs b ob _ z
            obtain ⟨e1, _⟩ := hok b _ z
            obtain ⟨e2, _⟩ := hok' b _ z2
            rw [e] at e1; cases e1
            exact e2
  cases hk : K.lookup a with
  | some o =>
    have e := KX a o hk
    rw [ha] at e
    cases e
    refine core (fun _ => none) (fun _ => .inl rfl) (.inr ⟨_, vs.toArray, _, hk, rfl, rfl, rfl, by rw [List.size_toArray, lenV]; exact hl, by simpa using rv⟩) (fun b u z => by have z' : (none : Option HO) = some u := z; cases z') (fun b z => absurd rfl z) fun z => absurd rfl z
  | none =>
    refine core (fun b => if b = a then some (.frz { cls := .type "list", data := .seq vs.toArray } (.lst (ns.map V.int))) else none) (fun b => ?_) (.inl (.inr ⟨{ cls := .type "list", data := .seq vs.toArray }, if_pos rfl⟩)) (fun b u z => ?_) (fun b z => ?_) fun _ => hk
    · by_cases hb : b = a
      · exact .inr ⟨_, _, if_pos hb⟩
      · exact .inl (if_neg hb)
    · by_cases hb : b = a
      · have z' := (if_pos hb).symm.trans z
        cases z'
        subst hb
        exact ⟨ha, by rw [List.length_map]; exact hl, vs, _, rv, ha⟩
      · have z' := (if_neg hb).symm.trans z
        cases z'
    · by_cases hb : b = a
      · exact hb
      · exact absurd (if_neg hb) z
end L2
namespace L2
open PySem PySem.Spec PyProof.Rows
abbrev KOf {K : PySem.W.Frag} {h : Heap} (_ : K.In h) : PySem.W.Frag := K
theorem walk_of {l : PySem.W.OpenLaw} {n k : Nat} {q : Program} {loose : List Str} {XP : (Str → Option Value) → Heap → Prop} {YP : World → Heap → Prop} {d : DefRec} {K : Params → PySem.W.Frag} {CX : World → CXT} {sp : World → Sp} {x : Str}
    (hn : l.most = some n) (hn2 : n ≤ sizeLine) (hdf : d.params.defaults = []) (hr : Room k callerA)
    (hY : ∀ (w : World) (h : Heap), YP w h → (K w.params).In h)
    (F : ∀ (w : World) (mg : Str → Option Value) (fa : Addr) (h : Heap), (K w.params).In h → h.Ns mainGlobals mg → mg d.name = some (.ref fa) →
      ∃ fd : FuncData, (∀ (s : Shared) (u : Value), BindsTo s fd ⟨[u], []⟩ [(x, u)]) ∧
        ∀ base : Heap, (K w.params).In base → base.Ns mainGlobals mg → FnOk l.prog w (K w.params) mg base (CX w) k fa fd [x] (sp w))
    (hsp : ∀ (w : World) (H : Hp) (a : Addr) (ns : List Int), ns.length ≤ n → Only H → SqL (K w.params) H a (ns.map V.int) → sp w [.ref a] H (fun v _ => v = .bl true) fun _ _ _ => False)
    (hCX : ∀ (w : World) (H : Hp) (s : Shared) (e : Value) (s' : Shared), CX w [] H s (fun _ _ _ => False) e s' → False) :
    PySem.W.WalkO q loose XP YP l.row.toRowW d [] (fun f vs => PySem.call f vs) := by
  refine Att.attach_call hn hdf fun w s₀ s₁ mg mb fa o pm cd doc a vs ns G Y ho hd hcd hmg hobj hints hlen hg => ?_
  have KX := hY w _ Y
  obtain ⟨fd, hb, hF⟩ := F w mg fa _ KX G.T.g hmg
  exact law_call KX G.T.g G.T.b G.T.builtins G.T.nolimit hg hobj hints (Nat.le_trans hlen hn2) hr hF hb (fun H hO hS => hsp w H a ns hlen hO hS) fun H e s' => hCX w H s₁ e s'
end L2
namespace L2
open PySem PySem.Spec PyProof.Rows
def inClass (s : Stmt) (j : Nat) : Stmt := match s with
  | .ClassDef _ _ _ body _ _ _ _ _ _ _ => body.getD j (.Pass ⟨0, 0, 0, 0⟩)
  | _ => .Pass ⟨0, 0, 0, 0⟩
def defArgs (s : Stmt) : Arguments := match s with
  | .FunctionDef _ a _ _ _ _ _ _ _ _ => a
  | _ => { posonlyargs := [], args := [], vararg := none, kwonlyargs := [], kw_defaults := [], kwarg := none, defaults := [] }
def defBody (s : Stmt) : List Stmt := match s with
  | .FunctionDef _ _ b _ _ _ _ _ _ _ => b
  | _ => []
def defScope (s : Stmt) : Scope := match s with
  | .FunctionDef _ _ _ _ _ _ sc _ _ _ => sc
  | _ => { kind := .function, names := [], isGenerator := false, isCoroutine := false }
abbrev CX0 : CXT := fun _ _ _ _ _ _ => False
abbrev E0 : XK := fun _ _ _ => False
theorem pass0 {X : Cx} : Passes CX0 X E0 := fun _ _ _ _ _ _ _ h => h.elim
structure Fun (K : PySem.W.Frag) (x qual : Str) (st : Stmt) (f : Addr) (fd : FuncData) : Prop where
  ex : ∃ (oc : Value) (od : Option Addr) (kV doc pm : Value) (an : Option Addr) (cdv ct : Value) (osl : Array (Option Value)),
    fd = PySem.W.fnOf x qual (defArgs st) (defBody st) (defScope st) .none kV doc pm an cdv ct ∧ K.lookup f = some ⟨oc, od, .func fd, osl⟩ ∧ PySem.W.codeIn K cdv qual = true
  kp : PySem.W.keepIn K (.ref f) = true
section
variable {P : Program} {w : World} {K : PySem.W.Frag} {mg : Str → Option Value} {base : Heap}
theorem Fun.ok {x qual : Str} {st : Stmt} {f : Addr} {fd : FuncData} {N ps : List Str} {k : Nat} {sp : Sp} (F : Fun K x qual st f fd) (S : FnScope N ps (defScope st)) (len : ∀ vs H Q E, sp vs H Q E → vs.length = ps.length)
    (hbody : ∀ (cdv : Value) (A : Around) (outer : List Env) (s : Shared) (H : Hp) (vs : List V) (Q : VK) (E : XK), Room k (A.deeper (envOfC qual (defScope st) s.heap.objs.size f cdv)) → sp vs H Q E →
      ∃ t, PSs (cxOf CX0 P w K mg base N qual (defScope st) f cdv A outer s H E).nox (defBody st) t ∧ t { nx := fun _ H' => Q .non H', rt := Q } (start N vs) H) : FnOk P w K mg base CX0 (k + 1) f fd ps sp := by
  obtain ⟨oc, od, kV, doc, pm, an, cdv, ct, osl, rfl, lk, hcd⟩ := F.ex
  refine fn_of lk hcd S len fun A outer s H vs Q E hr hsp => ?_
  obtain ⟨t, h, q⟩ := hbody cdv A outer s H vs Q E hr hsp
  exact ⟨t, h.nox, q⟩
theorem Fun.binds {x qual : Str} {st : Stmt} {f : Addr} {fd : FuncData} {ps : List Str} (F : Fun K x qual st f fd)
    (h : ∀ (kV doc pm : Value) (an : Option Addr) (cdv ct : Value) (us : List Value), us.length = ps.length → bindArgs (PySem.W.fnOf x qual (defArgs st) (defBody st) (defScope st) .none kV doc pm an cdv ct) ⟨us, []⟩ = pure (ps.zip us)) : Binds K fd ps [] := by
  obtain ⟨oc, od, kV, doc, pm, an, cdv, ct, osl, rfl, lk, hcd⟩ := F.ex
  exact .all (h kV doc pm an cdv ct)
theorem fun_mk {x qual : Str} {st : Stmt} {f : Addr} {oc : Value} {od an : Option Addr} {osl : Array (Option Value)} {kV doc pm cdv ct : Value} (l : K.lookup f = some ⟨oc, od, .func (PySem.W.fnOf x qual (defArgs st) (defBody st) (defScope st) .none kV doc pm an cdv ct), osl⟩)
    (c : PySem.W.codeIn K cdv qual = true) (k : PySem.W.keepIn K (.ref f) = true) : Fun K x qual st f (PySem.W.fnOf x qual (defArgs st) (defBody st) (defScope st) .none kV doc pm an cdv ct) := ⟨⟨oc, od, kV, doc, pm, an, cdv, ct, osl, rfl, l, c⟩, k⟩
end
theorem small1000 {n : Nat} (h : n ≤ 1000) : n < sizeLine := Nat.lt_of_le_of_lt h (by decide)
section
variable {X : Cx}
theorem pv (i : Nat) {x : Str} {pos : Pos} (hN : X.N[i]? = some x := by rfl) (hv : Vis X.env.scope x := by first | exact Or.inl rfl | exact Or.inr (Or.inl rfl) | exact Or.inr (Or.inr rfl)) (hd : (x == ("__debug__" : Str)) = false := by decide)
    (hcd : (x == ("__classdict__" : Str)) = false := by decide) : PE X (.Name x pos) (tVar i) := pe_var hN hv hd hcd
end
theorem iteF {A B : Prop} (h : B) : if false = true then A else B := by
  rw [if_neg Bool.false_ne_true]
  exact h
theorem iteT {A B : Prop} (h : A) : if true = true then A else B := by
  rw [if_pos rfl]
  exact h
theorem ite2 {c A B : Prop} [Decidable c] (h1 : c → A) (h2 : ¬ c → B) : if c then A else B := by
  by_cases h : c
  · rw [if_pos h]
    exact h1 h
  · rw [if_neg h]
    exact h2 h
def Same (H H' : Hp) : Prop := ∀ b o, H b = some o → H' b = some o
theorem Same.refl (H : Hp) : Same H H := fun _ _ h => h
theorem Same.trans {H H1 H2 : Hp} (a : Same H H1) (b : Same H1 H2) : Same H H2 := fun c o h => b c o (a c o h)
theorem Same.free {H H' : Hp} (e : Same H H') {l : Addr} (h : H' l = Option.none) : H l = Option.none := by
  cases q : H l with
  | none => rfl
  | some o =>
    rw [e l o q] at h
    cases h
theorem Same.seq {K : PySem.W.Frag} {H H' : Hp} {a : Addr} {xs : List V} (e : Same H H') (h : SqL K H a xs) : SqL K H' a xs := by
  rcases h with (h | ⟨o, h⟩) | h
  · exact .inl (.inl (e _ _ h))
  · exact .inl (.inr ⟨o, e _ _ h⟩)
  · exact .inr h
end L2
namespace L2
open PySem PySem.Spec PyProof.Rows
section
variable {P : Program} {w : World} {H : Hp} {h : Heap} {a : Addr} {o : HO}
theorem HOk.track (x : HOk P w H h) (hn : H a = none) (new : ObjOk P w (upd H a o) h a o) : HOk P w (upd H a o) h := fun b u e => by
  by_cases hb : b = a
  · subst hb; rw [upd_same] at e; cases e; exact new
  · rw [upd_ne hb] at e
    exact (x b u e).stay (fun c v _ q => q) (fun c q => by rw [upd_ne (ne_of_none q hn)]; exact q) fun c xs q => by rw [upd_ne (ne_of_none q hn)]; exact q
end
def Its (x : Str) : It := ⟨fun i _ => i < x.cps.size, fun i H v H' => H' = H ∧ ∃ c, x.cps[i]? = some c ∧ v = .str ⟨#[c]⟩, fun i _ => i = x.cps.size⟩
theorem walks_str {prog : Program} {w : World} {A : Around} (hh : A.handled = none) (I : Addr) (x : Str) (t : Tok) : Walks prog w A I [I] [I] x.cps.size (SignAt x) (fun i h => h.IsStrIter I (strIterType x) x t i) := by
  cases ha : x.cps.all (· < 128)
  · have e : strIterType x = "str_iterator" := by simp [strIterType, ha]
    rw [e]; exact Walks.strWide hh I x t
  · have e : strIterType x = "str_ascii_iterator" := by simp [strIterType, ha]
    rw [e]; exact Walks.strAscii hh I x t
theorem turn_str {P : Program} {w : World} {K : PySem.W.Frag} {tg : Expr} (it : Addr) (x : Str) (t : Tok) : Turn P w K tg (Its x) [it] it (fun i h => h.IsStrIter it (strIterType x) x t i) where
  mem := by simp
  obj := fun i h st b hb => by
    have e : b = it := by simpa using hb
    subst e
    obtain ⟨o, ho, _, hd⟩ := st
    exact ⟨o, ho, fun v q => by rw [hd] at q; cases q⟩
  keep := fun i h h' st k => by
    obtain ⟨o, ho, r⟩ := st
    exact ⟨o, k it (by simp) o ho, r⟩
  item := by
    intro X hP hw hK hc i pins s σ H E I hf st hg
    subst hP hw hK
    obtain ⟨f0, f1, f2, f3, f4, f5⟩ := hf it (by simp)
    refine (walks_str (I.ok.hd hc) it x t).item i s _ _ hg st fun v h' tk hv st' kk => ?_
    obtain ⟨c, u, hx, rfl⟩ := hv
    have I1 : Inv X pins σ H { s with heap := h', toks := tk } := I.turned (fun b o hb e => kk b o (by simpa using hb) e) f0 f1 f3 f4 f5
    obtain ⟨o, ho, hcl, hd⟩ := id st'
    refine ⟨_, rfl, go_of (s := { s with heap := h', toks := tk }) (n := strIterType x) ho hcl hd ?_ ⟨.str ⟨#[c]⟩, H, I1, ⟨u, rfl⟩, ⟨rfl, c, hx, rfl⟩, st', fun b hb => (hf b hb).1⟩⟩
    unfold strIterType; split <;> decide
  done := by
    intro X hP hw hK hc i pins s σ H E I hf st hg
    subst hP hw hK
    obtain ⟨f0, f1, f2, f3, f4, f5⟩ := hf it (by simp)
    have hg' : i = x.cps.size := hg
    subst hg'
    exact (walks_str (I.ok.hd hc) it x t).done s _ _ st fun h' tk kk => ⟨rfl, I.turned (fun b o hb e => kk b o (by simpa using hb) e) f0 f1 f3 f4 f5⟩
  self := fun A i s Q E st h => by
    cases ha : x.cps.all (· < 128)
    · have e : strIterType x = "str_iterator" := by simp [strIterType, ha]
      rw [e] at st; exact wpAny_pyIter_striter_wide st h
    · have e : strIterType x = "str_ascii_iterator" := by simp [strIterType, ha]
      rw [e] at st; exact wpAny_pyIter_striter_ascii st h
def iStr (tl : TE) : TI := fun σ H R => tl σ H fun x H1 => ∃ z, x = .str z ∧ R (Its z) H1
theorem pi_str {X : Cx} {tg l : Expr} {tl : TE} (hl : PE X l tl) : PI X tg l (iStr tl) := by
  intro pins s σ H R I h
  refine thn (hl pins s σ H _ I h) fun v s1 ⟨x, H1, I1, r1, q1⟩ => ?_
  obtain ⟨z, e, q⟩ := q1
  subst e
  obtain ⟨t, rfl⟩ := r1
  refine wpAny_pyIter_strU ?_
  refine ⟨s1.heap.objs.size, [s1.heap.objs.size], _, _, H1, rfl, I1.kept (t' := s1.toks) fun b o e => Heap.get?_push_of_some _ e, turn_str _ z t, ⟨_, Heap.get?_push_size _ rfl, rfl, rfl⟩, fun b hb => ?_, q⟩
  have e : b = s1.heap.objs.size := by simpa using hb
  subst e
  exact I1.fpOk (Nat.le_refl _) (I1.hok.fresh (Nat.le_refl _))
section
variable {prog : Program} {w : World} {A : Around} {R : Result → Shared → Prop} {s : Shared}
theorem compLoop_go {elt target iter : Expr} {ifs : List Expr} {scope : Scope} {pos : Pos} {it acc : Value} {env : Env} (I : Nat → Shared → Prop)
    (turn : ∀ n s, I n s → wpAny (model prog w) A (pyNext it) (fun r s₁ => match r with
      | none => R (.ok .next) s₁
      | some v => wpAny (model prog w) A (letOwnedTupleGo target it v) (fun _ s₁' => wpAny (model prog w) A (assign target env v) (fun _ s₂ =>
          wpAny (model prog w) A (forIn ifs true fun c r => if r = true then do let ok ← isTrue c env (eval c env); pure (ForInStep.yield ok) else pure (ForInStep.yield r)) (fun ok s₃ =>
            if ok = true then wpAny (model prog w) A (eval elt env) (fun x s₄ =>
              wpAny (model prog w) A (call (.builtin "list.append") [acc, x]) (fun _ s₅ => ∃ m, m < n ∧ I m s₅) (fun _ _ => False) s₄) (fun _ _ => False) s₃
            else ∃ m, m < n ∧ I m s₃) (fun _ _ => False) s₂) (fun _ _ => False) s₁') (fun _ _ => False) s₁) (fun _ _ => False) s)
    (n : Nat) (h : I n s) :
    codeAny (model prog w) A (.compLoop (.ListComp elt [⟨target, iter, ifs, 0⟩] scope pos) 0 it acc env) R s := by
  refine codeAny_loop rfl I (fun n s hI => ?_) n h
  show wpAny _ A ((compTurn (.ListComp elt [⟨target, iter, ifs, 0⟩] scope pos) 0 it acc env).onRaise (fun x => do noteFrame x env; theTreesLotGoes x)) _ _ s
  refine wpAny_noted ?_
  rw [compTurn_list]
  refine wpAny_bind (wpAny_standAt (wpAny_bind (wpAny_mono (turn n s hI) (fun r s₁ h₁ => ?_) fun _ _ h' => h'.elim)))
  cases r with
  | none => exact wpAny_pure h₁
  | some v =>
    refine wpAny_bind (wpAny_mono h₁ (fun _ s₁' h₁' => wpAny_bind (wpAny_mono h₁' (fun _ s₂ h₂ => wpAny_bind (wpAny_mono h₂ (fun ok s₃ h₃ => ?_) fun _ _ h' => h'.elim)) fun _ _ h' => h'.elim)) fun _ _ h' => h'.elim)
    cases ok with
    | false => exact wpAny_pure ⟨rfl, h₃⟩
    | true =>
      exact wpAny_bind (wpAny_bind (wpAny_mono h₃ (fun x s₄ h₄ => wpAny_bind (wpAny_mono h₄ (fun _ s₅ h₅ => wpAny_pure (wpAny_pure ⟨rfl, h₅⟩)) fun _ _ h' => h'.elim)) fun _ _ h' => h'.elim))
end
def clos (env : Env) : List (Str × NameKind) → List (Str × Addr) → List (Str × Addr)
  | [], acc => acc
  | (n, k) :: r, acc => clos env r (if k == .free then (n, (env.cells.lookup n).getD 0) :: acc else acc)
theorem closureFor_clos {scope : Scope} {env : Env} (h : ∀ y ∈ scope.names, y.2 = .free → ∃ c, env.cells.lookup y.1 = some c) : closureFor scope env = pure (clos env scope.names []) := by
  simp only [closureFor]
  suffices hh : ∀ (l : List (Str × NameKind)) (acc : List (Str × Addr)), (∀ y ∈ l, y.2 = .free → ∃ c, env.cells.lookup y.1 = some c) →
      (forIn l acc fun x r => if (x.2 == NameKind.free) = true then do let a ← cellOf env x.1; pure (ForInStep.yield ((x.1, a) :: r)) else pure (ForInStep.yield r) : Sem (List (Str × Addr))) = pure (clos env l acc) by
    have := hh scope.names [] h
    simp only [bind_pure]
    exact this
  intro l
  induction l with
  | nil => intro acc _; rfl
  | cons y r ih =>
    intro acc hy
    obtain ⟨n, k⟩ := y
    rw [List.forIn_cons]
    cases hk : (k == NameKind.free) with
    | true =>
      obtain ⟨c, hc⟩ := hy (n, k) List.mem_cons_self (by simpa using hk)
      have e1 : cellOf env n = pure c := by unfold cellOf; rw [hc]
      simp only [hk, if_true, e1, pure_bind]
      rw [ih _ fun z hz => hy z (List.mem_cons_of_mem _ hz)]
      simp only [clos, hk, if_true, hc, Option.getD_some]
    | false =>
      simp only [hk, Bool.false_eq_true, if_false, pure_bind]
      rw [ih _ fun z hz => hy z (List.mem_cons_of_mem _ hz)]
      simp only [clos, hk, Bool.false_eq_true, if_false]
theorem clos_val {env : Env} {x : Str} {c : Addr} : ∀ {l : List (Str × NameKind)} {acc : List (Str × Addr)}, (∀ y ∈ l, y.2 = .free → ∃ c, env.cells.lookup y.1 = some c) → (acc.lookup x = some c → env.cells.lookup x = some c) → (clos env l acc).lookup x = some c → env.cells.lookup x = some c
  | [], _, _, ha, e => ha e
  | (n, k) :: r, acc, hl, ha, e => by
    refine clos_val (l := r) (fun z hz => hl z (List.mem_cons_of_mem _ hz)) (fun q => ?_) e
    cases hk : (k == NameKind.free) with
    | false => rw [hk] at q; exact ha q
    | true =>
      rw [hk] at q
      obtain ⟨c', hc⟩ := hl (n, k) List.mem_cons_self (by simpa using hk)
      simp only [if_true, hc, Option.getD_some, List.lookup_cons] at q
      cases hx : (x == n) with
      | true => rw [hx] at q; cases q; rw [show x = n from by simpa using hx]; exact hc
      | false => rw [hx] at q; exact ha q
theorem clos_mem {env : Env} {x : Str} {c : Addr} : ∀ {l : List (Str × NameKind)} {acc : List (Str × Addr)}, (clos env l acc).lookup x = some c → acc.lookup x = some c ∨ (x, NameKind.free) ∈ l
  | [], _, e => .inl e
  | (n, k) :: r, acc, e => by
    rcases clos_mem (l := r) e with q | q
    · cases hk : (k == NameKind.free) with
      | false => rw [hk] at q; exact .inl q
      | true =>
        rw [hk] at q
        simp only [if_true, List.lookup_cons] at q
        cases hx : (x == n) with
        | true =>
          have e1 : x = n := by simpa using hx
          have e2 : k = NameKind.free := by simpa using hk
          subst e1 e2
          exact .inr List.mem_cons_self
        | false => rw [hx] at q; exact .inl q
    · exact .inr (List.mem_cons_of_mem _ q)
theorem clos_has {env : Env} {x : Str} : ∀ {l : List (Str × NameKind)} {acc : List (Str × Addr)}, (∃ c, acc.lookup x = some c) ∨ (x, NameKind.free) ∈ l → ∃ c, (clos env l acc).lookup x = some c
  | [], _, h => h.elim (fun z => z) fun z => nomatch z
  | (n, k) :: r, acc, h => by
    refine clos_has (l := r) ?_
    rcases h with ⟨c, h⟩ | h
    · refine .inl ?_
      cases hk : (k == NameKind.free) with
      | false => exact ⟨c, h⟩
      | true =>
        simp only [if_true, List.lookup_cons]
        cases hx : (x == n) with
        | true => exact ⟨_, rfl⟩
        | false => exact ⟨c, h⟩
    · rcases List.mem_cons.mp h with h | h
      · cases h
        refine .inl ?_
        rw [if_pos (by rfl), List.lookup_cons]
        exact ⟨_, by rw [show (x == x) = true from by simp]⟩
      · exact .inr h
theorem lookup_mem {α : Type} {x : Str} {k : α} : ∀ {l : List (Str × α)}, l.lookup x = some k → (x, k) ∈ l
  | (n, z) :: r, e => by
    rw [List.lookup_cons] at e
    cases hx : (x == n) with
    | true => rw [hx] at e; cases e; rw [show x = n from by simpa using hx]; exact List.mem_cons_self
    | false => rw [hx] at e; exact List.mem_cons_of_mem _ (lookup_mem e)
theorem relab_one (env : Env) (n : Str) (z : NameKind) : ∃ z', (if (z == NameKind.free && env.scope.kind == .function && env.kindOf n == some .cell) = true then (n, NameKind.cell) else (n, z)) = (n, z') ∧ (z' = z ∨ (z = .free ∧ z' = .cell)) := by
  by_cases hc : (z == NameKind.free && env.scope.kind == .function && env.kindOf n == some .cell) = true
  · rw [if_pos hc]
    simp only [Bool.and_eq_true] at hc
    exact ⟨_, rfl, .inr ⟨by simpa using hc.1.1, rfl⟩⟩
  · rw [if_neg hc]; exact ⟨_, rfl, .inl rfl⟩
theorem relabel_kind {env : Env} {x : Str} : ∀ {l : List (Str × NameKind)} {k : NameKind}, l.lookup x = some k →
    ((l.map fun (n, k) => if (k == NameKind.free && env.scope.kind == .function && env.kindOf n == some .cell) then (n, NameKind.cell) else (n, k)).lookup x = some k) ∨
    (k = .free ∧ (l.map fun (n, k) => if (k == NameKind.free && env.scope.kind == .function && env.kindOf n == some .cell) then (n, NameKind.cell) else (n, k)).lookup x = some .cell)
  | (n, z) :: r, k, e => by
    obtain ⟨z', e1, e2⟩ := relab_one env n z
    have ih := fun h => relabel_kind (env := env) (x := x) (l := r) (k := k) h
    rw [List.lookup_cons] at e
    rw [List.map_cons]
    dsimp only
    rw [e1, List.lookup_cons]
    cases hx : (x == n) with
    | true =>
      rw [hx] at e
      cases e
      rcases e2 with e2 | ⟨e2, e3⟩
      · rw [e2]; exact .inl rfl
      · rw [e3]; exact .inr ⟨e2, rfl⟩
    | false => rw [hx] at e; exact ih e
theorem relabel_none {env : Env} {x : Str} : ∀ {l : List (Str × NameKind)}, l.lookup x = none →
    (l.map fun (n, k) => if (k == NameKind.free && env.scope.kind == .function && env.kindOf n == some .cell) then (n, NameKind.cell) else (n, k)).lookup x = none
  | [], _ => rfl
  | (n, z) :: r, e => by
    obtain ⟨z', e1, e2⟩ := relab_one env n z
    have ih := fun h => relabel_none (env := env) (x := x) (l := r) h
    rw [List.lookup_cons] at e
    rw [List.map_cons]
    dsimp only
    rw [e1, List.lookup_cons]
    cases hx : (x == n) with
    | true => rw [hx] at e; cases e
    | false => rw [hx] at e; exact ih e
structure CompScope (N : List Str) (osc scope : Scope) (own cap : List Str) (ix : List Nat) : Prop where
  kind : scope.kind = .function
  cell : ∀ y ∈ scope.names, y.2 ≠ .cell
  names : ∀ y ∈ scope.names, y.2 = .local → scope.names.lookup y.1 = some .local
  free : ∀ y ∈ scope.names, y.2 = .free → y.1 ∈ cap
  ownL : ∀ x ∈ own, scope.names.lookup x = some .local
  capL : ∀ x ∈ cap, scope.names.lookup x = some .free
  out : ∀ x ∈ cap, osc.names.lookup x = some .cell ∨ osc.names.lookup x = some .free
  ixL : ix.map (fun i => N[i]?) = cap.map some
  nd : (own ++ cap).Nodup
def Cx.comp (X : Cx) (scope : Scope) (own cap : List Str) (C : Addr) (s₀ : Shared) (H₀ : Hp) (ex : List Addr) (pn : List (Addr × Obj)) : Cx :=
  { X with N := own ++ cap, s₀ := s₀, H₀ := H₀, env := compEnvC scope (clos X.env scope.names []) C X.env, outer := X.stack, ex := ex, fn := fun x => own.contains x, pn := pn, xe := fun _ _ => False }
def capS (σ : St) (own : List Str) (ix : List Nat) : St := own.map (fun _ => none) ++ ix.map (fun i => (σ[i]?).join)
section
variable {X : Cx} {pins : List (Addr × Obj)} {σ : St} {H : Hp} {s : Shared} {scope : Scope} {own cap : List Str} {ix : List Nat}
theorem CompScope.has (S : CompScope X.N X.env.scope scope own cap ix) (ok : X.Ok) : ∀ y ∈ scope.names, y.2 = .free → ∃ c, X.env.cells.lookup y.1 = some c := fun y hy hf => ok.has y.1 (S.out y.1 (S.free y hy hf))
theorem Inv.comp (I : Inv X pins σ H s) (S : CompScope X.N X.env.scope scope own cap ix) {fp : List Addr} (hf : ∀ b ∈ fp, FpOk X pins H b) (ho : ∀ b ∈ fp, ∃ o, s.heap.get? b = some o)
    {h₁ : Heap} {tk : Nat} {C : Addr} {m : Str → Option Value} (hC : s.heap.objs.size ≤ C) (old : ∀ b o, s.heap.get? b = some o → h₁.get? b = some o) (hns : h₁.Ns C m) :
    Inv (X.comp scope own cap C s H fp (X.pn ++ pins)) [] (capS σ own ix) H { s with heap := h₁, toks := tk } := by
  have cv : ∀ x c, (clos X.env scope.names []).lookup x = some c → X.env.cells.lookup x = some c := fun x c e => clos_val (S.has I.ok) (fun q => by simp at q) e
  have cc : ∀ x c, (clos X.env scope.names []).lookup x = some c → x ∈ cap := fun x c e => by
    rcases clos_mem e with q | q
    · cases q
    · exact S.free _ q rfl
  have kk : ∀ x, ((compEnvC scope (clos X.env scope.names []) C X.env).kindOf x = some .cell ∨ (compEnvC scope (clos X.env scope.names []) C X.env).kindOf x = some .free) → x ∈ cap := fun x hx => by
    cases e : scope.names.lookup x with
    | none =>
      have q := relabel_none (env := X.env) e
      rcases hx with hx | hx
      · have hx' : _ = some NameKind.cell := hx
        exact nomatch q.symm.trans hx'
      · have hx' : _ = some NameKind.free := hx
        exact nomatch q.symm.trans hx'
    | some k =>
      have nc : k ≠ .cell := S.cell _ (lookup_mem e)
      rcases relabel_kind (env := X.env) e with q | ⟨q, _⟩
      · rcases hx with hx | hx
        · have hx' : _ = some NameKind.cell := hx
          exact absurd (Option.some.inj (q.symm.trans hx')) nc
        · have hx' : _ = some NameKind.free := hx
          exact S.free _ (lookup_mem e) (Option.some.inj (q.symm.trans hx'))
      · exact S.free _ (lookup_mem e) q
  have capk : ∀ x ∈ cap, (compEnvC scope (clos X.env scope.names []) C X.env).kindOf x = some .cell ∨ (compEnvC scope (clos X.env scope.names []) C X.env).kindOf x = some .free := fun x hx => by
    rcases relabel_kind (env := X.env) (S.capL x hx) with q | ⟨_, q⟩
    · exact .inr q
    · exact .inl q
  have lt : ∀ {b : Addr} {o : Obj}, s.heap.get? b = some o → b ≠ C := fun e => Nat.ne_of_lt (Nat.lt_of_lt_of_le (Heap.lt_size e) hC)
  have hfs : ∀ b, b ∈ frs X.stack → b ∈ X.env.locals :: X.fs := I.stkSub
  refine ⟨⟨I.ok.mod, S.kind, I.ok.glob, I.ok.blt, hC, fun x y c e1 e2 => I.ok.inj x y c (cv x c e1) (cv y c e2), fun x hx => clos_has (.inr (lookup_mem (S.capL x (kk x hx)))), fun x c hx e => ?_, I.ok.hd, I.ok.frames, .inl rfl, fun b hb => ?_,
    I.bs, Nat.le_trans I.ok.bsz I.sz, fun b o e hb => ?_, fun b hb hb' => ?_, I.stack, I.stkFree⟩, rfl, I.bare, Un.kept old, ?_, fun x c e => ?_, I.hok.fresh hC, fun x c e => I.freeC x c (cv x c e), fun p hp => ?_, I.hok.kept old, ?_⟩
  · exfalso
    have h1 : x ∈ own := by simpa [Cx.comp] using hx
    have h2 : x ∈ cap := cc x c e
    exact (List.nodup_append.mp S.nd).2.2 x h1 x h2 rfl
  · obtain ⟨o, e⟩ := ho b hb
    exact ⟨lt e, fun x c q => (hf b hb).2.2.2.2.1 x c (cv x c q)⟩
  · rcases (hf b hb).2.2.2.1 with z | z
    · exact I.ok.noex b o e z
    · exact absurd (Nat.lt_of_lt_of_le (Heap.lt_size e) (Nat.le_trans I.ok.bsz z)) (Nat.lt_irrefl _)
  · rcases List.mem_cons.mp (hfs b hb') with z | z
    · exact (hf b hb).2.1 z
    · exact (hf b hb).2.2.1 z
  · refine ⟨m, hns, fun i x v e1 e2 _ => ?_⟩
    by_cases hi : i < own.length
    · have e3 : (capS σ own ix)[i]? = some none := by
        unfold capS
        rw [List.getElem?_append_left (by simpa using hi), List.getElem?_map]
        rw [List.getElem?_eq_getElem hi]; rfl
      rw [e3] at e2; cases e2
    · have hj : own.length ≤ i := Nat.not_lt.mp hi
      have e1' : cap[i - own.length]? = some x := by
        have : (own ++ cap)[i]? = some x := e1
        rwa [List.getElem?_append_right hj] at this
      have e4 : (ix.map (fun i => X.N[i]?))[i - own.length]? = some (some x) := by rw [S.ixL, List.getElem?_map, e1']; rfl
      rw [List.getElem?_map] at e4
      cases q : ix[i - own.length]? with
      | none => rw [q] at e4; cases e4
      | some j =>
        rw [q] at e4
        have hNj : X.N[j]? = some x := Option.some.inj e4
        have e5 : (σ[j]?).join = some v := by
          unfold capS at e2
          rw [List.getElem?_append_right (by simpa using hj), List.getElem?_map, List.length_map, q] at e2
          exact Option.some.inj e2
        have e6 : σ[j]? = some (some v) := by
          cases r : σ[j]? with
          | none => rw [r] at e5; cases e5
          | some z => rw [r] at e5; exact congrArg some e5
        have hx : x ∈ cap := List.mem_of_getElem? e1'
        obtain ⟨mo, hn, hl⟩ := I.loc
        obtain ⟨u, ru, lu⟩ := hl j x v hNj e6 (.inr (S.out x hx))
        refine ⟨u, ru, .inr ⟨capk x hx, ?_⟩⟩
        rcases lu with ⟨kx, _⟩ | ⟨_, c, hc, hcell⟩
        · have kx' : X.env.scope.names.lookup x = some .local := kx
          rcases S.out x hx with z | z
          · exact nomatch kx'.symm.trans z
          · exact nomatch kx'.symm.trans z
        · obtain ⟨c', hc'⟩ := clos_has (env := X.env) (x := x) (l := scope.names) (acc := []) (.inr (lookup_mem (S.capL x hx)))
          have : c' = c := Option.some.inj ((cv x c' hc').symm.trans hc)
          subst this
          obtain ⟨oc, hoc, hdc⟩ := hcell
          exact ⟨c', hc', oc, old _ _ hoc, hdc⟩
  · obtain ⟨v, oc, hoc, hdc⟩ := I.cell x c (cv x c e)
    exact ⟨v, oc, old _ _ hoc, hdc⟩
  · have hp' : p ∈ X.pn ++ pins := by simpa [Cx.comp] using hp
    obtain ⟨q1, q2, q3, q4, q5⟩ := I.pin p hp'
    refine ⟨old _ _ q1, q2, lt q1, fun z => ?_, q5⟩
    rcases List.mem_cons.mp (hfs p.1 z) with y | y
    · exact q3 y
    · exact q4 y
  · show (capS σ own ix).length = (own ++ cap).length
    have := congrArg List.length S.ixL
    rw [List.length_map, List.length_map] at this
    unfold capS
    rw [List.length_append, List.length_append, List.length_map, List.length_map, this]
end
def PIfs (X : Cx) (ifs : List Expr) (t : TT) : Prop :=
  ∀ (pins : List (Addr × Obj)) (s : Shared) (σ : St) (H : Hp) (Q : Bool → Hp → Prop), Inv X pins σ H s → t σ H Q →
    wpAny (model X.prog X.w) X.A (forIn ifs true fun c r => if r = true then do let ok ← isTrue c X.env (eval c X.env); pure (ForInStep.yield ok) else pure (ForInStep.yield r)) (TP X pins σ Q) X.xe s
def tYes : TT := fun _ H Q => Q true H
theorem pifs_nil {X : Cx} : PIfs X [] tYes := fun _ _ _ H _ I h => wpAny_tests_nil ⟨H, I, h⟩
theorem pifs_one {X : Cx} {c : Expr} {t : TT} (h : PT X c t) : PIfs X [c] t := fun pins s σ H Q I q => wpAny_tests_one (h pins s σ H Q I q)
def tComp (own : List Str) (ix : List Nat) (wi : TI) (g : TG) (ti : TT) (te : TE) : TE := fun σ H Q => wi σ H fun J H1 =>
  ∃ W : Nat → Nat → List V → St → Hp → Prop, (∃ m, W 0 m [] (capS σ own ix) H1) ∧ ∀ i m ys σ' H, W i m ys σ' H →
    (J.stop i H ∧ ys.length ≤ sizeLine ∧ ∀ D, H D = none → Q (.ref D) (upd H D (.lst ys))) ∨
    (J.go i H ∧ ∀ x H', J.yld i H x H' → g x σ' H' fun σ2 H2 => ti σ2 H2 fun b H3 => if b = true then te σ2 H3 fun y H4 => ys.length < sizeLine ∧ ∃ m', m' < m ∧ W (i + 1) m' (ys ++ [y]) σ2 H4 else ∃ m', m' < m ∧ W (i + 1) m' ys σ2 H3)
section
variable {X : Cx} {pins : List (Addr × Obj)} {σ : St} {scope : Scope} {own cap : List Str} {ix : List Nat} {tg iter elt : Expr} {ifs : List Expr} {pos : Pos}
set_option maxHeartbeats 4000000 in
theorem comp_block {s : Shared} {H : Hp} {it : Addr} {fp : List Addr} {tn : Nat → Heap → Prop} {J : It} {g : TG} {ti : TT} {te : TE} {Q : VK} {W : Nat → Nat → List V → St → Hp → Prop} {E : Value → Shared → Prop} {RR : Value → Addr → Result → Shared → Prop} (hc : X.calm = true)
    (I : Inv X pins σ H s) (S : CompScope X.N X.env.scope scope own cap ix) (T : Turn X.prog X.w X.K tg J fp it tn) (st : tn 0 s.heap) (hf : ∀ b ∈ fp, FpOk X pins H b)
    (hb : ∀ (C : Addr) (s₀ : Shared) (H₀ : Hp) (ex : List Addr) (pn : List (Addr × Obj)), PG (X.comp scope own cap C s₀ H₀ ex pn) tg g ∧ PIfs (X.comp scope own cap C s₀ H₀ ex pn) ifs ti ∧ PE (X.comp scope own cap C s₀ H₀ ex pn) elt te)
    (h0 : ∃ m, W 0 m [] (capS σ own ix) H)
    (turn : ∀ i m ys σ' H, W i m ys σ' H → (J.stop i H ∧ ys.length ≤ sizeLine ∧ ∀ D, H D = none → Q (.ref D) (upd H D (.lst ys))) ∨
      (J.go i H ∧ ∀ x H', J.yld i H x H' → g x σ' H' fun σ2 H2 => ti σ2 H2 fun b H3 => if b = true then te σ2 H3 fun y H4 => ys.length < sizeLine ∧ ∃ m', m' < m ∧ W (i + 1) m' (ys ++ [y]) σ2 H4 else ∃ m', m' < m ∧ W (i + 1) m' ys σ2 H3))
    (hRR : ∀ (D C : Addr) (oC : Obj) (m : Str → Option Value) (H' : Hp) (s' : Shared), s'.heap.get? C = some oC → s'.heap.Ns C m → C ≠ X.env.locals → (X.s₀.heap.objs.size ≤ C) → (∀ x c, X.env.cells.lookup x = some c → c ≠ C) → (∀ p ∈ X.pn ++ pins, p.1 ≠ C) → C ∉ X.fs → H' C = none →
      Inv X pins σ H' s' → Q (.ref D) H' → RR (.ref D) C (.ok .next) s') :
    wpAny (model X.prog X.w) X.A (newList []) (fun acc s₃ => wpAny (model X.prog X.w) X.A (newFunctionEnv scope X.env.globals (clos X.env scope.names []) [] X.env.qual none .none (some X.env)) (fun cenv s₄ =>
      codeAny (model X.prog X.w) X.A (.compStart (.ListComp elt [⟨tg, iter, ifs, 0⟩] scope pos) 0 (.ref it) acc { cenv with scope := relabel scope X.env }) (RR acc cenv.locals) s₄) E s₃) E s := by
  refine wpAny_newObj_type (wpAny_newFunctionEnv S.cell (by intro y hy; simp at hy) (fun h₁ hns₁ hsb₁ => ?_) S.kind)
  dsimp only at hns₁ hsb₁ ⊢
  generalize hH2 : s.heap.push { cls := .type "list", dict := none, data := .seq ([] : List Value).toArray } = HH at hns₁ hsb₁ ⊢
  generalize hCn : HH.objs.size = C at hns₁ hsb₁ ⊢
  generalize hDn : s.heap.objs.size = D
  have hC : C = D + 1 := by rw [← hCn, ← hH2, Heap.size_push, hDn]
  have hDC : D ≠ C := by rw [hC]; exact Nat.ne_of_lt (Nat.lt_succ_self _)
  have below : ∀ b, b < s.heap.objs.size → b ≠ C ∧ b ≠ D := fun b hb => by rw [hDn] at hb; exact ⟨by rw [hC]; exact Nat.ne_of_lt (Nat.lt_succ_of_lt hb), Nat.ne_of_lt hb⟩
  have old : ∀ b o, s.heap.get? b = some o → h₁.get? b = some o := fun b o e => hsb₁.extBut b o (below b (Heap.lt_size e)).1 (Heap.get?_push_of_some _ (hH2 ▸ Heap.get?_push_of_some _ e))
  have hacc : h₁.get? D = some { cls := .type "list", data := .seq ([] : List Value).toArray 0 } := hsb₁.extBut _ _ hDC (Heap.get?_push_of_some _ (by rw [← hH2, ← hDn]; exact Heap.get?_push_size _ rfl))
  have hCs : s.heap.objs.size ≤ C := by rw [hDn, hC]; exact Nat.le_succ _
  have hDs : s.heap.objs.size ≤ D := Nat.le_of_eq hDn
  have hDf : D ∉ fp := fun hm => by
    obtain ⟨o, e, _⟩ := T.obj _ _ st D hm
    exact (below D (Heap.lt_size e)).2 rfl
  have hD0 : H D = none := I.hok.fresh hDs
  obtain ⟨gG, gI, gE⟩ := hb C s H fp (X.pn ++ pins)
  have I0 : ∀ tk, Inv (X.comp scope own cap C s H fp (X.pn ++ pins)) [] (capS σ own ix) H { s with heap := h₁, toks := tk } := fun tk => I.comp S hf (fun b hb => (T.obj _ _ st b hb).imp fun o e => e.1) hCs old hns₁
  have cvX : ∀ x c, (X.comp scope own cap C s H fp (X.pn ++ pins)).env.cells.lookup x = some c → X.env.cells.lookup x = some c := fun x c e => clos_val (S.has I.ok) (fun q => by simp at q) e
  have cellLt : ∀ x c, X.env.cells.lookup x = some c → c < s.heap.objs.size := fun x c e => by obtain ⟨v, q⟩ := I.cell x c e; exact q.lt
  have frsLt : ∀ b ∈ frs X.stack, b < s.heap.objs.size := fun b hb => by
    rcases List.mem_cons.mp (I.stkSub b hb) with z | z
    · rw [z]; exact I.lt
    · obtain ⟨_, o, ho, _⟩ := I.funs.mem z
      exact Heap.lt_size ho
  have fpB : ∀ (H' : Hp) (ps : List (Addr × Obj)), (∀ p ∈ ps, p.1 = D) → (∀ b ∈ fp, H' b = none) → ∀ b ∈ fp, FpOk (X.comp scope own cap C s H fp (X.pn ++ pins)) ps H' b := fun H' ps hps hn b hb => by
    obtain ⟨o, e, _⟩ := T.obj _ _ st b hb
    obtain ⟨f0, f1, f2, f3, f4, f5⟩ := hf b hb
    refine ⟨hn b hb, (below b (Heap.lt_size e)).1, fun z => ?_, .inl hb, fun x c q => f4 x c (cvX x c q), fun p hp => ?_⟩
    · rcases List.mem_cons.mp (I.stkSub b z) with y | y
      · exact f1 y
      · exact f2 y
    · rcases List.mem_append.mp hp with z | z
      · exact f5 p z
      · intro y
        exact hDf (by rw [← hps p z, y]; exact hb)
  have pinD : ∀ {H' : Hp} {σ' : St} {s' : Shared} {o : Obj}, Inv (X.comp scope own cap C s H fp (X.pn ++ pins)) [] σ' H' s' → s'.heap.get? D = some o → (∀ v, o.data ≠ .cell v) → H' D = none → Inv (X.comp scope own cap C s H fp (X.pn ++ pins)) [(D, o)] σ' H' s' := fun {H' σ' s' o} I' e hd hn =>
    I'.pins_of fun p hp => by
      have e1 : p = (D, o) := by simpa using hp
      subst e1
      exact ⟨e, hn, hDC, fun z => Nat.lt_irrefl _ (Nat.lt_of_lt_of_le (frsLt D z) hDs), hd⟩
  have loop : ∀ s₃ : Shared, s₃ = { s with heap := h₁, toks := s.toks + ([] : List (Str × Value)).length } →
      codeAny (model X.prog X.w) X.A (.compLoop (.ListComp elt [⟨tg, iter, ifs, 0⟩] scope pos) 0 (.ref it) (.ref D) (compEnvC scope (clos X.env scope.names []) C X.env)) (RR (.ref D) C) s₃ := by
    rintro s₃ rfl
    obtain ⟨m0, w0⟩ := h0
    refine compLoop_go (fun n s' => ∃ i ys σ' H', Inv (X.comp scope own cap C s H fp (X.pn ++ pins)) [] σ' H' s' ∧ tn i s'.heap ∧ (∀ b ∈ fp, H' b = none) ∧ H' D = none ∧
      (∃ (its : List Value) (k : Nat), Vals ys its ∧ s'.heap.get? D = some { cls := .type "list", data := .seq its.toArray k }) ∧ ys.length ≤ sizeLine ∧ W i n ys σ' H') ?_ m0
      ⟨0, [], _, H, I0 _, T.keep _ _ _ st fun b _ o e => old b o e, fun b hb => (hf b hb).1, hD0, ⟨[], 0, .nil, hacc⟩, Nat.zero_le _, w0⟩
    rintro n s' ⟨i, ys, σ', H', I', st', fr', hD', ⟨its, k, hv, hDo⟩, hyl, w'⟩
    have ID := pinD I' hDo (fun v q => nomatch q) hD'
    rcases turn i n ys σ' H' w' with ⟨stop, hz, q⟩ | ⟨go, step⟩
    · refine thn (T.done (X.comp scope own cap C s H fp (X.pn ++ pins)) rfl rfl rfl hc i [(D, _)] s' σ' H' _ ID (fpB H' _ (fun p hp => by rw [List.mem_singleton.mp hp]) fr') st' stop) fun r s'' ⟨hr, I2⟩ => ?_
      subst hr
      show RR (.ref D) C (.ok .next) s''
      have hDo2 : s''.heap.get? D = some { cls := .type "list", data := .seq its.toArray k } := (I2.pin (D, _) (List.mem_append_right _ (List.mem_singleton.mpr rfl))).1
      obtain ⟨m2, hn2, _⟩ := I2.loc
      obtain ⟨oC, es, ep, hoC, _⟩ := id hn2
      have hok2 : HOk X.prog X.w (upd H' D (.lst ys)) s''.heap := I2.hok.track hD' ⟨hyl, its, k, hv, hDo2⟩
      have un : Un (frs X.stack) fp H (upd H' D (.lst ys)) s.heap s''.heap := by
        have u0 : Un (frs X.stack) fp H H' s.heap s''.heap := I2.base
        refine ⟨u0.keep, u0.slot, fun b o e hn hx => ?_, u0.there, fun b xs e => ?_, fun b o u e => ?_, fun b ps e => ?_⟩
        · rw [upd_ne (below b (Heap.lt_size e)).2]; exact u0.free b o e hn hx
        · rw [upd_ne (ne_of_none (u0.tups b xs e) hD')]; exact u0.tups b xs e
        · rw [upd_ne (ne_of_none (u0.frzs b o u e) hD')]; exact u0.frzs b o u e
        · obtain ⟨more, e'⟩ := u0.tbls b ps e
          exact ⟨more, by rw [upd_ne (ne_of_none e' hD')]; exact e'⟩
      have IX : Inv X pins σ (upd H' D (.lst ys)) s'' := I.call' (ch := fp) I2.os un hok2 I2.bare fun b hb => ⟨(hf b hb).2.2.2.1, (hf b hb).2.1, (hf b hb).2.2.2.2.1, (hf b hb).2.2.2.2.2⟩
      refine hRR D C oC m2 _ s'' hoC hn2 ?_ ?_ (fun x c e z => ?_) (fun p hp z => ?_) (fun z => ?_) ?_ IX (q D hD')
      · exact fun z => Nat.lt_irrefl _ (Nat.lt_of_lt_of_le I.lt (by rw [← z]; exact hCs))
      · exact Nat.le_trans I.sz hCs
      · exact Nat.lt_irrefl _ (Nat.lt_of_lt_of_le (cellLt x c e) (by rw [z]; exact hCs))
      · exact Nat.lt_irrefl _ (Nat.lt_of_lt_of_le (Heap.lt_size (I.pin p hp).1) (by rw [z]; exact hCs))
      · obtain ⟨_, o, ho, _⟩ := I.funs.mem z
        exact Nat.lt_irrefl _ (Nat.lt_of_lt_of_le (Heap.lt_size ho) hCs)
      · rw [upd_ne hDC.symm]; exact I2.free
    · refine thn (T.item (X.comp scope own cap C s H fp (X.pn ++ pins)) rfl rfl rfl hc i [(D, _)] s' σ' H' _ ID (fpB H' _ (fun p hp => by rw [List.mem_singleton.mp hp]) fr') st' go) fun r s4 ⟨u, hr, h4⟩ => ?_
      subst hr
      refine thn h4 fun _ s5 ⟨x, H5, I5, r5, y5, st5, fr5⟩ => ?_
      have hDp5 := I5.pin (D, _) (List.mem_append_right _ (List.mem_singleton.mpr rfl))
      have I5' := I5.pinned (fpB H5 _ (fun p hp => by rw [List.mem_singleton.mp hp]) fr5) (T.obj _ _ st5)
      refine thn (gG _ s5 σ' H5 x u _ I5' r5 (step x H5 y5)) fun _ s6 ⟨σ6, H6, I6, q6⟩ => ?_
      refine thn (gI _ s6 σ6 H6 _ I6 q6) fun ok s7 ⟨H7, I7, q7⟩ => ?_
      have fpK : ∀ {σ8 : St} {H8 : Hp} {s8 : Shared}, Inv (X.comp scope own cap C s H fp (X.pn ++ pins)) ([(D, ({ cls := .type "list", data := .seq its.toArray k } : Obj))] ++ pinsAt fp s5.heap) σ8 H8 s8 → tn (i + 1) s8.heap ∧ (∀ b ∈ fp, H8 b = none) := fun {σ8 H8 s8} I8 => by
        refine ⟨T.keep _ _ _ st5 fun b hb o e => (I8.pin (b, o) (List.mem_append_right _ (List.mem_append_right _ (mem_pinsAt hb e)))).1, fun b hb => ?_⟩
        obtain ⟨o, e, d⟩ := T.obj _ _ st5 b hb
        exact (I8.pin (b, o) (List.mem_append_right _ (List.mem_append_right _ (mem_pinsAt hb e)))).2.1
      have dK : ∀ {σ8 : St} {H8 : Hp} {s8 : Shared}, Inv (X.comp scope own cap C s H fp (X.pn ++ pins)) ([(D, ({ cls := .type "list", data := .seq its.toArray k } : Obj))] ++ pinsAt fp s5.heap) σ8 H8 s8 → s8.heap.get? D = some { cls := .type "list", data := .seq its.toArray k } ∧ H8 D = none := fun {σ8 H8 s8} I8 => by
        have z := I8.pin (D, _) (List.mem_append_right _ (List.mem_append_left _ (List.mem_singleton.mpr rfl)))
        exact ⟨z.1, z.2.1⟩
      cases ok with
      | false =>
        obtain ⟨m', hm, w7⟩ := q7
        obtain ⟨st7, fr7⟩ := fpK I7
        obtain ⟨hD7, hn7⟩ := dK I7
        exact ⟨m', hm, i + 1, ys, σ6, H7, I7.pins_of (fun p hp => nomatch hp), st7, fr7, hn7, ⟨its, k, hv, hD7⟩, hyl, w7⟩
      | true =>
        refine thn (gE _ s7 σ6 H7 _ I7 q7) fun xv s8 ⟨y, H8, I8, r8, hl8, m', hm, w8⟩ => ?_
        obtain ⟨st8, fr8⟩ := fpK I8
        obtain ⟨hD8, hn8⟩ := dK I8
        refine append_at (hsz := by rw [List.size_toArray, ← hv.length]; exact Nat.le_of_lt hl8) hD8 fun h9 hs9 hD9 => ?_
        have I9 : Inv (X.comp scope own cap C s H fp (X.pn ++ pins)) [] σ6 H8 { s8 with heap := h9 } := by
          refine (I8.pins_of (pins' := []) fun p hp => nomatch hp).turned (t' := s8.toks) (it := D) (fun b o hb e => hs9.extBut b o hb e) hn8 hDC (.inr hDs) (fun x c e z => ?_) (fun p hp z => ?_)
          · exact Nat.lt_irrefl _ (Nat.lt_of_lt_of_le (cellLt x c (cvX x c e)) (by rw [z]; exact hDs))
          · have hp' : p ∈ X.pn ++ pins := by simpa [Cx.comp] using hp
            exact Nat.lt_irrefl _ (Nat.lt_of_lt_of_le (Heap.lt_size (I.pin p hp').1) (by rw [z]; exact hDs))
        refine ⟨m', hm, i + 1, ys ++ [y], σ6, H8, I9, T.keep _ _ _ st8 fun b hb o e => hs9.extBut b o (fun z => hDf (by rw [← z]; exact hb)) e, fr8, hn8, ⟨its ++ [xv], k + 1, hv.append (.cons r8 .nil), ?_⟩, by rw [List.length_append, List.length_singleton]; exact hl8, w8⟩
        rw [hD9, List.push_toArray]
  exact codeAny_compStart_list (loop _ rfl) (T.self _ 0 _ _ _ (T.keep _ _ _ st fun b _ o e => old b o e) (loop _ rfl))
theorem pe_comp {wi : TI} {g : TG} {ti : TT} {te : TE} (hc : X.calm = true) (S : CompScope X.N X.env.scope scope own cap ix) (hi : PI X tg iter wi)
    (hb : ∀ (C : Addr) (s₀ : Shared) (H₀ : Hp) (ex : List Addr) (pn : List (Addr × Obj)), PG (X.comp scope own cap C s₀ H₀ ex pn) tg g ∧ PIfs (X.comp scope own cap C s₀ H₀ ex pn) ifs ti ∧ PE (X.comp scope own cap C s₀ H₀ ex pn) elt te)
    (hs : ∀ x, foldedSetIterable iter X.env x = pure x := by intro _; rfl) : PE X (.ListComp elt [⟨tg, iter, ifs, 0⟩] scope pos) (tComp own ix wi g ti te) := by
  intro pins s σ H Q I h
  rw [eval_ListComp]
  refine wpAny_comprehension_free (use := none) rfl hs (closureFor_clos (S.has I.ok)) S.kind S.names (thn (hi pins s σ H _ I h) fun xv s₁ h₁ => thn h₁ fun itv s₂ h₂ => ?_)
  obtain ⟨it, fp, tn, J, H2, e, I2, T, st2, f2, W, h0, turn⟩ := h₂
  subst e
  refine comp_block (Q := Q) (RR := fun acc C => compPost (model X.prog X.w) X.A X.xe none (EP X pins σ Q) acc C) hc I2 S T st2 f2 hb h0 turn ?_
  intro D C oC m H' s' hoC hn h1 h2 h3 h4 h5 h6 I' q
  refine ⟨m, hn, fun h' hs' => ⟨.ref D, H', I'.turned (t' := s'.toks) (it := C) (fun b o hb e => hs'.extBut b o hb e) h6 (Ne.symm h1.symm) (.inr h2) h3 h4, rfl, q⟩⟩
theorem ps_setC {wi : TI} {g : TG} {ti : TT} {te : TE} {i : Nat} {y : Str} {py spos : Pos} (hc : X.calm = true) (hN : X.N.Nodup) (hy : X.N[i]? = some y) (hx : Loc X.env.scope y) (S : CompScope X.N X.env.scope scope own cap ix) (hi : PI X tg iter wi)
    (hb : ∀ (C : Addr) (s₀ : Shared) (H₀ : Hp) (ex : List Addr) (pn : List (Addr × Obj)), PG (X.comp scope own cap C s₀ H₀ ex pn) tg g ∧ PIfs (X.comp scope own cap C s₀ H₀ ex pn) ifs ti ∧ PE (X.comp scope own cap C s₀ H₀ ex pn) elt te)
    (hsw : swapsWith (.ListComp elt [⟨tg, iter, ifs, 0⟩] scope pos) (some (.Name y py)) spos.line X.env = pure true := by rfl)
    (hs : ∀ x, foldedSetIterable iter X.env x = pure x := by intro _; rfl) (hf : X.fn y = true ∨ X.env.scope.names.lookup y = some .local := by first | exact .inl rfl | exact .inr rfl | assumption) :
    PS X (.Assign [.Name y py] (.ListComp elt [⟨tg, iter, ifs, 0⟩] scope pos) spos) (tAsg (tComp own ix wi g ti te) (gName i)) := by
  intro pins s σ H D I h
  rw [exec_Assign_Name_used _ _ _ _ hsw]
  refine wpAny_bind (wpAny_standAt (wpAny_bind ?_))
  show wpAny _ X.A (do let _ ← comprehension (.ListComp elt [⟨tg, iter, ifs, 0⟩] scope pos) scope X.env _ (newList []) false (eval iter X.env) (some (assign (.Name y py) X.env))) _ _ s
  refine wpAny_bind (wpAny_mono (wpAny_comprehension_free (use := some (assign (.Name y py) X.env)) (Q := fun _ s' => SP X pins D .next s') rfl hs (closureFor_clos (S.has I.ok)) S.kind S.names
    (thn (hi pins s σ H _ I h) fun xv s₁ h₁ => thn h₁ fun itv s₂ h₂ => ?_)) (fun _ s' hq => wpAny_pure (wpAny_pure hq)) fun _ _ e => e)
  obtain ⟨it, fp, tn, J, H2, e, I2, T, st2, f2, W, h0, turn⟩ := h₂
  subst e
  refine comp_block (Q := fun x H1 => gName i x σ H1 D.nx) (RR := fun acc C => compPost (model X.prog X.w) X.A X.xe (some (assign (.Name y py) X.env)) (fun _ s' => SP X pins D .next s') acc C) hc I2 S T st2 f2 hb h0 turn ?_
  intro Da C oC m H' s' hoC hn h1 h2 h3 h4 h5 h6 I' q
  have hdc : ∀ v, oC.data ≠ .cell v := fun v z => by
    obtain ⟨o', es, ep, ho', hd', _⟩ := hn
    rw [hoC] at ho'; cases ho'; rw [hd'] at z; cases z
  have Ip : Inv X (pins ++ [(C, oC)]) σ H' s' := I'.pins_of fun p hp => by
    rcases List.mem_append.mp hp with z | z
    · exact I'.pin p (List.mem_append_right _ z)
    · have e1 : p = (C, oC) := by simpa using z
      subst e1
      exact ⟨hoC, h6, h1, h5, hdc⟩
  show wpAny _ X.A (assign (.Name y py) X.env (.ref Da)) _ _ _
  refine wpAny_assign_Name (store_ok (v := .ref Da) Ip hN hy hx rfl (fun s2 I3 => ?_) hf)
  have pc := I3.pin (C, oC) (List.mem_append_right _ (List.mem_append_right _ (by simp)))
  obtain ⟨o', es, ep, ho', r'⟩ := hn
  rw [hoC] at ho'; cases ho'
  refine ⟨m, ⟨oC, es, ep, pc.1, r'⟩, fun h' hs' => ⟨_, H', (Inv.unpinned I3).turned (t' := s2.toks) (it := C) (fun b o hb e => hs'.extBut b o hb e) h6 h1 (.inr h2) h3 h4, q⟩⟩
end
theorem comp_list {K : PySem.W.Frag} {a : Addr} {xs : List V} {x0 : Str} {ix : List Nat} {ti : TT} {te : TE} {Q : VK} {σ : St} {H : Hp} (Pv : Nat → List V → Hp → Prop) (h0 : Pv 0 [] H) (hl : ∀ i ys H, i ≤ xs.length → Pv i ys H → SqL K H a xs)
    (hs : ∀ i x ys H (R : List V → Hp → Prop), xs[i]? = some x → Pv i ys H → (∀ ys' H', Pv (i + 1) ys' H' → R ys' H') → ti (some x :: ix.map fun j => (σ[j]?).join) H fun b H3 => if b = true then te (some x :: ix.map fun j => (σ[j]?).join) H3 fun y H4 => ys.length < sizeLine ∧ R (ys ++ [y]) H4 else R ys H3)
    (hd : ∀ ys H, Pv xs.length ys H → ys.length ≤ sizeLine ∧ ∀ D, H D = none → Q (.ref D) (upd H D (.lst ys))) :
    ∃ W : Nat → Nat → List V → St → Hp → Prop, (∃ m, W 0 m [] (capS σ [x0] ix) H) ∧ ∀ i m ys σ' H, W i m ys σ' H →
      ((Itl K a).stop i H ∧ ys.length ≤ sizeLine ∧ ∀ D, H D = none → Q (.ref D) (upd H D (.lst ys))) ∨
      ((Itl K a).go i H ∧ ∀ x H', (Itl K a).yld i H x H' → gName 0 x σ' H' fun σ2 H2 => ti σ2 H2 fun b H3 => if b = true then te σ2 H3 fun y H4 => ys.length < sizeLine ∧ ∃ m', m' < m ∧ W (i + 1) m' (ys ++ [y]) σ2 H4 else ∃ m', m' < m ∧ W (i + 1) m' ys σ2 H3) := by
  refine ⟨fun i m ys σ' H => m = xs.length - i ∧ i ≤ xs.length ∧ (∃ o, σ' = o :: ix.map fun j => (σ[j]?).join) ∧ Pv i ys H, ⟨xs.length, by simp, Nat.zero_le _, ⟨none, rfl⟩, h0⟩, ?_⟩
  rintro i m ys σ' H ⟨rfl, hi, ⟨o, rfl⟩, p⟩
  have q := hl i ys H hi p
  by_cases hlt : i < xs.length
  · refine .inr ⟨⟨xs, xs[i], q, by simp [hlt]⟩, fun x H' y => ?_⟩
    obtain ⟨e, y⟩ := y
    subst e
    exact hs i x ys _ (fun ys' H4 => ∃ m', m' < xs.length - i ∧ m' = xs.length - (i + 1) ∧ i + 1 ≤ xs.length ∧ (∃ o', some x :: (ix.map fun j => (σ[j]?).join) = o' :: ix.map fun j => (σ[j]?).join) ∧ Pv (i + 1) ys' H4) (y xs q) p
      fun ys' H4 z => ⟨xs.length - (i + 1), by omega, rfl, hlt, ⟨_, rfl⟩, z⟩
  · have e : i = xs.length := by omega
    subst e
    exact .inl ⟨⟨xs, q, Nat.le_refl _⟩, hd ys H p⟩
theorem comp_str {z : Str} {x0 : Str} {ix : List Nat} {ti : TT} {te : TE} {Q : VK} {σ : St} {H : Hp} (Pv : Nat → List V → Hp → Prop) (h0 : Pv 0 [] H)
    (hs : ∀ i c ys H (R : List V → Hp → Prop), z.cps[i]? = some c → Pv i ys H → (∀ ys' H', Pv (i + 1) ys' H' → R ys' H') → ti (some (.str ⟨#[c]⟩) :: ix.map fun j => (σ[j]?).join) H fun b H3 => if b = true then te (some (.str ⟨#[c]⟩) :: ix.map fun j => (σ[j]?).join) H3 fun y H4 => ys.length < sizeLine ∧ R (ys ++ [y]) H4 else R ys H3)
    (hd : ∀ ys H, Pv z.cps.size ys H → ys.length ≤ sizeLine ∧ ∀ D, H D = none → Q (.ref D) (upd H D (.lst ys))) :
    ∃ W : Nat → Nat → List V → St → Hp → Prop, (∃ m, W 0 m [] (capS σ [x0] ix) H) ∧ ∀ i m ys σ' H, W i m ys σ' H →
      ((Its z).stop i H ∧ ys.length ≤ sizeLine ∧ ∀ D, H D = none → Q (.ref D) (upd H D (.lst ys))) ∨
      ((Its z).go i H ∧ ∀ x H', (Its z).yld i H x H' → gName 0 x σ' H' fun σ2 H2 => ti σ2 H2 fun b H3 => if b = true then te σ2 H3 fun y H4 => ys.length < sizeLine ∧ ∃ m', m' < m ∧ W (i + 1) m' (ys ++ [y]) σ2 H4 else ∃ m', m' < m ∧ W (i + 1) m' ys σ2 H3) := by
  refine ⟨fun i m ys σ' H => m = z.cps.size - i ∧ i ≤ z.cps.size ∧ (∃ o, σ' = o :: ix.map fun j => (σ[j]?).join) ∧ Pv i ys H, ⟨z.cps.size, by simp, Nat.zero_le _, ⟨none, rfl⟩, h0⟩, ?_⟩
  rintro i m ys σ' H ⟨rfl, hi, ⟨o, rfl⟩, p⟩
  by_cases hlt : i < z.cps.size
  · refine .inr ⟨hlt, fun x H' y => ?_⟩
    obtain ⟨e, c, hc, rfl⟩ := y
    subst e
    exact hs i c ys _ (fun ys' H4 => ∃ m', m' < z.cps.size - i ∧ m' = z.cps.size - (i + 1) ∧ i + 1 ≤ z.cps.size ∧ (∃ o', some (V.str ⟨#[c]⟩) :: (ix.map fun j => (σ[j]?).join) = o' :: ix.map fun j => (σ[j]?).join) ∧ Pv (i + 1) ys' H4) hc p
      fun ys' H4 q => ⟨z.cps.size - (i + 1), by omega, rfl, hlt, ⟨_, rfl⟩, q⟩
  · have e : i = z.cps.size := by omega
    subst e
    exact .inl ⟨rfl, hd ys H p⟩
theorem comp_range {lo : Int} {n : Nat} {x0 : Str} {ix : List Nat} {ti : TT} {te : TE} {Q : VK} {σ : St} {H : Hp} (Pv : Nat → List V → Hp → Prop) (h0 : Pv 0 [] H)
    (hs : ∀ i ys H (R : List V → Hp → Prop), i < n → Pv i ys H → (∀ ys' H', Pv (i + 1) ys' H' → R ys' H') → ti (some (.int (lo + i)) :: ix.map fun j => (σ[j]?).join) H fun b H3 => if b = true then te (some (.int (lo + i)) :: ix.map fun j => (σ[j]?).join) H3 fun y H4 => ys.length < sizeLine ∧ R (ys ++ [y]) H4 else R ys H3)
    (hd : ∀ ys H, Pv n ys H → ys.length ≤ sizeLine ∧ ∀ D, H D = none → Q (.ref D) (upd H D (.lst ys))) :
    ∃ W : Nat → Nat → List V → St → Hp → Prop, (∃ m, W 0 m [] (capS σ [x0] ix) H) ∧ ∀ i m ys σ' H, W i m ys σ' H →
      ((Itr lo n).stop i H ∧ ys.length ≤ sizeLine ∧ ∀ D, H D = none → Q (.ref D) (upd H D (.lst ys))) ∨
      ((Itr lo n).go i H ∧ ∀ x H', (Itr lo n).yld i H x H' → gName 0 x σ' H' fun σ2 H2 => ti σ2 H2 fun b H3 => if b = true then te σ2 H3 fun y H4 => ys.length < sizeLine ∧ ∃ m', m' < m ∧ W (i + 1) m' (ys ++ [y]) σ2 H4 else ∃ m', m' < m ∧ W (i + 1) m' ys σ2 H3) := by
  refine ⟨fun i m ys σ' H => m = n - i ∧ i ≤ n ∧ (∃ o, σ' = o :: ix.map fun j => (σ[j]?).join) ∧ Pv i ys H, ⟨n, by simp, Nat.zero_le _, ⟨none, rfl⟩, h0⟩, ?_⟩
  rintro i m ys σ' H ⟨rfl, hi, ⟨o, rfl⟩, p⟩
  by_cases hlt : i < n
  · refine .inr ⟨hlt, fun x H' y => ?_⟩
    obtain ⟨e, y⟩ := y
    subst e y
    exact hs i ys _ (fun ys' H4 => ∃ m', m' < n - i ∧ m' = n - (i + 1) ∧ i + 1 ≤ n ∧ (∃ o', some (V.int (lo + i)) :: (ix.map fun j => (σ[j]?).join) = o' :: ix.map fun j => (σ[j]?).join) ∧ Pv (i + 1) ys' H4) hlt p
      fun ys' H4 q => ⟨n - (i + 1), by omega, rfl, hlt, ⟨_, rfl⟩, q⟩
  · have e : i = n := by omega
    subst e
    exact .inl ⟨Nat.le_refl _, hd ys H p⟩
theorem tcomp_list {K : PySem.W.Frag} {a : Addr} {xs : List V} {x0 : Str} {ix : List Nat} {wi : TI} {ti : TT} {te : TE} {Q : VK} {σ : St} {H H1 : Hp} (hi : ∀ R : It → Hp → Prop, R (Itl K a) H1 → wi σ H R) (Pv : Nat → List V → Hp → Prop) (h0 : Pv 0 [] H1) (hl : ∀ i ys H, i ≤ xs.length → Pv i ys H → SqL K H a xs)
    (hs : ∀ i x ys H (R : List V → Hp → Prop), xs[i]? = some x → Pv i ys H → (∀ ys' H', Pv (i + 1) ys' H' → R ys' H') → ti (some x :: ix.map fun j => (σ[j]?).join) H fun b H3 => if b = true then te (some x :: ix.map fun j => (σ[j]?).join) H3 fun y H4 => ys.length < sizeLine ∧ R (ys ++ [y]) H4 else R ys H3)
    (hd : ∀ ys H, Pv xs.length ys H → ys.length ≤ sizeLine ∧ ∀ D, H D = none → Q (.ref D) (upd H D (.lst ys))) : tComp [x0] ix wi (gName 0) ti te σ H Q := hi _ (comp_list Pv h0 hl hs hd)
theorem tcomp_str {z : Str} {x0 : Str} {ix : List Nat} {wi : TI} {ti : TT} {te : TE} {Q : VK} {σ : St} {H H1 : Hp} (hi : ∀ R : It → Hp → Prop, R (Its z) H1 → wi σ H R) (Pv : Nat → List V → Hp → Prop) (h0 : Pv 0 [] H1)
    (hs : ∀ i c ys H (R : List V → Hp → Prop), z.cps[i]? = some c → Pv i ys H → (∀ ys' H', Pv (i + 1) ys' H' → R ys' H') → ti (some (.str ⟨#[c]⟩) :: ix.map fun j => (σ[j]?).join) H fun b H3 => if b = true then te (some (.str ⟨#[c]⟩) :: ix.map fun j => (σ[j]?).join) H3 fun y H4 => ys.length < sizeLine ∧ R (ys ++ [y]) H4 else R ys H3)
    (hd : ∀ ys H, Pv z.cps.size ys H → ys.length ≤ sizeLine ∧ ∀ D, H D = none → Q (.ref D) (upd H D (.lst ys))) : tComp [x0] ix wi (gName 0) ti te σ H Q := hi _ (comp_str Pv h0 hs hd)
theorem tcomp_range {lo : Int} {n : Nat} {x0 : Str} {ix : List Nat} {wi : TI} {ti : TT} {te : TE} {Q : VK} {σ : St} {H H1 : Hp} (hi : ∀ R : It → Hp → Prop, R (Itr lo n) H1 → wi σ H R) (Pv : Nat → List V → Hp → Prop) (h0 : Pv 0 [] H1)
    (hs : ∀ i ys H (R : List V → Hp → Prop), i < n → Pv i ys H → (∀ ys' H', Pv (i + 1) ys' H' → R ys' H') → ti (some (.int (lo + i)) :: ix.map fun j => (σ[j]?).join) H fun b H3 => if b = true then te (some (.int (lo + i)) :: ix.map fun j => (σ[j]?).join) H3 fun y H4 => ys.length < sizeLine ∧ R (ys ++ [y]) H4 else R ys H3)
    (hd : ∀ ys H, Pv n ys H → ys.length ≤ sizeLine ∧ ∀ D, H D = none → Q (.ref D) (upd H D (.lst ys))) : tComp [x0] ix wi (gName 0) ti te σ H Q := hi _ (comp_range Pv h0 hs hd)
end L2
namespace L2
open PySem PySem.Spec PyProof.Rows
section
variable {X : Cx}
theorem call_isiT : CallR X (.builtin "isinstance") (fun xs H Q => ∃ x n t b, xs = [x, .ty n] ∧ TyOf X.K H x t ∧ PySem.W.kitOne X.K t (.type n) = some b ∧ Q (.bl b) H) := by
  intro pins s σ H xs us Q I r h
  obtain ⟨x, n, t, b, rfl, ty, e, q⟩ := h
  obtain ⟨u, w', rfl, rx, rc⟩ := vals2 r
  cases (show w' = Value.type n from rc)
  exact isinst_ok I rx ty e fun tk => ⟨.bl b, H, I.tok tk, rfl, q⟩
theorem pe_ty {x : Str} {n : String} {pos : Pos} (hg : Gl X x) (hm : X.mg x = none) (hv : bootBuiltins x = some (.type n)) (hn : x ≠ "__name__" := by decide) (hd : (x == ("__debug__" : Str)) = false := by decide) : PE X (.Name x pos) (tC (.ty n)) :=
  pe_bltn (v := .ty n) hg hm hv rfl hn hd
theorem truth_bools {prog : Program} {w : World} {A : Around} {bs : List Bool} {its : List Value} (r : Vals (bs.map V.bl) its) : TruthOf prog w A (fun i v => its.toArray[i]? = some v) (fun i => bs.getD i false) := by
  intro i v s Q E hv q
  have hv' : its[i]? = some v := by simpa using hv
  have hl := r.length
  rw [List.length_map] at hl
  have hi : i < its.length := (List.getElem?_eq_some_iff.mp hv').1
  have hb : (bs.map V.bl)[i]? = some (.bl (bs.getD i false)) := by
    rw [List.getElem?_map, List.getD_eq_getElem?_getD, List.getElem?_eq_getElem (show i < bs.length by omega)]
    rfl
  obtain ⟨u, hu, ru⟩ := Vals.get r hb
  rw [hv'] at hu
  cases hu
  cases (show v = Value.bool _ from ru)
  exact wpAny_truthy_bool q
theorem range_all (bs : List Bool) : (List.range bs.length).all (fun i => bs.getD i false) = bs.all id := by
  rw [Bool.eq_iff_iff, List.all_eq_true, List.all_eq_true]
  constructor
  · intro h b hb
    obtain ⟨i, hi, e⟩ := List.mem_iff_getElem.mp hb
    have := h i (List.mem_range.mpr hi)
    rw [List.getD_eq_getElem?_getD, List.getElem?_eq_getElem hi, e] at this
    exact this
  · intro h i hi
    have hi' := List.mem_range.mp hi
    rw [List.getD_eq_getElem?_getD, List.getElem?_eq_getElem hi']
    exact h _ (List.getElem_mem hi')
theorem call_all (hc : X.calm = true) : CallR X (.builtin "all") (fun xs H Q => ∃ (p : Addr) (bs : List Bool), xs = [.ref p] ∧ SqL X.K H p (bs.map V.bl) ∧ Q (.bl (bs.all id)) H) := by
  intro pins s σ H xs us Q I r h
  obtain ⟨p, bs, rfl, hq, q⟩ := h
  obtain ⟨u, rfl, rx⟩ := vals1 r
  cases (show u = Value.ref p from rx)
  obtain ⟨its, rv, pl, hz⟩ := I.list hq
  have hlt : p < s.heap.objs.size := by obtain ⟨_, e, _⟩ := pl.isList; exact Heap.lt_size e
  have hl := rv.length
  rw [List.length_map] at hl
  refine call_all_walk (wpAny_pyIter_list pl.isList ⟨s.heap.objs.size, _, _, _, _, _, _, rfl, Walks.list (A := X.A.in1) (show X.A.in1.handled = none from I.ok.hd hc) s.heap.objs.size p (Nat.ne_of_lt hlt) its.toArray, ⟨⟨_, Heap.get?_push_size _ rfl, rfl, rfl⟩, pl.isList.push _⟩, truth_bools rv, fun h' tk hk => ?_⟩)
  rw [List.size_toArray, ← hl, range_all]
  exact ⟨.bl _, H, I.kept fun b o e => hk b o (by simpa using Nat.ne_of_lt (Heap.lt_size e)) (Heap.get?_push_of_some _ e), rfl, q⟩
def rSlS : V → Option Int → Option Int → Hp → VK → Prop := fun x lo hi H Q => ∃ z, x = .str z ∧ z.length ≤ sizeLine ∧ Q (.str (Txt.slice z lo hi)) H
theorem sl_str : SlR X rSlS := by
  intro pins s σ H x v vl vu lo hi sl Q I rx hs pl pu h
  obtain ⟨z, rfl, hz, q⟩ := h
  obtain ⟨t, rfl⟩ := rx
  refine ⟨"str", _, F.slot_str_getitem.lookup, typeIs_str _ _ _, ?_⟩
  have fin : (Txt.slice z lo hi).length ≤ sizeLine ∧ ∀ t' k, EP X pins σ Q (.str (Txt.slice z lo hi) t') { s with toks := k } := ⟨Nat.le_trans (Txt.slice_le z _ _) hz, fun t' k => ⟨.str _, H, I.tok k, ⟨t', rfl⟩, q⟩⟩
  obtain ⟨o, ho, hc, hd⟩ := hs
  cases pl with
  | none =>
    cases pu with
    | none => exact wpAny_getItem_str_slice (l := none) (u := none) (st := none) ⟨o, ho, hc, hd⟩ rfl (post_val_or_str fin)
    | int j uj => exact wpAny_getItem_str_slice (l := none) (u := some (j, uj)) (st := none) ⟨o, ho, hc, hd⟩ rfl (post_val_or_str fin)
  | int i ui =>
    cases pu with
    | none => exact wpAny_getItem_str_slice (l := some (i, ui)) (u := none) (st := none) ⟨o, ho, hc, hd⟩ rfl (post_val_or_str fin)
    | int j uj => exact wpAny_getItem_str_slice (l := some (i, ui)) (u := some (j, uj)) (st := none) ⟨o, ho, hc, hd⟩ rfl (post_val_or_str fin)
end
structure Def (K : PySem.W.Frag) (mg : Str → Option Value) (x : Str) (st : Stmt) (ps : List Str) (f : Addr) (fd : FuncData) : Prop where
  F : Fun K x x st f fd
  mg : mg x = some (.ref f)
  b : Binds K fd ps []
theorem atI_int {α : Type} {xs : List α} {i : Int} (h0 : 0 ≤ i) (h1 : i < xs.length) : ∃ v, v ∈ xs ∧ xs[i.toNat]? = some v ∧ atI xs i = some v := by
  obtain ⟨n, rfl⟩ := Int.eq_ofNat_of_zero_le h0
  have hn : n < xs.length := by omega
  exact ⟨xs[n], List.getElem_mem hn, by simp [hn], atI_nat (List.getElem?_eq_getElem hn)⟩
theorem atI_mod {α : Type} {xs : List α} {i m : Int} (h0 : 0 < m) (h1 : m ≤ xs.length) : ∃ v, v ∈ xs ∧ xs[(i % m).toNat]? = some v ∧ atI xs (i % m) = some v :=
  atI_int (Int.emod_nonneg _ (by omega)) (by have := Int.emod_lt_of_pos i h0; omega)
end L2
namespace L2
open PySem PySem.Spec PyProof.Rows
mutual
inductive DatV (K : PySem.W.Frag) (H : Hp) : V → PyData → Prop
  | non : DatV K H .non .none
  | bl (b : Bool) : DatV K H (.bl b) (.bool b)
  | int (i : Int) : DatV K H (.int i) (.int i)
  | str (x : Str) : DatV K H (.str x) (.str x)
  | lst {a : Addr} {xs : List V} {ds : List PyData} : SqL K H a xs → DatVs K H xs ds → DatV K H (.ref a) (.list ds)
  | tup {a : Addr} {xs : List V} {ds : List PyData} : SqT K H a xs → DatVs K H xs ds → DatV K H (.ref a) (.tuple ds)
inductive DatVs (K : PySem.W.Frag) (H : Hp) : List V → List PyData → Prop
  | nil : DatVs K H [] []
  | cons {x : V} {d : PyData} {xs : List V} {ds : List PyData} : DatV K H x d → DatVs K H xs ds → DatVs K H (x :: xs) (d :: ds)
end
theorem DatV.reads {X : Cx} {pins : List (Addr × Obj)} {σ : St} {H : Hp} {s : Shared} (I : Inv X pins σ H s) {v : V} {d : PyData} (h : DatV X.K H v d) : ∀ u, RelV v u → ∃ as, Reads s.heap u d as :=
  DatV.rec (motive_1 := fun v d _ => ∀ u, RelV v u → ∃ as, Reads s.heap u d as) (motive_2 := fun xs ds _ => ∀ us, Vals xs us → ∃ as, ReadsAll s.heap us ds as)
    (fun u r => by cases (show u = Value.none from r); exact ⟨_, .none⟩)
    (fun b u r => by cases (show u = Value.bool b from r); exact ⟨_, .bool b⟩)
    (fun i u r => by obtain ⟨t, rfl⟩ := (show ∃ t, u = Value.int i t from r); exact ⟨_, .int i t⟩)
    (fun x u r => by obtain ⟨t, rfl⟩ := (show ∃ t, u = Value.str x t from r); exact ⟨_, .str x t⟩)
    (fun {a xs ds} hq _ ih u r => by
      cases (show u = Value.ref a from r)
      obtain ⟨its, rv, pl, _⟩ := I.list hq
      obtain ⟨o, ho, hc, n, hd⟩ := pl.isList
      obtain ⟨as, ra⟩ := ih its rv
      exact ⟨_, .list ho hc hd (by simpa using ra)⟩)
    (fun {a xs ds} hq _ ih u r => by
      cases (show u = Value.ref a from r)
      obtain ⟨its, rv, pl, _⟩ := I.tuple hq
      obtain ⟨o, ho, hc, n, hd⟩ := pl
      obtain ⟨as, ra⟩ := ih its rv
      exact ⟨_, .tuple ho hc hd (by simpa using ra)⟩)
    (fun us r => by cases r; exact ⟨_, .nil⟩)
    (fun {x d xs ds} _ _ ih1 ih2 us r => by
      cases r with
      | cons r1 r2 =>
        obtain ⟨as, ra⟩ := ih1 _ r1
        obtain ⟨bs, rb⟩ := ih2 _ r2
        exact ⟨_, .cons ra rb⟩) h
theorem SqL.same {K : PySem.W.Frag} {H H' : Hp} {a : Addr} {xs : List V} (e : Same H H') (h : SqL K H a xs) : SqL K H' a xs := e.seq h
theorem SqT.same {K : PySem.W.Frag} {H H' : Hp} {a : Addr} {xs : List V} (e : Same H H') (h : SqT K H a xs) : SqT K H' a xs := by
  rcases h with (h | ⟨o, h⟩) | h
  · exact .inl (.inl (e _ _ h))
  · exact .inl (.inr ⟨o, e _ _ h⟩)
  · exact .inr h
theorem DatV.same {K : PySem.W.Frag} {H H' : Hp} (e : Same H H') {v : V} {d : PyData} (h : DatV K H v d) : DatV K H' v d :=
  DatV.rec (motive_1 := fun v d _ => DatV K H' v d) (motive_2 := fun xs ds _ => DatVs K H' xs ds) .non .bl .int .str (fun q _ ih => .lst (q.same e) ih) (fun q _ ih => .tup (q.same e) ih) .nil (fun _ _ a b => .cons a b) h
theorem DatVs.same {K : PySem.W.Frag} {H H' : Hp} (e : Same H H') {v : List V} {d : List PyData} (h : DatVs K H v d) : DatVs K H' v d :=
  DatVs.rec (motive_1 := fun v d _ => DatV K H' v d) (motive_2 := fun xs ds _ => DatVs K H' xs ds) .non .bl .int .str (fun q _ ih => .lst (q.same e) ih) (fun q _ ih => .tup (q.same e) ih) .nil (fun _ _ a b => .cons a b) h
section
variable {X : Cx}
def rEqD (K : PySem.W.Frag) (neg : Bool) : R2 := fun x y H Q => ∃ d e, DatV K H x d ∧ DatV K H y e ∧ SeqAt.shaped d = true ∧ SeqAt.shaped e = true ∧ Q (.bl (if neg then !PyData.eqv d e else PyData.eqv d e)) H
theorem op_eqD (hu : X.A.units + 64 < cLine) : OpR X (compareOp .Eq) (rEqD X.K false) := by
  intro pins s σ H x y v u Q I rx ry h
  obtain ⟨d, e, hd, he, s1, s2, q⟩ := h
  obtain ⟨as, ra⟩ := hd.reads I v rx
  obtain ⟨bs, rb⟩ := he.reads I u ry
  exact eq_dataH ra rb s1 s2 hu ⟨.bl _, H, I, rfl, q⟩
end
end L2
namespace L2
open PySem PySem.Spec PyProof.Rows
section
variable {P : Program} {w : World} {H H' : Hp} {h h' : Heap} {a : Addr} {o : HO}
theorem ObjOk.there (x : ObjOk P w H h a o) : ∃ ob, h.get? a = some ob := by
  cases o with
  | lst xs => obtain ⟨_, _, _, _, e⟩ := x; exact ⟨_, e⟩
  | tup xs => obtain ⟨_, _, _, _, e, _⟩ := x; exact ⟨_, e⟩
  | dK kvs => obtain ⟨_, _, _, _, o, _, _, e, _⟩ := x; exact ⟨_, e⟩
  | dT kvs => obtain ⟨_, _, _, _, o, _, _, e, _⟩ := x; exact ⟨_, e⟩
  | set S n => obtain ⟨o, _, _, _, e, _⟩ := x; exact ⟨_, e⟩
  | ins C dx fs => obtain ⟨_, _, _, e, _⟩ := x; exact ⟨_, e⟩
  | own y => obtain ⟨_, e⟩ := x; exact ⟨_, e⟩
  | xd fs => obtain ⟨_, ⟨_, _, _, e, _⟩, _⟩ := x; exact ⟨_, e⟩
  | rng lo hi => obtain ⟨_, _, _, e⟩ := x; exact ⟨_, e⟩
  | frz ob u => obtain ⟨e, _⟩ := x; exact ⟨_, e⟩
  | tbl ps => exact ⟨_, (show h.get? a = some _ from x)⟩
  | met f y => exact ⟨_, (show h.get? a = some _ from x)⟩
  | ext φ => obtain ⟨_, ⟨_, e⟩, _⟩ := x; exact ⟨_, e⟩
end
structure Fly (P : Program) (w : World) (outer : List Env) (H H' : Hp) (s : Shared) (ea : Addr) (cls : Value) (s' : Shared) : Prop where
  os : s'.os = s.os
  bare : AllBare s'.gens
  un : Un (frs outer) [] H H' s.heap s'.heap
  fly : ∃ B a0, Heap.FlyingW B outer ea cls a0 s'.heap ∧ HOk P w H' B ∧ (∀ b o, s.heap.get? b = some o → H b = none → b ∉ frs outer → B.get? b = some o) ∧ (∀ b o, s.heap.get? b = some o → b ∉ frs outer → ∃ o', B.get? b = some o')
def CX1 (P : Program) (w : World) : CXT := fun outer H s E e s' => ∃ ea cls H', e = .ref ea ∧ Fly P w outer H H' s ea cls s' ∧ E cls none H'
section
variable {P : Program} {w : World} {outer : List Env} {H H' : Hp} {s s' : Shared} {ea : Addr} {cls : Value}
theorem Fly.turn {B : Heap} {a0 : Value} {h'' : Heap} (f : Fly P w outer H H' s ea cls s') (hfl : Heap.FlyingW B outer ea cls a0 s'.heap) (hok : HOk P w H' B) (h3 : ∀ b o, s.heap.get? b = some o → H b = none → b ∉ frs outer → B.get? b = some o)
    (h4 : ∀ b o, s.heap.get? b = some o → b ∉ frs outer → ∃ o', B.get? b = some o') (hfl' : Heap.FlyingW B outer ea cls a0 h'') (sm : s'.heap.UpToSlots h'') : Fly P w outer H H' s ea cls { s' with heap := h'' } := by
  have fr : ∀ b o', b ∈ frs outer → s'.heap.get? b = some o' → ∃ sl, h''.get? b = some { o' with slots := sl } := fun b o' hb e => by
    obtain ⟨_, o1, e1, d1⟩ := hfl.2.2.1.mem hb
    rw [e] at e1; cases e1
    exact sm b o' e d1
  refine ⟨f.os, f.bare, ⟨fun b o e n hb _ => hfl'.1 _ _ (h3 b o e n hb), fun b o e n hb hx => ?_, f.un.free, fun b o e hx => ?_, f.un.tups, f.un.frzs, f.un.tbls⟩, B, a0, hfl', hok, h3, h4⟩
  · obtain ⟨sl, e1⟩ := f.un.slot b o e n hb hx
    obtain ⟨sl', e2⟩ := fr b _ hb e1
    exact ⟨sl', e2⟩
  · by_cases hb : b ∈ frs outer
    · obtain ⟨o', e1⟩ := f.un.there b o e hx
      obtain ⟨sl', e2⟩ := fr b _ hb e1
      exact ⟨_, e2⟩
    · obtain ⟨o', e1⟩ := h4 b o e hb
      exact ⟨o', hfl'.1 _ _ e1⟩
theorem Fly.free (f : Fly P w outer H H' s ea cls s') : H' ea = none := by
  obtain ⟨B, a0, hfl, hok, _⟩ := f.fly
  cases q : H' ea with
  | none => rfl
  | some o =>
    obtain ⟨ob, e⟩ := (hok ea o q).there
    rw [hfl.2.1] at e; cases e
theorem Fly.hok (f : Fly P w outer H H' s ea cls s') : HOk P w H' s'.heap := by
  obtain ⟨B, a0, hfl, hok, _⟩ := f.fly
  exact hok.kept fun b u e => hfl.1 b u e
theorem Fly.new (f : Fly P w outer H H' s ea cls s') : s.heap.get? ea = none := by
  obtain ⟨B, a0, hfl, hok, h3, h4⟩ := f.fly
  cases q : s.heap.get? ea with
  | none => rfl
  | some o =>
    by_cases hb : ea ∈ frs outer
    · obtain ⟨_, o1, e1, d1⟩ := hfl.2.2.1.mem hb
      obtain ⟨_, _, _, oe, vs, T, oT, ts, he, _, hd, _⟩ := hfl
      rw [e1] at he; cases he
      exact absurd hd (d1 vs)
    · obtain ⟨o', e⟩ := h4 ea o q hb
      rw [hfl.2.1] at e; cases e
theorem Fly.at (f : Fly P w outer H H' s ea cls s') : ∃ oe vs, s'.heap.get? ea = some oe ∧ oe.cls = cls ∧ oe.data = .fields vs := by
  obtain ⟨B, a0, hfl, _⟩ := f.fly
  obtain ⟨oe, vs, he, hc, hd, _⟩ := hfl.first
  exact ⟨oe, vs, he, hc, hd⟩
end
structure Own (X : Cx) : Prop where
  stack : X.stack = X.env :: X.outer
  frame : X.env.frame = some X.env.locals
  ex : X.ex = []
section
variable {X : Cx} {pins : List (Addr × Obj)} {σ : St} {H H' : Hp} {s s' : Shared} {ea : Addr} {cls : Value}
theorem Own.frs (O : Own X) : frs X.stack = X.env.locals :: X.fs := by
  rw [O.stack]
  show (X.env :: X.outer).filterMap _ = _
  rw [List.filterMap_cons, O.frame]
  rfl
theorem Inv.old (I : Inv X pins σ H s) {b : Addr} {o : Obj} (e : X.s₀.heap.get? b = some o) : b ≠ X.env.locals := Nat.ne_of_lt (Nat.lt_of_lt_of_le (Heap.lt_size e) I.ok.above)
theorem Inv.oldStk (O : Own X) (I : Inv X pins σ H s) {b : Addr} {o : Obj} (e : X.s₀.heap.get? b = some o) (hb : b ∉ X.fs) : b ∉ L2.frs X.stack := by
  rw [O.frs]
  intro z
  rcases List.mem_cons.mp z with q | q
  · exact I.old e q
  · exact hb q
theorem Fly.on (O : Own X) (I : Inv X pins σ H s) (f : Fly X.prog X.w X.stack H H' s ea cls s') {h'' : Heap} (B : Heap) (a0 : Value) (hfl : Heap.FlyingW B X.stack ea cls a0 s'.heap) (hok : HOk X.prog X.w H' B)
    (h3 : ∀ b o, s.heap.get? b = some o → H b = none → b ∉ frs X.stack → B.get? b = some o) (h4 : ∀ b o, s.heap.get? b = some o → b ∉ frs X.stack → ∃ o', B.get? b = some o') (hfl' : Heap.FlyingW B X.outer ea cls a0 h'') (sm : s'.heap.UpToSlots h'') :
    Fly X.prog X.w X.outer X.H₀ H' X.s₀ ea cls { s' with heap := h'' } := by
  have nex : ∀ b : Addr, b ∉ X.ex := fun b z => by rw [O.ex] at z; exact nomatch z
  have fsS : ∀ b, b ∈ X.fs → b ∈ frs X.stack := fun b hb => by rw [O.frs]; exact List.mem_cons_of_mem _ hb
  have fr : ∀ b o', b ∈ X.fs → s'.heap.get? b = some o' → ∃ sl, h''.get? b = some { o' with slots := sl } := fun b o' hb e => by
    obtain ⟨_, o1, e1, d1⟩ := hfl.2.2.1.mem (fsS b hb)
    rw [e] at e1; cases e1
    exact sm b o' e d1
  have k3 : ∀ b o, X.s₀.heap.get? b = some o → X.H₀ b = none → b ∉ X.fs → B.get? b = some o := fun b o e n hb => h3 b o (I.base.keep b o e n hb (nex b)) (I.base.free b o e n (nex b)) (I.oldStk O e hb)
  have k4 : ∀ b o, X.s₀.heap.get? b = some o → b ∉ X.fs → ∃ o', B.get? b = some o' := fun b o e hb => by
    obtain ⟨o1, e1⟩ := I.base.there b o e (nex b)
    exact h4 b o1 e1 (I.oldStk O e hb)
  refine ⟨f.os.trans I.os, f.bare, ⟨fun b o e n hb _ => hfl'.1 _ _ (k3 b o e n hb), fun b o e n hb _ => ?_, fun b o e n _ => ?_, fun b o e _ => ?_, fun b xs q => f.un.tups b xs (I.base.tups b xs q), fun b o u q => f.un.frzs b o u (I.base.frzs b o u q), fun b ps q => ?_⟩, B, a0, hfl', hok, k3, k4⟩
  · obtain ⟨sl, e1⟩ := I.base.slot b o e n hb (nex b)
    obtain ⟨sl1, e2⟩ := f.un.slot b _ e1 (I.base.free b o e n (nex b)) (fsS b hb) (by simp)
    obtain ⟨sl2, e3⟩ := fr b _ hb e2
    exact ⟨sl2, e3⟩
  · obtain ⟨o1, e1⟩ := I.base.there b o e (nex b)
    exact f.un.free b o1 e1 (I.base.free b o e n (nex b)) (by simp)
  · by_cases hb : b ∈ X.fs
    · obtain ⟨o1, e1⟩ := I.base.there b o e (nex b)
      obtain ⟨o2, e2⟩ := f.un.there b o1 e1 (by simp)
      obtain ⟨sl, e3⟩ := fr b _ hb e2
      exact ⟨_, e3⟩
    · obtain ⟨o', e1⟩ := k4 b o e hb
      exact ⟨o', hfl'.1 _ _ e1⟩
  · obtain ⟨m1, e1⟩ := I.base.tbls b ps q
    obtain ⟨m2, e2⟩ := f.un.tbls b _ e1
    exact ⟨m1 ++ m2, by rw [e2, Array.append_assoc]⟩
theorem Inv.hid (I : Inv X pins σ H s) : HOk X.prog X.w H (PySem.W.hideAll s.heap (frs X.stack)) := fun a o e => by
  have out : ∀ b u, H b = some u → b ∉ frs X.stack := fun b u q z => by rw [I.stkFree b z] at q; cases q
  refine (I.hok a o e).stay (fun b u hb q => PySem.W.hideAll_get _ q ?_) (fun _ q => q) fun _ _ q => q
  rcases hb with rfl | hb
  · exact out _ _ e
  · exact out _ _ hb
theorem Inv.thrown (O : Own X) (I : Inv X pins σ H s) {vs : List Value} {h1 h'' : Heap} {a0 : Value} (mk : Heap.MadeExcOf s.heap h1 ea cls vs) (hfl' : Heap.FlyingW (PySem.W.hideAll s.heap (frs X.stack)) X.outer ea cls a0 h'') (sm : h1.UpToSlots h'') :
    Fly X.prog X.w X.outer X.H₀ H X.s₀ ea cls { s with heap := h'' } := by
  have nex : ∀ b : Addr, b ∉ X.ex := fun b z => by rw [O.ex] at z; exact nomatch z
  have fr : ∀ b o1 sl, b ∈ X.fs → X.s₀.heap.get? b = some o1 → s.heap.get? b = some { o1 with slots := sl } → ∃ sl, h''.get? b = some { o1 with slots := sl } := fun b o1 sl hb e0 e => by
    obtain ⟨_, o2, e2, d2⟩ := I.ok.funs.mem hb
    rw [e0] at e2; cases e2
    obtain ⟨sl', q⟩ := sm b _ (mk.keeps _ _ e) d2
    exact ⟨sl', q⟩
  have k3 : ∀ b o, X.s₀.heap.get? b = some o → X.H₀ b = none → b ∉ X.fs → (PySem.W.hideAll s.heap (frs X.stack)).get? b = some o := fun b o e n hb => PySem.W.hideAll_get _ (I.base.keep b o e n hb (nex b)) (I.oldStk O e hb)
  have k4 : ∀ b o, X.s₀.heap.get? b = some o → b ∉ X.fs → ∃ o', (PySem.W.hideAll s.heap (frs X.stack)).get? b = some o' := fun b o e hb => by
    obtain ⟨o1, e1⟩ := I.base.there b o e (nex b)
    exact ⟨o1, PySem.W.hideAll_get _ e1 (I.oldStk O e hb)⟩
  refine ⟨I.os, I.bare, ⟨fun b o e n hb _ => hfl'.1 _ _ (k3 b o e n hb), fun b o e n hb _ => ?_, fun b o e n _ => I.base.free b o e n (nex b), fun b o e _ => ?_, I.base.tups, I.base.frzs, I.base.tbls⟩, _, a0, hfl', I.hid, k3, k4⟩
  · obtain ⟨sl, e1⟩ := I.base.slot b o e n hb (nex b)
    exact fr b o sl hb e e1
  · by_cases hb : b ∈ X.fs
    · obtain ⟨sl, e1⟩ := I.base.slot b o e (I.ok.frf b hb) hb (nex b)
      obtain ⟨sl', q⟩ := fr b o sl hb e e1
      exact ⟨_, q⟩
    · obtain ⟨o', e1⟩ := k4 b o e hb
      exact ⟨o', hfl'.1 _ _ e1⟩
end
def Raises (X : Cx) (E : XK) : Prop := ∀ (pins : List (Addr × Obj)) (σ : St) (H : Hp) (s : Shared) (ea : Addr) (cls : Value) (vs : List Value) (h' : Heap), Inv X pins σ H s → Heap.MadeExcOf s.heap h' ea cls vs → E cls none H → X.xe (.ref ea) { s with heap := h' }
section
variable {P : Program} {w : World} {K : PySem.W.Frag} {mg : Str → Option Value} {base : Heap} {N : List Str} {qual : Str} {scope : Scope} {f : Addr} {cd : Value} {A : Around} {outer : List Env} {s : Shared} {H : Hp} {E : XK}
theorem own_def {CX : CXT} : Own (cxOf CX P w K mg base N qual scope f cd A outer s H E) := ⟨rfl, rfl, rfl⟩
theorem pass1 : Passes (CX1 P w) (cxOf (CX1 P w) P w K mg base N qual scope f cd A outer s H E) E := by
  intro pins σ H1 s1 e s' I hx
  obtain ⟨ea, cls, H', rfl, fl, hE⟩ := hx
  obtain ⟨B, a0, hfl, hok, h3, h4⟩ := id fl.fly
  show wpAny _ _ (leaving _ _) _ _ _
  exact wpAny_leaves_onW (L := (cxOf (CX1 P w) P w K mg base N qual scope f cd A outer s H E).env.locals) I.ok.frames rfl hfl fun h'' hfl' sm => ⟨ea, cls, H', rfl, fl.on own_def I B a0 hfl hok h3 h4 hfl' sm, hE⟩
theorem raises1 : Raises (cxOf (CX1 P w) P w K mg base N qual scope f cd A outer s H E) E := by
  intro pins σ H1 s1 ea cls vs h' I mk hE
  show wpAny _ _ (leaving _ _) _ _ _
  have hin : ∀ env ∈ (cxOf (CX1 P w) P w K mg base N qual scope f cd A outer s H E).stack, ∀ b, env.frame = some b → b ∈ frs (cxOf (CX1 P w) P w K mg base N qual scope f cd A outer s H E).stack := fun env he b hb => List.mem_filterMap.mpr ⟨env, he, hb⟩
  exact wpAny_leaves_madeW (s := { s1 with heap := h' }) (L := (cxOf (CX1 P w) P w K mg base N qual scope f cd A outer s H E).env.locals) (base := PySem.W.hideAll s1.heap (frs (cxOf (CX1 P w) P w K mg base N qual scope f cd A outer s H E).stack)) I.ok.frames rfl
    (fun b o q => PySem.W.of_hideAll _ q) (PySem.W.funFrames_hide I.stack hin) mk fun h'' t x1 x2 x3 x4 => ⟨ea, cls, H1, rfl, I.thrown own_def mk x1 x4, hE⟩
end
theorem passE {P : Program} {w : World} {X : Cx} : Passes (CX1 P w) X E0 := fun _ _ _ _ _ _ _ ⟨_, _, _, _, _, h⟩ => h.elim
structure ExcCls (K : PySem.W.Frag) (mg : Str → Option Value) (x : Str) (C : Addr) : Prop where
  mg : mg x = some (.ref C)
  ns : PySem.W.nsIn K mainGlobals x = some (some (.ref C))
  exc : PySem.W.excIn K C [.type "ValueError", .type "Exception", .type "BaseException", .type "object"] "ValueError.__new__" = true
theorem exc_obj {K : PySem.W.Frag} {h : Heap} {C : Addr} {bmB : List Value} {newId : String} (X : K.In h) (q : PySem.W.excIn K C bmB newId = true) :
    ∃ bm N nm qn bs hdct sn sub ab col dd k0 k1 k2 k3 k5 mN, h.get? C = some (excClassObj nm qn C N bs bm hdct sn sub ab col dd k0 k1 k2 k3 k5 newId) ∧ h.Ns N mN ∧ mN "__init__" = none ∧ OwnTail h bmB bm := by
  unfold PySem.W.excIn at q
  split at q
  · rename_i dd cd sl ho
    split at q
    · rename_i C' bm k0 k1 k2 k3 n k5 hm hs
      simp only [Bool.and_eq_true, beq_iff_eq, Bool.not_eq_true'] at q
      obtain ⟨⟨⟨⟨⟨rfl, rfl⟩, hdel⟩, ht⟩, hok⟩, hni⟩ := q
      obtain ⟨nm, bs, mro, ns, qn, hd, sn, sub, ab, col, del⟩ := cd
      dsimp only at hm hdel hok hni
      subst hm hdel
      have hsl : sl = #[k0, k1, k2, k3, some (.builtin n), k5] := by
        obtain ⟨l⟩ := sl
        simp only at hs
        rw [hs]
      subst hsl
      exact ⟨bm, ns, nm, qn, bs, hd, sn, sub, ab, col, dd, k0, k1, k2, k3, k5, _, X _ _ ho, .of_isNs (PySem.W.isNs_of_in X hok), PySem.W.nsMap_none_of_in X hok hni, PySem.W.tail_of_in X ht⟩
    · cases q
  · cases q
section
variable {X : Cx} {x : Str} {C : Addr} {np cpos pos : Pos} {e : Expr} {es : List Expr} {t : TA} {E : XK}
def tRaise (C : Addr) (E : XK) (t : TA) : TS := fun _ σ H => t σ H fun vs H1 => vs.length ≤ sizeLine ∧ E (.ref C) none H1
theorem ps_raise (c : ExcCls X.K X.mg x C) (hc : X.calm = true) (hr : Raises X E) (hg : Gl X x) (ha : PA X (e :: es) t) (hd : (x == ("__debug__" : Str)) = false := by decide)
    (he : starEach (e :: es) X.env = (false, eval e X.env) :: starEach es X.env := by rfl) (hpl : (backTo cpos (starEach es X.env)).any (·.1) = false := by rfl) : PS X (.Raise (some (.Call (.Name x np) (e :: es) [] cpos)) none pos) (tRaise C E t) := by
  intro pins s σ H D I h
  obtain ⟨tl, N, nm, q, bs, hdct, sn, sub, ab, col, dd, k0, k1, k2, k3, k5, mN, hC, hN, hni, T⟩ := exc_obj I.ok.mod.kin c.exc
  refine wpAny_Raise_call_subT (C := C) (nm := nm) (q := q) (N := N) (bs := bs) (bm := tl) (hdct := hdct) (sn := sn) (sub := sub) (ab := ab) (col := col) (dd := dd) (k0 := k0) (k1 := k1) (k2 := k2) (k3 := k3) (k5 := k5)
    PySem.F.excBase_ValueError (mN := mN) (T.hasType PySem.F.excBase_ValueError.hasBase) (I.ok.hd hc) (by rw [he]; show (false || (backTo cpos (starEach es X.env)).any (·.1)) = false; rw [hpl]; rfl) hni (ld_glob I hg c.mg ⟨rfl, ?_⟩ hd)
  have h2 := ha cpos pins s σ H _ I h
  rw [he] at h2 ⊢
  refine Calls.evalArgs_plain (wpAny_mono h2 (fun us s2 ⟨vs, H2, I2, r, hz, hE⟩ => ?_) fun _ _ y => y)
  exact ⟨rfl, by rw [← r.length]; exact hz, I2.bk _ _ hC, hN.keeps I2.bk, T.keeps I2.bk, fun h' ea mk => hr pins σ H2 s2 ea (.ref C) us h' I2 mk hE⟩
end
theorem Fun.okX {P : Program} {w : World} {K : PySem.W.Frag} {mg : Str → Option Value} {base : Heap} {x qual : Str} {st : Stmt} {f : Addr} {fd : FuncData} {N ps : List Str} {k : Nat} {sp : Sp} (F : Fun K x qual st f fd) (S : FnScope N ps (defScope st)) (len : ∀ vs H Q E, sp vs H Q E → vs.length = ps.length)
    (hbody : ∀ (cdv : Value) (A : Around) (outer : List Env) (s : Shared) (H : Hp) (vs : List V) (Q : VK) (E : XK), Room k (A.deeper (envOfC qual (defScope st) s.heap.objs.size f cdv)) → sp vs H Q E →
      ∃ t, PSs (cxOf (CX1 P w) P w K mg base N qual (defScope st) f cdv A outer s H E) (defBody st) t ∧ t { nx := fun _ H' => Q .non H', rt := Q } (start N vs) H) : FnOk P w K mg base (CX1 P w) (k + 1) f fd ps sp := by
  obtain ⟨oc, od, kV, doc, pm, an, cdv, ct, osl, rfl, lk, hcd⟩ := F.ex
  exact fn_of lk hcd S len fun A outer s H vs Q E hr hsp => hbody cdv A outer s H vs Q E hr hsp
end L2
namespace L2
open PySem PySem.Spec PyProof.Rows
theorem Inv.track {X : Cx} {pins : List (Addr × Obj)} {σ : St} {H : Hp} {s : Shared} {a : Addr} {o : HO} (I : Inv X pins σ H s) (hn : H a = none) (new : ObjOk X.prog X.w (upd H a o) s.heap a o) (h0 : X.s₀.heap.get? a = none) (hL : a ≠ X.env.locals)
    (hC : ∀ x c, X.env.cells.lookup x = some c → c ≠ a) (hp : ∀ p ∈ X.pn ++ pins, p.1 ≠ a) : Inv X pins σ (upd H a o) s := by
  have ne : ∀ b ob, X.s₀.heap.get? b = some ob → b ≠ a := fun b ob e z => by rw [z, h0] at e; cases e
  have tr : ∀ b u, H b = some u → upd H a o b = some u := fun b u e => by rw [upd_ne (ne_of_none e hn)]; exact e
  refine ⟨I.ok, I.os, I.bare, ⟨I.base.keep, I.base.slot, fun b ob e n hx => by rw [upd_ne (ne b ob e)]; exact I.base.free b ob e n hx, I.base.there, fun b xs q => tr _ _ (I.base.tups b xs q), fun b ob u q => tr _ _ (I.base.frzs b ob u q), fun b ps q => ?_⟩,
    I.loc, I.cell, by rw [upd_ne (Ne.symm hL)]; exact I.free, fun x c e => by rw [upd_ne (hC x c e)]; exact I.freeC x c e, fun p q => ?_, I.hok.track hn new, I.len⟩
  · obtain ⟨m, e⟩ := I.base.tbls b ps q
    exact ⟨m, tr _ _ e⟩
  · obtain ⟨q1, q2, q3⟩ := I.pin p q
    exact ⟨q1, by rw [upd_ne (hp p q)]; exact q2, q3⟩
def XP (X : Cx) (pins : List (Addr × Obj)) (σ : St) (E : XK) (ev : Value) (s' : Shared) : Prop := ∃ H s0, Inv X pins σ H s0 ∧ CX1 X.prog X.w X.stack H s0 E ev s'
abbrev TX := St → Hp → VK → XK → Prop
section
variable {X : Cx} {k : Nat} {f C : Addr} {fd : FuncData} {ps : List Str} {sp : Sp} {dvs : List V} {ds : List Value} {x m : Str} {p pos apos : Pos} {e o : Expr} {es : List Expr} {ta : TE} {t : TA}
end
def Cx.suite (X : Cx) (ea : Addr) : Cx := { X with A := X.A.mark (some (.ref ea)), calm := false, xe := fun _ _ => False }
section
variable {X : Cx} {pins : List (Addr × Obj)} {σ : St} {H : Hp} {s : Shared} {ea : Addr}
theorem Inv.suite (I : Inv X pins σ H s) (ea : Addr) : Inv (X.suite ea) pins σ H s :=
  ⟨⟨I.ok.mod, I.ok.kind, I.ok.glob, I.ok.blt, I.ok.above, I.ok.inj, I.ok.has, I.ok.cab, fun q => (nomatch q), I.ok.frames, I.ok.stk, I.ok.exf, I.ok.bs, I.ok.bsz, I.ok.noex, I.ok.exfs, I.ok.funs, I.ok.frf⟩, I.os, I.bare, I.base, I.loc, I.cell, I.free, I.freeC, I.pin, I.hok, I.len⟩
end
section
variable {X : Cx} {e : Expr} {c n : Str} {b₀ : Stmt} {suite : List Stmt} {epos np hpos pos : Pos} {te : TX} {ts : TS} {cv : Value} {i : Nat}
end
end L2
namespace L2
open PySem PySem.Spec PyProof.Rows
section
variable {prog : Program} {w : World} {A : Around} {E : Value → Shared → Prop} {K : PySem.W.Frag} {h : Heap} {g : Array GenState} {d : Drawn} {t : Nat} {os : OsState} {a D : Addr} {o : Obj} {vs : Array Value}
structure ExcLk (K : PySem.W.Frag) (D : Addr) : Prop where
  ga : PySem.W.findIn K (.ref D) "__getattribute__" = some (some (.builtin "BaseException.__getattribute__"))
  gt : PySem.W.findIn K (.ref D) "__getattr__" = some none
  cl : PySem.W.findIn K (.ref D) "__class__" = some (some (.builtin "object.__class__"))
  mro : PySem.W.mroIn K D (.type "object") = some true
  sub : PySem.W.subIn K (.ref D) (.type "BaseException") = some true
  cls : (PySem.W.clsIn K D).isSome = true
section
open PySem.W Builtin Builtin.ObjectAttr Builtin.Getset_descriptor
end
end
section
variable {X : Cx}
end
structure RoomN (k : Nat) (A : Around) : Prop where
  dp : A.depth + 3 * k + 5 < recursionLimit
  un : A.units + 16 * k + 200 < cLine
theorem Room.n {k : Nat} {A : Around} (r : Room k A) : RoomN k A := ⟨r.dp, r.un⟩
theorem RoomN.mono {j k : Nat} {A : Around} (r : RoomN k A) (h : j ≤ k) : RoomN j A := ⟨by have := r.dp; omega, by have := r.un; omega⟩
theorem RoomN.mark {k : Nat} {A : Around} (r : RoomN k A) (hd : Option Value) : RoomN k (A.mark hd) := ⟨r.dp, r.un⟩
theorem RoomN.deeper {k : Nat} {A : Around} (r : RoomN (k + 1) A) (env : Env) : RoomN k (A.deeper env) :=
  ⟨by have := r.dp; show A.depth + 1 + 3 * k + 5 < _; omega, by have := r.un; show A.units + 3 + 16 * k + 200 < _; omega⟩
theorem RoomN.depth {k : Nat} {A : Around} (r : RoomN k A) : A.depth < recursionLimit := by have := r.dp; omega
theorem RoomN.units {k : Nat} {A : Around} (r : RoomN k A) : A.units + 64 < cLine := by have := r.un; omega
structure FnOkN (P : Program) (w : World) (K : PySem.W.Frag) (mg : Str → Option Value) (base : Heap) (k : Nat) (f : Addr) (fd : FuncData) (ps : List Str) (sp : Sp) : Prop where
  len : ∀ vs H Q E, sp vs H Q E → vs.length = ps.length
  run : ∀ (A : Around) (outer : List Env) (s : Shared) (H : Hp) (args : Args) (us : List Value) (vs : List V) (Q : VK) (E : XK), RoomN k A → Env0 P w K mg base A outer s H → BindsTo s fd args (ps.zip us) → Vals vs us → sp vs H Q E →
    codeAny (model P w) A (.call (.ref f) args) (CR CX0 outer P w H s Q E) s
theorem FnOkN.calm {P : Program} {w : World} {K : PySem.W.Frag} {mg : Str → Option Value} {base : Heap} {k : Nat} {f : Addr} {fd : FuncData} {ps : List Str} {sp : Sp} (F : FnOkN P w K mg base k f fd ps sp) : FnOk P w K mg base CX0 k f fd ps sp :=
  ⟨F.len, fun A outer s H args us vs Q E hr => F.run A outer s H args us vs Q E hr.n⟩
def cxOfN (P : Program) (w : World) (K : PySem.W.Frag) (mg : Str → Option Value) (base : Heap) (N : List Str) (qual : Str) (scope : Scope) (f : Addr) (cd : Value) (A : Around) (outer : List Env) (s : Shared) (H : Hp) : Cx :=
  { cxOf CX0 P w K mg base N qual scope f cd A outer s H E0 with calm := false, xe := fun _ _ => False }
section
variable {X : Cx} {k : Nat} {f : Addr} {fd : FuncData} {ps : List Str} {sp : Sp} {dvs : List V} {ds : List Value} {x : Str} {p pos : Pos} {e : Expr} {es : List Expr} {t : TA} {E : XK}
end
structure ClsM (K : PySem.W.Frag) (B : Addr) (m : Str) (f : Addr) : Prop where
  sp : PySem.W.specialIn K (.ref B) "__getattribute__" = some (some (.builtin "type.__getattribute__"))
  rd : PySem.W.readsIn K B (.type "type") = true
  fd : PySem.W.findCls K (.ref B) (.type "type") m = some (.val (.ref f))
  kp : PySem.W.keepIn K (.ref f) = true
section
variable {X : Cx} {CX : CXT} {k : Nat} {f B : Addr} {fd : FuncData} {ps : List Str} {sp : Sp} {dvs : List V} {ds : List Value} {E : XK} {x m : Str} {p pos apos : Pos} {e : Expr} {es : List Expr} {t : TA}
theorem pe_clsm {pl : Sem Bool} (hg : Gl X x) (hmg : X.mg x = some (.ref B)) (c : ClsM X.K B m f) (F : FnOk X.prog X.w X.K X.mg X.base CX k f fd ps sp) (hr : Room k X.A) (hb : Binds X.K fd ps ds) (hd : Vals dvs ds) (hx : Passes CX X E) (ha : PA X (e :: es) t)
    (hdb : (x == ("__debug__" : Str)) = false := by decide) (hst : starEach (e :: es) X.env = (false, eval e X.env) :: starEach es X.env := by rfl) (hpl : (backTo pos (starEach es X.env)).any (·.1) = false := by rfl)
    (ht : eval (.Call (.Attribute (.Name x p) m apos) (e :: es) [] pos) X.env = (do
      let ov ← eval (.Name x p) X.env
      standAt apos.atName
      let (f, first) ← holding [ov] (getMethod ov m pl)
      callWith pos f first (backTo pos (starEach (e :: es) X.env)) (backToKw pos (keywordEach [] X.env))) := by rfl) :
    PE X (.Call (.Attribute (.Name x p) m apos) (e :: es) [] pos) (tCall sp dvs E t) := by
  intro pins s σ H Q I h
  refine PySem.W.methodCall_KW (pl := pl) (ld_glob I hg hmg ?_ hdb) ht
  refine PySem.W.method_cls I.kIn c.sp (PySem.W.cls_value I.kIn c.rd c.fd rfl ?_)
  have I' := I.tok (s.toks + 1)
  refine PySem.W.callWith_K (first := []) (h₀ := X.base) I.ok.mod.kin c.kp (thn (ha pos pins { s with toks := s.toks + 1 } σ H _ I' h) fun us s2 ⟨vs, H2, I2, r, q2⟩ => ⟨I2.kIn, ?_⟩) hst hpl
  exact run_fn F hr hb hd hx I2 r q2
end
section
variable {X : Cx}
def rInsert : V → List V → Hp → VK → Prop := fun x vs H Q => ∃ l xs i y, x = .ref l ∧ vs = [.int i, y] ∧ H l = some (.lst xs) ∧ 0 ≤ i ∧ i ≤ xs.length ∧ xs.length < sizeLine ∧ Q .non (upd H l (.lst (xs.take i.toNat ++ y :: xs.drop i.toNat)))
end
end L2
namespace L2
open PySem PySem.Spec PyProof.Rows
section
variable {X : Cx}
theorem CallR.imp {f : Value} {r r' : List V → Hp → VK → Prop} (h : CallR X f r) (hi : ∀ xs H Q, r' xs H Q → r xs H Q) : CallR X f r' := fun pins s σ H xs us Q I rs q => h pins s σ H xs us Q I rs (hi _ _ _ q)
def rLenL (K : PySem.W.Frag) : List V → Hp → VK → Prop := fun xs H Q => ∃ p ys, xs = [.ref p] ∧ SqL K H p ys ∧ Q (.int ys.length) H
def rLenT (K : PySem.W.Frag) : List V → Hp → VK → Prop := fun xs H Q => ∃ p ys, xs = [.ref p] ∧ SqT K H p ys ∧ Q (.int ys.length) H
def rListL (K : PySem.W.Frag) : List V → Hp → VK → Prop := fun xs H Q => ∃ p ys, xs = [.ref p] ∧ SqL K H p ys ∧ ∀ l, H l = none → Q (.ref l) (upd H l (.lst ys))
def rListT (K : PySem.W.Frag) : List V → Hp → VK → Prop := fun xs H Q => ∃ p ys, xs = [.ref p] ∧ SqT K H p ys ∧ ∀ l, H l = none → Q (.ref l) (upd H l (.lst ys))
def rTupL (K : PySem.W.Frag) : List V → Hp → VK → Prop := fun xs H Q => ∃ p ys, xs = [.ref p] ∧ SqL K H p ys ∧ ∀ l, H l = none → Q (.ref l) (upd H l (.tup ys))
def rTupT (K : PySem.W.Frag) : List V → Hp → VK → Prop := fun xs H Q => ∃ p ys, xs = [.ref p] ∧ SqT K H p ys ∧ Q (.ref p) H
def rIsiT (K : PySem.W.Frag) : List V → Hp → VK → Prop := fun xs H Q => ∃ x n t b, xs = [x, .ty n] ∧ TyOf K H x t ∧ PySem.W.kitOne K t (.type n) = some b ∧ Q (.bl b) H
theorem call_lenL : CallR X (.builtin "len") (rLenL X.K) := call_len_seq.imp fun _ _ _ ⟨p, ys, e, h, q⟩ => ⟨p, ys, e, .inl h, q⟩
theorem call_lenT : CallR X (.builtin "len") (rLenT X.K) := call_len_seq.imp fun _ _ _ ⟨p, ys, e, h, q⟩ => ⟨p, ys, e, .inr h, q⟩
theorem call_tupL : CallR X (.type "tuple") (rTupL X.K) := call_tuple_of.imp fun _ _ _ ⟨p, ys, e, h, q⟩ => ⟨p, ys, e, .inl ⟨h, q⟩⟩
end
theorem scal_ii {a b : Int} : (scal (.int a) (.int b) = true) = True := eq_true rfl
theorem scal_ss {a b : Str} : (scal (.str a) (.str b) = true) = True := eq_true rfl
theorem scal_bb {a b : Bool} : (scal (.bl a) (.bl b) = true) = True := eq_true rfl
theorem Same.upd {H H' : Hp} {l : Addr} {o : HO} (s : Same H H') (h : H' l = none) : Same H (upd H' l o) := fun b u e => by
  have e' := s b u e
  rw [upd_ne (ne_of_none e' h)]
  exact e'
theorem Same.put {H : Hp} {l : Addr} {o : HO} (h : H l = none) : Same H (L2.upd H l o) := (Same.refl H).upd h
end L2
namespace SH
open PySem L2
abbrev LET : Str := "abcdefghijklmnopqrstuvwxyz"
def letC (c : Nat) : Bool := !(Builtin.Str.occurrences LET ⟨#[c]⟩ 0 LET.length 1).isEmpty
def markS (x : Str) : Bool := decide (1 ≤ x.length) && decide (x.length ≤ 8) && x.cps.toList.all letC
def markV : V → Bool
  | .str x => markS x
  | _ => false
def wholeV : V → Bool
  | .int _ => true
  | _ => false
inductive Thg (H : Hp) : V → Prop where
  | non : Thg H .non
  | bl (b : Bool) : Thg H (.bl b)
  | int (i : Int) : Thg H (.int i)
  | str (x : Str) (h : x.length ≤ 1000) : Thg H (.str x)
  | lst {a : Addr} {xs : List V} (h : H a = some (.lst xs)) : Thg H (.ref a)
  | tup {a : Addr} {xs : List V} (h : H a = some (.tup xs)) : Thg H (.ref a)
theorem Thg.same {H H' : Hp} {v : V} (s : Same H H') (t : Thg H v) : Thg H' v := by
  cases t with
  | non => exact .non
  | bl b => exact .bl b
  | int i => exact .int i
  | str x h => exact .str x h
  | lst h => exact .lst (s _ _ h)
  | tup h => exact .tup (s _ _ h)
def isStr : V → Bool
  | .str _ => true
  | _ => false
def isInt : V → Bool
  | .int _ => true
  | .bl _ => true
  | _ => false
def isBl : V → Bool
  | .bl _ => true
  | _ => false
section
variable {K : PySem.W.Frag}
theorem Thg.ty {H : Hp} {v : V} (t : Thg H v) : ∃ y, TyOf K H v y ∧ PySem.W.kitOne K y (.type "str") = some (isStr v) ∧ PySem.W.kitOne K y (.type "int") = some (isInt v) ∧ PySem.W.kitOne K y (.type "bool") = some (isBl v) := by
  cases t with
  | non => exact ⟨_, .non, by kernel_rfl, by kernel_rfl, by kernel_rfl⟩
  | bl b => exact ⟨_, .bl b, by kernel_rfl, by kernel_rfl, by kernel_rfl⟩
  | int i => exact ⟨_, .int i, by kernel_rfl, by kernel_rfl, by kernel_rfl⟩
  | str x h => exact ⟨_, .str x, by kernel_rfl, by kernel_rfl, by kernel_rfl⟩
  | lst h => exact ⟨_, .lst h, by kernel_rfl, by kernel_rfl, by kernel_rfl⟩
  | tup h => exact ⟨_, .tup h, by kernel_rfl, by kernel_rfl, by kernel_rfl⟩
theorem Thg.isList {H : Hp} {v : V} (t : Thg H v) : ∃ y b, TyOf K H v y ∧ PySem.W.kitOne K y (.type "list") = some b ∧ ((b = true ∧ ∃ a xs, v = .ref a ∧ H a = some (.lst xs)) ∨ (b = false ∧ ∀ a xs, v = .ref a → H a ≠ some (.lst xs))) := by
  cases t with
  | non => exact ⟨_, false, .non, by kernel_rfl, .inr ⟨rfl, fun _ _ z => nomatch z⟩⟩
  | bl b => exact ⟨_, false, .bl b, by kernel_rfl, .inr ⟨rfl, fun _ _ z => nomatch z⟩⟩
  | int i => exact ⟨_, false, .int i, by kernel_rfl, .inr ⟨rfl, fun _ _ z => nomatch z⟩⟩
  | str x h => exact ⟨_, false, .str x, by kernel_rfl, .inr ⟨rfl, fun _ _ z => nomatch z⟩⟩
  | lst h => exact ⟨_, true, .lst h, by kernel_rfl, .inl ⟨rfl, _, _, rfl, h⟩⟩
  | tup h => exact ⟨_, false, .tup h, by kernel_rfl, .inr ⟨rfl, fun _ _ z e => by cases z; rw [h] at e; cases e⟩⟩
end
theorem all_take_succ {p : Nat → Bool} {l : List Nat} {i c : Nat} (h : l[i]? = some c) : (l.take (i + 1)).all p = ((l.take i).all p && p c) := by
  rw [List.take_add_one, h]
  simp
theorem at_str {z : Str} {i m : Int} (h0 : 0 < m) (h1 : m ≤ z.length) : ∃ c, c ∈ z.cps.toList ∧ atI z.cps.toList (i % m) = some c := by
  obtain ⟨v, hm, _, e⟩ := atI_mod (xs := z.cps.toList) (i := i) h0 (by simpa [Str.length] using h1)
  exact ⟨v, hm, e⟩
theorem one_len (c : Nat) : (⟨#[c]⟩ : Str).length = 1 := rfl
def cellF (ns : List Int) (k : Nat) : Int := ns.getD k 0
def mixF (seed k : Int) : Int := (seed % 10 ^ 20 + 17 * k + k * k * k + 5) * 48271 % 1000003 * 69621 % 999983
def StIs (σ τ : St) : Prop := σ = τ
theorem StIs.rfl {σ : St} : StIs σ σ := Eq.refl σ
theorem StIs.eq {σ τ : St} (h : StIs σ τ) : σ = τ := h
def GoodL (n : Nat) (H : Hp) (v : V) : Prop := ∃ a xs, v = .ref a ∧ H a = some (.lst xs) ∧ xs.length ≤ n
def GoodM (n : Nat) (H : Hp) (v : V) : Prop := ∃ a xs, v = .ref a ∧ H a = some (.lst xs) ∧ xs.length ≤ n ∧ xs.all markV = true
def Thg2 (H : Hp) (v : V) : Prop := Thg H v ∧ ∀ a xs, v = .ref a → H a = some (.lst xs) → ∀ x ∈ xs, Thg H x
theorem Thg.back {H H' : Hp} {v : V} {a : Addr} {xs : List V} (t : Thg H v) (s : Same H H') (e : v = .ref a) (h : H' a = some (.lst xs)) : H a = some (.lst xs) := by
  cases t with
  | non => cases e
  | bl b => cases e
  | int i => cases e
  | str x h => cases e
  | lst h1 => cases e; rw [s _ _ h1] at h; cases h; exact h1
  | tup h1 => cases e; rw [s _ _ h1] at h; cases h
theorem Thg2.same {H H' : Hp} {v : V} (s : Same H H') (t : Thg2 H v) : Thg2 H' v := ⟨t.1.same s, fun a xs e h x hx => (t.2 a xs e (t.1.back s e h) x hx).same s⟩
theorem GoodM.back {n : Nat} {H H' : Hp} {v : V} (t : Thg H v) (s : Same H H') (g : GoodM n H' v) : GoodM n H v := by
  obtain ⟨a, xs, e, h, l, m⟩ := g
  exact ⟨a, xs, e, t.back s e h, l, m⟩
theorem thg2_lst {H : Hp} {a : Addr} {xs : List V} (h : H a = some (.lst xs)) (hx : ∀ x ∈ xs, Thg H x) : Thg2 H (.ref a) := ⟨.lst h, fun a' xs' e h' x m => by cases e; rw [h] at h'; cases h'; exact hx x m⟩
theorem app_list (a y : Str) : (a ++ y).cps.toList = a.cps.toList ++ y.cps.toList := by
  rw [PySem.Str.cps_append, Array.toList_append]
theorem all_marks {zs : List Str} (h : ∀ z ∈ zs, markS z = true) : (zs.map V.str).all markV = true := by
  rw [List.all_map, List.all_eq_true]
  intro z hz
  exact h z hz
theorem letC_iff {c : Nat} : letC c = true ↔ c ∈ LET.cps.toList := by
  unfold letC
  rw [PySem.StrLaws.found_one, decide_eq_true_eq]
theorem letC_ok {c : Nat} (h : letC c = true) : c < 0x110000 := by
  have h1 : ∀ d ∈ LET.cps.toList, d < 0x110000 := by decide +kernel
  exact h1 c (letC_iff.mp h)
theorem mark_all {z : Str} (h : markS z = true) : 1 ≤ z.length ∧ z.length ≤ 8 ∧ ∀ c ∈ z.cps.toList, letC c = true := by
  unfold markS at h
  simp only [Bool.and_eq_true, decide_eq_true_eq, List.all_eq_true] at h
  exact ⟨h.1.1, h.1.2, h.2⟩
theorem mark_strOk {z : Str} (h : markS z = true) : PyData.strOk z = true := by
  unfold PyData.strOk
  rw [← Array.all_toList, List.all_eq_true]
  intro c hc
  exact decide_eq_true (letC_ok ((mark_all h).2.2 c hc))
theorem mark_of {z : Str} (h1 : 1 ≤ z.length) (h2 : z.length ≤ 8) (h3 : ∀ c ∈ z.cps.toList, letC c = true) : markS z = true := by
  unfold markS
  simp only [Bool.and_eq_true, decide_eq_true_eq, List.all_eq_true]
  exact ⟨⟨h1, h2⟩, h3⟩
end SH
namespace SH
open PySem L2
theorem lookup2 {α : Type} {a b : Str} {x y : α} (h : (b == a) = false) : List.lookup b [(a, x), (b, y)] = some y := by
  rw [List.lookup_cons, h, List.lookup_cons, beq_self_eq_true]
theorem lookup_no {α : Type} {a b c : Str} {x y : α} (h : (c == a) = false) (h' : (c == b) = false) : List.lookup c [(a, x), (b, y)] = none := by
  rw [List.lookup_cons, h, List.lookup_cons, h']
  rfl
theorem putF2 {a b : Str} {x y : V} (h : ¬ a = b) : putF b y [(a, x)] = [(a, x), (b, y)] := by
  show (if a = b then [(a, y)] else (a, x) :: putF b y []) = _
  rw [if_neg h]
  rfl
abbrev Nd := Str × Int
def NodeAt (H : Hp) (x : V) (n : Nd) : Prop := ∃ t, x = .ref t ∧ H t = some (.tup [.str n.1, .int n.2])
def NodesAt (H : Hp) : List V → List Nd → Prop
  | [], [] => True
  | x :: xs, n :: ns => NodeAt H x n ∧ NodesAt H xs ns
  | [], _ :: _ => False
  | _ :: _, [] => False
theorem NodeAt.same {H H' : Hp} {x : V} {n : Nd} (s : Same H H') (h : NodeAt H x n) : NodeAt H' x n := by
  obtain ⟨t, e, h⟩ := h
  exact ⟨t, e, s _ _ h⟩
theorem NodeAt.uniq {H : Hp} {x : V} {n m : Nd} (a : NodeAt H x n) (b : NodeAt H x m) : n = m := by
  obtain ⟨t, e, h⟩ := a
  obtain ⟨t', e', h'⟩ := b
  rw [e] at e'
  cases e'
  rw [h] at h'
  obtain ⟨n1, n2⟩ := n
  obtain ⟨m1, m2⟩ := m
  simp at h'
  rw [h'.1, h'.2]
theorem NodesAt.same {H H' : Hp} (s : Same H H') : ∀ {xs : List V} {ns : List Nd}, NodesAt H xs ns → NodesAt H' xs ns
  | [], [], h => h
  | _ :: _, _ :: _, h => ⟨h.1.same s, NodesAt.same s h.2⟩
  | [], _ :: _, h => h.elim
  | _ :: _, [], h => h.elim
theorem NodesAt.tups {H H' : Hp} (s : ∀ b ys, H b = some (.tup ys) → H' b = some (.tup ys)) : ∀ {xs : List V} {ns : List Nd}, NodesAt H xs ns → NodesAt H' xs ns
  | [], [], h => h
  | _ :: _, _ :: _, h => by
    obtain ⟨⟨t, e, h1⟩, h2⟩ := h
    exact ⟨⟨t, e, s _ _ h1⟩, NodesAt.tups s h2⟩
  | [], _ :: _, h => h.elim
  | _ :: _, [], h => h.elim
theorem NodesAt.length {H : Hp} : ∀ {xs : List V} {ns : List Nd}, NodesAt H xs ns → xs.length = ns.length
  | [], [], _ => rfl
  | _ :: _, _ :: _, h => by rw [List.length_cons, List.length_cons, NodesAt.length h.2]
  | [], _ :: _, h => h.elim
  | _ :: _, [], h => h.elim
theorem NodesAt.uniq {H : Hp} : ∀ {xs : List V} {ns ms : List Nd}, NodesAt H xs ns → NodesAt H xs ms → ns = ms
  | [], [], [], _, _ => rfl
  | _ :: _, _ :: _, _ :: _, a, b => by rw [a.1.uniq b.1, NodesAt.uniq a.2 b.2]
  | [], _ :: _, _, a, _ => a.elim
  | [], _, _ :: _, _, b => b.elim
  | _ :: _, [], _, a, _ => a.elim
  | _ :: _, _, [], _, b => b.elim
theorem NodesAt.append {H : Hp} : ∀ {xs ys : List V} {ns ms : List Nd}, NodesAt H xs ns → NodesAt H ys ms → NodesAt H (xs ++ ys) (ns ++ ms)
  | [], _, [], _, _, b => b
  | _ :: _, _, _ :: _, _, a, b => ⟨a.1, NodesAt.append a.2 b⟩
  | [], _, _ :: _, _, a, _ => a.elim
  | _ :: _, _, [], _, a, _ => a.elim
theorem NodesAt.split {H : Hp} : ∀ {xs ys : List V} {ns : List Nd}, NodesAt H (xs ++ ys) ns → ∃ n1 n2, ns = n1 ++ n2 ∧ NodesAt H xs n1 ∧ NodesAt H ys n2
  | [], _, ns, h => ⟨[], ns, rfl, trivial, h⟩
  | x :: xs, ys, [], h => h.elim
  | x :: xs, ys, n :: ns, h => by
    obtain ⟨n1, n2, e, a, b⟩ := NodesAt.split (xs := xs) h.2
    exact ⟨n :: n1, n2, by rw [e]; rfl, ⟨h.1, a⟩, b⟩
theorem NodesAt.get {H : Hp} : ∀ {xs : List V} {ns : List Nd} {i : Nat} {x : V}, NodesAt H xs ns → xs[i]? = some x → ∃ n, ns[i]? = some n ∧ NodeAt H x n
  | [], [], _, _, _, e => by simp at e
  | _ :: _, n :: _, 0, _, h, e => by simp at e; subst e; exact ⟨n, rfl, h.1⟩
  | _ :: _, _ :: _, i + 1, x, h, e => by
    obtain ⟨m, a, b⟩ := NodesAt.get (i := i) (x := x) h.2 (by simpa using e)
    exact ⟨m, by simpa using a, b⟩
  | [], _ :: _, _, _, h, _ => h.elim
  | _ :: _, [], _, _, h, _ => h.elim
theorem NodesAt.take {H : Hp} : ∀ {xs : List V} {ns : List Nd} (i : Nat), NodesAt H xs ns → NodesAt H (xs.take i) (ns.take i)
  | [], [], _, _ => by simp [NodesAt]
  | _ :: _, _ :: _, 0, _ => trivial
  | _ :: _, _ :: _, i + 1, h => ⟨h.1, NodesAt.take i h.2⟩
  | [], _ :: _, _, h => h.elim
  | _ :: _, [], _, h => h.elim
theorem NodesAt.drop {H : Hp} : ∀ {xs : List V} {ns : List Nd} (i : Nat), NodesAt H xs ns → NodesAt H (xs.drop i) (ns.drop i)
  | [], [], _, _ => by simp [NodesAt]
  | _ :: _, _ :: _, 0, h => h
  | _ :: _, _ :: _, i + 1, h => NodesAt.drop i h.2
  | [], _ :: _, _, h => h.elim
  | _ :: _, [], _, h => h.elim
def deep1 (n : Nd) : Int := min (n.2 + 1) 12
def depthOk : Int → List Nd → Prop
  | _, [] => True
  | d, n :: r => markS n.1 = true ∧ 0 ≤ n.2 ∧ n.2 ≤ d ∧ depthOk (deep1 n) r
def deepAfter : Int → List Nd → Int
  | d, [] => d
  | _, n :: r => deepAfter (deep1 n) r
theorem depthOk_append : ∀ {d : Int} {a b : List Nd}, depthOk d (a ++ b) ↔ depthOk d a ∧ depthOk (deepAfter d a) b
  | d, [], b => by simp [depthOk, deepAfter]
  | d, n :: r, b => by
    have ih := depthOk_append (d := deep1 n) (a := r) (b := b)
    simp only [List.cons_append, depthOk, deepAfter, ih]
    constructor
    · rintro ⟨h1, h2, h3, h4, h5⟩; exact ⟨⟨h1, h2, h3, h4⟩, h5⟩
    · rintro ⟨⟨h1, h2, h3, h4⟩, h5⟩; exact ⟨h1, h2, h3, h4, h5⟩
theorem deepAfter_append : ∀ {d : Int} {a b : List Nd}, deepAfter d (a ++ b) = deepAfter (deepAfter d a) b
  | _, [], _ => rfl
  | _, n :: r, b => deepAfter_append (d := deep1 n) (a := r) (b := b)
theorem depthOk_all {d : Int} {ns : List Nd} : depthOk d ns → ∀ n ∈ ns, markS n.1 = true ∧ 0 ≤ n.2 := by
  induction ns generalizing d with
  | nil => intro _ n h; exact nomatch h
  | cons m r ih =>
    rintro ⟨h1, h2, _, h4⟩ n hn
    rcases List.mem_cons.mp hn with e | e
    · rw [e]; exact ⟨h1, h2⟩
    · exact ih h4 n e
def Thg3 (H : Hp) (v : V) : Prop := Thg H v ∧ ∀ a xs, v = .ref a → H a = some (.tup xs) → ∀ x ∈ xs, Thg H x
def Thg4 (H : Hp) (v : V) : Prop := Thg H v ∧ ∀ a xs, v = .ref a → H a = some (.lst xs) → ∀ x ∈ xs, Thg3 H x
def GoodN (H : Hp) (v : V) : Prop := ∃ a xs ns, v = .ref a ∧ H a = some (.lst xs) ∧ xs.length ≤ 40 ∧ NodesAt H xs ns ∧ depthOk 0 ns
theorem Thg.backT {H H' : Hp} {v : V} {a : Addr} {xs : List V} (t : Thg H v) (s : Same H H') (e : v = .ref a) (h : H' a = some (.tup xs)) : H a = some (.tup xs) := by
  cases t with
  | non => cases e
  | bl b => cases e
  | int i => cases e
  | str x h => cases e
  | lst h1 => cases e; rw [s _ _ h1] at h; cases h
  | tup h1 => cases e; rw [s _ _ h1] at h; cases h; exact h1
theorem Thg3.same {H H' : Hp} {v : V} (s : Same H H') (t : Thg3 H v) : Thg3 H' v := ⟨t.1.same s, fun a xs e h x hx => (t.2 a xs e (t.1.backT s e h) x hx).same s⟩
theorem Thg4.same {H H' : Hp} {v : V} (s : Same H H') (t : Thg4 H v) : Thg4 H' v := ⟨t.1.same s, fun a xs e h x hx => (t.2 a xs e (t.1.back s e h) x hx).same s⟩
theorem NodeAt.back {H H' : Hp} {v : V} {n : Nd} (t : Thg H v) (s : Same H H') (h : NodeAt H' v n) : NodeAt H v n := by
  obtain ⟨a, e, h⟩ := h
  exact ⟨a, e, t.backT s e h⟩
theorem NodesAt.back {H H' : Hp} (s : Same H H') : ∀ {xs : List V} {ns : List Nd}, (∀ x ∈ xs, Thg H x) → NodesAt H' xs ns → NodesAt H xs ns
  | [], [], _, h => h
  | x :: xs, _ :: _, t, h => ⟨h.1.back (t x List.mem_cons_self) s, NodesAt.back s (fun y hy => t y (List.mem_cons_of_mem _ hy)) h.2⟩
  | [], _ :: _, _, h => h.elim
  | _ :: _, [], _, h => h.elim
theorem GoodN.back {H H' : Hp} {v : V} (t : Thg4 H v) (s : Same H H') (g : GoodN H' v) : GoodN H v := by
  obtain ⟨a, xs, ns, e, h, l, m, d⟩ := g
  have h0 := t.1.back s e h
  exact ⟨a, xs, ns, e, h0, l, m.back s fun x hx => (t.2 a xs e h0 x hx).1, d⟩
theorem Thg.isTup {K : PySem.W.Frag} {H : Hp} {v : V} (t : Thg H v) : ∃ y b, TyOf K H v y ∧ PySem.W.kitOne K y (.type "tuple") = some b ∧ ((b = true ∧ ∃ a xs, v = .ref a ∧ H a = some (.tup xs)) ∨ (b = false ∧ ∀ a xs, v = .ref a → H a ≠ some (.tup xs))) := by
  cases t with
  | non => exact ⟨_, false, .non, by kernel_rfl, .inr ⟨rfl, fun _ _ z => nomatch z⟩⟩
  | bl b => exact ⟨_, false, .bl b, by kernel_rfl, .inr ⟨rfl, fun _ _ z => nomatch z⟩⟩
  | int i => exact ⟨_, false, .int i, by kernel_rfl, .inr ⟨rfl, fun _ _ z => nomatch z⟩⟩
  | str x h => exact ⟨_, false, .str x, by kernel_rfl, .inr ⟨rfl, fun _ _ z => nomatch z⟩⟩
  | lst h => exact ⟨_, false, .lst h, by kernel_rfl, .inr ⟨rfl, fun _ _ z e => by cases z; rw [h] at e; cases e⟩⟩
  | tup h => exact ⟨_, true, .tup h, by kernel_rfl, .inl ⟨rfl, _, _, rfl, h⟩⟩
theorem notN_mid {H : Hp} {a : Addr} {A R : List V} {b : V} {ns : List Nd} (h : H a = some (.lst (A ++ b :: R))) (hA : NodesAt H A ns) (hb : ∀ n, NodeAt H b n → ¬ (markS n.1 = true ∧ 0 ≤ n.2 ∧ n.2 ≤ deepAfter 0 ns)) : ¬ GoodN H (.ref a) := by
  rintro ⟨a', xs', ms, e, h', l, m, d⟩
  cases e
  rw [h] at h'
  cases h'
  obtain ⟨n1, n2, rfl, m1, m2⟩ := m.split
  cases n2 with
  | nil => exact m2.elim
  | cons n r =>
    have := m1.uniq hA
    subst this
    have d2 := (depthOk_append.mp d).2
    exact hb n m2.1 ⟨d2.1, d2.2.1, d2.2.2.1⟩
theorem thg3_tup {H : Hp} {a : Addr} {xs : List V} (h : H a = some (.tup xs)) (hx : ∀ x ∈ xs, Thg H x) : Thg3 H (.ref a) := ⟨.tup h, fun a' xs' e h' x m => by cases e; rw [h] at h'; cases h'; exact hx x m⟩
theorem thg4_lst {H : Hp} {a : Addr} {xs : List V} (h : H a = some (.lst xs)) (hx : ∀ x ∈ xs, Thg3 H x) : Thg4 H (.ref a) := ⟨.lst h, fun a' xs' e h' x m => by cases e; rw [h] at h'; cases h'; exact hx x m⟩
theorem NodeAt.thg3 {H : Hp} {x : V} {n : Nd} (h : NodeAt H x n) (hm : n.1.length ≤ 1000) : Thg3 H x := by
  obtain ⟨t, e, h⟩ := h
  subst e
  refine thg3_tup h fun y hy => ?_
  simp only [List.mem_cons, List.not_mem_nil, or_false] at hy
  rcases hy with rfl | rfl
  · exact .str _ hm
  · exact .int _
theorem NodesAt.thg3 {H : Hp} : ∀ {xs : List V} {ns : List Nd}, NodesAt H xs ns → (∀ n ∈ ns, n.1.length ≤ 1000) → ∀ x ∈ xs, Thg3 H x
  | [], [], _, _, _, hx => nomatch hx
  | y :: xs, n :: ns, h, hm, x, hx => by
    rcases List.mem_cons.mp hx with e | e
    · rw [e]; exact h.1.thg3 (hm n List.mem_cons_self)
    · exact NodesAt.thg3 h.2 (fun m hm' => hm m (List.mem_cons_of_mem _ hm')) x e
  | [], _ :: _, h, _, _, _ => h.elim
  | _ :: _, [], h, _, _, _ => h.elim
def datN (ns : List Nd) : List PyData := ns.map fun n => .tuple [.str n.1, .int n.2]
theorem NodesAt.dat {K : PySem.W.Frag} {H : Hp} : ∀ {xs : List V} {ns : List Nd}, NodesAt H xs ns → DatVs K H xs (datN ns)
  | [], [], _ => .nil
  | _ :: _, _ :: _, h => by
    obtain ⟨⟨t, e, h1⟩, h2⟩ := h
    subst e
    exact .cons (.tup (SqT.of h1) (.cons (.str _) (.cons (.int _) .nil))) (NodesAt.dat h2)
  | [], _ :: _, h => h.elim
  | _ :: _, [], h => h.elim
theorem canLay_nodes : ∀ {ns : List Nd}, (∀ n ∈ ns, PyData.strOk n.1 = true) → PyData.canLayAll0 (datN ns) = true
  | [], _ => rfl
  | n :: r, h => by
    have h1 := h n List.mem_cons_self
    have h2 := canLay_nodes (ns := r) fun y hy => h y (List.mem_cons_of_mem _ hy)
    unfold datN at h2 ⊢
    simp only [List.map_cons, PyData.canLayAll0, PyData.canLay0, h1, h2, Bool.and_self]
theorem depth_nodes : ∀ ns : List Nd, PyData.depthAll (datN ns) ≤ 1
  | [] => Nat.zero_le _
  | n :: r => by
    have h2 := depth_nodes r
    unfold datN at h2 ⊢
    simp only [List.map_cons, PyData.depthAll, PyData.depth]
    omega
end SH
namespace L2
open PySem PySem.Spec PyProof.Rows
theorem tseq_open {a b : TS} {D : Ends} {σ : St} {H : Hp} (h : ∀ B : TS, B = b → tSeq a B D σ H) : tSeq a b D σ H := h b rfl
def Itr3 (lo st : Int) (n : Nat) : It := ⟨fun i _ => i < n, fun i H x H' => H' = H ∧ x = .int (lo + i * st), fun i _ => n ≤ i⟩
theorem turn_range3 {P : Program} {w : World} {K : PySem.W.Frag} {tg : Expr} (it : Addr) (lo c : Int) (n : Nat) : Turn P w K tg (Itr3 lo c n) [it] it (fun i h => IsRangeIter h it (lo + (i : Nat) * c) ((n : Int) - (i : Nat)) c) where
  mem := by simp
  obj := fun i h st b hb => by
    have e : b = it := by simpa using hb
    subst e
    exact ⟨_, st, fun v z => by
      have z' : Data.fields _ = Data.cell v := z
      cases z'⟩
  keep := fun i h h' st k => k it (by simp) _ st
  item := by
    intro X hP hw hK hc i pins s σ H E I hf st hg
    subst hP hw hK
    obtain ⟨f0, f1, f2, f3, f4, f5⟩ := hf it (by simp)
    have W := Walks.range (prog := X.prog) (w := X.w) (I.ok.hd hc) it lo c n
    refine W.item i s _ _ hg st fun v h' tk hv st' kk => ?_
    obtain ⟨t, rfl⟩ := hv
    have I1 : Inv X pins σ H { s with heap := h', toks := tk } := I.turned (fun b o hb e => kk b o (by simpa using hb) e) f0 f1 f3 f4 f5
    exact ⟨_, rfl, go_of (s := { s with heap := h', toks := tk }) (n := "range_iterator") st' rfl rfl (by decide) ⟨.int (lo + i * c), H, I1, ⟨t, rfl⟩, ⟨rfl, rfl⟩, st', fun b hb => (hf b hb).1⟩⟩
  done := by
    intro X hP hw hK hc i pins s σ H E I hf st hg
    subst hP hw hK
    obtain ⟨f0, f1, f2, f3, f4, f5⟩ := hf it (by simp)
    exact wpAny_pyNext_range_end (I.ok.hd hc) st (by have : n ≤ i := hg; omega) fun h' eb => ⟨rfl, I.turned (t' := s.toks) (fun b o hb e => eb b o hb e) f0 f1 f3 f4 f5⟩
  self := fun _ _ _ _ _ st h => wpAny_pyIter_rangeiter st h
theorem rsize3 {j c : Int} (hc : 1 ≤ c) : 0 ≤ Builtin.Range.rangeSize 0 j c ∧ (Builtin.Range.rangeSize 0 j c ≤ j ∨ Builtin.Range.rangeSize 0 j c = 0) ∧ ∀ i : Nat, (i : Int) < Builtin.Range.rangeSize 0 j c → (i : Int) * c < j := by
  by_cases hj : 0 < j
  · refine ⟨?_, .inl ?_, fun i hi => (start_inside hc (by omega) (by omega) hi).2⟩
    · rw [rangeSize_pos hc (by omega)]; exact Int.ediv_nonneg (by omega) (by omega)
    · rw [rangeSize_pos hc (by omega)]
      refine Int.ediv_le_of_le_mul (by omega) ?_
      have h : 0 ≤ (j - 1) * (c - 1) := Int.mul_nonneg (by omega) (by omega)
      have e : (j - 1) * (c - 1) = j * c - j - c + 1 := by
        rw [Int.sub_mul, Int.mul_sub, Int.mul_sub]; omega
      omega
  · have e : Builtin.Range.rangeSize 0 j c = 0 := by
      unfold Builtin.Range.rangeSize
      rw [if_pos (by omega), if_neg (by omega)]
    rw [e]
    exact ⟨Int.le_refl _, .inr rfl, fun i hi => absurd hi (by omega)⟩
theorem small3 {j c : Int} (h1 : -1000 ≤ j) (h2 : j ≤ 1000) (hc : 1 ≤ c) (hc2 : c ≤ 1000) : Builtin.Range.small 0 j c = true := by
  obtain ⟨h3, h4, _⟩ := rsize3 (j := j) hc
  have h5 : Builtin.Range.rangeSize 0 j c ≤ 1000 := by omega
  unfold Builtin.Range.small
  generalize Builtin.Range.rangeSize 0 j c = n at h3 h5
  have h6 : n * c ≤ 1000 * 1000 := Int.mul_le_mul h5 hc2 (by omega) (by omega)
  have h7 : 0 ≤ n * c := Int.mul_nonneg h3 (by omega)
  simp only [Builtin.Range.rangeFitsLong, Bool.and_eq_true, Bool.or_eq_true, decide_eq_true_eq, beq_iff_eq, show c > 0 from by omega, if_true]
  omega
section
variable {X : Cx} {tg : Expr}
def iRng3 (ta : TA) : TI := fun σ H R => ta σ H fun vs H1 => ∃ j c : Int, vs = [.int 0, .int j, .int c] ∧ (-1000 ≤ j ∧ j ≤ 1000 ∧ 1 ≤ c ∧ c ≤ 1000) ∧ ∀ n : Nat, (∀ i : Nat, i < n → (i : Int) * c < j) → R (Itr3 0 c n) H1
theorem pi_range3 {a b d : Expr} {ta : TA} {p pos : Pos} (hg : Gl X "range") (hm : X.mg "range" = none) (ha : PA X [a, b, d] ta) (hs : starEach [a, b, d] X.env = [(false, eval a X.env), (false, eval b X.env), (false, eval d X.env)] := by rfl) (hs2 : starEach [b, d] X.env = [(false, eval b X.env), (false, eval d X.env)] := by rfl) (hs3 : starEach [d] X.env = [(false, eval d X.env)] := by rfl) :
    PI X tg (.Call (.Name "range" p) [a, b, d] [] pos) (iRng3 ta) := by
  intro pins s σ H R I h
  refine Call_ (ld_blt I hg hm boot_range (PyProof.Rows.callWith_type1 (thn (ha pos pins s σ H _ I h) fun us s1 ⟨vs, H1, I1, r1, q1⟩ => ?_) (by rw [hs, hs2]) (by rw [hs2]; rfl)))
  obtain ⟨j, c, e, ⟨q1, q2, q3, q4⟩, q⟩ := q1
  subst e
  cases r1 with
  | cons r rr =>
    cases rr with
    | cons r' rr =>
      cases rr with
      | cons r'' rr =>
        cases rr
        obtain ⟨t, rfl⟩ := r
        obtain ⟨t', rfl⟩ := r'
        obtain ⟨t'', rfl⟩ := r''
        obtain ⟨h3, h4, h5⟩ := rsize3 (j := j) q3
        have I1' := I1.kept (t' := s1.toks) (fun b o e => Heap.get?_push_of_some { cls := .type "range", data := .fields #[.int 0 t, .int j t', .int c t''] } e)
        refine call_range_3 (by omega) ?_ (.inl (PyProof.noPylong_small (by omega)))
        refine wpAny_pyIter_range (IsRange.new ..) (small3 q1 q2 q3 q4) ?_
        refine ⟨_, [_], _, _, H1, rfl, I1'.kept (t' := s1.toks) fun b o e => Heap.get?_push_of_some _ e, turn_range3 _ 0 c (Builtin.Range.rangeSize 0 j c).toNat, ?_, fun b hb => ?_, q _ fun i hi => h5 i (by omega)⟩
        · have e1 : (0 : Int) + ((0 : Nat) : Int) * c = 0 := by simp
          have e2 : (((Builtin.Range.rangeSize 0 j c).toNat : Nat) : Int) - ((0 : Nat) : Int) = Builtin.Range.rangeSize 0 j c := by omega
          show IsRangeIter _ _ ((0 : Int) + ((0 : Nat) : Int) * c) ((((Builtin.Range.rangeSize 0 j c).toNat : Nat) : Int) - ((0 : Nat) : Int)) c
          rw [e1, e2]
          exact Heap.get?_push_size _ rfl
        · have e := List.mem_singleton.mp hb
          subst e
          exact I1'.fpOk (Nat.le_refl _) (I1'.hok.fresh (Nat.le_refl _))
end
theorem for_range3 {lo c : Int} {n : Nat} {g : TG} {tb : TS} {D : Ends} {σ : St} {H : Hp} (Pv : Nat → St → Hp → Prop) (h0 : Pv 0 σ H)
    (hs : ∀ i σ H, i < n → Pv i σ H → g (.int (lo + i * c)) σ H fun σ2 H2 => tb { D with nx := Pv (i + 1), ct := Pv (i + 1), bk := D.nx } σ2 H2) (hd : ∀ σ H, Pv n σ H → D.nx σ H) :
    ∃ W : Nat → Nat → St → Hp → Prop, (∃ m, W 0 m σ H) ∧ ∀ i m σ H, W i m σ H →
      ((Itr3 lo c n).stop i H ∧ D.nx σ H) ∨ ((Itr3 lo c n).go i H ∧ ∃ N : St → Hp → Prop, (∀ σ' H', N σ' H' → ∃ m', m' < m ∧ W (i + 1) m' σ' H') ∧ ∀ x H', (Itr3 lo c n).yld i H x H' → g x σ H' fun σ2 H2 => tb { D with nx := N, ct := N, bk := D.nx } σ2 H2) := by
  refine ⟨fun i m σ H => m = n - i ∧ i ≤ n ∧ Pv i σ H, ⟨n, by simp, Nat.zero_le _, h0⟩, ?_⟩
  rintro i m σ H ⟨rfl, hi, p⟩
  by_cases hlt : i < n
  · refine .inr ⟨hlt, Pv (i + 1), fun σ' H' p' => ⟨n - (i + 1), by omega, rfl, hlt, p'⟩, fun x H' y => ?_⟩
    obtain ⟨e, y⟩ := y
    subst e y
    exact hs i σ _ hlt p
  · have e : i = n := by omega
    subst e
    exact .inl ⟨Nat.le_refl _, hd σ H p⟩
theorem tcomp_listN {K : PySem.W.Frag} {xs : List V} {x0 : Str} {ix : List Nat} {wi : TI} {ti : TT} {te : TE} {Q : VK} {σ : St} {H : Hp} (Cond : Addr → Hp → Prop) (hi : ∀ R : It → Hp → Prop, (∀ a H1, Cond a H1 → R (Itl K a) H1) → wi σ H R)
    (h : ∀ a H1, Cond a H1 → ∃ Pv : Nat → List V → Hp → Prop, Pv 0 [] H1 ∧ (∀ i ys H, i ≤ xs.length → Pv i ys H → SqL K H a xs) ∧
      (∀ i x ys H (R : List V → Hp → Prop), xs[i]? = some x → Pv i ys H → (∀ ys' H', Pv (i + 1) ys' H' → R ys' H') → ti (some x :: ix.map fun j => (σ[j]?).join) H fun b H3 => if b = true then te (some x :: ix.map fun j => (σ[j]?).join) H3 fun y H4 => ys.length < sizeLine ∧ R (ys ++ [y]) H4 else R ys H3) ∧
      (∀ ys H, Pv xs.length ys H → ys.length ≤ sizeLine ∧ ∀ D, H D = none → Q (.ref D) (upd H D (.lst ys)))) : tComp [x0] ix wi (gName 0) ti te σ H Q :=
  hi _ fun a H1 c => by
    obtain ⟨Pv, h0, hl, hs, hd⟩ := h a H1 c
    exact comp_list Pv h0 hl hs hd
end L2
namespace SH
open PySem L2
def RowAt (f : List V → HO) (H : Hp) (x : V) (l : List V) : Prop := ∃ a, x = .ref a ∧ H a = some (f l)
def RowsAt (f : List V → HO) (H : Hp) : List V → List (List V) → Prop
  | [], [] => True
  | x :: xs, n :: ns => RowAt f H x n ∧ RowsAt f H xs ns
  | [], _ :: _ => False
  | _ :: _, [] => False
section
variable {f : List V → HO} {H H' : Hp}
theorem RowAt.same {x : V} {n : List V} (s : Same H H') (h : RowAt f H x n) : RowAt f H' x n := by
  obtain ⟨t, e, h⟩ := h
  exact ⟨t, e, s _ _ h⟩
theorem RowsAt.keep (s : ∀ b ys, H b = some (f ys) → H' b = some (f ys)) : ∀ {xs : List V} {ns : List (List V)}, RowsAt f H xs ns → RowsAt f H' xs ns
  | [], [], h => h
  | _ :: _, _ :: _, h => by
    obtain ⟨⟨t, e, h1⟩, h2⟩ := h
    exact ⟨⟨t, e, s _ _ h1⟩, RowsAt.keep s h2⟩
  | [], _ :: _, h => h.elim
  | _ :: _, [], h => h.elim
theorem RowsAt.same (s : Same H H') {xs : List V} {ns : List (List V)} (h : RowsAt f H xs ns) : RowsAt f H' xs ns := h.keep fun b ys e => s b _ e
theorem RowsAt.length : ∀ {xs : List V} {ns : List (List V)}, RowsAt f H xs ns → xs.length = ns.length
  | [], [], _ => rfl
  | _ :: _, _ :: _, h => by rw [List.length_cons, List.length_cons, RowsAt.length h.2]
  | [], _ :: _, h => h.elim
  | _ :: _, [], h => h.elim
theorem RowsAt.append : ∀ {xs ys : List V} {ns ms : List (List V)}, RowsAt f H xs ns → RowsAt f H ys ms → RowsAt f H (xs ++ ys) (ns ++ ms)
  | [], _, [], _, _, b => b
  | _ :: _, _, _ :: _, _, a, b => ⟨a.1, RowsAt.append a.2 b⟩
  | [], _, _ :: _, _, a, _ => a.elim
  | _ :: _, _, [], _, a, _ => a.elim
theorem RowsAt.get : ∀ {xs : List V} {ns : List (List V)} {i : Nat} {x : V}, RowsAt f H xs ns → xs[i]? = some x → ∃ n, ns[i]? = some n ∧ RowAt f H x n
  | [], [], _, _, _, e => by simp at e
  | _ :: _, n :: _, 0, _, h, e => by simp at e; subst e; exact ⟨n, rfl, h.1⟩
  | _ :: _, _ :: _, i + 1, x, h, e => by
    obtain ⟨m, a, b⟩ := RowsAt.get (i := i) (x := x) h.2 (by simpa using e)
    exact ⟨m, by simpa using a, b⟩
  | [], _ :: _, _, _, h, _ => h.elim
  | _ :: _, [], _, _, h, _ => h.elim
theorem RowsAt.take : ∀ {xs : List V} {ns : List (List V)} (i : Nat), RowsAt f H xs ns → RowsAt f H (xs.take i) (ns.take i)
  | [], [], _, _ => by simp [RowsAt]
  | _ :: _, _ :: _, 0, _ => trivial
  | _ :: _, _ :: _, i + 1, h => ⟨h.1, RowsAt.take i h.2⟩
  | [], _ :: _, _, h => h.elim
  | _ :: _, [], _, h => h.elim
theorem RowsAt.drop : ∀ {xs : List V} {ns : List (List V)} (i : Nat), RowsAt f H xs ns → RowsAt f H (xs.drop i) (ns.drop i)
  | [], [], _, _ => by simp [RowsAt]
  | _ :: _, _ :: _, 0, h => h
  | _ :: _, _ :: _, i + 1, h => RowsAt.drop i h.2
  | [], _ :: _, _, h => h.elim
  | _ :: _, [], _, h => h.elim
theorem RowsAt.mem : ∀ {xs : List V} {ns : List (List V)} {x : V}, RowsAt f H xs ns → x ∈ xs → ∃ n ∈ ns, RowAt f H x n
  | [], _, _, _, h => nomatch h
  | y :: xs, n :: ns, x, h, hx => by
    rcases List.mem_cons.mp hx with e | e
    · rw [e]; exact ⟨n, List.mem_cons_self, h.1⟩
    · obtain ⟨m, hm, r⟩ := RowsAt.mem h.2 e
      exact ⟨m, List.mem_cons_of_mem _ hm, r⟩
  | _ :: _, [], _, h, _ => h.elim
end
theorem RowAt.uniq {H : Hp} {x : V} {n m : List V} (a : RowAt .lst H x n) (b : RowAt .lst H x m) : n = m := by
  obtain ⟨t, e, h⟩ := a
  obtain ⟨t', e', h'⟩ := b
  rw [e] at e'
  cases e'
  rw [h] at h'
  cases h'
  rfl
theorem RowsAt.uniq {H : Hp} : ∀ {xs : List V} {ns ms : List (List V)}, RowsAt .lst H xs ns → RowsAt .lst H xs ms → ns = ms
  | [], [], [], _, _ => rfl
  | _ :: _, _ :: _, _ :: _, a, b => by rw [a.1.uniq b.1, RowsAt.uniq a.2 b.2]
  | [], _ :: _, _, a, _ => a.elim
  | [], _, _ :: _, _, b => b.elim
  | _ :: _, [], _, a, _ => a.elim
  | _ :: _, _, [], _, b => b.elim
def lineOk (w : Nat) (l : List V) : Prop := l.length = w ∧ l.all markV = true
def tabOk (ls : List (List V)) : Prop := ∃ w, w ≤ 12 ∧ ∀ l ∈ ls, lineOk w l
def Thg5 (H : Hp) (v : V) : Prop := Thg H v ∧ ∀ a xs, v = .ref a → H a = some (.lst xs) → ∀ x ∈ xs, Thg2 H x
def GoodT (H : Hp) (v : V) : Prop := ∃ a xs ls, v = .ref a ∧ H a = some (.lst xs) ∧ xs.length ≤ 12 ∧ RowsAt .lst H xs ls ∧ tabOk ls
theorem Thg5.same {H H' : Hp} {v : V} (s : Same H H') (t : Thg5 H v) : Thg5 H' v := ⟨t.1.same s, fun a xs e h x hx => (t.2 a xs e (t.1.back s e h) x hx).same s⟩
theorem RowsAt.back {H H' : Hp} (s : Same H H') : ∀ {xs : List V} {ns : List (List V)}, (∀ x ∈ xs, Thg H x) → RowsAt .lst H' xs ns → RowsAt .lst H xs ns
  | [], [], _, h => h
  | x :: xs, _ :: _, t, h => by
    obtain ⟨⟨a, e, h1⟩, h2⟩ := h
    exact ⟨⟨a, e, (t x List.mem_cons_self).back s e h1⟩, RowsAt.back s (fun y hy => t y (List.mem_cons_of_mem _ hy)) h2⟩
  | [], _ :: _, _, h => h.elim
  | _ :: _, [], _, h => h.elim
theorem GoodT.back {H H' : Hp} {v : V} (t : Thg5 H v) (s : Same H H') (g : GoodT H' v) : GoodT H v := by
  obtain ⟨a, xs, ns, e, h, l, m, d⟩ := g
  have h0 := t.1.back s e h
  exact ⟨a, xs, ns, e, h0, l, m.back s fun x hx => (t.2 a xs e h0 x hx).1, d⟩
theorem notT_mem {H : Hp} {a : Addr} {xs : List V} {b : V} (h : H a = some (.lst xs)) (hm : b ∈ xs) (hb : ¬ GoodM 12 H b) : ¬ GoodT H (.ref a) := by
  rintro ⟨a', xs', ns, e, h', l, r, w, hw, hall⟩
  cases e
  rw [h] at h'
  cases h'
  obtain ⟨n, hn, c, e, hc⟩ := r.mem hm
  obtain ⟨h1, h2⟩ := hall n hn
  exact hb ⟨c, n, e, hc, by omega, h2⟩
theorem notT_two {H : Hp} {a : Addr} {xs : List V} {b c : V} {l1 l2 : List V} (h : H a = some (.lst xs)) (hm : b ∈ xs) (hm2 : c ∈ xs) (h1 : RowAt .lst H b l1) (h2 : RowAt .lst H c l2) (hne : l1.length ≠ l2.length) : ¬ GoodT H (.ref a) := by
  rintro ⟨a', xs', ns, e, h', l, r, w, hw, hall⟩
  cases e
  rw [h] at h'
  cases h'
  obtain ⟨n, hn, r1⟩ := r.mem hm
  obtain ⟨m, hm', r2⟩ := r.mem hm2
  have e1 := r1.uniq h1
  have e2 := r2.uniq h2
  subst e1 e2
  exact hne ((hall _ hn).1.trans (hall _ hm').1.symm)
theorem thg5_lst {H : Hp} {a : Addr} {xs : List V} (h : H a = some (.lst xs)) (hx : ∀ x ∈ xs, Thg2 H x) : Thg5 H (.ref a) := ⟨.lst h, fun a' xs' e h' x m => by cases e; rw [h] at h'; cases h'; exact hx x m⟩
theorem thg_mark {H : Hp} {l : List V} (h : l.all markV = true) : ∀ x ∈ l, Thg H x := fun x hx => by
  have h1 := List.all_eq_true.mp h x hx
  cases x with
  | str z =>
    have := (mark_all (show markS z = true from h1)).2.1
    exact .str _ (by omega)
  | _ => cases h1
theorem RowsAt.thg2 {H : Hp} {xs : List V} {ls : List (List V)} (r : RowsAt .lst H xs ls) (hm : ∀ l ∈ ls, l.all markV = true) : ∀ x ∈ xs, Thg2 H x := fun x hx => by
  obtain ⟨n, hn, c, e, hc⟩ := r.mem hx
  subst e
  exact thg2_lst hc (thg_mark (hm n hn))
def datM : V → PyData
  | .str z => .str z
  | _ => .none
theorem datVs_marks {K : PySem.W.Frag} {H : Hp} : ∀ {l : List V}, l.all markV = true → DatVs K H l (l.map datM)
  | [], _ => .nil
  | x :: r, h => by
    rw [List.all_cons, Bool.and_eq_true] at h
    cases x with
    | str z => exact .cons (.str _) (datVs_marks h.2)
    | _ => cases h.1
theorem canLay_marks : ∀ {l : List V}, l.all markV = true → PyData.canLayAll0 (l.map datM) = true
  | [], _ => rfl
  | x :: r, h => by
    rw [List.all_cons, Bool.and_eq_true] at h
    have ih := canLay_marks h.2
    cases x with
    | str z =>
      have h1 := mark_strOk (show markS z = true from h.1)
      simp only [List.map_cons, datM, PyData.canLayAll0, PyData.canLay0, h1, ih, Bool.and_self]
    | _ => cases h.1
theorem depth_marks : ∀ l : List V, PyData.depthAll (l.map datM) ≤ 0
  | [] => Nat.le_refl _
  | x :: r => by
    have ih := depth_marks r
    cases x <;> simp only [List.map_cons, datM, PyData.depthAll, PyData.depth] <;> omega
theorem canLay_tups : ∀ {ls : List (List V)}, (∀ l ∈ ls, l.all markV = true) → PyData.canLayAll0 (ls.map fun l => PyData.tuple (l.map datM)) = true
  | [], _ => rfl
  | n :: r, h => by
    have h1 := canLay_marks (h n List.mem_cons_self)
    have h2 := canLay_tups (ls := r) fun y hy => h y (List.mem_cons_of_mem _ hy)
    simp only [List.map_cons, PyData.canLayAll0, PyData.canLay0, h1, h2, Bool.and_self]
theorem depth_tups : ∀ ls : List (List V), PyData.depthAll (ls.map fun l => PyData.tuple (l.map datM)) ≤ 1
  | [] => Nat.zero_le _
  | n :: r => by
    have h2 := depth_tups r
    have h1 := depth_marks n
    simp only [List.map_cons, PyData.depthAll, PyData.depth]
    omega
theorem RowsAt.datT {K : PySem.W.Frag} {H : Hp} : ∀ {xs : List V} {ls : List (List V)}, (∀ l ∈ ls, l.all markV = true) → RowsAt .tup H xs ls → DatVs K H xs (ls.map fun l => PyData.tuple (l.map datM))
  | [], [], _, _ => .nil
  | _ :: _, n :: _, hm, h => by
    obtain ⟨⟨t, e, h1⟩, h2⟩ := h
    subst e
    exact .cons (.tup (SqT.of h1) (datVs_marks (hm n List.mem_cons_self))) (RowsAt.datT (fun y hy => hm y (List.mem_cons_of_mem _ hy)) h2)
  | [], _ :: _, _, h => h.elim
  | _ :: _, [], _, h => h.elim
def wideT (ls : List (List V)) : Nat := (ls.headD []).length
theorem wideT_le {ls : List (List V)} (h : tabOk ls) : wideT ls ≤ 12 := by
  obtain ⟨w, hw, ha⟩ := h
  cases ls with
  | nil => exact Nat.zero_le _
  | cons l r => show l.length ≤ 12; rw [(ha l List.mem_cons_self).1]; exact hw
theorem wideT_all {ls : List (List V)} (h : tabOk ls) : ∀ l ∈ ls, lineOk (wideT ls) l := fun l hl => by
  obtain ⟨w, hw, ha⟩ := h
  cases ls with
  | nil => exact nomatch hl
  | cons l0 r =>
    have e : wideT (l0 :: r) = w := (ha l0 List.mem_cons_self).1
    rw [e]
    exact ha l hl
theorem tab_marks {ls : List (List V)} (h : tabOk ls) : ∀ l ∈ ls, l.all markV = true := fun l hl => (wideT_all h l hl).2
theorem flat_len {ls : List (List V)} (h : ∀ l ∈ ls, l.length ≤ 12) : ls.flatten.length ≤ 12 * ls.length := by
  induction ls with
  | nil => exact Nat.le_refl _
  | cons l r ih =>
    have h1 := h l List.mem_cons_self
    have h2 := ih fun y hy => h y (List.mem_cons_of_mem _ hy)
    rw [List.flatten_cons, List.length_append, List.length_cons]
    omega
theorem putF3 {a b c : Str} {x y z : V} (h : ¬ a = c) (h' : ¬ b = c) : putF c z [(a, x), (b, y)] = [(a, x), (b, y), (c, z)] := by
  show (if a = c then [(a, z), (b, y)] else (a, x) :: (if b = c then [(b, z)] else (b, y) :: putF c z [])) = _
  rw [if_neg h, if_neg h']
  rfl
theorem lookup_no3 {α : Type} {a b d c : Str} {x y z : α} (h : (c == a) = false) (h' : (c == b) = false) (h'' : (c == d) = false) : List.lookup c [(a, x), (b, y), (d, z)] = none := by
  rw [List.lookup_cons, h, List.lookup_cons, h', List.lookup_cons, h'']
  rfl
theorem lookup3b {α : Type} {a b c : Str} {x y z : α} (h : (b == a) = false) : List.lookup b [(a, x), (b, y), (c, z)] = some y := by
  rw [List.lookup_cons, h, List.lookup_cons, beq_self_eq_true]
theorem lookup3 {α : Type} {a b c : Str} {x y z : α} (h : (c == a) = false) (h' : (c == b) = false) : List.lookup c [(a, x), (b, y), (c, z)] = some z := by
  rw [List.lookup_cons, h, List.lookup_cons, h', List.lookup_cons, beq_self_eq_true]
theorem GoodM.same {n : Nat} {H H' : Hp} {v : V} (s : Same H H') (g : GoodM n H v) : GoodM n H' v := by
  obtain ⟨a, xs, e, h, r⟩ := g
  exact ⟨a, xs, e, s _ _ h, r⟩
theorem RowsAt.keepm {f : List V → HO} {H H' : Hp} : ∀ {xs : List V} {ns : List (List V)}, (∀ b ys, V.ref b ∈ xs → H b = some (f ys) → H' b = some (f ys)) → RowsAt f H xs ns → RowsAt f H' xs ns
  | [], [], _, h => h
  | _ :: _, _ :: _, s, h => by
    obtain ⟨⟨t, e, h1⟩, h2⟩ := h
    exact ⟨⟨t, e, s _ _ (by rw [e]; exact List.mem_cons_self) h1⟩, RowsAt.keepm (fun b ys hb => s b ys (List.mem_cons_of_mem _ hb)) h2⟩
  | [], _ :: _, _, h => h.elim
  | _ :: _, [], _, h => h.elim
def NotIn (l : Addr) (xs : List V) : Prop := ∀ b, V.ref b ∈ xs → b ≠ l
theorem NotIn.nil {l : Addr} : NotIn l [] := fun _ h => nomatch h
theorem NotIn.add {l p : Addr} {xs : List V} (h : NotIn l xs) (hp : p ≠ l) : NotIn l (xs ++ [.ref p]) := fun b hb => by
  rcases List.mem_append.mp hb with h' | h'
  · exact h b h'
  · cases List.mem_singleton.mp h'
    exact hp
theorem RowsAt.updl {f : List V → HO} {H : Hp} {l : Addr} {o : HO} {xs : List V} {ns : List (List V)} (n : NotIn l xs) (h : RowsAt f H xs ns) : RowsAt f (upd H l o) xs ns := h.keepm fun b ys hb e => by rw [upd_ne (n b hb)]; exact e
theorem cut_len {ms : List Int} {a w : Nat} (h : a + w ≤ ms.length) : ∃ cs : List Int, cutV (ms.map V.int) (some (a : Int)) (some ((a : Int) + (w : Int))) = cs.map V.int ∧ cs.length = w := by
  have e2 : ((a : Int) + (w : Int)) = ((a + w : Nat) : Int) := by omega
  refine ⟨(ms.drop (HT.sIx (ms.map V.int).length 0 (some (a : Int)))).take (HT.sIx (ms.map V.int).length (ms.map V.int).length (some ((a : Int) + (w : Int))) - HT.sIx (ms.map V.int).length 0 (some (a : Int))), ?_, ?_⟩
  · unfold cutV
    rw [List.map_take, List.map_drop]
  · rw [e2, HT.sIx_nat, HT.sIx_nat, List.length_take, List.length_drop, List.length_map]
    omega
theorem cut_some {ns : List Int} {lo hi : Option Int} : ∃ ms : List Int, cutV (ns.map V.int) lo hi = ms.map V.int ∧ ms.length ≤ ns.length := by
  refine ⟨(ns.drop (HT.sIx (ns.map V.int).length 0 lo)).take (HT.sIx (ns.map V.int).length (ns.map V.int).length hi - HT.sIx (ns.map V.int).length 0 lo), ?_, ?_⟩
  · unfold cutV
    rw [List.map_take, List.map_drop]
  · rw [List.length_take, List.length_drop]
    omega
theorem NotIn.of {f : List V → HO} {H : Hp} {D : Addr} {xs : List V} {ls : List (List V)} (r : RowsAt f H xs ls) (h : H D = none) : NotIn D xs := fun b hb => by
  obtain ⟨n, _, a, e, ha⟩ := r.mem hb
  cases e
  exact ne_of_none ha h
theorem same_ne {H H' : Hp} {l : Addr} {o : HO} (s : Same H H') (h : H l = none) : Same H (upd H' l o) := fun b u e => by rw [upd_ne (ne_of_none e h)]; exact s b u e
theorem cut_to {xs : List V} {n : Nat} {i : Int} (h : i = (n : Int)) : cutV xs none (some i) = xs.take n := by
  subst h
  unfold cutV
  rw [HT.sIx_none, HT.sIx_nat, List.drop_zero, Nat.sub_zero]
  apply List.ext_getElem?
  intro j
  simp only [List.getElem?_take]
  by_cases h1 : j < n
  · by_cases h2 : j < xs.length
    · rw [if_pos (by omega), if_pos h1]
    · rw [if_neg (by omega), if_pos h1]
      exact (List.getElem?_eq_none (by omega)).symm
  · rw [if_neg (by omega), if_neg h1]
end SH
namespace L2
open PySem PySem.Spec PyProof.Rows
theorem pe_either {X : Cx} {e : Expr} {t1 t2 : TE} (h1 : PE X e t1) (h2 : PE X e t2) : PE X e (fun σ H Q => t1 σ H Q ∨ t2 σ H Q) := fun pins s σ H Q I h => h.elim (h1 pins s σ H Q I) (h2 pins s σ H Q I)
theorem tcomp_listM {K : PySem.W.Frag} {x0 : Str} {ix : List Nat} {wi : TI} {ti : TT} {te : TE} {Q : VK} {σ : St} {H : Hp} (Cond : List V → Addr → Hp → Prop) (hi : ∀ R : It → Hp → Prop, (∀ xs a H1, Cond xs a H1 → R (Itl K a) H1) → wi σ H R)
    (h : ∀ xs a H1, Cond xs a H1 → ∃ Pv : Nat → List V → Hp → Prop, Pv 0 [] H1 ∧ (∀ i ys H, i ≤ xs.length → Pv i ys H → SqL K H a xs) ∧
      (∀ i x ys H (R : List V → Hp → Prop), xs[i]? = some x → Pv i ys H → (∀ ys' H', Pv (i + 1) ys' H' → R ys' H') → ti (some x :: ix.map fun j => (σ[j]?).join) H fun b H3 => if b = true then te (some x :: ix.map fun j => (σ[j]?).join) H3 fun y H4 => ys.length < sizeLine ∧ R (ys ++ [y]) H4 else R ys H3) ∧
      (∀ ys H, Pv xs.length ys H → ys.length ≤ sizeLine ∧ ∀ D, H D = none → Q (.ref D) (upd H D (.lst ys)))) : tComp [x0] ix wi (gName 0) ti te σ H Q :=
  hi _ fun xs a H1 c => by
    obtain ⟨Pv, h0, hl, hs, hd⟩ := h xs a H1 c
    exact comp_list Pv h0 hl hs hd
end L2
namespace SH
open PySem L2
def placesOk : Int → Int → List Int → Prop
  | _, _, [] => True
  | lo, m, p :: r => lo ≤ p ∧ p < m ∧ placesOk (p + 1) m r
def lowAfter : Int → List Int → Int
  | lo, [] => lo
  | _, p :: r => lowAfter (p + 1) r
theorem placesOk_append : ∀ {lo m : Int} {a b : List Int}, placesOk lo m (a ++ b) ↔ placesOk lo m a ∧ placesOk (lowAfter lo a) m b
  | lo, m, [], b => by simp [placesOk, lowAfter]
  | lo, m, p :: r, b => by
    have ih := placesOk_append (lo := p + 1) (m := m) (a := r) (b := b)
    simp only [List.cons_append, placesOk, lowAfter, ih]
    constructor
    · rintro ⟨h1, h2, h3, h4⟩; exact ⟨⟨h1, h2, h3⟩, h4⟩
    · rintro ⟨⟨h1, h2, h3⟩, h4⟩; exact ⟨h1, h2, h3, h4⟩
theorem lowAfter_append : ∀ {lo : Int} {a b : List Int}, lowAfter lo (a ++ b) = lowAfter (lowAfter lo a) b
  | _, [], _ => rfl
  | _, p :: r, b => lowAfter_append (lo := p + 1) (a := r) (b := b)
theorem places_all : ∀ {lo m : Int} {ps : List Int}, placesOk lo m ps → ∀ p ∈ ps, lo ≤ p ∧ p < m
  | _, _, [], _, _, hp => nomatch hp
  | lo, m, q :: r, h, p, hp => by
    rcases List.mem_cons.mp hp with e | e
    · rw [e]; exact ⟨h.1, h.2.1⟩
    · have := places_all h.2.2 p e
      have := h.1
      omega
theorem places_len : ∀ {lo m : Int} {ps : List Int}, placesOk lo m ps → lo ≤ m → (ps.length : Int) ≤ m - lo
  | _, _, [], _, h => by simp; omega
  | lo, m, p :: r, k, h => by
    have ih := places_len k.2.2 (by have := k.2.1; omega)
    have := k.1
    rw [List.length_cons]
    omega
def GoodP (m : Int) (H : Hp) (v : V) : Prop := ∃ a ps, v = .ref a ∧ H a = some (.lst (ps.map V.int)) ∧ placesOk 0 m ps
theorem GoodP.back {m : Int} {H H' : Hp} {v : V} (t : Thg H v) (s : Same H H') (g : GoodP m H' v) : GoodP m H v := by
  obtain ⟨a, ps, e, h, r⟩ := g
  exact ⟨a, ps, e, t.back s e h, r⟩
theorem map_int_inj : ∀ {a b : List Int}, a.map V.int = b.map V.int → a = b
  | [], [], _ => rfl
  | [], _ :: _, h => by simp at h
  | _ :: _, [], h => by simp at h
  | x :: a, y :: b, h => by
    simp only [List.map_cons, List.cons.injEq, V.int.injEq] at h
    rw [h.1, map_int_inj h.2]
theorem notP_mid {m : Int} {H : Hp} {a : Addr} {ps : List Int} {x : V} {r : List V} (h : H a = some (.lst (ps.map V.int ++ x :: r))) (hb : ∀ q, x = .int q → ¬ (lowAfter 0 ps ≤ q ∧ q < m)) : ¬ GoodP m H (.ref a) := by
  rintro ⟨a', qs, e, h', k⟩
  cases e
  rw [h] at h'
  have e : ps.map V.int ++ x :: r = qs.map V.int := by injection h' with h2; injection h2
  have e2 : qs = qs.take ps.length ++ qs.drop ps.length := (List.take_append_drop _ _).symm
  have e3 : (qs.take ps.length).map V.int = ps.map V.int := by
    rw [List.map_take, ← e, List.take_left' (by rw [List.length_map])]
  have e4 : (qs.drop ps.length).map V.int = x :: r := by
    rw [List.map_drop, ← e, List.drop_left' (by rw [List.length_map])]
  have e5 := map_int_inj e3
  rw [e2, e5] at k
  cases hd : qs.drop ps.length with
  | nil => rw [hd] at e4; cases e4
  | cons q w =>
    rw [hd] at e4 k
    simp only [List.map_cons, List.cons.injEq] at e4
    have k2 := (placesOk_append.mp k).2
    exact hb q e4.1.symm ⟨k2.1, k2.2.1⟩
theorem thg2_ints {H : Hp} {a : Addr} {ps : List Int} (h : H a = some (.lst (ps.map V.int))) : Thg2 H (.ref a) := thg2_lst h fun x hx => by
  obtain ⟨q, _, rfl⟩ := List.mem_map.mp hx
  exact .int _
theorem places_take {lo m : Int} {ps : List Int} (i : Nat) (h : placesOk lo m ps) : placesOk lo m (ps.take i) := (placesOk_append.mp (by rw [List.take_append_drop]; exact h : placesOk lo m (ps.take i ++ ps.drop i))).1
def colsOf (n : Nat) (ps : List Int) : List Int := (ps.filter fun i => decide ((n : Int) ≤ i)).map fun i => i - n
def linesOf (n : Nat) (ps : List Int) : List Int := ps.filter fun i => decide (i < (n : Int))
def leftT (ls : List (List V)) (ps : List Int) : List (List V) := (linesOf ls.length ps).map fun i => (colsOf ls.length ps).map fun j => (ls.getD i.toNat []).getD j.toNat .non
theorem linesOf_add {n : Nat} {ps : List Int} {p : Int} : linesOf n (ps ++ [p]) = linesOf n ps ++ (if p < (n : Int) then [p] else []) := by
  unfold linesOf
  rw [List.filter_append]
  congr 1
  by_cases h : p < (n : Int)
  · rw [if_pos h, List.filter_cons_of_pos (by simpa using h), List.filter_nil]
  · rw [if_neg h, List.filter_cons_of_neg (by simpa using h), List.filter_nil]
theorem colsOf_add {n : Nat} {ps : List Int} {p : Int} : colsOf n (ps ++ [p]) = colsOf n ps ++ (if (n : Int) ≤ p then [p - n] else []) := by
  unfold colsOf
  rw [List.filter_append, List.map_append]
  congr 1
  by_cases h : (n : Int) ≤ p
  · rw [if_pos h, List.filter_cons_of_pos (by simpa using h), List.filter_nil]; rfl
  · rw [if_neg h, List.filter_cons_of_neg (by simpa using h), List.filter_nil]; rfl
theorem linesOf_len {n : Nat} : ∀ {lo m : Int} {ps : List Int}, placesOk lo m ps → ((linesOf n ps).length : Int) ≤ max ((n : Int) - lo) 0
  | lo, m, [], _ => by simp [linesOf]; omega
  | lo, m, p :: r, k => by
    have ih := linesOf_len (n := n) k.2.2
    have h1 := k.1
    unfold linesOf at ih ⊢
    by_cases h : p < (n : Int)
    · rw [List.filter_cons_of_pos (by simpa using h), List.length_cons]; omega
    · rw [List.filter_cons_of_neg (by simpa using h)]; omega
theorem colsOf_len {n : Nat} : ∀ {lo m : Int} {ps : List Int}, placesOk lo m ps → ((colsOf n ps).length : Int) ≤ max (m - max (n : Int) lo) 0
  | lo, m, [], _ => by simp [colsOf]; omega
  | lo, m, p :: r, k => by
    have ih := colsOf_len (n := n) k.2.2
    have h1 := k.1
    have h2 := k.2.1
    unfold colsOf at ih ⊢
    rw [List.length_map] at ih ⊢
    by_cases h : (n : Int) ≤ p
    · rw [List.filter_cons_of_pos (by simpa using h), List.length_cons]; omega
    · rw [List.filter_cons_of_neg (by simpa using h)]; omega
theorem linesOf_all {n : Nat} {m : Int} {ps : List Int} (k : placesOk 0 m ps) : ∀ i ∈ linesOf n ps, 0 ≤ i ∧ i < (n : Int) := fun i hi => by
  obtain ⟨h1, h2⟩ := List.mem_filter.mp hi
  exact ⟨(places_all k i h1).1, by simpa using h2⟩
theorem colsOf_all {n w : Nat} {ps : List Int} (k : placesOk 0 ((n : Int) + (w : Int)) ps) : ∀ i ∈ colsOf n ps, 0 ≤ i ∧ i < (w : Int) := fun i hi => by
  obtain ⟨j, hj, rfl⟩ := List.mem_map.mp hi
  obtain ⟨h1, h2⟩ := List.mem_filter.mp hj
  have h3 : (n : Int) ≤ j := by simpa using h2
  have := (places_all k j h1).2
  omega
theorem putF3c {a b c : Str} {x y z z' : V} (h : ¬ a = c) (h' : ¬ b = c) : putF c z' [(a, x), (b, y), (c, z)] = [(a, x), (b, y), (c, z')] := by
  show (if a = c then [(a, z'), (b, y), (c, z)] else (a, x) :: (if b = c then [(b, z'), (c, z)] else (b, y) :: (if c = c then [(c, z')] else (c, z) :: putF c z' []))) = _
  rw [if_neg h, if_neg h', if_pos rfl]
theorem part_len {n : Nat} : ∀ (ps : List Int), (linesOf n ps).length + (colsOf n ps).length = ps.length
  | [] => rfl
  | p :: r => by
    have ih := part_len (n := n) r
    unfold linesOf colsOf at ih ⊢
    rw [List.length_map] at ih ⊢
    by_cases h : p < (n : Int)
    · rw [List.filter_cons_of_pos (by simpa using h), List.filter_cons_of_neg (by simp; omega), List.length_cons, List.length_cons]; omega
    · rw [List.filter_cons_of_neg (by simpa using h), List.filter_cons_of_pos (by simp; omega), List.length_cons, List.length_cons]; omega
end SH
namespace L2
open PySem PySem.Spec PyProof.Rows
section
variable {κ : Type} [DecidableEq κ]
def valV (kvs : List (κ × V)) (k : κ) : Option V := (kvs.find? fun kv => decide (kv.1 = k)).map (·.2)
def putK (kvs : List (κ × V)) (k : κ) (v : V) : List (κ × V) :=
  if (kvs.any fun kv => decide (kv.1 = k)) = true then kvs.map (fun kv => if kv.1 = k then (kv.1, v) else kv) else kvs ++ [(k, v)]
def dropK (kvs : List (κ × V)) (k : κ) : List (κ × V) := kvs.filter fun kv => decide (kv.1 ≠ k)
theorem valV_pos {p : κ × V} {r : List (κ × V)} {k : κ} (e : p.1 = k) : valV (p :: r) k = some p.2 := by simp [valV, List.find?_cons, e]
theorem valV_neg {p : κ × V} {r : List (κ × V)} {k : κ} (e : ¬ p.1 = k) : valV (p :: r) k = valV r k := by simp [valV, List.find?_cons, e]
theorem valV_any (k : κ) : ∀ kvs : List (κ × V), (kvs.any fun kv => decide (kv.1 = k)) = (valV kvs k).isSome
  | [] => rfl
  | p :: r => by
    rw [List.any_cons]
    by_cases e : p.1 = k
    · simp only [valV_pos e, decide_eq_true e, Bool.true_or, Option.isSome_some]
    · rw [valV_neg e, decide_eq_false e, Bool.false_or]; exact valV_any k r
theorem valV_map (k j : κ) (y : V) : ∀ kvs : List (κ × V), valV (kvs.map fun kv => if kv.1 = k then (kv.1, y) else kv) j = (valV kvs j).map fun x => if j = k then y else x
  | [] => rfl
  | p :: r => by
    have ih := valV_map k j y r
    rw [List.map_cons]
    by_cases h : p.1 = k
    · rw [if_pos h]
      by_cases e : p.1 = j
      · rw [valV_pos (p := (p.1, y)) e, valV_pos e, Option.map_some, if_pos (e.symm.trans h)]
      · rw [valV_neg (p := (p.1, y)) e, valV_neg e, ih]
    · rw [if_neg h]
      by_cases e : p.1 = j
      · rw [valV_pos (p := p) e, valV_pos e, Option.map_some, if_neg (fun z => h (e.trans z))]
      · rw [valV_neg (p := p) e, valV_neg e, ih]
theorem valV_snoc (k j : κ) (y : V) : ∀ kvs : List (κ × V), valV kvs k = none → valV (kvs ++ [(k, y)]) j = if j = k then some y else valV kvs j
  | [], _ => by
    by_cases e : k = j
    · rw [if_pos e.symm]; exact valV_pos (p := (k, y)) e
    · rw [if_neg (fun z => e z.symm)]; exact valV_neg (p := (k, y)) e
  | p :: r, hn => by
    rw [List.cons_append]
    have hk : ¬ p.1 = k := fun z => by rw [valV_pos z] at hn; cases hn
    rw [valV_neg hk] at hn
    have ih := valV_snoc k j y r hn
    by_cases e : p.1 = j
    · rw [valV_pos e, valV_pos e, if_neg (fun z => hk (e.trans z))]
    · rw [valV_neg e, valV_neg e, ih]
theorem valV_put (kvs : List (κ × V)) (k j : κ) (y : V) : valV (putK kvs k y) j = if j = k then some y else valV kvs j := by
  unfold putK
  by_cases a : (kvs.any fun kv => decide (kv.1 = k)) = true
  · rw [if_pos a, valV_map]
    rw [valV_any] at a
    by_cases e : j = k
    · obtain ⟨x, hx⟩ := Option.isSome_iff_exists.mp a
      rw [if_pos e, e, hx, Option.map_some, if_pos rfl]
    · rw [if_neg e]
      cases valV kvs j with
      | none => rfl
      | some x => rw [Option.map_some, if_neg e]
  · rw [if_neg a]
    refine valV_snoc k j y kvs ?_
    rw [valV_any] at a
    cases q : valV kvs k with
    | none => rfl
    | some x => rw [q] at a; exact (a rfl).elim
theorem length_putK (kvs : List (κ × V)) (k : κ) (v : V) : (putK kvs k v).length ≤ kvs.length + 1 := by
  unfold putK
  split
  · rw [List.length_map]; omega
  · rw [List.length_append, List.length_cons, List.length_nil]; omega
theorem RelO.isSome_eq {o : Option V} {u : Option Value} (r : RelO o u) : o.isSome = u.isSome := by
  cases o with
  | none => cases u with
    | none => rfl
    | some _ => exact (show False from r).elim
  | some _ => cases u with
    | none => exact (show False from r).elim
    | some _ => rfl
theorem RelO.getD {o : Option V} {u : Option Value} {d : V} {d' : Value} (r : RelO o u) (rd : RelV d d') : RelV (o.getD d) (u.getD d') := by
  cases o with
  | none => cases u with
    | none => exact rd
    | some _ => exact (show False from r).elim
  | some _ => cases u with
    | none => exact (show False from r).elim
    | some _ => exact r
theorem KV.val {kvs : List (κ × V)} {vs : List (κ × Value)} (r : KV kvs vs) (k : κ) : RelO (valV kvs k) (valueAt vs k) := by
  unfold KV at r
  induction r with
  | nil => exact True.intro
  | @cons p q ps qs h t ih =>
    obtain ⟨h1, h2⟩ := h
    by_cases e : p.1 = k
    · have e' : q.1 = k := h1.symm.trans e
      have b : valueAt (q :: qs) k = some q.2 := by simp [valueAt, List.find?_cons, e']
      rw [valV_pos e, b]; exact h2
    · have e' : ¬ q.1 = k := fun z => e (h1.trans z)
      have b : valueAt (q :: qs) k = valueAt qs k := by simp [valueAt, List.find?_cons, e']
      rw [valV_neg e, b]; exact ih
theorem KV.any {kvs : List (κ × V)} {vs : List (κ × Value)} (r : KV kvs vs) (k : κ) : (kvs.any fun kv => decide (kv.1 = k)) = vs.any fun kv => decide (kv.1 = k) := by
  unfold KV at r
  induction r with
  | nil => rfl
  | cons h t ih => rw [List.any_cons, List.any_cons, ih, h.1]
theorem KV.repl {kvs : List (κ × V)} {vs : List (κ × Value)} (r : KV kvs vs) (k : κ) {y : V} {u : Value} (ry : RelV y u) :
    KV (kvs.map fun kv => if kv.1 = k then (kv.1, y) else kv) (vs.map fun kv => if kv.1 = k then (kv.1, u) else kv) := by
  unfold KV at r ⊢
  induction r with
  | nil => exact .nil
  | @cons p q ps qs h t ih =>
    rw [List.map_cons, List.map_cons]
    refine .cons ?_ ih
    obtain ⟨h1, h2⟩ := h
    by_cases e : p.1 = k
    · rw [if_pos e, if_pos (h1.symm.trans e)]; exact ⟨h1, ry⟩
    · rw [if_neg e, if_neg (fun z => e (h1.trans z))]; exact ⟨h1, h2⟩
theorem KV.put {kvs : List (κ × V)} {vs : List (κ × Value)} (r : KV kvs vs) (k : κ) {y : V} {u : Value} (ry : RelV y u) : KV (putK kvs k y) (stored vs k u) := by
  unfold putK stored
  rw [r.any k]
  by_cases e : (vs.any fun kv => decide (kv.1 = k)) = true
  · rw [if_pos e, if_pos e]; exact r.repl k ry
  · rw [if_neg e, if_neg e]; exact Paired.snoc r ⟨rfl, ry⟩
theorem KV.drop {kvs : List (κ × V)} {vs : List (κ × Value)} (r : KV kvs vs) (k : κ) : KV (dropK kvs k) (without vs k) := by
  unfold KV at r ⊢
  unfold dropK without
  induction r with
  | nil => exact .nil
  | @cons p q ps qs h t ih =>
    obtain ⟨h1, h2⟩ := h
    rw [List.filter_cons, List.filter_cons]
    by_cases e : p.1 = k
    · have a : ¬ decide (p.1 ≠ k) = true := by simp [e]
      have b : ¬ decide (q.1 ≠ k) = true := by simp [h1.symm.trans e]
      rw [if_neg a, if_neg b]; exact ih
    · have e' : ¬ q.1 = k := fun z => e (h1.trans z)
      have a : decide (p.1 ≠ k) = true := by simp [e]
      have b : decide (q.1 ≠ k) = true := by simp [e']
      rw [if_pos a, if_pos b]; exact .cons ⟨h1, h2⟩ ih
theorem KV.length {kvs : List (κ × V)} {vs : List (κ × Value)} (r : KV kvs vs) : kvs.length = vs.length := Paired.length r
end
theorem kV_is {P : Program} {w : World} {k : Key} {u : Value} (r : RelV (kV k) u) : (mixKind P w).is k u = true := by
  cases k with
  | inl i => obtain ⟨t, e⟩ := (show ∃ t, u = Value.int i t from r); subst e; exact mixKind_int P w i t
  | inr x => obtain ⟨t, e⟩ := (show ∃ t, u = Value.str x t from r); subst e; exact mixKind_str P w x t
theorem items_are {P : Program} {w : World} : ∀ {ks : List Key} {us : List Value}, Vals (ks.map kV) us → ItemsAre (mixKind P w) ks us
  | [], _, r => by rw [List.map_nil] at r; cases r; exact .nil
  | k :: ks, _, r => by
    rw [List.map_cons] at r
    cases r with
    | cons h t => exact .cons (kV_is h) (items_are t)
abbrev KT (H : Hp) : List (List Key × V) → List (List Key × Addr × Value) → Prop := Paired fun p q => p.1 = q.1 ∧ H q.2.1 = some (.tup (p.1.map kV)) ∧ RelV p.2 q.2.2
theorem KT.val {H : Hp} {kvs : List (List Key × V)} {xs : List (List Key × Addr × Value)} (r : KT H kvs xs) (k : List Key) : RelO (valV kvs k) ((atKey xs k).map (·.2)) := by
  induction r with
  | nil => exact True.intro
  | @cons p q ps qs h t ih =>
    obtain ⟨h1, _, h2⟩ := h
    by_cases e : p.1 = k
    · have e' : q.1 = k := h1.symm.trans e
      have b : atKey (q :: qs) k = some q.2 := by simp [atKey, List.find?_cons, e']
      rw [valV_pos e, b]; exact h2
    · have e' : ¬ q.1 = k := fun z => e (h1.trans z)
      have b : atKey (q :: qs) k = atKey qs k := by simp [atKey, List.find?_cons, e']
      rw [valV_neg e, b]; exact ih
theorem KT.repl {H : Hp} {kvs : List (List Key × V)} {xs : List (List Key × Addr × Value)} (r : KT H kvs xs) (k : List Key) {y : V} {u : Value} (ry : RelV y u) :
    KT H (kvs.map fun kv => if kv.1 = k then (kv.1, y) else kv) (xs.map (putAt k u)) := by
  induction r with
  | nil => exact .nil
  | @cons p q ps qs h t ih =>
    rw [List.map_cons, List.map_cons]
    refine .cons ?_ ih
    obtain ⟨h1, h2, h3⟩ := h
    unfold putAt
    by_cases e : p.1 = k
    · rw [if_pos e, if_pos (h1.symm.trans e)]; exact ⟨h1, h2, ry⟩
    · rw [if_neg e, if_neg (fun z => e (h1.trans z))]; exact ⟨h1, h2, h3⟩
theorem KT.put {H : Hp} {kvs : List (List Key × V)} {xs : List (List Key × Addr × Value)} (r : KT H kvs xs) (k : List Key) {b : Addr} {y : V} {u : Value} (hb : H b = some (.tup (k.map kV))) (ry : RelV y u) :
    KT H (putK kvs k y) (storedH xs k b u) := by
  have e : (kvs.any fun kv => decide (kv.1 = k)) = (atKey xs k).isSome := by
    rw [valV_any, (r.val k).isSome_eq, Option.isSome_map]
  unfold putK storedH
  rw [e]
  by_cases q : (atKey xs k).isSome = true
  · rw [if_pos q, if_pos q]; exact r.repl k ry
  · rw [if_neg q, if_neg q]; exact Paired.snoc r ⟨rfl, hb, ry⟩
theorem KT.keeps {H H' : Hp} {kvs : List (List Key × V)} {xs : List (List Key × Addr × Value)} (r : KT H kvs xs) (ht : ∀ b ys, H b = some (.tup ys) → H' b = some (.tup ys)) : KT H' kvs xs :=
  Paired.mapP r fun _ _ z => ⟨z.1, ht _ _ z.2.1, z.2.2⟩
section
variable {P : Program} {w : World} {H : Hp} {h : Heap} {a : Addr}
theorem rd_of {u : HO} (ok : HOk P w H h) (e : Rd H a u) : ObjOk P w H h a u := e.ok ok
theorem dk_rd {kvs : List (Key × V)} (ok : HOk P w H h) (e : Rd H a (.dK kvs)) : kvs.length ≤ sizeLine ∧ (a == sysModules) = false ∧ ∃ vs, KV kvs vs ∧ h.DictOf (mixKind P w) a vs :=
  show ObjOk P w H h a (.dK kvs) from rd_of ok e
theorem key_of {ks : List Key} (ok : HOk P w H h) (e : H a = some (.tup (ks.map kV))) : (tupleKind (mixKind P w)).is h ks a := by
  obtain ⟨_, its, r, o, h1, h2, n, h3⟩ := (show ObjOk P w H h a (.tup (ks.map kV)) from ok a _ e)
  exact ⟨o, its.toArray, n, h1, h2, h3, by simpa using items_are r⟩
theorem dt_rd {kvs : List (List Key × V)} (ok : HOk P w H h) (e : Rd H a (.dT kvs)) : kvs.length ≤ sizeLine ∧ (a == sysModules) = false ∧
    ∃ xs, KT H kvs xs ∧ h.DictOfH (tupleKind (mixKind P w)) a xs := by
  obtain ⟨z, y, xs, r, o, es, ep, h1, h2, h3, h4, h5⟩ := (show ObjOk P w H h a (.dT kvs) from rd_of ok e)
  refine ⟨z, y, xs, r, o, es, ep, h1, h2, h3, h4, fun x hx => ?_, h5⟩
  have all : ∀ {l : List (List Key × V)} {m : List (List Key × Addr × Value)}, KT H l m → ∀ x ∈ m, (tupleKind (mixKind P w)).is h x.1 x.2.1 := by
    intro l m q
    induction q with
    | nil => intro x hx; exact nomatch hx
    | @cons p q ps qs hq t ih =>
      intro x hx
      rcases List.mem_cons.mp hx with e | hx
      · subst e
        exact key_of ok (by rw [← hq.1]; exact hq.2.1)
      · exact ih x hx
  exact all r x hx
end
def DGet (H : Hp) (a : Addr) (y : V) (r : Option V) : Prop :=
  (∃ kvs k, Rd H a (.dK kvs) ∧ y = kV k ∧ r = valV kvs k) ∨ ∃ kvs k b, Rd H a (.dT kvs) ∧ y = .ref b ∧ H b = some (.tup (k.map kV)) ∧ r = valV kvs k
def DPut (H : Hp) (a : Addr) (y v : V) (H' : Hp) : Prop :=
  (∃ kvs k, H a = some (.dK kvs) ∧ y = kV k ∧ kvs.length < sizeLine ∧ H' = upd H a (.dK (putK kvs k v))) ∨
  ∃ kvs k b, H a = some (.dT kvs) ∧ y = .ref b ∧ H b = some (.tup (k.map kV)) ∧ kvs.length < sizeLine ∧ H' = upd H a (.dT (putK kvs k v))
theorem DGet.k {H : Hp} {a : Addr} {kvs : List (Key × V)} {k : Key} (e : H a = some (.dK kvs)) : DGet H a (kV k) (valV kvs k) := .inl ⟨kvs, k, .inl e, rfl, rfl⟩
theorem DGet.t {H : Hp} {a b : Addr} {kvs : List (List Key × V)} {k : List Key} (e : H a = some (.dT kvs)) (eb : H b = some (.tup (k.map kV))) : DGet H a (.ref b) (valV kvs k) := .inr ⟨kvs, k, b, .inl e, rfl, eb, rfl⟩
theorem DPut.k {H : Hp} {a : Addr} {kvs : List (Key × V)} {k : Key} {v : V} (e : H a = some (.dK kvs)) (hl : kvs.length < sizeLine) : DPut H a (kV k) v (upd H a (.dK (putK kvs k v))) := .inl ⟨kvs, k, e, rfl, hl, rfl⟩
theorem DPut.t {H : Hp} {a b : Addr} {kvs : List (List Key × V)} {k : List Key} {v : V} (e : H a = some (.dT kvs)) (eb : H b = some (.tup (k.map kV))) (hl : kvs.length < sizeLine) :
    DPut H a (.ref b) v (upd H a (.dT (putK kvs k v))) := .inr ⟨kvs, k, b, e, rfl, eb, hl, rfl⟩
section
variable {X : Cx} {pins : List (Addr × Obj)} {σ : St} {H : Hp} {s : Shared} {a : Addr} {y v : V} {u r : Value} {o : Option V} {A : Around} {E : Value → Shared → Prop}
theorem Inv.big (I : Inv X pins σ H s) : sysModules < s.heap.objs.size := by
  have h : mainGlobals < s.heap.objs.size := (I.mod.glob.keeps I.bk).lt
  exact Nat.lt_trans (by decide) h
theorem d_in {Q : Value → Shared → Prop} (hu : A.units + 1 < cLine) (I : Inv X pins σ H s) (g : DGet H a y o) (ry : RelV y u) (h : ∀ s', Inv X pins σ H s' → Q (.bool o.isSome) s') :
    wpAny (model X.prog X.w) A (compareOp .In u (.ref a)) Q E s := by
  rcases g with ⟨kvs, k, e, ey, l⟩ | ⟨kvs, k, b, e, ey, eb, l⟩
  · subst ey
    obtain ⟨z, hd, vs, rel, dd⟩ := dk_rd I.hok e
    refine wpAny_in_of (kV_is ry) hd dd.mapOf ?_
    rw [← (rel.val k).isSome_eq, ← l]
    exact h _ (I.tok _)
  · subst ey
    cases (show u = Value.ref b from ry)
    obtain ⟨z, hd, xs, rel, dd⟩ := dt_rd I.hok e
    refine wpAny_in_heap (tupleKind_room_in1 hu) (key_of I.hok eb) hd dd ?_
    have q := (rel.val k).isSome_eq
    rw [Option.isSome_map] at q
    rw [← q, ← l]
    exact h _ (I.tok _)
theorem dk_new {P : Program} {w : World} {H' : Hp} {h' : Heap} {kvs : List (Key × V)} {vs : List (Key × Value)} (z : kvs.length ≤ sizeLine) (hd : (a == sysModules) = false) (rel : KV kvs vs) (dd : h'.DictOf (mixKind P w) a vs) :
    ObjOk P w H' h' a (.dK kvs) := ⟨z, hd, vs, rel, dd⟩
end
section
variable {X : Cx} {pins : List (Addr × Obj)} {σ : St} {H : Hp} {s : Shared} {a : Addr} {kvs : List (Key × V)} {k : Key} {u : Value} {A : Around} {E : Value → Shared → Prop}
end
def tDIn (ty td : TE) : TE := fun σ H Q => ty σ H fun y H1 => td σ H1 fun x H2 => ∃ a o, x = .ref a ∧ DGet H2 a y o ∧ Q (.bl o.isSome) H2
section
variable {X : Cx} {o i e value : Expr} {pos pos' tpos : Pos} {td ty tv : TE}
theorem pc_din (hu : X.A.units + 1 < cLine) (hi : PE X i ty) (ho : PE X o td) : PC X .In i o (tDIn ty td) := by
  intro pins s σ H Q I h
  refine thn (hi pins s σ H _ I h) fun iv s1 ⟨y, H1, I1, ry, q1⟩ => thn (ho pins s1 σ H1 _ I1 q1) fun u s2 ⟨x, H2, I2, rx, a, ov, ex, g, q2⟩ => ?_
  subst ex
  obtain rfl : u = Value.ref a := rx
  exact d_in hu I2 g ry fun s3 I3 => ⟨.bl ov.isSome, H2, I3, rfl, q2⟩
end
section
variable {X : Cx} {pos : Pos}
end
abbrev VV : List (V × V) → List (Value × Value) → Prop := Paired fun p q => RelV p.1 q.1 ∧ RelV p.2 q.2
structure M1 (X : Cx) (o : Expr) (m : Str) (apos : Pos) (e : Expr) (cpos : Pos) : Prop where
  base : attributeBase o m X.env (eval o X.env) = eval o X.env
  few : ((backTo cpos (starEach [e] X.env)).all (fun x => !x.1) && (backToKw cpos (keywordEach [] X.env)).all (fun x => x.1.isSome)
    && decide (([e] : List Expr).length + ([] : List Keyword).length + (if ([] : List Keyword).isEmpty then 0 else 1) < 30)) = true
  line : (apos.endLine == cpos.line) = true
  trees : backTo cpos (starEach [e] X.env) = [(false, eval e X.env)]
structure M2 (X : Cx) (o : Expr) (m : Str) (apos : Pos) (e f : Expr) (cpos : Pos) : Prop where
  base : attributeBase o m X.env (eval o X.env) = eval o X.env
  few : ((backTo cpos (starEach [e, f] X.env)).all (fun x => !x.1) && (backToKw cpos (keywordEach [] X.env)).all (fun x => x.1.isSome)
    && decide (([e, f] : List Expr).length + ([] : List Keyword).length + (if ([] : List Keyword).isEmpty then 0 else 1) < 30)) = true
  line : (apos.endLine == cpos.line) = true
  trees : backTo cpos (starEach [e, f] X.env) = [(false, eval e X.env), (false, eval f X.env)]
section
variable {X : Cx} {pins : List (Addr × Obj)} {σ : St} {H : Hp} {s : Shared} {a : Addr} {y d : V} {u r : Value} {o : Option V} {A : Around} {E : Value → Shared → Prop}
end
section
variable {X : Cx} {o e f : Expr} {apos cpos : Pos} {td ty tx : TE}
end
section
variable {X : Cx} {pins : List (Addr × Obj)} {σ : St} {H : Hp} {s : Shared} {a : Addr} {kvs : List (Key × V)} {A : Around} {E : Value → Shared → Prop}
end
section
variable {X : Cx} {pins : List (Addr × Obj)} {σ : St} {H : Hp} {s : Shared} {a : Addr} {y : V} {u : Value} {A : Around} {E : Value → Shared → Prop}
end
end L2
namespace PySem
open Sem (wp)
theorem d6_miss : typeLookup (.type "list") "keys" = pure none := by rw [typeLookup_type, builtinLookup_eq_fast]; kernel_rfl
theorem keys_miss_list {prog : Program} {w : World} {A : Around} {E : Value → Shared → Prop} {s : Shared} {a : Addr} {o : Obj} {xs : Array Value} {k : Nat} {Q : Option Value → Shared → Prop}
    (hx : s.heap.get? a = some o) (hc : o.cls = .type "list") (hdat : o.data = .seq xs k) (hd : o.dict = none) (hA : A.handled = none)
    (h : ∀ h' tk, (∀ b ob, s.heap.get? b = some ob → h'.get? b = some ob) → Q none { s with heap := h', toks := tk }) :
    wpAny (model prog w) A (getAttr? (.ref a) "keys") Q E s := by
  obtain ⟨c, dct, dat, sl⟩ := o
  simp only at hc hdat hd
  subst hc hdat hd
  obtain ⟨hp, g, d, tk, os⟩ := s
  have hT : ∀ tk', (⟨hp, g, d, tk', os⟩ : Shared).TypeIs (.ref a) "list" := fun _ => ⟨_, hx, rfl⟩
  have f1 := sub_AttributeError
  have f3 := F.slot_list_getattribute.lookup
  have f4 := F.slot_list_getattribute.bind (.ref a)
  have f5 := am_list_getattr_none
  unfold getAttr? getAttrBy? getAttrBy
  repeat (any_goals (first | assumption | exact hT _ | ((with_reducible show wpAny _ _ (call (Value.builtin "list.__getattribute__") _ _) _ _ _); refine call_meets F.slot_list_getattribute (hT _) am_entry_list_getattribute (F.args_list_getattribute_2 _ _) (meets_getattribute_miss_list a xs k sl "keys" _ d6_miss (by decide +kernel)) ⟨hx, hA, fun h' tk' e hx' => ?_⟩) | wp_step))
  obtain ⟨t', u', he⟩ := hx'.there
  show wpAny _ _ (getattributeRaised _ _ _ _ _ _ _) _ _ _
  unfold getattributeRaised
  repeat (any_goals (first | assumption | wp_step))
  exact h h' tk' hx'.keeps
end PySem
namespace L2
open PySem PySem.Spec PyProof.Rows
theorem entry_dloop : entryFor table "dict.update.loop" = some Builtin.«dict.update.loop» := entryFor_of_tree (by kernel_rfl)
theorem plain_dloop : plainId "dict.update.loop" = true := by decide +kernel
section
variable {prog : Program} {w : World} {A : Around} {E : Value → Shared → Prop}
theorem dict_loop {d it l : Addr} {Q : Value → Shared → Prop} (hA : A.handled = none) (hdi : d ≠ it) (hdl : d ≠ l) (hil : it ≠ l) (items : List Value) (prs : List (Key × Value)) (hsz : prs.length ≤ 900) :
    ∀ (m i : Nat) (s : Shared) (kvs : List (Key × Value)), items.length = i + m → kvs.length ≤ i → s.heap.IsListIter it l i → s.heap.IsList l items.toArray →
      (∀ (j : Nat) (x : Value) (p : Key × Value), items[j]? = some x → prs[j]? = some p → ∃ (t : Addr) (ku : Value), x = Value.ref t ∧ t ≠ d ∧ t ≠ it ∧ s.heap.IsTuple t #[ku, p.2] ∧ (mixKind prog w).is p.1 ku = true) →
      items.length = prs.length → s.heap.DictOf (mixKind prog w) d kvs →
      (∀ h' tk, (∀ b o, b ≠ d → b ≠ it → s.heap.get? b = some o → h'.get? b = some o) → h'.DictOf (mixKind prog w) d ((prs.drop i).foldl (fun a p => stored a p.1 p.2) kvs) → Q .none { s with heap := h', toks := tk }) →
      codeAny (model prog w) A (.builtin "dict.update.loop" ⟨[.ref d, .ref it, rawInt i, .none], []⟩) (wants Q E) s := by
  intro m
  induction m with
  | zero =>
    intro i s kvs hn hk hit hl hp hlen hd hQ
    refine codeAny_builtin entry_dloop ?_
    rw [Around.under_plainId plain_dloop]
    unfold Builtin.«dict.update.loop»
    refine wpAny_bind (wpAny_pyNext_list_end (by exact hA) hit hl (by simp; omega) fun h' hx => ?_)
    refine wpAny_bind (wpAny_pure ?_)
    refine wpAny_pure ?_
    have hd' : prs.drop i = [] := List.drop_eq_nil_of_le (by omega)
    rw [hd'] at hQ
    exact hQ h' s.toks (fun b o _ hb e => hx b o hb e) (hd.extBut hx hdi)
  | succ m ih =>
    intro i s kvs hn hk hit hl hp hlen hd hQ
    have hi : i < items.length := by omega
    have hi2 : i < prs.length := by omega
    have ex := List.getElem?_eq_getElem hi
    have ep := List.getElem?_eq_getElem hi2
    obtain ⟨t, ku, et, htd, hti, htt, hkey⟩ := hp i _ _ ex ep
    refine codeAny_builtin entry_dloop ?_
    rw [Around.under_plainId plain_dloop]
    unfold Builtin.«dict.update.loop»
    refine wpAny_bind (wpAny_pyNext_list_item hit hl (x := items[i]) (by simpa using ex) fun h1 hit1 sb1 => ?_)
    rw [et]
    have htt1 : h1.IsTuple t #[ku, prs[i].2] := by
      obtain ⟨o, ho, r⟩ := htt
      exact ⟨o, (sb1.2 t hti).trans ho, r⟩
    have hd1 : h1.DictOf (mixKind prog w) d kvs := hd.sameBut sb1 hdi
    have hT : (⟨h1, s.gens, s.drawn, s.toks, s.os⟩ : Shared).TypeIs (.ref t) "tuple" := by
      obtain ⟨o, ho, hc, r⟩ := htt1
      exact ⟨_, ho, hc⟩
    refine wpAny_bind (wpAny_holding (wpAny_bind (wpAny_tryCatch ?_)))
    unfold Builtin.Dict.pairItems
    refine wpAny_bind (wpAny_typeOf hT ?_)
    rw [if_pos (by decide +kernel)]
    obtain ⟨o, ho, hc, n, hdat⟩ := id htt1
    refine wpAny_bind (wpAny_seqItems (s := ⟨h1, s.gens, s.drawn, s.toks, s.os⟩) ho hdat ?_)
    refine wpAny_pure ?_
    have hz : kvs.length ≤ sizeLine := by
      have h9 : (1000 : Nat) ≤ sizeLine := by decide
      omega
    show wpAny _ _ (holding [ku, prs[i].2] (dictSet d ku prs[i].2)) _ _ _
    refine wpAny_holding (wpAny_dictSet_pairs (s := ⟨h1, s.gens, s.drawn, s.toks, s.os⟩) hkey hd1 (fun h2 hd2 sb2 => ?_) hz)
    refine wpAny_pure ?_
    refine ⟨Code.quiet_builtin _ (by decide +kernel), ?_⟩
    have e1 : rawInt ((i : Int) + 1) = rawInt ((i + 1 : Nat) : Int) := rfl
    have kp : ∀ b o, b ≠ d → b ≠ it → s.heap.get? b = some o → h2.get? b = some o := fun b o hb1 hb2 e => (sb2.2 b hb1).trans ((sb1.2 b hb2).trans e)
    rw [e1]
    refine ih (i + 1) ⟨h2, s.gens, s.drawn, s.toks + 1, s.os⟩ (stored kvs prs[i].1 prs[i].2) (by omega) ?_ ?_ ?_ ?_ hlen hd2 ?_
    · unfold stored
      split
      · rw [List.length_map]; omega
      · rw [List.length_append, List.length_singleton]; omega
    · exact hit1.at fun o e => (sb2.2 it (Ne.symm hdi)).trans e
    · exact hl.at fun o e => kp l o (Ne.symm hdl) (Ne.symm hil) e
    · intro j x p hx hp'
      obtain ⟨t', ku', e', a1, a2, ⟨o', ho', r'⟩, a4⟩ := hp j x p hx hp'
      exact ⟨t', ku', e', a1, a2, ⟨o', kp t' o' a1 a2 ho', r'⟩, a4⟩
    · intro h' tk k2 hd'
      refine hQ h' tk (fun b o hb1 hb2 e => k2 b o hb1 hb2 (kp b o hb1 hb2 e)) ?_
      rw [List.drop_eq_getElem_cons hi2]
      exact hd'
end
end L2
namespace L2
open PySem PySem.Spec PyProof.Rows
theorem KV.fold {ks : List (Key × V)} {us : List (Key × Value)} (r : KV ks us) : ∀ {a : List (Key × V)} {b : List (Key × Value)}, KV a b → KV (ks.foldl (fun a p => putK a p.1 p.2) a) (us.foldl (fun a p => stored a p.1 p.2) b) := by
  induction r with
  | nil => intro a b h; exact h
  | @cons p q ps qs h t ih =>
    intro a b hab
    refine ih ?_
    obtain ⟨e, rv⟩ := h
    show KV (putK a p.1 p.2) (stored b q.1 q.2)
    rw [← e]
    exact KV.put hab p.1 rv
theorem fold_len (ks : List (Key × V)) : ∀ a : List (Key × V), (ks.foldl (fun a p => putK a p.1 p.2) a).length ≤ a.length + ks.length := by
  induction ks with
  | nil => intro a; exact Nat.le_refl _
  | cons p ps ih =>
    intro a
    have h1 := ih (putK a p.1 p.2)
    have h2 := length_putK a p.1 p.2
    rw [List.foldl_cons, List.length_cons]
    omega
section
variable {X : Cx}
def rDictP (K : PySem.W.Frag) : List V → Hp → VK → Prop := fun xs H Q => ∃ (l : Addr) (ys : List V) (prs : List (Key × V)), xs = [.ref l] ∧ SqL K H l ys ∧ ys.length = prs.length ∧ prs.length ≤ 900 ∧
  (∀ (j : Nat) (y : V) (p : Key × V), ys[j]? = some y → prs[j]? = some p → ∃ t, y = .ref t ∧ H t = some (.tup [kV p.1, p.2])) ∧ ∀ d, H d = none → Q (.ref d) (upd H d (.dK (prs.foldl (fun a p => putK a p.1 p.2) [])))
theorem call_dictP (hc : X.calm = true) : CallR X (.type "dict") (rDictP X.K) := by
  intro pins s σ H xs us Q I r h
  obtain ⟨l, ys, prs, rfl, hq, hlen, hsz, hp, q⟩ := h
  obtain ⟨u, rfl, rx⟩ := vals1 r
  cases rx
  obtain ⟨its, rv, pl, hz⟩ := I.list hq
  have hli := rv.length
  have hA : X.A.handled = none := I.ok.hd hc
  have hpr : ∃ us : List (Key × Value), KV prs us ∧ ∀ (j : Nat) (x : Value) (p : Key × Value), its[j]? = some x → us[j]? = some p → ∃ (t : Addr) (ku : Value), x = Value.ref t ∧ s.heap.IsTuple t #[ku, p.2] ∧ (mixKind X.prog X.w).is p.1 ku = true := by
    clear hq pl hz q r
    have gen : ∀ (prs : List (Key × V)) (ys : List V) (its : List Value), Vals ys its → ys.length = prs.length → (∀ (j : Nat) (y : V) (p : Key × V), ys[j]? = some y → prs[j]? = some p → ∃ t, y = .ref t ∧ H t = some (.tup [kV p.1, p.2])) →
        ∃ us : List (Key × Value), KV prs us ∧ ∀ (j : Nat) (x : Value) (p : Key × Value), its[j]? = some x → us[j]? = some p → ∃ (t : Addr) (ku : Value), x = Value.ref t ∧ s.heap.IsTuple t #[ku, p.2] ∧ (mixKind X.prog X.w).is p.1 ku = true := by
      intro prs
      induction prs with
      | nil => intro ys its rv hl _; exact ⟨[], .nil, fun j x p _ e => by simp at e⟩
      | cons p ps ih =>
        intro ys its rv hl hp
        cases rv with
        | nil => simp at hl
        | @cons y u ys us' ru rus =>
          obtain ⟨us, k1, k2⟩ := ih ys us' rus (by simpa using hl) fun j y' p' h1 h2 => hp (j + 1) y' p' h1 h2
          obtain ⟨t, e, ht⟩ := hp 0 y p rfl rfl
          subst e
          cases ru
          obtain ⟨tis, tv, tp, _⟩ := I.tuple (SqT.of ht)
          cases tv with
          | cons rk tv1 =>
            cases tv1 with
            | cons rw2 tv2 =>
              cases tv2
              rename_i ku vu
              refine ⟨(p.1, vu) :: us, .cons ⟨rfl, rw2⟩ k1, fun j x p' h1 h2 => ?_⟩
              cases j with
              | zero =>
                simp at h1 h2
                subst h1 h2
                exact ⟨t, ku, rfl, tp, kV_is rk⟩
              | succ j => exact k2 j x p' h1 h2
    exact gen prs ys its rv hlen hp
  obtain ⟨us, kv, hus⟩ := hpr
  have hul := kv.length
  obtain ⟨o, n, ho, hcl, hdn, hdat⟩ := pl
  refine callType_codes (Q₁ := fun obj s₁ => obj = .ref s.heap.objs.size ∧ s₁ = { s with heap := s.heap.push { cls := .type "dict", data := .dict #[] } }) PySem.F.kt_called_dict (PySem.F.kt_typeCall_dict_1 _) PySem.F.entry_dict_init (kt_code_dict_new _ ⟨rfl, rfl⟩) ?_
  rintro obj s₁ ⟨rfl, rfl⟩
  have hnew : (s.heap.push { cls := .type "dict", data := .dict #[] }).DictOf (mixKind X.prog X.w) s.heap.objs.size [] := Heap.DictOf.new s.heap
  have kp0 : ∀ b o, s.heap.get? b = some o → (s.heap.push { cls := .type "dict", data := .dict #[] }).get? b = some o := fun b o e => Heap.get?_push_of_some _ e
  refine ⟨hnew.typeIs, PySem.F.args_dict_init_2 _ _, ?_⟩
  unfold Builtin.«dict.__init__»
  refine wpAny_bind ?_
  unfold Builtin.Dict.selfAndRest
  refine wpAny_bind (wpAny_notOrdered_dict hnew.typeIs ?_)
  show wpAny _ _ (pure (s.heap.objs.size, [Value.ref l])) _ _ _
  refine wpAny_pure ?_
  show wpAny _ _ (Builtin.Dict.updateFrom "dict.__init__" s.heap.objs.size (.ref l) [] .none) _ _ _
  unfold Builtin.Dict.updateFrom
  generalize hP : s.heap.push { cls := .type "dict", data := .dict #[] } = hp1 at *
  have hlT : (⟨hp1, s.gens, s.drawn, s.toks, s.os⟩ : Shared).TypeIs (.ref l) "list" := ⟨_, kp0 _ _ ho, hcl⟩
  refine wpAny_bind (wpAny_typeOf hlT ?_)
  rw [if_pos (by decide +kernel)]
  refine wpAny_bind (keys_miss_list (s := ⟨hp1, s.gens, s.drawn, s.toks, s.os⟩) (kp0 _ _ ho) hcl hdat hdn hA fun h2 tk2 kp2 => ?_)
  rw [if_pos (show (none : Option Value).isNone = true from rfl)]
  refine wpAny_bind (wpAny_rule ?_)
  have kp02 : ∀ b o, s.heap.get? b = some o → h2.get? b = some o := fun b o e => kp2 b o (kp0 b o e)
  have hl2 : h2.IsList l its.toArray := ⟨o, kp02 _ _ ho, hcl, n, hdat⟩
  refine wpAny_bind (wpAny_pyIter_list (s := ⟨h2, s.gens, s.drawn, tk2, s.os⟩) hl2 ?_)
  refine wpAny_pure ?_
  refine ⟨Code.quiet_builtin _ (by decide +kernel), ?_⟩
  have hd2 : h2.DictOf (mixKind X.prog X.w) s.heap.objs.size [] := by
    obtain ⟨o', es, ep, ho', r'⟩ := hnew
    exact ⟨o', es, ep, kp2 _ _ ho', r'⟩
  have ltd : s.heap.objs.size < h2.objs.size := by
    obtain ⟨o', es, ep, ho', r'⟩ := hd2
    exact Heap.lt_size ho'
  have ltl : l < h2.objs.size := Heap.lt_size (kp02 _ _ ho)
  have nold : ∀ b o, s.heap.get? b = some o → b ≠ s.heap.objs.size := fun b o e => Nat.ne_of_lt (Heap.lt_size e)
  have kp3 : ∀ b o, s.heap.get? b = some o → ∀ x, (h2.push x).get? b = some o := fun b o e x => Heap.get?_push_of_some _ (kp02 b o e)
  refine dict_loop (d := s.heap.objs.size) (it := h2.objs.size) (l := l) (by exact hA) (Nat.ne_of_lt ltd) (Ne.symm (nold _ _ ho)) (Ne.symm (Nat.ne_of_lt ltl)) its us (by omega) its.length 0 _ [] (by omega) (Nat.zero_le _) ⟨_, Heap.get?_push_size _ rfl, rfl, rfl⟩ ⟨o, kp3 _ _ ho _, hcl, n, hdat⟩ ?_ (by omega) ?_ ?_
  · intro j x p h1 h2'
    obtain ⟨t, ku, e, ⟨ot, hot, rt⟩, hk⟩ := hus j x p h1 h2'
    exact ⟨t, ku, e, nold _ _ hot, Nat.ne_of_lt (Heap.lt_size (kp02 _ _ hot)), ⟨ot, kp3 _ _ hot _, rt⟩, hk⟩
  · obtain ⟨o', es, ep, ho', r'⟩ := hd2
    exact ⟨o', es, ep, Heap.get?_push_of_some _ ho', r'⟩
  · intro h' tk k3 hd'
    refine ⟨rfl, .ref s.heap.objs.size, _, I.laid (a := s.heap.objs.size) (o := .dK (prs.foldl (fun a p => putK a p.1 p.2) [])) (t' := tk) (fun b q hq' => ?_) (Nat.le_refl _) (dk_new ?_ (beq_eq_false_iff_ne.mpr (Ne.symm (Nat.ne_of_lt I.big))) (kv.fold .nil) hd'), rfl, q _ (I.hok.fresh (Nat.le_refl _))⟩
    · exact k3 b q (nold _ _ hq') (Nat.ne_of_lt (Heap.lt_size (kp02 _ _ hq'))) (kp3 _ _ hq' _)
    · have h9 : (1000 : Nat) ≤ sizeLine := by decide
      have h8 := fold_len prs []
      rw [List.length_nil] at h8
      omega
end
end L2
namespace PySem
open Sem (wp)
section
variable {prog : Program} {w : World} {A : Around} {E : Value → Shared → Prop} {s : Shared}
theorem drawT_item {it t : Addr} {i : Nat} {items : Array Value} {x : Value} {Q : Value → Shared → Prop} (hI : s.heap.IsTupleIter it t i) (hT : s.heap.IsTuple t items) (hx : items[i]? = some x)
    (q : ∀ h', h'.IsTupleIter it t (i + 1) → Heap.SameBut it s.heap h' → Q x { s with heap := h' }) : wpAny (model prog w) A (Builtin.SmallTypes.nextOf (.ref it)) Q E s := by
  obtain ⟨oi, hoi, hci, hdi⟩ := id hI
  obtain ⟨ot, hot, _, nt, hdt⟩ := hT
  unfold Builtin.SmallTypes.nextOf
  refine wpAny_bind (wpAny_callSpecial?_slot (name := Str.ofString "__next__") hI.typeIs F.slot_tuple_iterator_next (wpAny_call_entry F.slot_tuple_iterator_next hI.typeIs F.entry_tuple_iterator_next ?_ (F.args_tuple_iterator_next_1 _)))
  refine wpAny_bind (m := field (.ref it) 0) (wpAny_field hoi hdi (x := .ref t) rfl ?_)
  dsimp only
  rw [if_neg (show ¬ ((Value.ref t == Value.none) = true) by exact Bool.false_ne_true)]
  refine wpAny_bind (m := field (.ref it) 1) (wpAny_field hoi hdi (x := .int i 0) rfl ?_)
  refine wpAny_bind (m := seqItems? (.ref t)) (wpAny_seqItems hot hdt ?_)
  simp only [Int.toNat_natCast, hx]
  refine wpAny_bind (wpAny_setField hoi hdi (by simp) (wpAny_pure ⟨x, rfl, wpAny_pure (q _ ⟨_, Heap.get?_update_self _ hoi (Obj.isFreed_of_fields (Obj.data_mapFields hdi _)), (Obj.cls_mapFields ..).trans hci, ?_⟩ (Heap.SameBut.update ..))⟩))
  rw [Obj.data_mapFields hdi]
  simp [rawInt]
theorem drawT_end {it t : Addr} {i : Nat} {items : Array Value} {Q : Value → Shared → Prop} (hh : A.handled = none) (hI : s.heap.IsTupleIter it t i) (hT : s.heap.IsTuple t items) (hx : items[i]? = none)
    (q : ∀ h' e, Heap.ExtBut it s.heap h' → (∃ o, h'.get? e = some o ∧ o.cls = .type "StopIteration") → E (.ref e) { s with heap := h' }) : wpAny (model prog w) A (Builtin.SmallTypes.nextOf (.ref it)) Q E s := by
  obtain ⟨oi, hoi, hci, hdi⟩ := id hI
  obtain ⟨ot, hot, _, nt, hdt⟩ := hT
  unfold Builtin.SmallTypes.nextOf
  refine wpAny_bind (wpAny_callSpecial?_slot (name := Str.ofString "__next__") hI.typeIs F.slot_tuple_iterator_next (wpAny_call_entry F.slot_tuple_iterator_next hI.typeIs F.entry_tuple_iterator_next ?_ (F.args_tuple_iterator_next_1 _)))
  refine wpAny_bind (m := field (.ref it) 0) (wpAny_field hoi hdi (x := .ref t) rfl ?_)
  dsimp only
  rw [if_neg (show ¬ ((Value.ref t == Value.none) = true) by exact Bool.false_ne_true)]
  refine wpAny_bind (m := field (.ref it) 1) (wpAny_field hoi hdi (x := .int i 0) rfl ?_)
  refine wpAny_bind (m := seqItems? (.ref t)) (wpAny_seqItems hot hdt ?_)
  simp only [Int.toNat_natCast, hx]
  refine wpAny_bind (wpAny_rule (wpAny_bind (wpAny_setField hoi hdi (by simp) (wpAny_bind (m := newExc (.type "StopIteration") []) ?_))))
  simp only [newExc, newTuple]
  refine wpAny_bind (wpAny_newObj_type (wpAny_bind (m := firstArgMember _ _) (wpAny_of_eq (a := Value.none) (by first | rfl | (simp only [firstArgMember]; rfl)) (wpAny_newObj_type ?_ (by size_fits)))) (by size_fits))
  simp only [raiseNew]
  refine wpAny_bind (wpAny_handled ?_)
  first | rw [show A.in1.handled = none by exact hh] | rw [hh]
  exact wpAny_bind (wpAny_pure (wpAny_throw (q _ _ (((Heap.SameBut.update ..).extBut.push _).push _) ⟨_, Heap.get?_push_size _ rfl, rfl⟩)))
theorem Draws.tup (hh : A.handled = none) (it t : Addr) (hne : t ≠ it) (items : Array Value) : Draws prog w A it [it, t] items.size (fun i v => items[i]? = some v) (fun i h => h.IsTupleIter it t i ∧ h.IsTuple t items) where
  live := fun _ _ st => let ⟨o, ho, _⟩ := st.1; ⟨o, ho⟩
  frame := fun _ _ _ st hk => ⟨st.1.at fun o e => hk it (by simp) o e, let ⟨o, ho, r⟩ := st.2; ⟨o, hk t (by simp) o ho, r⟩⟩
  item := fun i s Q E hi st hQ => by
    refine drawT_item st.1 st.2 (x := items[i]) (by simp [hi]) fun h' hit' hs' => hQ _ h' s.toks (by simp [hi]) ⟨hit', ?_⟩ hs'
    obtain ⟨o, ho, r⟩ := st.2
    exact ⟨o, (hs'.2 t hne).trans ho, r⟩
  done := fun s Q E st hE => drawT_end hh st.1 st.2 (by simp) hE
theorem meets_enumT (l : Addr) (items : Array Value) (n : Nat) (dct : Option Addr) (sl : Array (Option Value)) :
    Meets (Builtin.«enumerate.__new__» ⟨[.type "enumerate", .ref l], []⟩) (fun _ R s => s.heap.get? l = some { cls := .type "tuple", dict := dct, data := .seq items n, slots := sl } ∧
      R (.ok (.ret (.ref (s.heap.push { cls := .type "tuple_iterator", data := .fields #[.ref l, .int 0 0] }).objs.size)))
        { s with heap := (s.heap.push { cls := .type "tuple_iterator", data := .fields #[.ref l, .int 0 0] }).push { cls := .type "enumerate", data := .fields #[.none, .bool false, .ref s.heap.objs.size, rawInt 0, .none, .none] } }) :=
  .of_wp fun prog w A R s h => by
    obtain ⟨hp, g, d, tk, os⟩ := s; obtain ⟨hl, h⟩ := h
    have hsub := sub_enumerate
    have hL : Heap.IsTuple (Shared.heap ⟨hp, g, d, tk, os⟩) l items := ⟨_, hl, rfl, n, rfl⟩
    wp_walk using wpAny_loadPart' hl
    refine wpAny_stack_any fun st => wpAny_pure ?_
    split
    · rename_i c _ _ _ _ _
      cases (c == Value.type "enumerate") <;> (wp_walk using wpAny_loadPart' hl, wpAny_pyIter_tuple hL; exact ⟨_, rfl, h⟩)
    · wp_walk using wpAny_loadPart' hl, wpAny_pyIter_tuple hL
      exact ⟨_, rfl, h⟩
theorem call_enumT {l : Addr} {items : Array Value} {Q : Value → Shared → Prop} (hL : s.heap.IsTuple l items)
    (h : ∀ h', IsEnum h' (s.heap.objs.size + 1) s.heap.objs.size 0 .none → h'.IsTupleIter s.heap.objs.size l 0 → h'.objs.size = s.heap.objs.size + 2 → (∀ b o, s.heap.get? b = some o → h'.get? b = some o) → Q (.ref (s.heap.objs.size + 1)) { s with heap := h' }) :
    wpAny (model prog w) A (call (.type "enumerate") [.ref l]) Q E s := by
  obtain ⟨⟨c, dct, dt, sl⟩, hl, hc, n, hd⟩ := hL
  replace hc : c = .type "tuple" := hc
  replace hd : dt = .seq items n := hd
  subst hc hd
  refine callType_new F.called_enumerate (by decide) (F.typeCall_enumerate_1 _) (F.newCall_enumerate_1 _) (fun obj => F.args_object_init_2 obj _) F.entry_enumerate_new (meets_enumT l items n dct sl) ⟨hl, ?_⟩
  generalize hI : ({ cls := .type "tuple_iterator", data := .fields #[.ref l, .int 0 0] } : Obj) = oi
  have hz : (s.heap.push oi).objs.size = s.heap.objs.size + 1 := Heap.size_push ..
  show _ ∧ _
  rw [hz]
  have he : IsEnum ((s.heap.push oi).push { cls := .type "enumerate", data := .fields #[.none, .bool false, .ref s.heap.objs.size, rawInt 0, .none, .none] }) (s.heap.objs.size + 1) s.heap.objs.size 0 .none := by
    have g := Heap.get?_push_size (s.heap.push oi) (o := { cls := .type "enumerate", data := .fields #[.none, .bool false, .ref s.heap.objs.size, rawInt 0, .none, .none] }) rfl
    rw [hz] at g
    exact g
  subst hI
  exact ⟨⟨_, he, rfl⟩, h _ he ⟨_, Heap.get?_push_of_some _ (Heap.get?_push_size _ rfl), rfl, rfl⟩ (by rw [Heap.size_push, hz]) fun b o x => Heap.get?_push_of_some _ (Heap.get?_push_of_some _ x)⟩
end
end PySem
namespace L2
open PySem PySem.Spec PyProof.Rows
theorem Inv.turnedL {X : Cx} {pins : List (Addr × Obj)} {σ : St} {H : Hp} {s : Shared} {h' : Heap} {t' : Nat} {ch : List Addr} (I : Inv X pins σ H s) (hch : ∀ b ∈ ch, FpOk X pins H b) (k : ∀ b o, b ∉ ch → s.heap.get? b = some o → h'.get? b = some o) : Inv X pins σ H { s with heap := h', toks := t' } := by
  have nit : ∀ b u, H b = some u → b ∉ ch := fun b u e z => by rw [(hch b z).1] at e; cases e
  refine I.step (g' := s.gens) (d' := s.drawn) (ch := ch) (fun b hb => ?_) (fun b o _ _ hc e _ => k b o hc e) (fun b o _ _ hc e _ => ⟨o.slots, k b o hc e⟩) (fun _ _ _ _ n => n) (fun b o hc e => ⟨o, k b o hc e⟩) (fun _ _ e => e) (fun _ _ _ e => e) (fun b ps e => ⟨#[], by rw [e]; simp⟩) (fun m hm => ?_) (fun b u e => ?_) I.bare
  · obtain ⟨f0, f1, f2, f3, f4, f5⟩ := hch b hb
    exact ⟨f3, f1, f4, f5⟩
  · obtain ⟨o, es, ep, ho, r⟩ := hm
    exact ⟨o, es, ep, k _ o (fun z => (hch _ z).2.1 rfl) ho, r⟩
  · refine (I.hok b u e).stay (fun c v hc q => k c v ?_ q) (fun _ q => q) fun _ _ q => q
    rcases hc with z | z
    · rw [z]; exact nit b u e
    · exact nit c _ z
theorem Inv.turnedLaid {X : Cx} {pins : List (Addr × Obj)} {σ : St} {H : Hp} {s : Shared} {h' : Heap} {t' : Nat} {ch : List Addr} {T : Addr} {ob : HO} (I : Inv X pins σ H s) (hch : ∀ b ∈ ch, FpOk X pins H b) (k : ∀ b o, b ∉ ch → s.heap.get? b = some o → h'.get? b = some o)
    (hT : s.heap.objs.size ≤ T) (new : ObjOk X.prog X.w (upd H T ob) h' T ob) : Inv X pins σ (upd H T ob) { s with heap := h', toks := t' } := by
  have hn : H T = none := I.hok.fresh hT
  have nit : ∀ b u, H b = some u → b ∉ ch := fun b u e z => by rw [(hch b z).1] at e; cases e
  have up : ∀ b u, H b = some u → (upd H T ob) b = some u := fun b u e => by rw [upd_ne (ne_of_none e hn)]; exact e
  refine I.step (g' := s.gens) (d' := s.drawn) (ch := ch) (fun b hb => ?_) (fun b o _ _ hc e _ => k b o hc e) (fun b o _ _ hc e _ => ⟨o.slots, k b o hc e⟩) (fun b o _ e n => ?_) (fun b o hc e => ⟨o, k b o hc e⟩) (fun b _ e => up b _ e) (fun b _ _ e => up b _ e) (fun b ps e => ⟨#[], by rw [up b _ e]; simp⟩) (fun m hm => ?_) (fun b u e => ?_) I.bare
  · obtain ⟨f0, f1, f2, f3, f4, f5⟩ := hch b hb
    exact ⟨f3, f1, f4, f5⟩
  · rw [upd_ne (Nat.ne_of_lt (Nat.lt_of_lt_of_le (Heap.lt_size e) hT))]; exact n
  · obtain ⟨o, es, ep, ho, r⟩ := hm
    exact ⟨o, es, ep, k _ o (fun z => (hch _ z).2.1 rfl) ho, r⟩
  · by_cases hb : b = T
    · subst hb; rw [upd_same] at e; cases e; exact new
    · rw [upd_ne hb] at e
      refine (I.hok b u e).stay (fun c v hc q => k c v ?_ q) (fun c q => up c _ q) fun c _ q => up c _ q
      rcases hc with z | z
      · rw [z]; exact nit b u e
      · exact nit c _ z
def Itte (K : PySem.W.Frag) (a : Addr) : It :=
  ⟨fun i H => ∃ xs x, SqT K H a xs ∧ xs[i]? = some x, fun i H v H' => ∃ T x, H T = none ∧ v = .ref T ∧ (∀ xs, SqT K H a xs → xs[i]? = some x) ∧ H' = upd H T (.tup [.int i, x]), fun i H => ∃ xs, SqT K H a xs ∧ xs.length = i⟩
theorem turn_enumT {P : Program} {w : World} {K : PySem.W.Frag} {elts : List Expr} {kk : Nat} {tp : Pos} (e it a : Addr) (hei : e ≠ it) : Turn P w K (.Tuple elts kk tp) (Itte K a) [e, it] e (fun i h => (∃ old, IsEnum h e it i old) ∧ h.IsTupleIter it a i) where
  mem := by simp
  obj := fun i h st b hb => by
    obtain ⟨⟨old, he⟩, o, ho, hc, hd⟩ := st
    rcases List.mem_cons.mp hb with q | q
    · subst q
      exact ⟨_, he, fun v z => by have z' : Data.fields _ = Data.cell v := z; cases z'⟩
    · rw [List.mem_singleton.mp q]
      exact ⟨o, ho, fun v z => by rw [hd] at z; cases z⟩
  keep := fun i h h' st k => ⟨st.1.imp fun old x => k e (by simp) _ x, st.2.at fun o x => k it (by simp) o x⟩
  item := by
    intro X hP hw hK hc i pins s σ H E I hf st hg
    subst hP hw hK
    obtain ⟨xs, x, hq, hx⟩ := hg
    obtain ⟨its, rv, p, hz⟩ := I.tuple hq
    obtain ⟨u, hu, ru⟩ := rv.get hx
    have hA : X.A.handled = none := I.ok.hd hc
    obtain ⟨⟨old, he⟩, hI⟩ := id st
    have hai : a ≠ it := fun z => by
      obtain ⟨o1, g1, c1, _⟩ := p
      obtain ⟨o2, g2, c2, _⟩ := hI
      rw [z, g2] at g1
      cases g1
      rw [c2] at c1
      exact absurd c1 (by decide)
    have hae : e ≠ a := fun z => by
      obtain ⟨o1, g1, c1, _⟩ := p
      have g2 : s.heap.get? e = _ := he
      rw [← z, g2] at g1
      cases g1
      exact absurd (show Value.type "enumerate" = Value.type "tuple" from c1) (by decide)
    have W := WalksT.enumerateD (prog := X.prog) (w := X.w) (A := X.A) (Draws.tup (by exact hA) it a hai its.toArray) e hei (by simp [hei, hae]) (by simp)
    have hi : i < its.toArray.size := by
      have := (List.getElem?_eq_some_iff.mp hu).1
      simpa using this
    refine W.item i s _ _ hi ⟨⟨old, he⟩, hI, p⟩ fun T vals h' tk hv hT hIT hmid k1 => ?_
    obtain ⟨t', x', hx', rfl⟩ := hv
    have ex : x' = u := by
      have h2 : its.toArray[i]? = some u := by simpa using hu
      rw [h2] at hx'
      exact (Option.some.inj hx').symm
    subst ex
    refine ⟨_, rfl, W.go elts kk tp i T _ _ _ hmid fun h2 hst2 k2 => ?_⟩
    have hTw := W.apart i T _ hmid
    have new : ObjOk X.prog X.w (upd H T (.tup [.int i, x])) h2 T (.tup [.int i, x]) := by
      obtain ⟨ot, g1, r1⟩ := hIT
      exact ⟨by show 2 ≤ sizeLine; decide, [.int i t', x'], .cons ⟨t', rfl⟩ (.cons ru .nil), ot, k2 T ot hTw g1, r1⟩
    refine ⟨.ref T, _, I.turnedLaid (ch := [e, it]) (t' := tk) hf (fun b o hb g => k2 b o hb (k1 b o hb g)) hT new, rfl, ⟨T, x, I.hok.fresh hT, rfl, fun ys hy => by rw [I.tuple_inj hy hq]; exact hx, rfl⟩, ⟨hst2.1, hst2.2.1⟩, fun b hb => ?_⟩
    have hbT : b ≠ T := fun z => hTw (by rw [← z]; exact hb)
    rw [upd_ne hbT]
    exact (hf b hb).1
  done := by
    intro X hP hw hK hc i pins s σ H E I hf st hg
    subst hP hw hK
    obtain ⟨xs, hq, hx⟩ := hg
    obtain ⟨its, rv, p, hz⟩ := I.tuple hq
    have hA : X.A.handled = none := I.ok.hd hc
    obtain ⟨⟨old, he⟩, hI⟩ := id st
    have hai : a ≠ it := fun z => by
      obtain ⟨o1, g1, c1, _⟩ := p
      obtain ⟨o2, g2, c2, _⟩ := hI
      rw [z, g2] at g1
      cases g1
      rw [c2] at c1
      exact absurd c1 (by decide)
    have hae : e ≠ a := fun z => by
      obtain ⟨o1, g1, c1, _⟩ := p
      have g2 : s.heap.get? e = _ := he
      rw [← z, g2] at g1
      cases g1
      exact absurd (show Value.type "enumerate" = Value.type "tuple" from c1) (by decide)
    have W := WalksT.enumerateD (prog := X.prog) (w := X.w) (A := X.A) (Draws.tup (by exact hA) it a hai its.toArray) e hei (by simp [hei, hae]) (by simp)
    have hl := rv.length
    have en : its.toArray.size = i := by simp; omega
    refine W.done s _ _ ?_ fun h' tk k1 => ⟨rfl, I.turnedL (ch := [e, it]) (t' := tk) hf fun b o hb g => k1 b o hb g⟩
    rw [en]
    exact ⟨⟨old, he⟩, hI, p⟩
  self := fun _ _ _ _ _ st h => by
    obtain ⟨⟨old, he⟩, _⟩ := st
    exact wpAny_pyIter_enum he h
section
variable {X : Cx}
def iEnumT (K : PySem.W.Frag) (ta : TA) : TI := fun σ H R => ta σ H fun vs H1 => ∃ a, vs = [.ref a] ∧ (∃ xs, SqT K H1 a xs) ∧ R (Itte K a) H1
theorem pi_enumT {a : Expr} {ta : TA} {p pos : Pos} {elts : List Expr} {kk : Nat} {tp : Pos} (hg : Gl X "enumerate") (hm : X.mg "enumerate" = none) (ha : PA X [a] ta) (hs : starEach [a] X.env = [(false, eval a X.env)] := by rfl) :
    PI X (.Tuple elts kk tp) (.Call (.Name "enumerate" p) [a] [] pos) (iEnumT X.K ta) := by
  intro pins s σ H R I h
  refine Call_ (ld_blt I hg hm boot_enumerate (PyProof.Rows.callWith_type1 (thn (ha pos pins s σ H _ I h) fun us s1 ⟨vs, H1, I1, r1, q1⟩ => ?_) hs rfl))
  obtain ⟨l, e, ⟨xs, hq⟩, q⟩ := q1
  subst e
  cases r1 with
  | cons r rr =>
    cases rr
    cases r
    obtain ⟨its, rv, p, hz⟩ := I1.tuple hq
    refine call_enumT p fun h' he hi hsz kp => wpAny_pyIter_enum he ⟨s1.heap.objs.size + 1, [s1.heap.objs.size + 1, s1.heap.objs.size], _, _, H1, rfl, I1.kept (t' := s1.toks) kp, turn_enumT _ _ l (Nat.ne_of_gt (Nat.lt_succ_self _)), ⟨⟨_, he⟩, hi⟩, fun b hb => ?_, q⟩
    rcases List.mem_cons.mp hb with z | z
    · subst z; exact I1.fpOk (Nat.le_succ _) (I1.hok.fresh (Nat.le_succ _))
    · rw [List.mem_singleton.mp z]; exact I1.fpOk (Nat.le_refl _) (I1.hok.fresh (Nat.le_refl _))
theorem for_enumT {K : PySem.W.Frag} {a : Addr} {xs : List V} {g : TG} {tb : TS} {D : Ends} {σ : St} {H : Hp} (Pv : Nat → St → Hp → Prop) (h0 : Pv 0 σ H) (hl : ∀ i σ H, i ≤ xs.length → Pv i σ H → SqT K H a xs)
    (hs : ∀ i x σ H T, xs[i]? = some x → Pv i σ H → H T = none → g (.ref T) σ (upd H T (.tup [.int i, x])) fun σ2 H2 => tb { D with nx := Pv (i + 1), ct := Pv (i + 1), bk := D.nx } σ2 H2) (hd : ∀ σ H, Pv xs.length σ H → D.nx σ H) :
    ∃ W : Nat → Nat → St → Hp → Prop, (∃ m, W 0 m σ H) ∧ ∀ i m σ H, W i m σ H →
      ((Itte K a).stop i H ∧ D.nx σ H) ∨ ((Itte K a).go i H ∧ ∃ N : St → Hp → Prop, (∀ σ' H', N σ' H' → ∃ m', m' < m ∧ W (i + 1) m' σ' H') ∧ ∀ x H', (Itte K a).yld i H x H' → g x σ H' fun σ2 H2 => tb { D with nx := N, ct := N, bk := D.nx } σ2 H2) := by
  refine ⟨fun i m σ H => m = xs.length - i ∧ i ≤ xs.length ∧ Pv i σ H, ⟨xs.length, by simp, Nat.zero_le _, h0⟩, ?_⟩
  rintro i m σ H ⟨rfl, hi, p⟩
  have q := hl i σ H hi p
  by_cases hlt : i < xs.length
  · refine .inr ⟨⟨xs, xs[i], q, by simp [hlt]⟩, Pv (i + 1), fun σ' H' p' => ⟨xs.length - (i + 1), by omega, rfl, hlt, p'⟩, fun v H' y => ?_⟩
    obtain ⟨T, x, hT, rfl, y, rfl⟩ := y
    exact hs i x σ H T (y xs q) p hT
  · have e : i = xs.length := by omega
    subst e
    exact .inl ⟨⟨xs, q, rfl⟩, hd σ H p⟩
end
end L2
namespace SH
open PySem L2
def wayGo : List Int → Int → List Nd → List Int
  | W, _, [] => W
  | W, k, n :: r => wayGo (W.take n.2.toNat ++ [k]) (k + 1) r
def way (ns : List Nd) : List Int := wayGo [] 0 ns
theorem wayGo_append : ∀ (a b : List Nd) (W : List Int) (k : Int), wayGo W k (a ++ b) = wayGo (wayGo W k a) (k + a.length) b
  | [], b, W, k => by show wayGo W k b = wayGo W (k + ((0 : Nat) : Int)) b; rw [show k + ((0 : Nat) : Int) = k by omega]
  | n :: a, b, W, k => by
    show wayGo _ (k + 1) (a ++ b) = _
    rw [wayGo_append a b]
    show wayGo (wayGo _ (k + 1) a) (k + 1 + a.length) b = wayGo (wayGo _ (k + 1) a) (k + (n :: a).length) b
    rw [List.length_cons, show k + 1 + (a.length : Int) = k + ((a.length + 1 : Nat) : Int) by omega]
theorem way_snoc (ns : List Nd) (n : Nd) : way (ns ++ [n]) = (way ns).take n.2.toNat ++ [(ns.length : Int)] := by
  unfold way
  rw [wayGo_append]
  show (wayGo [] 0 ns).take n.2.toNat ++ [0 + (ns.length : Int)] = _
  rw [Int.zero_add]
theorem way_take {ns : List Nd} {i : Nat} {n : Nd} (h : ns[i]? = some n) : way (ns.take (i + 1)) = (way (ns.take i)).take n.2.toNat ++ [(i : Int)] := by
  have hi := (List.getElem?_eq_some_iff.mp h).1
  rw [List.take_add_one, h]
  show way (ns.take i ++ [n]) = _
  rw [way_snoc, List.length_take, Nat.min_eq_left (by omega)]
theorem way_mem {ns : List Nd} : ∀ i, i ≤ ns.length → ∀ j ∈ way (ns.take i), 0 ≤ j ∧ j < (i : Int) := by
  intro i
  induction i with
  | zero => intro _ j hj; rw [List.take_zero] at hj; exact nomatch hj
  | succ i ih =>
    intro hi j hj
    rw [way_take (List.getElem?_eq_getElem (by omega : i < ns.length))] at hj
    rcases List.mem_append.mp hj with h | h
    · have := ih (by omega) j (List.mem_of_mem_take h); omega
    · rw [List.mem_singleton.mp h]; omega
theorem way_len {ns : List Nd} : ∀ i, i ≤ ns.length → (way (ns.take i)).length ≤ i := by
  intro i
  induction i with
  | zero => intro _; rw [List.take_zero]; exact Nat.le_refl _
  | succ i ih =>
    intro hi
    rw [way_take (List.getElem?_eq_getElem (by omega : i < ns.length)), List.length_append, List.length_take, List.length_singleton]
    have := ih (by omega)
    omega
def anc (ns : List Nd) (k : Nat) : List Int := (way (ns.take k)).take ((ns.getD k ("", 0)).2.toNat)
theorem anc_mem {ns : List Nd} {k : Nat} (hk : k ≤ ns.length) : ∀ j ∈ anc ns k, 0 ≤ j ∧ j < (k : Int) := fun j hj => way_mem k hk j (List.mem_of_mem_take hj)
theorem anc_of {ns : List Nd} {k : Nat} {n : Nd} (h : ns[k]? = some n) : anc ns k = (way (ns.take k)).take n.2.toNat := by
  unfold anc
  rw [List.getD_eq_getElem?_getD, h]
  rfl
def kept (ps W : List Int) : List Int := W.filter fun j => decide (j ∈ ps)
theorem kept_append (ps a b : List Int) : kept ps (a ++ b) = kept ps a ++ kept ps b := List.filter_append ..
theorem kept_one (ps : List Int) (k : Int) : kept ps [k] = if k ∈ ps then [k] else [] := by
  unfold kept
  by_cases h : k ∈ ps <;> simp [h]
theorem kept_prefix {ps a b : List Int} (h : a <+: b) : kept ps a <+: kept ps b := by
  obtain ⟨c, rfl⟩ := h
  exact ⟨kept ps c, (kept_append ps a c).symm⟩
def cntL (ps W : List Int) : List Int := (List.range (W.length + 1)).map fun j => ((kept ps (W.take j)).length : Int)
theorem cntL_take (ps W : List Int) (d : Nat) : (cntL ps W).take (d + 1) = cntL ps (W.take d) := by
  unfold cntL
  rw [← List.map_take, List.take_range, List.length_take, show min (d + 1) (W.length + 1) = min d W.length + 1 by omega]
  apply List.map_congr_left
  intro j hj
  have := List.mem_range.mp hj
  rw [List.take_take, Nat.min_eq_left (by omega)]
theorem cntL_snoc (ps W : List Int) (k : Int) : cntL ps (W ++ [k]) = cntL ps W ++ [((kept ps W).length : Int) + if k ∈ ps then 1 else 0] := by
  unfold cntL
  rw [List.length_append, List.length_singleton, List.range_succ, List.map_append]
  congr 1
  · apply List.map_congr_left
    intro j hj
    have := List.mem_range.mp hj
    rw [List.take_append_of_le_length (by omega)]
  · rw [List.map_cons, List.map_nil, List.take_of_length_le (by rw [List.length_append, List.length_singleton]; omega), kept_append, kept_one]
    by_cases h : k ∈ ps <;> simp [h]
theorem cntL_len (ps W : List Int) : (cntL ps W).length = W.length + 1 := by unfold cntL; rw [List.length_map, List.length_range]
theorem cntL_last (ps W : List Int) : (cntL ps W)[W.length]? = some ((kept ps W).length : Int) := by
  unfold cntL
  rw [List.getElem?_map, List.getElem?_range (by omega)]
  show some (((kept ps (W.take W.length)).length : Nat) : Int) = _
  rw [List.take_length]
theorem cntL_at (ps W : List Int) : atI ((cntL ps W).map V.int) (-1) = some (.int ((kept ps W).length : Int)) := by
  have e : cntL ps W = (cntL ps W).take W.length ++ [((kept ps W).length : Int)] := by
    have h := List.take_add_one (l := cntL ps W) (i := W.length)
    rw [cntL_last, List.take_of_length_le (by rw [cntL_len]; omega)] at h
    exact h
  rw [e, List.map_append]
  exact atI_last _ _
theorem Same.none {H H' : Hp} (s : Same H H') {b : Addr} (h : H' b = none) : H b = none := by
  cases e : H b with
  | none => rfl
  | some o => rw [s _ _ e] at h; cases h
def below (ps : List Int) (i : Nat) : List Int := ps.filter fun p => decide (p < (i : Int))
theorem below_none {i : Nat} : ∀ {lo m : Int} {ps : List Int}, placesOk lo m ps → (i : Int) ≤ lo → below ps i = [] := fun {lo m ps} h hi => by
  unfold below
  rw [List.filter_eq_nil_iff]
  intro p hp
  have := (places_all h p hp).1
  simp; omega
theorem below_succ {i : Nat} : ∀ {lo m : Int} {ps : List Int}, placesOk lo m ps → below ps (i + 1) = below ps i ++ (if (i : Int) ∈ ps then [(i : Int)] else [])
  | _, _, [], _ => rfl
  | lo, m, p :: r, h => by
    obtain ⟨h1, h2, h3⟩ := h
    have ih := below_succ (i := i) h3
    have e1 : ∀ k : Nat, below (p :: r) k = if p < (k : Int) then p :: below r k else below r k := fun k => by
      unfold below
      rw [List.filter_cons]
      by_cases h : p < (k : Int) <;> simp [h]
    rw [e1, e1]
    by_cases hlt : p < (i : Int)
    · rw [if_pos hlt, if_pos (by omega), ih]
      have : ((i : Int) ∈ p :: r) ↔ (i : Int) ∈ r := by
        rw [List.mem_cons]
        exact ⟨fun z => z.elim (fun z => by omega) id, .inr⟩
      by_cases hm : (i : Int) ∈ r
      · rw [if_pos hm, if_pos (this.mpr hm)]; rfl
      · rw [if_neg hm, if_neg (fun z => hm (this.mp z))]; rfl
    · rw [if_neg hlt, below_none h3 (by omega)]
      by_cases he : p = (i : Int)
      · rw [if_pos (by omega), below_none h3 (by omega), if_pos (by rw [he]; exact List.mem_cons_self), he]; rfl
      · rw [if_neg (by omega), below_none h3 (by omega), if_neg ?_]
        · rfl
        · intro z
          rcases List.mem_cons.mp z with z | z
          · exact he z.symm
          · have := (places_all h3 _ z).1; omega
theorem below_all {n : Nat} {lo : Int} {ps : List Int} (h : placesOk lo n ps) : below ps n = ps := by
  unfold below
  rw [List.filter_eq_self]
  intro p hp
  have := (places_all h p hp).2
  simp; omega
theorem below_at : ∀ {lo m : Int} {ps : List Int} {k : Nat} {p : Int}, placesOk lo m ps → 0 ≤ lo → ps[k]? = some p → below ps p.toNat = ps.take k
  | _, _, [], k, p, _, _, hk => by simp at hk
  | lo, m, q :: r, 0, p, h, h0, hk => by
    obtain ⟨h1, h2, h3⟩ := h
    simp at hk
    subst hk
    rw [List.take_zero]
    unfold below
    rw [List.filter_eq_nil_iff]
    intro x hx
    rcases List.mem_cons.mp hx with z | z
    · subst z; simp; omega
    · have := (places_all h3 _ z).1; simp; omega
  | lo, m, q :: r, k + 1, p, h, h0, hk => by
    obtain ⟨h1, h2, h3⟩ := h
    have hk' : r[k]? = some p := hk
    have := (places_all h3 _ (List.mem_of_getElem? hk')).1
    have ih := below_at h3 (by omega) hk'
    unfold below at ih ⊢
    rw [List.filter_cons, if_pos (by simp; omega), List.take_succ_cons, ih]
theorem below_len {lo m : Int} {ps : List Int} {i : Nat} (h : placesOk lo m ps) (h0 : 0 ≤ lo) (hi : (i : Int) ∈ ps) : ps[(below ps i).length]? = some (i : Int) := by
  obtain ⟨k, hk⟩ := List.getElem?_of_mem hi
  have e := below_at h h0 hk
  rw [Int.toNat_natCast] at e
  have := (List.getElem?_eq_some_iff.mp hk).1
  rw [e, List.length_take, Nat.min_eq_left (by omega)]
  exact hk
def nodeL (ns : List Nd) (ps : List Int) (p : Int) : Nd := ((ns.getD p.toNat ("", 0)).1, ((kept ps (anc ns p.toNat)).length : Int))
def leftN (ns : List Nd) (ps : List Int) : List Nd := ps.map (nodeL ns ps)
theorem deepAfter_le : ∀ {d : Int} {ns : List Nd}, d ≤ 12 → deepAfter d ns ≤ 12
  | _, [], h => h
  | _, n :: r, _ => deepAfter_le (ns := r) (by show min (n.2 + 1) 12 ≤ 12; omega)
theorem depth12 {ns : List Nd} {i : Nat} {n : Nd} (hd : depthOk 0 ns) (h : ns[i]? = some n) : markS n.1 = true ∧ 0 ≤ n.2 ∧ n.2 ≤ 12 := by
  have e : ns = ns.take i ++ (n :: ns.drop (i + 1)) := by
    have q := List.take_append_drop (i + 1) ns
    rw [List.take_add_one, h, List.append_assoc] at q
    exact q.symm
  rw [e] at hd
  obtain ⟨_, h1, h2, h3, _⟩ := depthOk_append.mp hd
  have := deepAfter_le (d := 0) (ns := ns.take i) (by omega)
  exact ⟨h1, h2, by omega⟩
theorem prefix_eq {a b : List Int} (h : a <+: b) : b.take a.length = a := by
  obtain ⟨c, rfl⟩ := h
  simp
theorem left_inv {ns : List Nd} {ps : List Int} (hd : depthOk 0 ns) (hp : placesOk 0 ns.length ps) : ∀ i, i ≤ ns.length →
    kept ps (way (ns.take i)) <+: (way ((below ps i).map (nodeL ns ps))).map (fun j => ps.getD j.toNat 0) ∧ depthOk 0 ((below ps i).map (nodeL ns ps)) ∧ deepAfter 0 ((below ps i).map (nodeL ns ps)) = min ((way ((below ps i).map (nodeL ns ps))).length : Int) 12 := by
  intro i
  induction i with
  | zero =>
    intro _
    rw [below_none (i := 0) hp (by omega), List.take_zero]
    exact ⟨⟨[], rfl⟩, trivial, rfl⟩
  | succ i ih =>
    intro hi
    obtain ⟨h1, h2, h3⟩ := ih (by omega)
    have hn : ns[i]? = some ns[i] := List.getElem?_eq_getElem (by omega)
    obtain ⟨hm, d0, d12⟩ := depth12 hd hn
    rw [way_take hn, kept_append, kept_one, below_succ hp]
    have hpre : kept ps ((way (ns.take i)).take ns[i].2.toNat) <+: kept ps (way (ns.take i)) := kept_prefix (List.take_prefix ..)
    generalize hR : (below ps i).map (nodeL ns ps) = R at h1 h2 h3 ⊢
    by_cases hk : (i : Int) ∈ ps
    · rw [if_pos hk, List.map_append, hR]
      rw [List.map_cons, List.map_nil]
      have eN : nodeL ns ps (i : Int) = (ns[i].1, ((kept ps ((way (ns.take i)).take ns[i].2.toNat)).length : Int)) := by
        unfold nodeL
        rw [Int.toNat_natCast, anc_of hn, List.getD_eq_getElem?_getD, hn]
        rfl
      rw [way_snoc, eN, Int.toNat_natCast]
      generalize hA : kept ps ((way (ns.take i)).take ns[i].2.toNat) = A at hpre ⊢
      have lA : A.length ≤ ns[i].2.toNat := by
        rw [← hA]
        refine Nat.le_trans (List.length_filter_le ..) ?_
        rw [List.length_take]; omega
      have pV : A <+: (way R).map (fun j => ps.getD j.toNat 0) := hpre.trans h1
      have lV : A.length ≤ (way R).length := by have := pV.length_le; rw [List.length_map] at this; exact this
      have hl : R.length = (below ps i).length := by rw [← hR, List.length_map]
      have hg : ps.getD R.length 0 = (i : Int) := by rw [hl, List.getD_eq_getElem?_getD, below_len hp (by omega) hk]; rfl
      refine ⟨?_, ?_, ?_⟩
      · rw [List.map_append, List.map_take, prefix_eq pV, List.map_cons, List.map_nil, Int.toNat_natCast, hg]
        exact ⟨[], by simp⟩
      · exact depthOk_append.mpr ⟨h2, hm, by omega, by rw [h3]; show (A.length : Int) ≤ _; omega, trivial⟩
      · rw [deepAfter_append]
        show min ((A.length : Int) + 1) 12 = _
        rw [List.length_append, List.length_take, List.length_singleton]
        omega
    · rw [if_neg hk, List.append_nil, List.append_nil, hR]
      exact ⟨hpre.trans h1, h2, h3⟩
theorem left_ok {ns : List Nd} {ps : List Int} (hd : depthOk 0 ns) (hp : placesOk 0 ns.length ps) : depthOk 0 (leftN ns ps) := by
  have h := (left_inv hd hp ns.length (Nat.le_refl _)).2.1
  rw [below_all hp] at h
  exact h
theorem left_way {ns : List Nd} {ps : List Int} (hd : depthOk 0 ns) (hp : placesOk 0 ns.length ps) {k : Nat} {p : Int} (hk : ps[k]? = some p) : (anc (leftN ns ps) k).map (fun j => ps.getD j.toNat 0) = kept ps (anc ns p.toNat) := by
  obtain ⟨p0, p1⟩ := places_all hp p (List.mem_of_getElem? hk)
  have hi : p.toNat < ns.length := by omega
  obtain ⟨h1, _, _⟩ := left_inv hd hp p.toNat (by omega)
  rw [below_at hp (by omega) hk] at h1
  have e1 : (leftN ns ps)[k]? = some (nodeL ns ps p) := by unfold leftN; rw [List.getElem?_map, hk]; rfl
  rw [anc_of e1]
  have e2 : (leftN ns ps).take k = (ps.take k).map (nodeL ns ps) := by unfold leftN; rw [List.map_take]
  rw [e2, List.map_take]
  show List.take (((kept ps (anc ns p.toNat)).length : Int)).toNat _ = _
  rw [Int.toNat_natCast]
  refine prefix_eq (List.IsPrefix.trans (kept_prefix ?_) h1)
  unfold anc
  exact List.take_prefix ..
theorem hu1 {n : Nat} (h : n + 64 < cLine) : n + 1 < cLine := by omega
theorem fold_val (ps : List Int) : ∀ (acc : List (Key × V)) (j : Int), (valV ((ps.map fun q => ((Sum.inl q : Key), V.bl true)).foldl (fun a p => putK a p.1 p.2) acc) (Sum.inl j)).isSome = (decide (j ∈ ps) || (valV acc (Sum.inl j)).isSome) := by
  induction ps with
  | nil => intro acc j; simp
  | cons p r ih =>
    intro acc j
    rw [List.map_cons, List.foldl_cons, ih, valV_put]
    by_cases h : j = p
    · subst h; simp
    · have : ¬ ((Sum.inl j : Key) = Sum.inl p) := fun z => h (Sum.inl.inj z)
      simp [this, h]
end SH
namespace L2
open PySem PySem.Spec PyProof.Rows
section
variable {X : Cx}
def rRange1 : List V → Hp → VK → Prop := fun xs H Q => ∃ n : Int, xs = [.int n] ∧ ∀ r, H r = none → Q (.ref r) (upd H r (.rng 0 n))
def rRange2 : List V → Hp → VK → Prop := fun xs H Q => ∃ lo hi : Int, xs = [.int lo, .int hi] ∧ ∀ r, H r = none → Q (.ref r) (upd H r (.rng lo hi))
def rListR : List V → Hp → VK → Prop := fun xs H Q => ∃ (r : Addr) (lo hi : Int), xs = [.ref r] ∧ H r = some (.rng lo hi) ∧ (-(2 ^ 62) ≤ lo ∧ lo < 2 ^ 62 ∧ -(2 ^ 62) ≤ hi ∧ hi < 2 ^ 62) ∧ (hi - lo).toNat ≤ 900 ∧ ∀ l, H l = none → Q (.ref l) (upd H l (.lst (((List.range (hi - lo).toNat).map fun i : Nat => lo + (i : Int)).map V.int)))
end
end L2
namespace SH
open PySem L2
theorem placesOk_iff : ∀ {lo m : Int} {ps : List Int}, placesOk lo m ps ↔ (∀ p ∈ ps, lo ≤ p ∧ p < m) ∧ ps.Pairwise (· < ·)
  | _, _, [] => ⟨fun _ => ⟨(fun _ h => nomatch h), List.Pairwise.nil⟩, fun _ => trivial⟩
  | lo, m, p :: r => by
    constructor
    · rintro ⟨h1, h2, h3⟩
      obtain ⟨a, b⟩ := placesOk_iff.mp h3
      refine ⟨fun q hq => ?_, List.pairwise_cons.mpr ⟨fun q hq => by have := (a q hq).1; omega, b⟩⟩
      rcases List.mem_cons.mp hq with z | z
      · subst z; exact ⟨h1, h2⟩
      · have := a q z; omega
    · rintro ⟨a, b⟩
      obtain ⟨c, d⟩ := List.pairwise_cons.mp b
      have := a p List.mem_cons_self
      exact ⟨this.1, this.2, placesOk_iff.mpr ⟨fun q hq => ⟨by have := c q hq; omega, (a q (List.mem_cons_of_mem _ hq)).2⟩, d⟩⟩
def both (ps qs : List Int) : List Int := qs.map fun q => ps.getD q.toNat 0
theorem getD_at {α : Type} {ps : List α} {d : α} {q : Int} (h0 : 0 ≤ q) (h1 : q < ps.length) : ∃ h : q.toNat < ps.length, ps.getD q.toNat d = ps[q.toNat] := by
  have h : q.toNat < ps.length := by omega
  exact ⟨h, by rw [List.getD_eq_getElem?_getD, List.getElem?_eq_getElem h]; rfl⟩
theorem both_ok {m : Int} {ps qs : List Int} (hp : placesOk 0 m ps) (hq : placesOk 0 ps.length qs) : placesOk 0 m (both ps qs) := by
  obtain ⟨a, b⟩ := placesOk_iff.mp hp
  obtain ⟨c, d⟩ := placesOk_iff.mp hq
  refine placesOk_iff.mpr ⟨fun p h => ?_, ?_⟩
  · obtain ⟨q, hq', rfl⟩ := List.mem_map.mp h
    obtain ⟨h1, e⟩ := getD_at (d := (0 : Int)) (c q hq').1 (c q hq').2
    rw [e]
    exact a _ (List.getElem_mem h1)
  · refine List.pairwise_map.mpr (d.imp_of_mem fun {x y} hx hy hxy => ?_)
    obtain ⟨h1, e1⟩ := getD_at (d := (0 : Int)) (c x hx).1 (c x hx).2
    obtain ⟨h2, e2⟩ := getD_at (d := (0 : Int)) (c y hy).1 (c y hy).2
    rw [e1, e2]
    exact List.pairwise_iff_getElem.mp b _ _ h1 h2 (by have := (c x hx).1; omega)
theorem both_len (ps qs : List Int) : (both ps qs).length = qs.length := List.length_map _
def upTo (n : Nat) : List Int := (List.range n).map fun i : Nat => (0 : Int) + (i : Int)
theorem upTo_ok (n : Nat) : placesOk 0 n (upTo n) := by
  refine placesOk_iff.mpr ⟨fun p h => ?_, ?_⟩
  · obtain ⟨i, hi, rfl⟩ := List.mem_map.mp h
    have := List.mem_range.mp hi
    omega
  · refine List.pairwise_map.mpr (List.pairwise_lt_range.imp fun {x y} h => ?_)
    omega
theorem upTo_len (n : Nat) : (upTo n).length = n := by unfold upTo; rw [List.length_map, List.length_range]
theorem mem_upTo {n : Nat} {p : Int} (h0 : 0 ≤ p) (h1 : p < n) : p ∈ upTo n := List.mem_map.mpr ⟨p.toNat, List.mem_range.mpr (by omega), by omega⟩
theorem upTo_map {α : Type} (f : Int → α) (n : Nat) : (upTo n).map f = (List.range n).map fun i : Nat => f i := by
  unfold upTo
  rw [List.map_map]
  apply List.map_congr_left
  intro i _
  show f (0 + (i : Int)) = f i
  rw [Int.zero_add]
theorem range_getD {α : Type} (xs : List α) (d : α) : (List.range xs.length).map (fun i => xs.getD i d) = xs := by
  apply List.ext_getElem?
  intro i
  rw [List.getElem?_map]
  by_cases h : i < xs.length
  · rw [List.getElem?_range h, List.getElem?_eq_getElem h]
    show some (xs.getD i d) = _
    rw [List.getD_eq_getElem?_getD, List.getElem?_eq_getElem h]
    rfl
  · rw [List.getElem?_eq_none (by rw [List.length_range]; omega), List.getElem?_eq_none (by omega)]
    rfl
def leftR (xs : List V) (ps : List Int) : List V := ps.map fun i => xs.getD i.toNat .non
theorem leftR_both {xs : List V} {ps qs : List Int} (hq : placesOk 0 ps.length qs) : leftR (leftR xs ps) qs = leftR xs (both ps qs) := by
  unfold leftR both
  rw [List.map_map]
  apply List.map_congr_left
  intro q h
  obtain ⟨q0, q1⟩ := places_all hq q h
  obtain ⟨h1, e⟩ := getD_at (d := (0 : Int)) q0 q1
  show (ps.map fun i => xs.getD i.toNat .non).getD q.toNat .non = xs.getD (ps.getD q.toNat 0).toNat .non
  rw [e, List.getD_eq_getElem?_getD, List.getElem?_map, List.getElem?_eq_getElem h1]
  rfl
theorem leftR_all (xs : List V) : leftR xs (upTo xs.length) = xs := by
  unfold leftR
  rw [upTo_map]
  exact range_getD xs .non
theorem way_deep {ns : List Nd} (hd : depthOk 0 ns) : ∀ i, i ≤ ns.length → deepAfter 0 (ns.take i) = min ((way (ns.take i)).length : Int) 12 := by
  intro i
  induction i with
  | zero => intro _; rw [List.take_zero]; rfl
  | succ i ih =>
    intro hi
    have hn : ns[i]? = some ns[i] := List.getElem?_eq_getElem (by omega)
    have h := ih (by omega)
    obtain ⟨_, d0, d12⟩ := depth12 hd hn
    have e : ns = ns.take i ++ (ns[i] :: ns.drop (i + 1)) := by
      have q := List.take_append_drop (i + 1) ns
      rw [List.take_add_one, hn, List.append_assoc] at q
      exact q.symm
    have hd' := hd
    rw [e] at hd'
    obtain ⟨_, _, _, h3, _⟩ := depthOk_append.mp hd'
    rw [way_take hn, List.length_append, List.length_take, List.length_singleton]
    have e2 : ns.take (i + 1) = ns.take i ++ [ns[i]] := by rw [List.take_add_one, hn]; rfl
    rw [e2, deepAfter_append]
    show min (ns[i].2 + 1) 12 = _
    omega
theorem anc_full {ns : List Nd} (hd : depthOk 0 ns) {k : Nat} {n : Nd} (h : ns[k]? = some n) : ((anc ns k).length : Int) = n.2 := by
  have hk := (List.getElem?_eq_some_iff.mp h).1
  obtain ⟨_, d0, d12⟩ := depth12 hd h
  have e : ns = ns.take k ++ (n :: ns.drop (k + 1)) := by
    have q := List.take_append_drop (k + 1) ns
    rw [List.take_add_one, h, List.append_assoc] at q
    exact q.symm
  have hd' := hd
  rw [e] at hd'
  obtain ⟨_, _, _, h3, _⟩ := depthOk_append.mp hd'
  have w := way_deep hd k (by omega)
  rw [anc_of h, List.length_take]
  omega
theorem leftN_all {ns : List Nd} (hd : depthOk 0 ns) : leftN ns (upTo ns.length) = ns := by
  unfold leftN
  rw [upTo_map]
  refine Eq.trans ?_ (range_getD ns ("", 0))
  apply List.map_congr_left
  intro i hi
  have hi' := List.mem_range.mp hi
  have h : ns[i]? = some ns[i] := List.getElem?_eq_getElem hi'
  unfold nodeL
  rw [Int.toNat_natCast]
  have ek : kept (upTo ns.length) (anc ns i) = anc ns i := by
    unfold kept
    rw [List.filter_eq_self]
    intro j hj
    obtain ⟨j0, j1⟩ := anc_mem (ns := ns) (k := i) (by omega) j hj
    exact decide_eq_true (mem_upTo j0 (by omega))
  rw [ek, anc_full hd h, List.getD_eq_getElem?_getD, h]
  rfl
theorem leftN_both {ns : List Nd} {ps qs : List Int} (hd : depthOk 0 ns) (hp : placesOk 0 ns.length ps) (hq : placesOk 0 ps.length qs) : leftN (leftN ns ps) qs = leftN ns (both ps qs) := by
  obtain ⟨a, b⟩ := placesOk_iff.mp hp
  have hbo := both_ok hp hq
  unfold leftN
  show qs.map (nodeL (leftN ns ps) qs) = (qs.map fun q => ps.getD q.toNat 0).map (nodeL ns (both ps qs))
  rw [List.map_map]
  apply List.map_congr_left
  intro q h
  obtain ⟨q0, q1⟩ := places_all hq q h
  obtain ⟨h1, e⟩ := getD_at (d := (0 : Int)) q0 q1
  have hk : ps[q.toNat]? = some ps[q.toNat] := List.getElem?_eq_getElem h1
  show nodeL (leftN ns ps) qs q = nodeL ns (both ps qs) (ps.getD q.toNat 0)
  rw [e]
  have ew := left_way hd hp hk
  have lL : (leftN ns ps).length = ps.length := List.length_map _
  have e1 : ((leftN ns ps).getD q.toNat ("", 0)).1 = (ns.getD (ps[q.toNat]).toNat ("", 0)).1 := by
    unfold leftN
    rw [List.getD_eq_getElem?_getD, List.getElem?_map, hk]
    rfl
  unfold nodeL
  rw [e1]
  refine congrArg (fun n : Nat => ((ns.getD (ps[q.toNat]).toNat ("", 0)).1, (n : Int))) ?_
  have e2 : kept (both ps qs) (anc ns (ps[q.toNat]).toNat) = kept (both ps qs) (kept ps (anc ns (ps[q.toNat]).toNat)) := by
    unfold kept
    rw [List.filter_filter]
    apply List.filter_congr
    intro j _
    by_cases hj : j ∈ both ps qs
    · have : j ∈ ps := by
        obtain ⟨q', hq', rfl⟩ := List.mem_map.mp hj
        obtain ⟨c0, c1⟩ := places_all hq q' hq'
        obtain ⟨h2, e3⟩ := getD_at (d := (0 : Int)) c0 c1
        rw [e3]
        exact List.getElem_mem h2
      simp [hj, this]
    · simp [hj]
  rw [e2, ← ew]
  unfold kept
  rw [List.filter_map, List.length_map]
  refine congrArg List.length (List.filter_congr fun j hj => ?_)
  obtain ⟨j0, j1⟩ := anc_mem (ns := leftN ns ps) (k := q.toNat) (by omega) j hj
  have hjl : j < ps.length := by omega
  obtain ⟨h2, e3⟩ := getD_at (d := (0 : Int)) j0 hjl
  show decide (j ∈ qs) = decide (ps.getD j.toNat 0 ∈ both ps qs)
  refine decide_eq_decide.mpr ⟨fun z => List.mem_map.mpr ⟨j, z, rfl⟩, fun z => ?_⟩
  obtain ⟨q', hq', e4⟩ := List.mem_map.mp z
  obtain ⟨c0, c1⟩ := places_all hq q' hq'
  obtain ⟨h4, e5⟩ := getD_at (d := (0 : Int)) c0 c1
  rw [e3, e5] at e4
  have : q'.toNat = j.toNat := by
    rcases Nat.lt_trichotomy q'.toNat j.toNat with l | l | l
    · have := List.pairwise_iff_getElem.mp b _ _ h4 h2 l; omega
    · exact l
    · have := List.pairwise_iff_getElem.mp b _ _ h2 h4 l; omega
  have : q' = j := by omega
  rw [← this]
  exact hq'
theorem part_eq {n : Nat} : ∀ {lo m : Int} {ps : List Int}, placesOk lo m ps → ps = linesOf n ps ++ (colsOf n ps).map fun j => j + (n : Int)
  | _, _, [], _ => rfl
  | lo, m, p :: r, h => by
    obtain ⟨h1, h2, h3⟩ := h
    have ec : ∀ qs : List Int, (colsOf n qs).map (fun j => j + (n : Int)) = qs.filter fun i => decide ((n : Int) ≤ i) := fun qs => by
      unfold colsOf
      rw [List.map_map]
      have : ((fun j => j + (n : Int)) ∘ fun i => i - (n : Int)) = (id : Int → Int) := by funext x; show x - (n : Int) + n = x; omega
      rw [this, List.map_id]
    have ih := part_eq (n := n) h3
    rw [ec] at ih ⊢
    unfold linesOf at ih ⊢
    by_cases hp : p < (n : Int)
    · rw [List.filter_cons, if_pos (decide_eq_true hp), List.filter_cons, if_neg (by simp; omega), List.cons_append, ← ih]
    · have e1 : r.filter (fun i => decide (i < (n : Int))) = [] := by
        rw [List.filter_eq_nil_iff]
        intro x hx
        have := (places_all h3 x hx).1
        simp; omega
      have e2 : r.filter (fun i => decide ((n : Int) ≤ i)) = r := by
        rw [List.filter_eq_self]
        intro x hx
        have := (places_all h3 x hx).1
        simp; omega
      rw [List.filter_cons, if_neg (by simp; omega), List.filter_cons, if_pos (decide_eq_true (by omega)), e1, e2]
      rfl
theorem at_line {n : Nat} {m : Int} {ps : List Int} (hp : placesOk 0 m ps) {q : Int} (h0 : 0 ≤ q) (h1 : q < (linesOf n ps).length) : ps.getD q.toNat 0 = (linesOf n ps).getD q.toNat 0 := by
  have h : q.toNat < (linesOf n ps).length := by omega
  have e := part_eq (n := n) hp
  have g : ps[q.toNat]? = (linesOf n ps)[q.toNat]? := by
    have := congrArg (fun l : List Int => l[q.toNat]?) e
    rw [show ps[q.toNat]? = _ from this]
    rw [ List.getElem?_append_left h]
  rw [List.getD_eq_getElem?_getD, List.getD_eq_getElem?_getD, g]
theorem at_col {n : Nat} {m : Int} {ps : List Int} (hp : placesOk 0 m ps) {q : Int} (h0 : ((linesOf n ps).length : Int) ≤ q) (h1 : q < ps.length) : ps.getD q.toNat 0 = (colsOf n ps).getD (q - (linesOf n ps).length).toNat 0 + n := by
  have e := part_eq (n := n) hp
  have hl := part_len (n := n) ps
  have hc : (q - ((linesOf n ps).length : Int)).toNat < (colsOf n ps).length := by omega
  have g : ps[q.toNat]? = some ((colsOf n ps)[(q - ((linesOf n ps).length : Int)).toNat] + (n : Int)) := by
    have := congrArg (fun l : List Int => l[q.toNat]?) e
    rw [show ps[q.toNat]? = _ from this]
    rw [ List.getElem?_append_right (by omega), List.getElem?_map, show q.toNat - (linesOf n ps).length = (q - ((linesOf n ps).length : Int)).toNat by omega, List.getElem?_eq_getElem hc]
    rfl
  rw [List.getD_eq_getElem?_getD, List.getD_eq_getElem?_getD, g, List.getElem?_eq_getElem hc]
  rfl
theorem cols_nonneg {n : Nat} {ps : List Int} : ∀ i ∈ colsOf n ps, 0 ≤ i := fun i h => by
  obtain ⟨j, hj, rfl⟩ := List.mem_map.mp h
  have := of_decide_eq_true (List.mem_filter.mp hj).2
  omega
theorem line_iff {n : Nat} {m : Int} {ps : List Int} (hp : placesOk 0 m ps) {q : Int} (h0 : 0 ≤ q) (h1 : q < ps.length) : ps.getD q.toNat 0 < (n : Int) ↔ q < ((linesOf n ps).length : Int) := by
  constructor
  · intro z
    refine Decidable.byContradiction fun c => ?_
    have hl := part_len (n := n) ps
    have e := at_col (n := n) hp (by omega) h1
    obtain ⟨h2, e2⟩ := getD_at (ps := colsOf n ps) (d := (0 : Int)) (q := q - (linesOf n ps).length) (by omega) (by omega)
    have := cols_nonneg (n := n) (ps := ps) _ (List.getElem_mem h2)
    omega
  · intro z
    rw [at_line hp h0 z]
    obtain ⟨h2, e2⟩ := getD_at (ps := linesOf n ps) (d := (0 : Int)) h0 z
    rw [e2]
    exact (linesOf_all hp _ (List.getElem_mem h2)).2
theorem linesOf_both {n : Nat} {m : Int} {ps qs : List Int} (hp : placesOk 0 m ps) (hq : placesOk 0 ps.length qs) : linesOf n (both ps qs) = both (linesOf n ps) (linesOf (linesOf n ps).length qs) := by
  show ((qs.map fun q => ps.getD q.toNat 0).filter fun i => decide (i < (n : Int))) = (qs.filter fun i => decide (i < (((linesOf n ps).length : Nat) : Int))).map fun q => (linesOf n ps).getD q.toNat 0
  rw [List.filter_map]
  have e : qs.filter ((fun i => decide (i < (n : Int))) ∘ fun q => ps.getD q.toNat 0) = qs.filter fun i => decide (i < (((linesOf n ps).length : Nat) : Int)) := by
    apply List.filter_congr
    intro q h
    obtain ⟨q0, q1⟩ := places_all hq q h
    exact decide_eq_decide.mpr (line_iff hp q0 q1)
  rw [e]
  apply List.map_congr_left
  intro q h
  obtain ⟨ha, hb⟩ := List.mem_filter.mp h
  obtain ⟨q0, q1⟩ := places_all hq q ha
  exact at_line hp q0 (of_decide_eq_true hb)
theorem colsOf_both {n : Nat} {m : Int} {ps qs : List Int} (hp : placesOk 0 m ps) (hq : placesOk 0 ps.length qs) : colsOf n (both ps qs) = both (colsOf n ps) (colsOf (linesOf n ps).length qs) := by
  show ((qs.map fun q => ps.getD q.toNat 0).filter fun i => decide ((n : Int) ≤ i)).map (fun i => i - (n : Int)) = ((qs.filter fun i => decide ((((linesOf n ps).length : Nat) : Int) ≤ i)).map fun i => i - (((linesOf n ps).length : Nat) : Int)).map fun q => (colsOf n ps).getD q.toNat 0
  rw [List.filter_map, List.map_map, List.map_map]
  have e : qs.filter ((fun i => decide ((n : Int) ≤ i)) ∘ fun q => ps.getD q.toNat 0) = qs.filter fun i => decide ((((linesOf n ps).length : Nat) : Int) ≤ i) := by
    apply List.filter_congr
    intro q h
    obtain ⟨q0, q1⟩ := places_all hq q h
    have := line_iff (n := n) hp q0 q1
    refine decide_eq_decide.mpr ?_
    show (n : Int) ≤ ps.getD q.toNat 0 ↔ _
    omega
  rw [e]
  apply List.map_congr_left
  intro q h
  obtain ⟨ha, hb⟩ := List.mem_filter.mp h
  obtain ⟨q0, q1⟩ := places_all hq q ha
  have := at_col (n := n) hp (of_decide_eq_true hb) q1
  show ps.getD q.toNat 0 - (n : Int) = (colsOf n ps).getD (q - (((linesOf n ps).length : Nat) : Int)).toNat 0
  omega
theorem leftT_len (ls : List (List V)) (ps : List Int) : (leftT ls ps).length = (linesOf ls.length ps).length := List.length_map _
theorem leftT_both {ls : List (List V)} {m : Int} {ps qs : List Int} (hp : placesOk 0 m ps) (hq : placesOk 0 ps.length qs) : leftT (leftT ls ps) qs = leftT ls (both ps qs) ∧ (colsOf (leftT ls ps).length qs).length = (colsOf ls.length (both ps qs)).length := by
  have hl := part_len (n := ls.length) ps
  have hq' : placesOk 0 (((linesOf ls.length ps).length : Int) + ((colsOf ls.length ps).length : Int)) qs := by
    rw [show ((linesOf ls.length ps).length : Int) + ((colsOf ls.length ps).length : Int) = ps.length by omega]; exact hq
  refine ⟨?_, by rw [leftT_len, colsOf_both hp hq, both_len]⟩
  unfold leftT
  rw [linesOf_both hp hq, colsOf_both hp hq, List.length_map]
  unfold both
  rw [List.map_map]
  apply List.map_congr_left
  intro i hi
  obtain ⟨i0, i1⟩ := linesOf_all hq' i hi
  obtain ⟨h1, e1⟩ := getD_at (ps := linesOf ls.length ps) (d := (0 : Int)) i0 i1
  show _ = List.map _ (List.map _ _)
  rw [List.map_map]
  apply List.map_congr_left
  intro j hj
  obtain ⟨j0, j1⟩ := colsOf_all hq' j hj
  obtain ⟨h2, e2⟩ := getD_at (ps := colsOf ls.length ps) (d := (0 : Int)) j0 j1
  show ((List.map (fun i => (colsOf ls.length ps).map fun j => (ls.getD i.toNat []).getD j.toNat .non) (linesOf ls.length ps)).getD i.toNat []).getD j.toNat .non = (ls.getD ((linesOf ls.length ps).getD i.toNat 0).toNat []).getD ((colsOf ls.length ps).getD j.toNat 0).toNat .non
  rw [e1, e2, List.getD_eq_getElem?_getD (l := List.map _ (linesOf ls.length ps)), List.getElem?_map, List.getElem?_eq_getElem h1]
  show (List.map (fun j => (ls.getD (linesOf ls.length ps)[i.toNat].toNat []).getD j.toNat V.non) (colsOf ls.length ps)).getD j.toNat V.non = _
  rw [List.getD_eq_getElem?_getD, List.getElem?_map, List.getElem?_eq_getElem h2]
  rfl
theorem upTo_add (n w : Nat) : upTo (n + w) = upTo n ++ (upTo w).map fun j => j + (n : Int) := by
  unfold upTo
  rw [List.range_add, List.map_append, List.map_map, List.map_map]
  congr 1
  apply List.map_congr_left
  intro i _
  show (0 : Int) + ((n + i : Nat) : Int) = 0 + (i : Int) + (n : Int)
  omega
theorem lines_upTo (n w : Nat) : linesOf n (upTo (n + w)) = upTo n := by
  unfold linesOf
  rw [upTo_add, List.filter_append]
  have e1 : (upTo n).filter (fun i => decide (i < (n : Int))) = upTo n := by
    rw [List.filter_eq_self]
    intro x hx
    exact decide_eq_true (places_all (upTo_ok n) x hx).2
  have e2 : ((upTo w).map fun j => j + (n : Int)).filter (fun i => decide (i < (n : Int))) = [] := by
    rw [List.filter_eq_nil_iff]
    intro x hx
    obtain ⟨j, hj, rfl⟩ := List.mem_map.mp hx
    have := (places_all (upTo_ok w) j hj).1
    simp; omega
  rw [e1, e2, List.append_nil]
theorem cols_upTo (n w : Nat) : colsOf n (upTo (n + w)) = upTo w := by
  unfold colsOf
  rw [upTo_add, List.filter_append]
  have e1 : (upTo n).filter (fun i => decide ((n : Int) ≤ i)) = [] := by
    rw [List.filter_eq_nil_iff]
    intro x hx
    have := (places_all (upTo_ok n) x hx).2
    simp; omega
  have e2 : ((upTo w).map fun j => j + (n : Int)).filter (fun i => decide ((n : Int) ≤ i)) = (upTo w).map fun j => j + (n : Int) := by
    rw [List.filter_eq_self]
    intro x hx
    obtain ⟨j, hj, rfl⟩ := List.mem_map.mp hx
    have := (places_all (upTo_ok w) j hj).1
    simp; omega
  rw [e1, e2, List.nil_append, List.map_map]
  have : ((fun i => i - (n : Int)) ∘ fun j => j + (n : Int)) = (id : Int → Int) := by funext x; show x + (n : Int) - n = x; omega
  rw [this, List.map_id]
theorem leftT_all {ls : List (List V)} {w : Nat} (h : ∀ l ∈ ls, l.length = w) : leftT ls (upTo (ls.length + w)) = ls := by
  unfold leftT
  rw [lines_upTo, cols_upTo, upTo_map]
  refine Eq.trans ?_ (range_getD ls [])
  apply List.map_congr_left
  intro i hi
  have hi' := List.mem_range.mp hi
  rw [Int.toNat_natCast, upTo_map]
  have e : ls.getD i [] = ls[i] := by rw [List.getD_eq_getElem?_getD, List.getElem?_eq_getElem hi']; rfl
  have hw := h _ (List.getElem_mem hi')
  rw [e, ← hw]
  exact range_getD ls[i] .non
end SH
namespace L2
open PySem PySem.Spec PyProof.Rows
section
variable {X : Cx}
end
def TupF (H : Hp) (t : Addr) (xs : List V) : Prop := ∃ o : Obj, H t = some (.frz o (.tup xs)) ∧ o.cls = .type "tuple" ∧ o.dict = none
theorem TupF.sq {K : PySem.W.Frag} {H : Hp} {t : Addr} {xs : List V} (h : TupF H t xs) : SqT K H t xs := let ⟨o, e, _⟩ := h; .inl (.inr ⟨o, e⟩)
theorem TupF.keep {H H' : Hp} {t : Addr} {xs : List V} (s : ∀ b o, (∀ zs, o ≠ HO.lst zs) → H b = some o → H' b = some o) (h : TupF H t xs) : TupF H' t xs := let ⟨o, e, r⟩ := h; ⟨o, s _ (.frz o _) (fun _ z => nomatch z) e, r⟩
theorem TupF.to {H H' : Hp} {t : Addr} {xs : List V} (h : TupF H t xs) (s : ∀ o, H t = some (.frz o (.tup xs)) → H' t = some (.frz o (.tup xs))) : TupF H' t xs := let ⟨o, e, r⟩ := h; ⟨o, s o e, r⟩
section
variable {X : Cx}
end
end L2
namespace L2
open PySem PySem.Spec PyProof.Rows
theorem comp_tup {K : PySem.W.Frag} {a : Addr} {xs : List V} {x0 : Str} {ix : List Nat} {ti : TT} {te : TE} {Q : VK} {σ : St} {H : Hp} (Pv : Nat → List V → Hp → Prop) (h0 : Pv 0 [] H) (hl : ∀ i ys H, i ≤ xs.length → Pv i ys H → SqT K H a xs)
    (hs : ∀ i x ys H (R : List V → Hp → Prop), xs[i]? = some x → Pv i ys H → (∀ ys' H', Pv (i + 1) ys' H' → R ys' H') → ti (some x :: ix.map fun j => (σ[j]?).join) H fun b H3 => if b = true then te (some x :: ix.map fun j => (σ[j]?).join) H3 fun y H4 => ys.length < sizeLine ∧ R (ys ++ [y]) H4 else R ys H3)
    (hd : ∀ ys H, Pv xs.length ys H → ys.length ≤ sizeLine ∧ ∀ D, H D = none → Q (.ref D) (upd H D (.lst ys))) :
    ∃ W : Nat → Nat → List V → St → Hp → Prop, (∃ m, W 0 m [] (capS σ [x0] ix) H) ∧ ∀ i m ys σ' H, W i m ys σ' H →
      ((Itt K a).stop i H ∧ ys.length ≤ sizeLine ∧ ∀ D, H D = none → Q (.ref D) (upd H D (.lst ys))) ∨
      ((Itt K a).go i H ∧ ∀ x H', (Itt K a).yld i H x H' → gName 0 x σ' H' fun σ2 H2 => ti σ2 H2 fun b H3 => if b = true then te σ2 H3 fun y H4 => ys.length < sizeLine ∧ ∃ m', m' < m ∧ W (i + 1) m' (ys ++ [y]) σ2 H4 else ∃ m', m' < m ∧ W (i + 1) m' ys σ2 H3) := by
  refine ⟨fun i m ys σ' H => m = xs.length - i ∧ i ≤ xs.length ∧ (∃ o, σ' = o :: ix.map fun j => (σ[j]?).join) ∧ Pv i ys H, ⟨xs.length, by simp, Nat.zero_le _, ⟨none, rfl⟩, h0⟩, ?_⟩
  rintro i m ys σ' H ⟨rfl, hi, ⟨o, rfl⟩, p⟩
  have q := hl i ys H hi p
  by_cases hlt : i < xs.length
  · refine .inr ⟨⟨xs, xs[i], q, by simp [hlt]⟩, fun x H' y => ?_⟩
    obtain ⟨e, y⟩ := y
    subst e
    exact hs i x ys _ (fun ys' H4 => ∃ m', m' < xs.length - i ∧ m' = xs.length - (i + 1) ∧ i + 1 ≤ xs.length ∧ (∃ o', some x :: (ix.map fun j => (σ[j]?).join) = o' :: ix.map fun j => (σ[j]?).join) ∧ Pv (i + 1) ys' H4) (y xs q) p
      fun ys' H4 z => ⟨xs.length - (i + 1), by omega, rfl, hlt, ⟨_, rfl⟩, z⟩
  · have e : i = xs.length := by omega
    subst e
    exact .inl ⟨⟨xs, q, Nat.le_refl _⟩, hd ys H p⟩
theorem tcomp_tup {K : PySem.W.Frag} {a : Addr} {xs : List V} {x0 : Str} {ix : List Nat} {wi : TI} {ti : TT} {te : TE} {Q : VK} {σ : St} {H H1 : Hp} (hi : ∀ R : It → Hp → Prop, R (Itt K a) H1 → wi σ H R) (Pv : Nat → List V → Hp → Prop) (h0 : Pv 0 [] H1) (hl : ∀ i ys H, i ≤ xs.length → Pv i ys H → SqT K H a xs)
    (hs : ∀ i x ys H (R : List V → Hp → Prop), xs[i]? = some x → Pv i ys H → (∀ ys' H', Pv (i + 1) ys' H' → R ys' H') → ti (some x :: ix.map fun j => (σ[j]?).join) H fun b H3 => if b = true then te (some x :: ix.map fun j => (σ[j]?).join) H3 fun y H4 => ys.length < sizeLine ∧ R (ys ++ [y]) H4 else R ys H3)
    (hd : ∀ ys H, Pv xs.length ys H → ys.length ≤ sizeLine ∧ ∀ D, H D = none → Q (.ref D) (upd H D (.lst ys))) : tComp [x0] ix wi (gName 0) ti te σ H Q := hi _ (comp_tup Pv h0 hl hs hd)
end L2
namespace SH
open PySem L2
theorem _root_.L2.TupF.same {H H' : Hp} {t : Addr} {xs : List V} (s : Same H H') (h : TupF H t xs) : TupF H' t xs := let ⟨o, e, r⟩ := h; ⟨o, s _ _ e, r⟩
end SH
namespace L2
open PySem PySem.Spec PyProof.Rows
section
variable {X : Cx}
theorem Vals.strs : ∀ {zs : List Str} {us : List Value}, Vals (zs.map V.str) us → StrsAre us zs
  | [], _, .nil => .nil
  | _ :: _, _, .cons ⟨_, rfl⟩ t => .cons _ _ (Vals.strs t)
theorem vals_values : ∀ l : List (Str × Tok), Vals ((l.map (·.1)).map V.str) (strValues l)
  | [] => .nil
  | _ :: r => .cons ⟨_, rfl⟩ (vals_values r)
def rJoin (K : PySem.W.Frag) : V → List V → Hp → VK → Prop := fun x vs H Q => ∃ sp p zs, x = .str sp ∧ vs = [.ref p] ∧ (SqL K H p (zs.map V.str) ∨ SqT K H p (zs.map V.str)) ∧ sp.length ≤ 16 ∧ (zs.map (·.length)).sum + zs.length ≤ 1048576 ∧ Q (.str (Str.join sp zs)) H
theorem mt_join : MtM X "str.join" (rJoin X.K) := by
  intro pins s σ H x vs v us Q I rx rv h
  obtain ⟨sp, p, zs, rfl, rfl, hq, h16, hw, q⟩ := h
  obtain ⟨t, rfl⟩ := rx
  obtain ⟨u, rfl, ru⟩ := rv.one
  cases ru
  have go : ∀ t' k, EP X pins σ Q (.str (Txt.join sp zs) t') { s with toks := k } := fun t' k => ⟨.str _, H, I.tok _, ⟨_, rfl⟩, by rw [show Txt.join sp zs = Str.join sp zs from StrLaws.glued_eq_join sp zs]; exact q⟩
  rcases hq with hq | hq
  · obtain ⟨its, r, pl, hz⟩ := I.list hq
    exact join_listW pl.isList (by simpa using r.strs) h16 hw go
  · obtain ⟨its, r, pl, hz⟩ := I.tuple hq
    exact join_tupleW pl (by simpa using r.strs) h16 hw go
def rSplit : V → List V → Hp → VK → Prop := fun x vs H Q => ∃ z y, x = .str z ∧ vs = [.str y] ∧ (y.length == 0) = false ∧ z.length + 2 ≤ sizeLine ∧ ∀ l, H l = none → Q (.ref l) (upd H l (.lst ((Txt.split z y).map V.str)))
theorem mt_split : MtM X "str.split" rSplit := by
  intro pins s σ H x vs v us Q I rx rv h
  obtain ⟨z, y, rfl, rfl, hy, hz, q⟩ := h
  obtain ⟨t, rfl⟩ := rx
  obtain ⟨u, rfl, ru⟩ := rv.one
  obtain ⟨tu, rfl⟩ := ru
  have hl := split_le z y
  have go : ∀ {its : List Value} {k : Nat}, Vals ((Txt.split z y).map V.str) its → EP X pins σ Q (.ref s.heap.objs.size) { s with heap := s.heap.push { cls := .type "list", data := .seq its.toArray }, toks := k } := fun hv =>
    ⟨.ref _, _, I.lnew hv (by rw [List.length_map]; omega), rfl, q _ I.fresh⟩
  cases h1 : (decide (z.length < y.length) || decide (Builtin.Str.strKind z < Builtin.Str.strKind y))
  · cases hf : (Builtin.Str.occurrences z y 0 z.length (z.length + 1)).isEmpty
    · have e : Txt.split z y = Builtin.Str.partsBetween z (Builtin.Str.occurrences z y 0 z.length (z.length + 1)) y.length := (if_neg (ne_true_of_eq_false h1)).trans (if_neg (ne_true_of_eq_false hf))
      rw [e] at hl go
      refine call_meets F.slot_str_split (typeIs_str _ _ _) F.entry_str_split (F.args_str_split_2 _ _) (meets_str_split_sep z y t tu h1 hy hf (by omega) (by omega)) ?_
      refine go ?_
      rw [strsFrom_eq]
      have := vals_values (numbered s.toks (Builtin.Str.partsBetween z (Builtin.Str.occurrences z y 0 z.length (z.length + 1)) y.length))
      rw [numbered_texts] at this
      exact this
    · have e : Txt.split z y = [z] := (if_neg (ne_true_of_eq_false h1)).trans (if_pos hf)
      rw [e] at go
      refine call_meets F.slot_str_split (typeIs_str _ _ _) F.entry_str_split (F.args_str_split_2 _ _) (meets_str_split_not_found z y t tu h1 hy hf) ?_
      exact go (its := [.str z t]) (k := s.toks) (.cons ⟨_, rfl⟩ .nil)
  · have e : Txt.split z y = [z] := if_pos h1
    rw [e] at go
    refine call_meets F.slot_str_split (typeIs_str _ _ _) F.entry_str_split (F.args_str_split_2 _ _) (meets_str_split_cannot_occur z y t tu h1) ?_
    exact go (its := [.str z t]) (k := s.toks) (.cons ⟨_, rfl⟩ .nil)
def rPartition : V → List V → Hp → VK → Prop := fun x vs H Q => ∃ z y, x = .str z ∧ vs = [.str y] ∧ (y.length == 0) = false ∧ z.length ≤ sizeLine ∧ ∀ l, H l = none → Q (.ref l) (upd H l (.tup [.str (Txt.partition z y).1, .str (Txt.partition z y).2.1, .str (Txt.partition z y).2.2]))
theorem mt_partition : MtM X "str.partition" rPartition := by
  intro pins s σ H x vs v us Q I rx rv h
  obtain ⟨z, y, rfl, rfl, hy, hz, q⟩ := h
  obtain ⟨t, rfl⟩ := rx
  obtain ⟨u, rfl, ru⟩ := rv.one
  obtain ⟨tu, rfl⟩ := ru
  have go : ∀ {a b c : Str} {ta tb tc : Tok} {k : Nat}, (∀ l, H l = none → Q (.ref l) (upd H l (.tup [.str a, .str b, .str c]))) → EP X pins σ Q (.ref s.heap.objs.size) { s with heap := s.heap.push { cls := .type "tuple", data := .seq [Value.str a ta, .str b tb, .str c tc].toArray }, toks := k } := fun {a b c ta tb tc k} q' => by
    refine ⟨.ref _, _, I.laid (a := s.heap.objs.size) (o := .tup [.str a, .str b, .str c]) (t' := k) (fun b u e => Heap.get?_push_of_some _ e) (Nat.le_refl _) ?_, rfl, q' _ I.fresh⟩
    exact ⟨(show 3 ≤ sizeLine by decide), _, .cons ⟨_, rfl⟩ (.cons ⟨_, rfl⟩ (.cons ⟨_, rfl⟩ .nil)), IsTup.new _ _⟩
  refine call_meets F.slot_str_partition (typeIs_str _ _ _) F.entry_str_partition (F.args_str_partition_2 _ _) (meets_str_partition z y t tu hy hz) ?_
  unfold Txt.partition at q
  revert q
  cases Builtin.Str.occurrences z y 0 z.length 1 with
  | nil => intro q; exact go q
  | cons i r => intro q; exact go q
def Cx.quiet (X : Cx) : Cx := { X with xe := fun _ _ => False }
variable {pins : List (Addr × Obj)} {σ : St} {H : Hp} {s : Shared}
theorem Inv.quietly (I : Inv X pins σ H s) : Inv X.quiet pins σ H s :=
  ⟨⟨I.ok.mod, I.ok.kind, I.ok.glob, I.ok.blt, I.ok.above, I.ok.inj, I.ok.has, I.ok.cab, I.ok.hd, I.ok.frames, I.ok.stk, I.ok.exf, I.ok.bs, I.ok.bsz, I.ok.noex, I.ok.exfs, I.ok.funs, I.ok.frf⟩, I.os, I.bare, I.base, I.loc, I.cell, I.free, I.freeC, I.pin, I.hok, I.len⟩
theorem Inv.aloud (I : Inv X.quiet pins σ H s) : Inv X pins σ H s :=
  ⟨⟨I.ok.mod, I.ok.kind, I.ok.glob, I.ok.blt, I.ok.above, I.ok.inj, I.ok.has, I.ok.cab, I.ok.hd, I.ok.frames, I.ok.stk, I.ok.exf, I.ok.bs, I.ok.bsz, I.ok.noex, I.ok.exfs, I.ok.funs, I.ok.frf⟩, I.os, I.bare, I.base, I.loc, I.cell, I.free, I.freeC, I.pin, I.hok, I.len⟩
theorem ps_tryQ {body : List Stmt} {tb : TS} {h₀ : ExceptHandler} {hs : List ExceptHandler} {pos : Pos} (hb : PSs X.quiet body tb) : PS X (.Try body (h₀ :: hs) [] [] pos) tb := by
  intro pins s σ H D I h
  refine wpAny_Try_except (wpAny_mono (hb pins s σ H D I.quietly h) (fun fw s1 q => ?_) fun _ _ z => z.elim)
  cases fw with
  | next => obtain ⟨σ1, H1, I1, q1⟩ := q; exact wpAny_execs_nil ⟨σ1, H1, I1.aloud, q1⟩
  | brk => obtain ⟨σ1, H1, I1, q1⟩ := q; exact ⟨σ1, H1, I1.aloud, q1⟩
  | cont => obtain ⟨σ1, H1, I1, q1⟩ := q; exact ⟨σ1, H1, I1.aloud, q1⟩
  | ret u => obtain ⟨v, σ1, H1, I1, r1, q1⟩ := q; exact ⟨v, σ1, H1, I1.aloud, r1, q1⟩
end
end L2
namespace SH
open PySem PyProof.Rows L2
abbrev NdW := List Nat × Int
def freeC (c : Nat) (s : Str) : Prop := c ∉ s.cps.toList
theorem cut_first {c : Nat} : ∀ {a a' b b' : List Nat}, c ∉ a → c ∉ a' → a ++ c :: b = a' ++ c :: b' → a = a' ∧ b = b'
  | [], [], _, _, _, _, h => ⟨rfl, (List.cons.inj h).2⟩
  | [], x :: a', _, _, _, h2, h => absurd (show c ∈ x :: a' from (List.cons.inj h).1 ▸ List.mem_cons_self) h2
  | x :: a, [], _, _, h1, _, h => absurd (show c ∈ x :: a from (List.cons.inj h).1 ▸ List.mem_cons_self) h1
  | x :: a, y :: a', b, b', h1, h2, h => by
    have e := List.cons.inj h
    obtain ⟨i1, i2⟩ := cut_first (fun m => h1 (List.mem_cons_of_mem _ m)) (fun m => h2 (List.mem_cons_of_mem _ m)) e.2
    exact ⟨by rw [e.1, i1], i2⟩
theorem ext_l {a b : Str} (h : a.cps.toList = b.cps.toList) : a = b := Str.ext' (Array.toList_inj.mp h)
theorem app_l (a b : Str) : (a ++ b).cps.toList = a.cps.toList ++ b.cps.toList := by rw [Str.cps_append, Array.toList_append]
theorem one_l (c : Nat) (a b : Str) : (a ++ ⟨#[c]⟩ ++ b).cps.toList = a.cps.toList ++ c :: b.cps.toList := by
  rw [app_l, app_l, List.append_assoc]
  rfl
theorem join_inj {c : Nat} : ∀ {xs ys : List Str}, xs ≠ [] → ys ≠ [] → (∀ x ∈ xs, freeC c x) → (∀ y ∈ ys, freeC c y) → Str.join ⟨#[c]⟩ xs = Str.join ⟨#[c]⟩ ys → xs = ys
  | [], _, h, _, _, _, _ => absurd rfl h
  | _, [], _, h, _, _, _ => absurd rfl h
  | [x], [y], _, _, _, _, h => by rw [show x = y from h]
  | [x], y :: z :: r, _, _, hx, _, h => by
    refine absurd (show c ∈ x.cps.toList from ?_) (hx x List.mem_cons_self)
    rw [show x = y ++ ⟨#[c]⟩ ++ Str.join ⟨#[c]⟩ (z :: r) from h, one_l]
    exact List.mem_append_right _ List.mem_cons_self
  | x :: z :: r, [y], _, _, _, hy, h => by
    refine absurd (show c ∈ y.cps.toList from ?_) (hy y List.mem_cons_self)
    rw [show y = x ++ ⟨#[c]⟩ ++ Str.join ⟨#[c]⟩ (z :: r) from h.symm, one_l]
    exact List.mem_append_right _ List.mem_cons_self
  | x :: z :: r, y :: z' :: r', _, _, hx, hy, h => by
    have h' : x ++ ⟨#[c]⟩ ++ Str.join ⟨#[c]⟩ (z :: r) = y ++ ⟨#[c]⟩ ++ Str.join ⟨#[c]⟩ (z' :: r') := h
    have e := congrArg (fun s : Str => s.cps.toList) h'
    rw [one_l, one_l] at e
    obtain ⟨e1, e2⟩ := cut_first (hx x List.mem_cons_self) (hy y List.mem_cons_self) e
    rw [ext_l e1, join_inj (xs := z :: r) (ys := z' :: r') (List.cons_ne_nil _ _) (List.cons_ne_nil _ _) (fun a ha => hx a (List.mem_cons_of_mem _ ha)) (fun a ha => hy a (List.mem_cons_of_mem _ ha)) (ext_l e2)]
def catW : List Str → Str → Str
  | [], t => t
  | w :: ws, t => catW ws (t ++ " " ++ w)
theorem catW_app : ∀ (a b : List Str) (t : Str), catW (a ++ b) t = catW b (catW a t)
  | [], _, _ => rfl
  | w :: a, b, t => catW_app a b _
theorem catW_join : ∀ (w : Str) (ws : List Str) (t : Str), catW (w :: ws) t = t ++ " " ++ Str.join " " (w :: ws)
  | w, [], t => rfl
  | w, x :: ws, t => by
    show catW (x :: ws) (t ++ " " ++ w) = t ++ " " ++ (w ++ " " ++ Str.join " " (x :: ws))
    rw [catW_join x ws]
    simp only [Str.append_assoc]
theorem join_cons (s w : Str) {r : List Str} (h : r ≠ []) : Str.join s (w :: r) = w ++ s ++ Str.join s r := by
  cases r with
  | nil => exact absurd rfl h
  | cons x r => rfl
theorem join_app (s : Str) : ∀ {a b : List Str}, a ≠ [] → b ≠ [] → Str.join s (a ++ b) = Str.join s a ++ s ++ Str.join s b
  | [], _, h, _ => absurd rfl h
  | [w], b, _, hb => join_cons s w hb
  | w :: x :: a, b, _, hb => by
    show w ++ s ++ Str.join s ((x :: a) ++ b) = w ++ s ++ Str.join s (x :: a) ++ s ++ Str.join s b
    rw [join_app s (List.cons_ne_nil x a) hb]
    simp only [Str.append_assoc]
def wordsL : List Str → List Str
  | [] => ["-"]
  | x :: l => x :: l
def wordsT : List (List Str) → List Str
  | [] => []
  | [l] => wordsL l
  | l :: r => wordsL l ++ ("/" : Str) :: wordsT r
theorem wordsL_ne (l : List Str) : wordsL l ≠ [] := by cases l <;> exact List.cons_ne_nil _ _
theorem wordsT_cons (l : List Str) {r : List (List Str)} (h : r ≠ []) : wordsT (l :: r) = wordsL l ++ ("/" : Str) :: wordsT r := by
  cases r with
  | nil => exact absurd rfl h
  | cons x r => rfl
theorem wordsT_ne : ∀ {ls : List (List Str)}, ls ≠ [] → wordsT ls ≠ []
  | [], h => absurd rfl h
  | [l], _ => wordsL_ne l
  | l :: x :: r, _ => by rw [wordsT_cons l (List.cons_ne_nil _ _)]; exact List.append_ne_nil_of_right_ne_nil _ (List.cons_ne_nil _ _)
def showL (l : List Str) : Str := Str.join " " (wordsL l)
theorem showT_join : ∀ {ls : List (List Str)}, ls ≠ [] → Str.join " / " (ls.map showL) = Str.join " " (wordsT ls)
  | [], h => absurd rfl h
  | [l], _ => rfl
  | l :: x :: r, _ => by
    show showL l ++ " / " ++ Str.join " / " ((x :: r).map showL) = _
    rw [showT_join (List.cons_ne_nil x r), wordsT_cons l (List.cons_ne_nil x r), join_app " " (wordsL_ne l) (List.cons_ne_nil _ _), join_cons " " "/" (wordsT_ne (List.cons_ne_nil x r))]
    show showL l ++ " / " ++ _ = showL l ++ " " ++ ("/" ++ " " ++ _)
    rw [← Str.append_assoc, ← Str.append_assoc]
    rw [show (" / " : Str) = (" " : Str) ++ "/" ++ " " by decide +kernel]
    simp only [Str.append_assoc]
theorem wordsT_snoc : ∀ {ls : List (List Str)} (l : List Str), ls ≠ [] → wordsT (ls ++ [l]) = wordsT ls ++ ("/" : Str) :: wordsL l
  | [], _, h => absurd rfl h
  | [x], l, _ => rfl
  | x :: y :: r, l, _ => by
    show wordsT (x :: ((y :: r) ++ [l])) = _
    rw [wordsT_cons x (by simp), wordsT_snoc l (List.cons_ne_nil y r), wordsT_cons x (List.cons_ne_nil y r), List.append_assoc]
    rfl
def putW : List (List Str) → List Str → List (List Str)
  | ls, [] => ls
  | ls, w :: ws => putW (if w = "/" then ls ++ [[]] else if w = "-" then ls else ls.dropLast ++ [ls.getLastD [] ++ [w]]) ws
theorem putW_app : ∀ (a b : List Str) (ls : List (List Str)), putW ls (a ++ b) = putW (putW ls a) b
  | [], _, _ => rfl
  | w :: a, b, ls => putW_app a b _
theorem putW_line : ∀ (l : List Str) (ls : List (List Str)) (m : List Str), (∀ w ∈ l, w ≠ "/" ∧ w ≠ "-") → putW (ls ++ [m]) l = ls ++ [m ++ l]
  | [], ls, m, _ => by rw [List.append_nil]; rfl
  | w :: l, ls, m, h => by
    have hw := h w List.mem_cons_self
    unfold putW
    rw [if_neg hw.1, if_neg hw.2, List.dropLast_concat, show (ls ++ [m]).getLastD [] = m by simp, putW_line l ls (m ++ [w]) fun x hx => h x (List.mem_cons_of_mem _ hx), List.append_assoc]
    rfl
theorem putW_words (l : List Str) (ls : List (List Str)) (h : ∀ w ∈ l, w ≠ "/" ∧ w ≠ "-") : putW (ls ++ [[]]) (wordsL l) = ls ++ [l] := by
  cases l with
  | nil =>
    show putW (ls ++ [[]]) ["-"] = _
    unfold putW
    rw [if_neg (by decide +kernel), if_pos rfl]
    rfl
  | cons x l => exact putW_line (x :: l) ls [] h
theorem putW_all : ∀ {ls : List (List Str)} (ks : List (List Str)), ls ≠ [] → (∀ l ∈ ls, ∀ w ∈ l, w ≠ "/" ∧ w ≠ "-") → putW (ks ++ [[]]) (wordsT ls) = ks ++ ls
  | [], _, h, _ => absurd rfl h
  | [l], ks, _, hw => putW_words l ks (hw l List.mem_cons_self)
  | l :: x :: r, ks, _, hw => by
    rw [wordsT_cons l (List.cons_ne_nil x r), putW_app, putW_words l ks (hw l List.mem_cons_self)]
    unfold putW
    rw [if_pos rfl, putW_all (ls := x :: r) (ks ++ [l]) (List.cons_ne_nil x r) fun y hy => hw y (List.mem_cons_of_mem _ hy), List.append_assoc]
    rfl
theorem blank_eq : (" " : Str) = ⟨#[32]⟩ := by decide +kernel
theorem split_ne (x y : Str) : Txt.split x y ≠ [] := fun e => by
  have := split_pos x y
  rw [e] at this
  exact absurd this (by decide)
theorem split_join {ws : List Str} (h : ws ≠ []) (hf : ∀ w ∈ ws, freeC 32 w) : Txt.split (Str.join " " ws) " " = ws := by
  rw [blank_eq]
  exact join_inj (split_ne _ _) h (StrLaws.split_free _ 32) hf (StrLaws.join_split _ _)
theorem part_yes {a b : Str} (h : freeC 32 a) : Txt.partition (a ++ " " ++ b) " " = (a, (" " : Str), b) := by
  rw [blank_eq]
  have hs := StrLaws.partition_sum (a ++ ⟨#[32]⟩ ++ b) ⟨#[32]⟩
  have hh := partition_head (a ++ ⟨#[32]⟩ ++ b) ⟨#[32]⟩
  have hl := one_l 32 a b
  have hfound := StrLaws.found_one (a ++ ⟨#[32]⟩ ++ b) 32
  generalize a ++ ⟨#[32]⟩ ++ b = x at *
  rw [show decide (32 ∈ x.cps.toList) = true from decide_eq_true (by rw [hl]; exact List.mem_append_right _ List.mem_cons_self)] at hfound
  unfold Txt.partition at *
  cases ho : Builtin.Str.occurrences x ⟨#[32]⟩ 0 x.length 1 with
  | nil => rw [ho] at hfound; exact absurd hfound (by decide)
  | cons i r =>
    rw [ho] at hs hh
    dsimp only at hs hh ⊢
    have e := congrArg (fun s : Str => s.cps.toList) hs
    rw [one_l] at e
    have e' := e.trans hl
    have f1 : 32 ∉ (Builtin.Str.strSub x 0 i).cps.toList := by
      rcases hh with ⟨h1, h2⟩ | ⟨j, h1, h2, h3⟩
      · rw [h1]
        intro hm
        obtain ⟨k, hk⟩ := List.getElem?_of_mem hm
        exact h2 k ((StrLaws.subAt_one x 32 k).mpr hk)
      · rw [h1]
        exact StrLaws.part_free x 32 0 j (by have := h2.1; omega) fun k _ hk => h3 k hk
    obtain ⟨e1, e2⟩ := cut_first f1 h e'
    rw [ext_l e1, ext_l e2]
theorem part_no {a : Str} (h : freeC 32 a) : Txt.partition a " " = (a, Str.empty, Str.empty) := by
  rw [blank_eq]
  have hfound := StrLaws.found_one a 32
  rw [show decide (32 ∈ a.cps.toList) = false from decide_eq_false h] at hfound
  unfold Txt.partition
  cases ho : Builtin.Str.occurrences a ⟨#[32]⟩ 0 a.length 1 with
  | nil => rfl
  | cons i r => rw [ho] at hfound; exact nomatch (show true = false from hfound)
def sV : V → Str
  | .str z => z
  | _ => Str.empty
theorem sV_map {xs : List V} (h : xs.all markV = true) : (xs.map sV).map V.str = xs := by
  rw [List.map_map]
  conv => rhs; rw [← List.map_id xs]
  refine List.map_congr_left fun v hv => ?_
  have := List.all_eq_true.mp h v hv
  cases v with
  | str z => rfl
  | _ => exact nomatch (show false = true from this)
theorem sV_marks {xs : List V} (h : xs.all markV = true) : ∀ z ∈ xs.map sV, markS z = true := fun z hz => by
  obtain ⟨v, hv, rfl⟩ := List.mem_map.mp hz
  have := List.all_eq_true.mp h v hv
  cases v with
  | str z => exact this
  | _ => exact nomatch (show false = true from this)
theorem letC_not {c : Nat} (h : letC c = true) : c ≠ 32 ∧ c ≠ 40 ∧ c ≠ 41 ∧ c ≠ 44 ∧ c ≠ 45 ∧ c ≠ 47 := by
  refine ⟨?_, ?_, ?_, ?_, ?_, ?_⟩ <;> (rintro rfl; revert h; decide +kernel)
theorem mark_free {z : Str} (h : markS z = true) : freeC 32 z := fun m => (letC_not ((mark_all h).2.2 _ m)).1 rfl
theorem mark_no {z : Str} (h : markS z = true) : z ≠ "/" ∧ z ≠ "-" := by
  have q := (mark_all h).2.2
  refine ⟨fun e => ?_, fun e => ?_⟩
  · exact (letC_not (q 47 (by rw [e]; decide +kernel))).2.2.2.2.2 rfl
  · exact (letC_not (q 45 (by rw [e]; decide +kernel))).2.2.2.2.1 rfl
def wordS (w : Str) : Prop := markS w = true ∨ w = "/" ∨ w = "-"
theorem word_len {w : Str} (h : wordS w) : 1 ≤ w.length ∧ w.length ≤ 8 := by
  rcases h with h | rfl | rfl
  · exact ⟨(mark_all h).1, (mark_all h).2.1⟩
  · decide +kernel
  · decide +kernel
theorem word_free {w : Str} (h : wordS w) : freeC 32 w := by
  rcases h with h | rfl | rfl
  · exact mark_free h
  · unfold freeC; decide +kernel
  · unfold freeC; decide +kernel
theorem sum_len : ∀ {ws : List Str}, (∀ w ∈ ws, wordS w) → (ws.map (·.length)).sum ≤ 8 * ws.length
  | [], _ => Nat.le_refl _
  | w :: ws, h => by
    have := (word_len (h w List.mem_cons_self)).2
    have := sum_len fun v hv => h v (List.mem_cons_of_mem w hv)
    simp only [List.map_cons, List.sum_cons, List.length_cons]
    omega
theorem join_len {ws : List Str} (h : ∀ w ∈ ws, wordS w) : (Str.join " " ws).length ≤ 9 * ws.length := by
  have h1 := StrLaws.join_length_le " " ws
  have h2 := sum_len h
  rw [show (" " : Str).length = 1 by decide +kernel] at h1
  omega
theorem join_ne {ws : List Str} (h : ∀ w ∈ ws, wordS w) (hn : ws ≠ []) : 1 ≤ (Str.join " " ws).length := by
  cases ws with
  | nil => exact absurd rfl hn
  | cons w r =>
    have := (word_len (h w List.mem_cons_self)).1
    cases r with
    | nil => exact this
    | cons v r =>
      show 1 ≤ (w ++ " " ++ Str.join " " (v :: r)).length
      rw [Str.length_append, Str.length_append]
      omega
theorem words_line {l : List Str} (h : ∀ z ∈ l, markS z = true) : ∀ w ∈ wordsL l, wordS w := by
  cases l with
  | nil => intro w hw; rw [List.mem_singleton.mp hw]; exact .inr (.inr rfl)
  | cons x l => exact fun w hw => .inl (h w hw)
theorem words_lines : ∀ {ls : List (List Str)}, (∀ l ∈ ls, ∀ z ∈ l, markS z = true) → ∀ w ∈ wordsT ls, wordS w
  | [], _, w, hw => nomatch hw
  | [l], h, w, hw => words_line (h l List.mem_cons_self) w hw
  | l :: x :: r, h, w, hw => by
    rw [wordsT_cons l (List.cons_ne_nil x r)] at hw
    rcases List.mem_append.mp hw with hw | hw
    · exact words_line (h l List.mem_cons_self) w hw
    · rcases List.mem_cons.mp hw with rfl | hw
      · exact .inr (.inl rfl)
      · exact words_lines (ls := x :: r) (fun y hy => h y (List.mem_cons_of_mem _ hy)) w hw
theorem words_many {n : Nat} : ∀ {ls : List (List Str)}, (∀ l ∈ ls, l.length ≤ n) → (wordsT ls).length ≤ (n + 2) * ls.length
  | [], _ => Nat.zero_le _
  | [l], h => by
    have := h l List.mem_cons_self
    show (wordsL l).length ≤ (n + 2) * 1
    cases l with
    | nil => show 1 ≤ _; omega
    | cons x l => show (x :: l).length ≤ _; omega
  | l :: x :: r, h => by
    have h1 := h l List.mem_cons_self
    have ih := words_many (ls := x :: r) fun y hy => h y (List.mem_cons_of_mem _ hy)
    rw [wordsT_cons l (List.cons_ne_nil x r), List.length_append, List.length_cons]
    have h2 : (wordsL l).length ≤ n + 1 := by
      cases l with
      | nil => show 1 ≤ _; omega
      | cons x l => show (x :: l).length ≤ _; omega
    rw [show (l :: x :: r).length = (x :: r).length + 1 from rfl, Nat.mul_add]
    omega
theorem cat_len {ws : List Str} (h : ∀ w ∈ ws, wordS w) (t : Str) : (catW ws t).length ≤ t.length + 1 + 9 * ws.length := by
  cases ws with
  | nil => show t.length ≤ _; omega
  | cons w r =>
    rw [catW_join, Str.length_append, Str.length_append, show (" " : Str).length = 1 by decide +kernel]
    have := join_len h
    omega
theorem join_split' {ws : List Str} (h : ∀ w ∈ ws, wordS w) (hn : ws ≠ []) : Txt.split (Str.join " " ws) " " = ws := split_join hn fun w hw => word_free (h w hw)
theorem cat_cut {ws : List Str} {t : Str} (ht : freeC 32 t) : (Txt.partition (catW ws t) " ").1 = t ∧ (Txt.partition (catW ws t) " ").2.2 = Str.join " " ws := by
  cases ws with
  | nil =>
    show (Txt.partition t " ").1 = t ∧ (Txt.partition t " ").2.2 = Str.empty
    rw [part_no ht]
    exact ⟨rfl, rfl⟩
  | cons w r =>
    rw [catW_join, part_yes ht]
    exact ⟨rfl, rfl⟩
end SH
namespace K34
open PySem L2 SH
local macro_rules | `(tactic| and_intros) => `(tactic| simp only [rExtend, rSetL, gSub, iRng3, tSeq, tNext, tRet, tRetN, tAsg, tIfS, tDrop, tVar, tC, tOp, tUn, rI0, rI, rU, rEq, rNe, tTest, tB, tCB, tCons, tNil, tLst, tTup, tSl, tNoPart, tPart, rSlS, rSlL, rIxL, rIxT, rIxS, tCall, tMeth, tMake, tAnd, tOr, tNot, tAndV, tOrV, tNotV, tIf, tChain, gName, tFld, sFld, tBM, tBM0, rAppend, rInsert, tRaise, tNever, CDiv, CMul, L2.start, scal_ii, scal_ss, scal_bb, cxOf, cxOfN, Cx.suite, Cx.comp, rLenL, rLenT, rListL, rListT, rTupL, rTupT, rIsiT, iRng1, iRng2, iList, iTup, iStr, gTup, gCons, gNil, iEnumT, tDIn, rDictP, rRange1, rRange2, rListR, rJoin, rSplit, rPartition, List.set_cons_zero, List.set_cons_succ, List.getElem?_cons_zero, List.getElem?_cons_succ, List.map_cons, List.map_nil, List.length_cons, List.length_nil, List.replicate_succ, List.replicate_zero, Nat.reduceSub, Nat.reduceAdd, List.cons_append, List.nil_append, List.append_nil, V.int.injEq, V.str.injEq, V.bl.injEq, V.ref.injEq, V.ty.injEq, Option.some.injEq, List.cons.injEq, exists_eq_left', exists_eq_left, exists_eq_right, exists_eq_right', exists_and_left, exists_and_right, and_true, true_and, and_assoc, decide_eq_true_eq, Bool.not_eq_true', decide_eq_false_iff_not, Bool.not_true, Bool.not_false, Bool.false_eq_true, if_false, if_true, eq_self, Bool.not_eq_true, Bool.true_eq_false, reduceCtorEq, false_and, exists_false, exists_const, List.reduceReplicate, Int.reduceLT, Int.reduceLE, Nat.reduceLT, Nat.reduceLeDiff, Int.reduceNeg, List.getElem?_nil, Option.join_some, Option.join_none, List.set_nil, ite_self, not_true_eq_false, not_false_eq_true])
def top (i : Nat) : Stmt := PySem.Challenge.pw_shrinkhouse_k34_rows_and_tables_as_texts.main.body.getD i (.Pass ⟨0, 0, 0, 0⟩)
abbrev s_is_whole : Stmt := top 9
abbrev s_is_mark : Stmt := top 10
abbrev s_check_list : Stmt := top 17
abbrev s_check_marks : Stmt := top 18
abbrev s_check_node : Stmt := top 19
abbrev s_check_nodes : Stmt := top 20
abbrev s_check_lines : Stmt := top 21
abbrev s_check_places : Stmt := top 22
abbrev s_marks_at : Stmt := top 23
abbrev s_Thing_init : Stmt := inClass (top 24) 0
abbrev s_Row_init : Stmt := inClass (top 25) 0
abbrev s_Row_many : Stmt := inClass (top 25) 1
abbrev s_Row_left : Stmt := inClass (top 25) 2
abbrev s_Row_form : Stmt := inClass (top 25) 3
abbrev s_Forest_init : Stmt := inClass (top 26) 0
abbrev s_Forest_many : Stmt := inClass (top 26) 1
abbrev s_Forest_left : Stmt := inClass (top 26) 2
abbrev s_Forest_form : Stmt := inClass (top 26) 3
abbrev s_Table_init : Stmt := inClass (top 27) 0
abbrev s_Table_many : Stmt := inClass (top 27) 1
abbrev s_Table_left : Stmt := inClass (top 27) 2
abbrev s_Table_form : Stmt := inClass (top 27) 3
abbrev s_show_line : Stmt := top 29
abbrev s_show_nodes : Stmt := top 31
abbrev s_show_thing : Stmt := top 32
abbrev s_nodes_in : Stmt := top 33
abbrev s_lines_in : Stmt := top 34
abbrev s_marks_in : Stmt := top 35
abbrev s_made_of : Stmt := top 36
abbrev s_read_thing : Stmt := top 37
abbrev s__law_cell_at : Stmt := top 39
abbrev s__law_mix : Stmt := top 40
abbrev s__law_how_many : Stmt := top 41
abbrev s__law_marks : Stmt := top 42
abbrev s__law_pick : Stmt := top 43
abbrev s__law_cells : Stmt := top 44
abbrev s__law_lines : Stmt := top 45
abbrev s__law_some : Stmt := top 46
abbrev s__law_table_by : Stmt := top 47
abbrev s__law_text : Stmt := top 48
abbrev s_law : Stmt := top 49
theorem sc_is_whole : FnScope ["thing"] ["thing"] (defScope s_is_whole) := ⟨rfl, rfl, rfl, by decide +kernel, rfl, by decide +kernel, by decide +kernel⟩
theorem sc_is_mark : FnScope ["thing"] ["thing"] (defScope s_is_mark) := ⟨rfl, rfl, rfl, by decide +kernel, rfl, by decide +kernel, by decide +kernel⟩
theorem sc_check_list : FnScope ["thing", "most"] ["thing", "most"] (defScope s_check_list) := ⟨rfl, rfl, rfl, by decide +kernel, rfl, by decide +kernel, by decide +kernel⟩
theorem sc_check_marks : FnScope ["marks", "most", "mark"] ["marks", "most"] (defScope s_check_marks) := ⟨rfl, rfl, rfl, by decide +kernel, rfl, by decide +kernel, by decide +kernel⟩
theorem sc_check_node : FnScope ["node", "deepest"] ["node", "deepest"] (defScope s_check_node) := ⟨rfl, rfl, rfl, by decide +kernel, rfl, by decide +kernel, by decide +kernel⟩
theorem sc_check_nodes : FnScope ["nodes", "deepest", "node"] ["nodes"] (defScope s_check_nodes) := ⟨rfl, rfl, rfl, by decide +kernel, rfl, by decide +kernel, by decide +kernel⟩
theorem sc_check_lines : FnScope ["lines", "line"] ["lines"] (defScope s_check_lines) := ⟨rfl, rfl, rfl, by decide +kernel, rfl, by decide +kernel, by decide +kernel⟩
theorem sc_check_places : FnScope ["places", "many", "lowest", "place"] ["places", "many"] (defScope s_check_places) := ⟨rfl, rfl, rfl, by decide +kernel, rfl, by decide +kernel, by decide +kernel⟩
theorem sc_marks_at : FnScope ["marks", "places"] ["marks", "places"] (defScope s_marks_at) := ⟨rfl, rfl, rfl, by decide +kernel, rfl, by decide +kernel, by decide +kernel⟩
theorem sc_Thing_init : FnScope ["self", "spot_marks"] ["self", "spot_marks"] (defScope s_Thing_init) := ⟨rfl, rfl, rfl, by decide +kernel, rfl, by decide +kernel, by decide +kernel⟩
theorem sc_Row_init : FnScope ["self", "marks"] ["self", "marks"] (defScope s_Row_init) := ⟨rfl, rfl, rfl, by decide +kernel, rfl, by decide +kernel, by decide +kernel⟩
theorem sc_Row_many : FnScope ["self"] ["self"] (defScope s_Row_many) := ⟨rfl, rfl, rfl, by decide +kernel, rfl, by decide +kernel, by decide +kernel⟩
theorem sc_Row_left : FnScope ["self", "places"] ["self", "places"] (defScope s_Row_left) := ⟨rfl, rfl, rfl, by decide +kernel, rfl, by decide +kernel, by decide +kernel⟩
theorem sc_Row_form : FnScope ["self"] ["self"] (defScope s_Row_form) := ⟨rfl, rfl, rfl, by decide +kernel, rfl, by decide +kernel, by decide +kernel⟩
theorem sc_Forest_init : FnScope ["self", "nodes"] ["self", "nodes"] (defScope s_Forest_init) := ⟨rfl, rfl, rfl, by decide +kernel, rfl, by decide +kernel, by decide +kernel⟩
theorem sc_Forest_many : FnScope ["self"] ["self"] (defScope s_Forest_many) := ⟨rfl, rfl, rfl, by decide +kernel, rfl, by decide +kernel, by decide +kernel⟩
theorem sc_Forest_left : FnScope ["self", "places", "kept", "rest", "above", "place", "node", "depth"] ["self", "places"] (defScope s_Forest_left) := ⟨rfl, rfl, rfl, by decide +kernel, rfl, by decide +kernel, by decide +kernel⟩
theorem sc_Forest_form : FnScope ["self"] ["self"] (defScope s_Forest_form) := ⟨rfl, rfl, rfl, by decide +kernel, rfl, by decide +kernel, by decide +kernel⟩
theorem sc_Table_init : FnScope ["self", "lines", "spot_marks", "line"] ["self", "lines"] (defScope s_Table_init) := ⟨rfl, rfl, rfl, by decide +kernel, rfl, by decide +kernel, by decide +kernel⟩
theorem sc_Table_many : FnScope ["self"] ["self"] (defScope s_Table_many) := ⟨rfl, rfl, rfl, by decide +kernel, rfl, by decide +kernel, by decide +kernel⟩
theorem sc_Table_left : FnScope ["self", "places", "first_column", "lines", "columns", "rest"] ["self", "places"] (defScope s_Table_left) := ⟨rfl, rfl, rfl, by decide +kernel, rfl, by decide +kernel, by decide +kernel⟩
theorem sc_Table_form : FnScope ["self"] ["self"] (defScope s_Table_form) := ⟨rfl, rfl, rfl, by decide +kernel, rfl, by decide +kernel, by decide +kernel⟩
theorem sc_show_line : FnScope ["line"] ["line"] (defScope s_show_line) := ⟨rfl, rfl, rfl, by decide +kernel, rfl, by decide +kernel, by decide +kernel⟩
theorem sc_show_nodes : FnScope ["nodes", "shown", "last", "mark", "depth"] ["nodes"] (defScope s_show_nodes) := ⟨rfl, rfl, rfl, by decide +kernel, rfl, by decide +kernel, by decide +kernel⟩
theorem sc_show_thing : FnScope ["thing", "form", "kind", "inside"] ["thing"] (defScope s_show_thing) := ⟨rfl, rfl, rfl, by decide +kernel, rfl, by decide +kernel, by decide +kernel⟩
theorem sc_nodes_in : FnScope ["text", "nodes", "depth", "word"] ["text"] (defScope s_nodes_in) := ⟨rfl, rfl, rfl, by decide +kernel, rfl, by decide +kernel, by decide +kernel⟩
theorem sc_lines_in : FnScope ["text", "lines", "word"] ["text"] (defScope s_lines_in) := ⟨rfl, rfl, rfl, by decide +kernel, rfl, by decide +kernel, by decide +kernel⟩
theorem sc_marks_in : FnScope ["text"] ["text"] (defScope s_marks_in) := ⟨rfl, rfl, rfl, by decide +kernel, rfl, by decide +kernel, by decide +kernel⟩
theorem sc_made_of : FnScope ["kind", "inside"] ["kind", "inside"] (defScope s_made_of) := ⟨rfl, rfl, rfl, by decide +kernel, rfl, by decide +kernel, by decide +kernel⟩
theorem sc_read_thing : FnScope ["text", "parts", "thing"] ["text"] (defScope s_read_thing) := ⟨rfl, rfl, rfl, by decide +kernel, rfl, by decide +kernel, by decide +kernel⟩
theorem sc__law_cell_at : FnScope ["_law_script", "_law_k"] ["_law_script", "_law_k"] (defScope s__law_cell_at) := ⟨rfl, rfl, rfl, by decide +kernel, rfl, by decide +kernel, by decide +kernel⟩
theorem sc__law_mix : FnScope ["_law_seed", "_law_k", "_law_number"] ["_law_seed", "_law_k"] (defScope s__law_mix) := ⟨rfl, rfl, rfl, by decide +kernel, rfl, by decide +kernel, by decide +kernel⟩
theorem sc__law_how_many : FnScope ["_law_number"] ["_law_number"] (defScope s__law_how_many) := ⟨rfl, rfl, rfl, by decide +kernel, rfl, by decide +kernel, by decide +kernel⟩
theorem sc__law_marks : FnScope ["_law_cell", "_law_many", "_law_letters", "_law_base", "_law_at", "_law_first", "_law_step"] ["_law_cell", "_law_many"] (defScope s__law_marks) := ⟨rfl, rfl, rfl, by decide +kernel, rfl, by decide +kernel, by decide +kernel⟩
theorem sc__law_pick : FnScope ["_law_cell", "_law_marks_here"] ["_law_cell", "_law_marks_here"] (defScope s__law_pick) := ⟨rfl, rfl, rfl, by decide +kernel, rfl, by decide +kernel, by decide +kernel⟩
theorem sc__law_cells : FnScope ["_law_script", "_law_begin", "_law_seed", "_law_many", "_law_cells_here", "_law_rest", "_law_k"] ["_law_script", "_law_begin", "_law_seed", "_law_many"] (defScope s__law_cells) := ⟨rfl, rfl, rfl, by decide +kernel, rfl, by decide +kernel, by decide +kernel⟩
theorem sc__law_lines : FnScope ["_law_cells_here", "_law_marks_here", "_law_wide", "_law_lines_here", "_law_k"] ["_law_cells_here", "_law_marks_here", "_law_wide"] (defScope s__law_lines) := ⟨rfl, rfl, rfl, by decide +kernel, rfl, by decide +kernel, by decide +kernel⟩
theorem sc__law_some : FnScope ["_law_cell", "_law_many", "_law_some_here", "_law_rest", "_law_way", "_law_k", "_law_kept"] ["_law_cell", "_law_many"] (defScope s__law_some) := ⟨rfl, rfl, rfl, by decide +kernel, rfl, by decide +kernel, by decide +kernel⟩
theorem sc__law_table_by : FnScope ["_law_script", "_law_begin", "_law_marks_here", "_law_seed", "_law_lines_here", "_law_rest", "_law_k", "_law_line", "_law_j", "_law_wide"] ["_law_script", "_law_begin", "_law_marks_here"] (defScope s__law_table_by) := ⟨rfl, rfl, rfl, by decide +kernel, rfl, by decide +kernel, by decide +kernel⟩
theorem sc__law_text : FnScope ["_law_form", "_law_text_here", "_law_mark", "_law_k"] ["_law_form"] (defScope s__law_text) := ⟨rfl, rfl, rfl, by decide +kernel, rfl, by decide +kernel, by decide +kernel⟩
theorem sc_law : FnScope ["_law_script", "_law_seed", "_law_marks_here", "_law_one", "_law_form", "_law_text_here", "_law_found"] ["_law_script"] (defScope s_law) := ⟨rfl, rfl, rfl, by decide +kernel, rfl, by decide +kernel, by decide +kernel⟩
structure Adr where
  ShrinkError : Addr
  NoThing : Addr
  NoPlace : Addr
  NoText : Addr
  Thing : Addr
  Row : Addr
  Forest : Addr
  Table : Addr
structure Txt (K : PySem.W.Frag) (mg : Str → Option Value) (ad : Adr) : Prop where
  all : mg "all" = none
  bool : mg "bool" = none
  dict : mg "dict" = none
  enumerate : mg "enumerate" = none
  int : mg "int" = none
  isinstance : mg "isinstance" = none
  len : mg "len" = none
  list : mg "list" = none
  max : mg "max" = none
  min : mg "min" = none
  range : mg "range" = none
  str : mg "str" = none
  tuple : mg "tuple" = none
  c_ShrinkError : mg "ShrinkError" = some (.ref ad.ShrinkError)
  c_NoThing : mg "NoThing" = some (.ref ad.NoThing)
  c_NoPlace : mg "NoPlace" = some (.ref ad.NoPlace)
  c_NoText : mg "NoText" = some (.ref ad.NoText)
  c_Thing : mg "Thing" = some (.ref ad.Thing)
  c_Row : mg "Row" = some (.ref ad.Row)
  c_Forest : mg "Forest" = some (.ref ad.Forest)
  c_Table : mg "Table" = some (.ref ad.Table)
  g_LETTERS : ∃ t, mg "LETTERS" = some (.str LET t)
  g_LONGEST_MARK : ∃ t, mg "LONGEST_MARK" = some (.int 8 t)
  g_MOST_IN_ROW : ∃ t, mg "MOST_IN_ROW" = some (.int 40 t)
  g_MOST_NODES : ∃ t, mg "MOST_NODES" = some (.int 40 t)
  g_DEEPEST : ∃ t, mg "DEEPEST" = some (.int 12 t)
  g_MOST_LINES : ∃ t, mg "MOST_LINES" = some (.int 12 t)
  g_MOST_COLUMNS : ∃ t, mg "MOST_COLUMNS" = some (.int 12 t)
  e_NoPlace : ExcCls K mg "NoPlace" ad.NoPlace
  lk_NoPlace : ExcLk K ad.NoPlace
  e_NoText : ExcCls K mg "NoText" ad.NoText
  lk_NoText : ExcLk K ad.NoText
  e_NoThing : ExcCls K mg "NoThing" ad.NoThing
  lk_NoThing : ExcLk K ad.NoThing
  cl_Forest : Cls K ad.Forest
  na_Forest_nodes : NoAttr K ad.Forest "nodes"
  na_Forest_spot_marks : NoAttr K ad.Forest "spot_marks"
  ha_Forest : PySem.W.findIn K (.ref ad.Forest) "__class__" = some (some (.builtin "object.__class__"))
  hm_Forest : PySem.W.mroIn K ad.Forest (.type "object") = some true
  cl_Row : Cls K ad.Row
  na_Row_spot_marks : NoAttr K ad.Row "spot_marks"
  ha_Row : PySem.W.findIn K (.ref ad.Row) "__class__" = some (some (.builtin "object.__class__"))
  hm_Row : PySem.W.mroIn K ad.Row (.type "object") = some true
  cl_Table : Cls K ad.Table
  na_Table_columns : NoAttr K ad.Table "columns"
  na_Table_lines : NoAttr K ad.Table "lines"
  na_Table_spot_marks : NoAttr K ad.Table "spot_marks"
  ha_Table : PySem.W.findIn K (.ref ad.Table) "__class__" = some (some (.builtin "object.__class__"))
  hm_Table : PySem.W.mroIn K ad.Table (.type "object") = some true
  hn : PySem.W.specialIn K (.builtin "object.__class__") "__get__" = some (some (.builtin "getset_descriptor.__get__"))
  htk : PySem.W.takesIn K (.builtin "object.__class__") = some true
def SameBut (p : Addr) (H H' : Hp) : Prop := ∀ b o, b ≠ p → H b = some o → H' b = some o
def RowObj (ad : Adr) (H : Hp) (p : Addr) (xs : List V) : Prop := ∃ dx t, H p = some (.ins ad.Row dx [("spot_marks", .ref t)]) ∧ H t = some (.tup xs) ∧ xs.all markV = true ∧ xs.length ≤ 40
def TabObj (ad : Adr) (H : Hp) (p : Addr) (ls : List (List V)) (w : Nat) : Prop := ∃ dx t1 t2 ts, H p = some (.ins ad.Table dx [("spot_marks", .ref t1), ("lines", .ref t2), ("columns", .int w)]) ∧ H t1 = some (.tup ls.flatten) ∧ H t2 = some (.tup ts) ∧ RowsAt .tup H ts ls ∧ w ≤ 12 ∧ ls.length ≤ 12 ∧ ∀ l ∈ ls, lineOk w l
theorem RowObj.same {ad : Adr} {H H' : Hp} {p : Addr} {xs : List V} (s : Same H H') (r : RowObj ad H p xs) : RowObj ad H' p xs := by
  obtain ⟨dx, t, h1, h2, h3⟩ := r
  exact ⟨dx, t, s _ _ h1, s _ _ h2, h3⟩
theorem RowObj.keep {ad : Adr} {H H' : Hp} {p : Addr} {xs : List V} (s : ∀ b o, (∀ zs, o ≠ HO.lst zs) → H b = some o → H' b = some o) (r : RowObj ad H p xs) : RowObj ad H' p xs := by
  obtain ⟨dx, t, h1, h2, h3⟩ := r
  exact ⟨dx, t, s _ (.ins _ _ _) (fun _ z => nomatch z) h1, s _ (.tup _) (fun _ z => nomatch z) h2, h3⟩
theorem TabObj.keep {ad : Adr} {H H' : Hp} {p : Addr} {ls : List (List V)} {w : Nat} (s : ∀ b o, (∀ zs, o ≠ HO.lst zs) → H b = some o → H' b = some o) (r : TabObj ad H p ls w) : TabObj ad H' p ls w := by
  obtain ⟨dx, t1, t2, ts, h1, h2, h3, h4, h5⟩ := r
  exact ⟨dx, t1, t2, ts, s _ (.ins _ _ _) (fun _ z => nomatch z) h1, s _ (.tup _) (fun _ z => nomatch z) h2, s _ (.tup _) (fun _ z => nomatch z) h3, h4.keep (f := .tup) fun b ys e => s b (.tup ys) (fun _ z => nomatch z) e, h5⟩
theorem TabObj.same {ad : Adr} {H H' : Hp} {p : Addr} {ls : List (List V)} {w : Nat} (s : Same H H') (r : TabObj ad H p ls w) : TabObj ad H' p ls w := by
  obtain ⟨dx, t1, t2, ts, h1, h2, h3, h4, h5⟩ := r
  exact ⟨dx, t1, t2, ts, s _ _ h1, s _ _ h2, s _ _ h3, h4.same s, h5⟩
def sp_Thing_init (ad : Adr) : Sp := fun vs H Q _ => ∃ p dx a xs c, vs = [.ref p, .ref a] ∧ (c = ad.Row ∨ c = ad.Table ∨ c = ad.Forest) ∧ H p = some (.ins c dx []) ∧ H a = some (.lst xs) ∧ ∀ t, H t = none → Q .non (upd (upd H t (.tup xs)) p (.ins c dx [("spot_marks", .ref t)]))
def ForestAt (ad : Adr) (H : Hp) (p : Addr) (ns : List Nd) : Prop := ∃ dx t1 t2 xs, H p = some (.ins ad.Forest dx [("spot_marks", .ref t1), ("nodes", .ref t2)]) ∧ H t1 = some (.tup (ns.map fun n => V.str n.1)) ∧ H t2 = some (.tup xs) ∧ NodesAt H xs ns
theorem ForestAt.same {ad : Adr} {H H' : Hp} {p : Addr} {ns : List Nd} (s : Same H H') (r : ForestAt ad H p ns) : ForestAt ad H' p ns := by
  obtain ⟨dx, t1, t2, xs, h1, h2, h3, h4⟩ := r
  exact ⟨dx, t1, t2, xs, s _ _ h1, s _ _ h2, s _ _ h3, h4.same s⟩
def sp_Forest_init (ad : Adr) : Sp := fun vs H Q E => ∃ p dx v, vs = [.ref p, v] ∧ H p = some (.ins ad.Forest dx []) ∧ Thg4 H v ∧
  (∀ a xs ns, v = .ref a → H a = some (.lst xs) → xs.length ≤ 40 → NodesAt H xs ns → depthOk 0 ns → ∀ H', ForestAt ad H' p ns → SameBut p H H' → Q .non H') ∧ (¬ GoodN H v → ∀ H', SameBut p H H' → E (.ref ad.NoThing) none H')
def sp_is_whole : Sp := fun vs H Q _ => ∃ v, vs = [v] ∧ Thg H v ∧ Q (.bl (wholeV v)) H
def sp_is_mark : Sp := fun vs H Q _ => ∃ v, vs = [v] ∧ Thg H v ∧ ∀ H', Same H H' → Q (.bl (markV v)) H'
def sp_check_list (ad : Adr) : Sp := fun vs H Q E => ∃ v n, vs = [v, .int (n : Nat)] ∧ Thg H v ∧ (GoodL n H v → Q .non H) ∧ (¬ GoodL n H v → E (.ref ad.NoThing) none H)
def sp_check_marks (ad : Adr) : Sp := fun vs H Q E => ∃ v n, vs = [v, .int (n : Nat)] ∧ Thg2 H v ∧ (GoodM n H v → ∀ H', Same H H' → Q .non H') ∧ (¬ GoodM n H v → ∀ H', Same H H' → E (.ref ad.NoThing) none H')
def sp_check_node (ad : Adr) : Sp := fun vs H Q E => ∃ v d, vs = [v, .int d] ∧ Thg3 H v ∧ (∀ n, NodeAt H v n → markS n.1 = true → 0 ≤ n.2 → n.2 ≤ d → ∀ H', Same H H' → Q .non H') ∧ ((∀ n, NodeAt H v n → ¬ (markS n.1 = true ∧ 0 ≤ n.2 ∧ n.2 ≤ d)) → ∀ H', Same H H' → E (.ref ad.NoThing) none H')
def sp_check_nodes (ad : Adr) : Sp := fun vs H Q E => ∃ v, vs = [v] ∧ Thg4 H v ∧ (GoodN H v → ∀ H', Same H H' → Q .non H') ∧ (¬ GoodN H v → ∀ H', Same H H' → E (.ref ad.NoThing) none H')
def sp_check_lines (ad : Adr) : Sp := fun vs H Q E => ∃ v, vs = [v] ∧ Thg5 H v ∧ (GoodT H v → ∀ H', Same H H' → Q .non H') ∧ (¬ GoodT H v → ∀ H', Same H H' → E (.ref ad.NoThing) none H')
def sp_check_places (ad : Adr) : Sp := fun vs H Q E => ∃ v m, vs = [v, .int m] ∧ Thg2 H v ∧ (GoodP m H v → ∀ H', Same H H' → Q .non H') ∧ (¬ GoodP m H v → ∀ H', Same H H' → E (.ref ad.NoPlace) none H')
def sp_marks_at : Sp := fun vs H Q _ => ∃ (t a : Addr) (xs : List V) (ps : List Int), vs = [.ref t, .ref a] ∧ H t = some (.tup xs) ∧ H a = some (.lst (ps.map V.int)) ∧ (∀ p ∈ ps, 0 ≤ p ∧ p < xs.length) ∧ ps.length ≤ 900 ∧ ∀ l, H l = none → Q (.ref l) (upd H l (.lst (ps.map fun p => xs.getD p.toNat .non)))
def sp_Row_init (ad : Adr) : Sp := fun vs H Q E => ∃ p dx v, vs = [.ref p, v] ∧ H p = some (.ins ad.Row dx []) ∧ Thg2 H v ∧
  (∀ a xs, v = .ref a → H a = some (.lst xs) → xs.length ≤ 40 → xs.all markV = true → ∀ H', RowObj ad H' p xs → SameBut p H H' → Q .non H') ∧ (¬ GoodM 40 H v → ∀ H', SameBut p H H' → E (.ref ad.NoThing) none H')
def sp_Row_many (ad : Adr) : Sp := fun vs H Q _ => ∃ p xs, vs = [.ref p] ∧ RowObj ad H p xs ∧ Q (.int xs.length) H
def sp_Row_left (ad : Adr) : Sp := fun vs H Q E => ∃ p v xs, vs = [.ref p, v] ∧ RowObj ad H p xs ∧ Thg2 H v ∧
  (∀ a ps, v = .ref a → H a = some (.lst (ps.map V.int)) → placesOk 0 xs.length ps → ∀ q H', Same H H' → RowObj ad H' q (ps.map fun i => xs.getD i.toNat .non) → Q (.ref q) H') ∧ (¬ GoodP xs.length H v → ∀ H', Same H H' → E (.ref ad.NoPlace) none H')
def sp_Row_form (ad : Adr) : Sp := fun vs H Q _ => ∃ p xs, vs = [.ref p] ∧ RowObj ad H p xs ∧ ∀ t l, H t = some (.tup xs) → H l = none → Q (.ref l) (upd H l (.tup [.str "row", .ref t]))
def sp_many (ad : Adr) : Sp := fun vs H Q _ => ∃ p ns, vs = [.ref p] ∧ ForestAt ad H p ns ∧ Q (.int ns.length) H
def sp_Forest_left (ad : Adr) : Sp := fun vs H Q E => ∃ (p : Addr) (v : V) (ns : List Nd), vs = [.ref p, v] ∧ ForestAt ad H p ns ∧ depthOk 0 ns ∧ ns.length ≤ 40 ∧ Thg2 H v ∧ (∀ a ps, v = .ref a → H a = some (.lst (ps.map V.int)) → placesOk 0 ns.length ps → ∀ q H', Same H H' → ForestAt ad H' q (leftN ns ps) → Q (.ref q) H') ∧ (¬ GoodP ns.length H v → ∀ H', Same H H' → E (.ref ad.NoPlace) none H')
def sp_form (ad : Adr) : Sp := fun vs H Q _ => ∃ p ns, vs = [.ref p] ∧ ForestAt ad H p ns ∧ ∀ t xs l, H t = some (.tup xs) → NodesAt H xs ns → H l = none → Q (.ref l) (upd H l (.tup [.str "forest", .ref t]))
def sp_Table_init (ad : Adr) : Sp := fun vs H Q E => ∃ p dx v, vs = [.ref p, v] ∧ H p = some (.ins ad.Table dx []) ∧ Thg5 H v ∧
  (∀ a xs ls, v = .ref a → H a = some (.lst xs) → xs.length ≤ 12 → RowsAt .lst H xs ls → tabOk ls → ∀ H', TabObj ad H' p ls (wideT ls) → SameBut p H H' → Q .non H') ∧ (¬ GoodT H v → ∀ H', SameBut p H H' → E (.ref ad.NoThing) none H')
def sp_Table_many (ad : Adr) : Sp := fun vs H Q _ => ∃ p ls w, vs = [.ref p] ∧ TabObj ad H p ls w ∧ Q (.int ((ls.length : Int) + (w : Int))) H
def sp_Table_left (ad : Adr) : Sp := fun vs H Q E => ∃ p v ls w, vs = [.ref p, v] ∧ TabObj ad H p ls w ∧ Thg2 H v ∧
  (∀ a ps, v = .ref a → H a = some (.lst (ps.map V.int)) → placesOk 0 ((ls.length : Int) + (w : Int)) ps → ∀ q H', Same H H' → TabObj ad H' q (leftT ls ps) (colsOf ls.length ps).length → Q (.ref q) H') ∧ (¬ GoodP ((ls.length : Int) + (w : Int)) H v → ∀ H', Same H H' → E (.ref ad.NoPlace) none H')
def sp_Table_form (ad : Adr) : Sp := fun vs H Q _ => ∃ p ls w, vs = [.ref p] ∧ TabObj ad H p ls w ∧ ∀ t xs l, H t = some (.tup xs) → RowsAt .tup H xs ls → H l = none → Q (.ref l) (upd H l (.tup [.str "table", .int w, .ref t]))
def sp__law_cell_at (K : PySem.W.Frag) : Sp := fun vs H Q _ => ∃ (a : Addr) (ns : List Int) (k : Nat), vs = [.ref a, .int k] ∧ SqL K H a (ns.map V.int) ∧ Q (.int (cellF ns k)) H
def sp__law_mix : Sp := fun vs H Q _ => ∃ (seed k : Int), vs = [.int seed, .int k] ∧ 0 ≤ k ∧ k ≤ 1000 ∧ Q (.int (mixF seed k)) H
def sp__law_how_many : Sp := fun vs H Q _ => ∃ n : Int, vs = [.int n] ∧ ∀ m : Int, 1 ≤ m → m ≤ 25 → Q (.int m) H
def sp__law_marks : Sp := fun vs H Q _ => ∃ (c n : Int), vs = [.int c, .int n] ∧ 0 ≤ n ∧ n ≤ 25 ∧ ∀ (zs : List Str) l H', zs.length = n.toNat → (∀ z ∈ zs, markS z = true) → Same H H' → H' l = some (.lst (zs.map V.str)) → Q (.ref l) H'
def sp__law_pick : Sp := fun vs H Q _ => ∃ (c : Int) (a : Addr) (zs : List Str), vs = [.int c, .ref a] ∧ H a = some (.lst (zs.map V.str)) ∧ 0 < zs.length ∧ ∀ z ∈ zs, Q (.str z) H
def sp__law_cells (K : PySem.W.Frag) : Sp := fun vs H Q _ => ∃ (a : Addr) (ns : List Int) (b s : Int), vs = [.ref a, .int b, .int s, .int 40] ∧ 0 ≤ b ∧ SqL K H a (ns.map V.int) ∧ ∀ (ms : List Int) l H', ms.length ≤ 40 → Same H H' → H' l = some (.lst (ms.map V.int)) → Q (.ref l) H'
def sp__law_lines : Sp := fun vs H Q _ => ∃ (c m : Addr) (ms : List Int) (zs : List Str) (w : Nat), vs = [.ref c, .ref m, .int w] ∧ H c = some (.lst (ms.map V.int)) ∧ H m = some (.lst (zs.map V.str)) ∧ w ≤ 12 ∧ ms.length ≤ 900 ∧ 0 < zs.length ∧ (∀ z ∈ zs, markS z = true) ∧ ∀ ls xs l H', Same H H' → H' l = some (.lst xs) → RowsAt .lst H' xs ls → ls.length ≤ 12 → tabOk ls → Q (.ref l) H'
def sp__law_some : Sp := fun vs H Q _ => ∃ (c : Int) (n : Nat), vs = [.int c, .int n] ∧ n ≤ 900 ∧ ∀ ps l H', Same H H' → H' l = some (.lst (ps.map V.int)) → placesOk 0 n ps → Q (.ref l) H'
def sp__law_table_by (K : PySem.W.Frag) : Sp := fun vs H Q _ => ∃ (a m : Addr) (ns : List Int) (b : Nat) (zs : List Str), vs = [.ref a, .int b, .ref m] ∧ SqL K H a (ns.map V.int) ∧ ns.length ≤ 63 ∧ H m = some (.lst (zs.map V.str)) ∧ 0 < zs.length ∧ (∀ z ∈ zs, markS z = true) ∧ ∀ ls xs l H', Same H H' → H' l = some (.lst xs) → RowsAt .lst H' xs ls → ls.length ≤ 12 → tabOk ls → Q (.ref l) H'
def sp_law (K : PySem.W.Frag) : Sp := fun vs H Q _ => ∃ (a : Addr) (ns : List Int), vs = [.ref a] ∧ SqL K H a (ns.map V.int) ∧ ns.length ≤ 63 ∧ ∀ H', Q (.bl true) H'
inductive Dsc where
  | row (xs : List V)
  | forest (ns : List Nd)
  | table (ls : List (List V)) (w : Nat)
def ThObj (ad : Adr) (H : Hp) (p : Addr) : Dsc → Prop
  | .row xs => RowObj ad H p xs
  | .forest ns => ForestAt ad H p ns ∧ depthOk 0 ns ∧ ns.length ≤ 40
  | .table ls w => TabObj ad H p ls w
def manyD : Dsc → Nat
  | .row xs => xs.length
  | .forest ns => ns.length
  | .table ls w => ls.length + w
def leftD : Dsc → List Int → Dsc
  | .row xs, ps => .row (leftR xs ps)
  | .forest ns, ps => .forest (leftN ns ps)
  | .table ls _, ps => .table (leftT ls ps) (colsOf ls.length ps).length
theorem ThObj.same {ad : Adr} {H H' : Hp} {p : Addr} {d : Dsc} (s : Same H H') (h : ThObj ad H p d) : ThObj ad H' p d := by
  cases d with
  | row xs => exact RowObj.same s h
  | forest ns => exact ⟨h.1.same s, h.2⟩
  | table ls w => exact TabObj.same s h
theorem ThObj.keep {ad : Adr} {H H' : Hp} {p : Addr} {d : Dsc} (s : ∀ b o, (∀ zs, o ≠ HO.lst zs) → H b = some o → H' b = some o) (h : ThObj ad H p d) : ThObj ad H' p d := by
  cases d with
  | row xs => exact RowObj.keep s h
  | forest ns =>
    obtain ⟨⟨dx, t1, t2, xs, h1, h2, h3, h4⟩, h5⟩ := h
    exact ⟨⟨dx, t1, t2, xs, s _ (.ins _ _ _) (fun _ z => nomatch z) h1, s _ (.tup _) (fun _ z => nomatch z) h2, s _ (.tup _) (fun _ z => nomatch z) h3, h4.tups fun b ys e => s b (.tup ys) (fun _ z => nomatch z) e⟩, h5⟩
  | table ls w => exact TabObj.keep s h
def DOk : Dsc → Prop
  | .row xs => xs.all markV = true ∧ xs.length ≤ 40
  | .forest ns => depthOk 0 ns ∧ ns.length ≤ 40
  | .table ls w => w ≤ 12 ∧ ls.length ≤ 12 ∧ ∀ l ∈ ls, lineOk w l
theorem ThObj.ok {ad : Adr} {H : Hp} {p : Addr} {d : Dsc} (h : ThObj ad H p d) : DOk d := by
  cases d with
  | row xs => obtain ⟨_, _, _, _, h3⟩ := h; exact h3
  | forest ns => exact h.2
  | table ls w => obtain ⟨_, _, _, _, _, _, _, _, h5⟩ := h; exact h5
theorem DOk.many {d : Dsc} (h : DOk d) : manyD d ≤ 40 := by
  cases d with
  | row xs => exact h.2
  | forest ns => exact h.2
  | table ls w => have := h.1; have := h.2.1; show ls.length + w ≤ 40; omega
def FormAt (H : Hp) (f : Addr) : Dsc → Prop
  | .row xs => ∃ t, H f = some (.tup [.str "row", .ref t]) ∧ H t = some (.tup xs)
  | .forest ns => ∃ t ys, H f = some (.tup [.str "forest", .ref t]) ∧ H t = some (.tup ys) ∧ NodesAt H ys ns
  | .table ls w => ∃ t ts, H f = some (.tup [.str "table", .int w, .ref t]) ∧ H t = some (.tup ts) ∧ RowsAt .tup H ts ls
theorem FormAt.same {H H' : Hp} {f : Addr} {d : Dsc} (s : Same H H') (h : FormAt H f d) : FormAt H' f d := by
  cases d with
  | row xs => obtain ⟨t, h1, h2⟩ := h; exact ⟨t, s _ _ h1, s _ _ h2⟩
  | forest ns => obtain ⟨t, ys, h1, h2, h3⟩ := h; exact ⟨t, ys, s _ _ h1, s _ _ h2, h3.same s⟩
  | table ls w => obtain ⟨t, ts, h1, h2, h3⟩ := h; exact ⟨t, ts, s _ _ h1, s _ _ h2, h3.same s⟩
def datD : Dsc → PyData
  | .row xs => .tuple [.str "row", .tuple (xs.map datM)]
  | .forest ns => .tuple [.str "forest", .tuple (datN ns)]
  | .table ls w => .tuple [.str "table", .int w, .tuple (ls.map fun l => PyData.tuple (l.map datM))]
theorem FormAt.dat {K : PySem.W.Frag} {H : Hp} {f : Addr} {d : Dsc} (o : DOk d) (h : FormAt H f d) : DatV K H (.ref f) (datD d) := by
  cases d with
  | row xs => obtain ⟨t, h1, h2⟩ := h; exact .tup (SqT.of h1) (.cons (.str _) (.cons (.tup (SqT.of h2) (datVs_marks o.1)) .nil))
  | forest ns => obtain ⟨t, ys, h1, h2, h3⟩ := h; exact .tup (SqT.of h1) (.cons (.str _) (.cons (.tup (SqT.of h2) h3.dat) .nil))
  | table ls w => obtain ⟨t, ts, h1, h2, h3⟩ := h; exact .tup (SqT.of h1) (.cons (.str _) (.cons (.int _) (.cons (.tup (SqT.of h2) (h3.datT fun l hl => (o.2.2 l hl).2)) .nil)))
theorem lay_dat {d : Dsc} (o : DOk d) : PyData.canLay0 (datD d) = true := by
  cases d with
  | row xs =>
    have cF := canLay_marks o.1
    unfold datD
    simp only [PyData.canLay0, PyData.canLayAll0, cF]
    decide +kernel
  | forest ns =>
    have cN := canLay_nodes (ns := ns) fun n h => mark_strOk (depthOk_all o.1 n h).1
    unfold datD
    simp only [PyData.canLay0, PyData.canLayAll0, cN]
    decide +kernel
  | table ls w =>
    have cT := canLay_tups (ls := ls) fun l hl => (o.2.2 l hl).2
    unfold datD
    simp only [PyData.canLay0, PyData.canLayAll0, cT]
    decide +kernel
theorem shaped_dat {d : Dsc} (o : DOk d) : SeqAt.shaped (datD d) = true := by
  unfold SeqAt.shaped
  rw [Bool.and_eq_true]
  refine ⟨lay_dat o, decide_eq_true ?_⟩
  cases d with
  | row xs => have := depth_marks xs; simp only [datD, PyData.depth, PyData.depthAll]; omega
  | forest ns => have := depth_nodes ns; simp only [datD, PyData.depth, PyData.depthAll]; omega
  | table ls w => have := depth_tups ls; simp only [datD, PyData.depth, PyData.depthAll]; omega
theorem eqv_dat {d : Dsc} (o : DOk d) : PyData.eqv (datD d) (datD d) = true := SeqAt.eqv_refl _ (lay_dat o)
theorem any_many {ad : Adr} {H : Hp} {p : Addr} {d : Dsc} {Q : VK} {E : XK} (h : ThObj ad H p d) (k : Q (.int (manyD d : Nat)) H) :
    ((∃ x y, H p = some (.ins ad.Row x y) ∧ List.lookup (Str.ofString "many") y = none ∧ sp_Row_many ad [.ref p] H Q E) ∨ ∃ x y, H p = some (.ins ad.Forest x y) ∧ List.lookup (Str.ofString "many") y = none ∧ sp_many ad [.ref p] H Q E) ∨ ∃ x y, H p = some (.ins ad.Table x y) ∧ List.lookup (Str.ofString "many") y = none ∧ sp_Table_many ad [.ref p] H Q E := by
  cases d with
  | row xs => obtain ⟨dx, t, h1, _⟩ := id h; exact .inl (.inl ⟨dx, _, h1, rfl, p, xs, rfl, h, k⟩)
  | forest ns => obtain ⟨⟨dx, t1, t2, xs, h1, _⟩, _⟩ := id h; exact .inl (.inr ⟨dx, _, h1, lookup_no (by decide +kernel) (by decide +kernel), p, ns, rfl, h.1, k⟩)
  | table ls w =>
    obtain ⟨dx, t1, t2, ts, h1, _⟩ := id h
    refine .inr ⟨dx, _, h1, lookup_no3 (by decide +kernel) (by decide +kernel) (by decide +kernel), p, ls, w, rfl, h, ?_⟩
    have e : ((manyD (.table ls w) : Nat) : Int) = (ls.length : Int) + (w : Int) := by show ((ls.length + w : Nat) : Int) = _; omega
    rw [← e]
    exact k
theorem any_form {ad : Adr} {H : Hp} {p : Addr} {d : Dsc} {Q : VK} {E : XK} (h : ThObj ad H p d) (k : ∀ f H', Same H H' → FormAt H' f d → Q (.ref f) H') :
    ((∃ x y, H p = some (.ins ad.Row x y) ∧ List.lookup (Str.ofString "form") y = none ∧ sp_Row_form ad [.ref p] H Q E) ∨ ∃ x y, H p = some (.ins ad.Forest x y) ∧ List.lookup (Str.ofString "form") y = none ∧ sp_form ad [.ref p] H Q E) ∨ ∃ x y, H p = some (.ins ad.Table x y) ∧ List.lookup (Str.ofString "form") y = none ∧ sp_Table_form ad [.ref p] H Q E := by
  cases d with
  | row xs => obtain ⟨dx, t, h1, _⟩ := id h; exact .inl (.inl ⟨dx, _, h1, rfl, p, xs, rfl, h, fun t l ht hl => k l _ (Same.put hl) ⟨t, upd_same, (Same.put hl) _ _ ht⟩⟩)
  | forest ns => obtain ⟨⟨dx, t1, t2, xs, h1, _⟩, _⟩ := id h; exact .inl (.inr ⟨dx, _, h1, lookup_no (by decide +kernel) (by decide +kernel), p, ns, rfl, h.1, fun t xs l ht hx hl => k l _ (Same.put hl) ⟨t, xs, upd_same, (Same.put hl) _ _ ht, hx.same (Same.put hl)⟩⟩)
  | table ls w => obtain ⟨dx, t1, t2, ts, h1, _⟩ := id h; exact .inr ⟨dx, _, h1, lookup_no3 (by decide +kernel) (by decide +kernel) (by decide +kernel), p, ls, w, rfl, h, fun t xs l ht hx hl => k l _ (Same.put hl) ⟨t, xs, upd_same, (Same.put hl) _ _ ht, hx.same (Same.put hl)⟩⟩
theorem left_DOk {d : Dsc} {ps : List Int} (o : DOk d) (hp : placesOk 0 (manyD d : Nat) ps) : manyD (leftD d ps) = ps.length := by
  cases d with
  | row xs => exact List.length_map _
  | forest ns => exact List.length_map _
  | table ls w => show (leftT ls ps).length + (colsOf ls.length ps).length = ps.length; rw [leftT_len]; exact part_len ps
theorem any_left {ad : Adr} {H : Hp} {p : Addr} {d : Dsc} {ps : List Int} {Q : VK} {E : XK} (A : (V → Hp → Prop) → Prop) (h : ThObj ad H p d) (hp : placesOk 0 (manyD d : Nat) ps) (hA : ∀ F : V → Hp → Prop, (∀ l H1, Same H H1 → H1 l = some (.lst (ps.map V.int)) → F (.ref l) H1) → A F) (k : ∀ q H', Same H H' → ThObj ad H' q (leftD d ps) → Q (.ref q) H') :
    ((∃ x y, H p = some (.ins ad.Row x y) ∧ List.lookup (Str.ofString "left") y = none ∧ A fun v H1 => sp_Row_left ad [.ref p, v] H1 Q E) ∨ ∃ x y, H p = some (.ins ad.Forest x y) ∧ List.lookup (Str.ofString "left") y = none ∧ A fun v H1 => sp_Forest_left ad [.ref p, v] H1 Q E) ∨ ∃ x y, H p = some (.ins ad.Table x y) ∧ List.lookup (Str.ofString "left") y = none ∧ A fun v H1 => sp_Table_left ad [.ref p, v] H1 Q E := by
  have inj : ∀ {H1 : Hp} {l a : Addr} {qs : List Int}, H1 l = some (.lst (ps.map V.int)) → V.ref l = .ref a → H1 a = some (.lst (qs.map V.int)) → qs = ps := fun hl e g => by
    cases e
    rw [hl] at g
    exact (map_int_inj (HO.lst.inj (Option.some.inj g))).symm
  cases d with
  | row xs =>
    obtain ⟨dx, t, h1, _⟩ := id h
    exact .inl (.inl ⟨dx, _, h1, rfl, hA _ fun l H1 s1 hl => ⟨p, .ref l, xs, rfl, RowObj.same s1 h, thg2_ints hl, fun a qs e g _ q H' s r => k q H' (s1.trans s) (by have := inj hl e g; subst this; exact r), fun nb => absurd ⟨l, ps, rfl, hl, hp⟩ nb⟩⟩)
  | forest ns =>
    obtain ⟨⟨dx, t1, t2, xs, h1, _⟩, o1, o2⟩ := id h
    have hp' : placesOk 0 (ns.length : Int) ps := hp
    have lps := places_len hp' (by omega)
    exact .inl (.inr ⟨dx, _, h1, lookup_no (by decide +kernel) (by decide +kernel), hA _ fun l H1 s1 hl => ⟨p, .ref l, ns, rfl, h.1.same s1, o1, o2, thg2_ints hl, fun a qs e g _ q H' s r => k q H' (s1.trans s) (by have := inj hl e g; subst this; exact ⟨r, left_ok o1 hp', by unfold leftN; rw [List.length_map]; omega⟩), fun nb => absurd ⟨l, ps, rfl, hl, hp⟩ nb⟩⟩)
  | table ls w =>
    obtain ⟨dx, t1, t2, ts, h1, _⟩ := id h
    have e : ((manyD (.table ls w) : Nat) : Int) = (ls.length : Int) + (w : Int) := by show ((ls.length + w : Nat) : Int) = _; omega
    rw [e] at hp
    exact .inr ⟨dx, _, h1, lookup_no3 (by decide +kernel) (by decide +kernel) (by decide +kernel), hA _ fun l H1 s1 hl => ⟨p, .ref l, ls, w, rfl, TabObj.same s1 h, thg2_ints hl, fun a qs e g _ q H' s r => k q H' (s1.trans s) (by have := inj hl e g; subst this; exact r), fun nb => absurd ⟨l, ps, rfl, hl, hp⟩ nb⟩⟩
def LeftOr (ad : Adr) (H : Hp) (p : Addr) (A : (V → Hp → Prop) → Prop) (F : VK) (E : XK) : Prop :=
    ((∃ x y, H p = some (.ins ad.Row x y) ∧ List.lookup (Str.ofString "left") y = none ∧ A fun v H1 => sp_Row_left ad [.ref p, v] H1 F E) ∨ ∃ x y, H p = some (.ins ad.Forest x y) ∧ List.lookup (Str.ofString "left") y = none ∧ A fun v H1 => sp_Forest_left ad [.ref p, v] H1 F E) ∨ ∃ x y, H p = some (.ins ad.Table x y) ∧ List.lookup (Str.ofString "left") y = none ∧ A fun v H1 => sp_Table_left ad [.ref p, v] H1 F E
theorem any_lf {ad : Adr} {H : Hp} {p : Addr} {d : Dsc} {ps : List Int} {Q : VK} {E E' : XK} (A : (V → Hp → Prop) → Prop) (h : ThObj ad H p d) (hp : placesOk 0 (manyD d : Nat) ps) (hA : ∀ F : V → Hp → Prop, (∀ l H1, Same H H1 → H1 l = some (.lst (ps.map V.int)) → F (.ref l) H1) → A F) (k : ∀ f H', Same H H' → FormAt H' f (leftD d ps) → DOk (leftD d ps) → Q (.ref f) H') :
    (LeftOr ad H p A (fun x H1 => ∃ a, x = .ref a ∧ ∃ y z, H1 a = some (.ins ad.Row y z) ∧ List.lookup (Str.ofString "form") z = none ∧ sp_Row_form ad [x] H1 Q E) E' ∨ LeftOr ad H p A (fun x H1 => ∃ a, x = .ref a ∧ ∃ y z, H1 a = some (.ins ad.Forest y z) ∧ List.lookup (Str.ofString "form") z = none ∧ sp_form ad [x] H1 Q E) E') ∨ LeftOr ad H p A (fun x H1 => ∃ a, x = .ref a ∧ ∃ y z, H1 a = some (.ins ad.Table y z) ∧ List.lookup (Str.ofString "form") z = none ∧ sp_Table_form ad [x] H1 Q E) E' := by
  cases d with
  | row xs =>
    refine .inl (.inl (any_left A h hp hA fun q H' s hq => ?_))
    obtain ⟨dx, t, h1, _⟩ := id hq
    exact ⟨q, rfl, dx, _, h1, rfl, q, _, rfl, hq, fun t l ht hl => k l _ (s.trans (Same.put hl)) ⟨t, upd_same, (Same.put hl) _ _ ht⟩ hq.ok⟩
  | forest ns =>
    refine .inl (.inr (any_left A h hp hA fun q H' s hq => ?_))
    obtain ⟨⟨dx, t1, t2, xs, h1, _⟩, _⟩ := id hq
    exact ⟨q, rfl, dx, _, h1, lookup_no (by decide +kernel) (by decide +kernel), q, _, rfl, hq.1, fun t xs l ht hx hl => k l _ (s.trans (Same.put hl)) ⟨t, xs, upd_same, (Same.put hl) _ _ ht, hx.same (Same.put hl)⟩ hq.ok⟩
  | table ls w =>
    refine .inr (any_left A h hp hA fun q H' s hq => ?_)
    obtain ⟨dx, t1, t2, ts, h1, _⟩ := id hq
    exact ⟨q, rfl, dx, _, h1, lookup_no3 (by decide +kernel) (by decide +kernel) (by decide +kernel), q, _, _, rfl, hq, fun t xs l ht hx hl => k l _ (s.trans (Same.put hl)) ⟨t, xs, upd_same, (Same.put hl) _ _ ht, hx.same (Same.put hl)⟩ hq.ok⟩
def ArgL (K : PySem.W.Frag) (H : Hp) (lp : Addr) (F : V → Hp → Prop) : Prop := ∃ z, SqL K H lp z ∧ ∀ l, H l = none → F (.ref l) (upd H l (.lst z))
theorem argL {K : PySem.W.Frag} {H : Hp} {lp : Addr} {ps : List Int} (h : H lp = some (.lst (ps.map V.int))) : ∀ F : V → Hp → Prop, (∀ l H1, Same H H1 → H1 l = some (.lst (ps.map V.int)) → F (.ref l) H1) → ArgL K H lp F := fun F k => ⟨_, SqL.of h, fun l hl => k l _ (Same.put hl) upd_same⟩
def RngL (H1 : Hp) (n : Int) (F : V → Hp → Prop) : Prop := ∀ r, H1 r = none → ∃ x y, upd H1 r (.rng 0 n) r = some (.rng x y) ∧ -2 ^ 62 ≤ x ∧ x < 2 ^ 62 ∧ -2 ^ 62 ≤ y ∧ y < 2 ^ 62 ∧ (y - x).toNat ≤ 900 ∧ ∀ l, upd H1 r (.rng 0 n) l = none → F (.ref l) (upd (upd H1 r (.rng 0 n)) l (.lst (((List.range (y - x).toNat).map fun i : Nat => x + (i : Int)).map V.int)))
theorem rngL {H H1 : Hp} {n : Nat} {F : V → Hp → Prop} (s : Same H H1) (hn : n ≤ 900) (k : ∀ l H2, Same H H2 → H2 l = some (.lst ((SH.upTo n).map V.int)) → F (.ref l) H2) : RngL H1 n F := fun r hr => by
  refine ⟨0, n, upd_same, by omega, by omega, by omega, by omega, by omega, fun l hl => ?_⟩
  rw [show ((n : Int) - 0).toNat = n by omega]
  exact k l _ ((s.upd hr).upd hl) upd_same
def ArgM (ad : Adr) (H : Hp) (p : Addr) (E : XK) (F : V → Hp → Prop) : Prop :=
    ((∃ x y, H p = some (.ins ad.Row x y) ∧ List.lookup (Str.ofString "many") y = none ∧ sp_Row_many ad [.ref p] H (fun x H1 => ∃ n, x = .int n ∧ RngL H1 n F) E) ∨ ∃ x y, H p = some (.ins ad.Forest x y) ∧ List.lookup (Str.ofString "many") y = none ∧ sp_many ad [.ref p] H (fun x H1 => ∃ n, x = .int n ∧ RngL H1 n F) E) ∨ ∃ x y, H p = some (.ins ad.Table x y) ∧ List.lookup (Str.ofString "many") y = none ∧ sp_Table_many ad [.ref p] H (fun x H1 => ∃ n, x = .int n ∧ RngL H1 n F) E
theorem argM {ad : Adr} {H : Hp} {p : Addr} {d : Dsc} {E : XK} (h : ThObj ad H p d) : ∀ F : V → Hp → Prop, (∀ l H1, Same H H1 → H1 l = some (.lst ((SH.upTo (manyD d)).map V.int)) → F (.ref l) H1) → ArgM ad H p E F := fun F k =>
  any_many h ⟨_, rfl, rngL (Same.refl H) (by have := h.ok.many; omega) k⟩
def ArgN (K : PySem.W.Frag) (H : Hp) (lp : Addr) (F : V → Hp → Prop) : Prop := ∃ z, SqL K H lp z ∧ RngL H (z.length : Nat) F
theorem argN {K : PySem.W.Frag} {H : Hp} {lp : Addr} {ps : List Int} (hl : ps.length ≤ 900) (h : H lp = some (.lst (ps.map V.int))) : ∀ F : V → Hp → Prop, (∀ l H1, Same H H1 → H1 l = some (.lst ((SH.upTo ps.length).map V.int)) → F (.ref l) H1) → ArgN K H lp F := fun F k =>
  ⟨_, SqL.of h, by rw [List.length_map]; exact rngL (Same.refl H) hl k⟩
theorem leftD_both {d : Dsc} {ps qs : List Int} (o : DOk d) (hp : placesOk 0 (manyD d : Nat) ps) (hq : placesOk 0 ps.length qs) : leftD (leftD d ps) qs = leftD d (both ps qs) := by
  cases d with
  | row xs => exact congrArg Dsc.row (leftR_both hq)
  | forest ns => exact congrArg Dsc.forest (leftN_both o.1 hp hq)
  | table ls w =>
    obtain ⟨e1, e2⟩ := leftT_both (ls := ls) hp hq
    show Dsc.table (leftT (leftT ls ps) qs) (colsOf (leftT ls ps).length qs).length = Dsc.table (leftT ls (both ps qs)) (colsOf ls.length (both ps qs)).length
    rw [e1, e2]
theorem leftD_all {d : Dsc} (o : DOk d) : leftD d (SH.upTo (manyD d)) = d := by
  cases d with
  | row xs => exact congrArg Dsc.row (leftR_all xs)
  | forest ns => exact congrArg Dsc.forest (leftN_all o.1)
  | table ls w =>
    show Dsc.table (leftT ls (SH.upTo (ls.length + w))) (colsOf ls.length (SH.upTo (ls.length + w))).length = _
    rw [leftT_all fun l hl => (o.2.2 l hl).1, cols_upTo, upTo_len]
def kindS : Dsc → Str
  | .row _ => "row"
  | .forest _ => "forest"
  | .table _ _ => "table"
def wordsD : Dsc → List Str
  | .row xs => xs.map sV
  | .forest _ => []
  | .table ls _ => wordsT (ls.map fun l => l.map sV)
def textD (d : Dsc) : Str := catW (wordsD d) (kindS d)
def flatD : Dsc → Prop
  | .forest _ => False
  | _ => True
def normD : Dsc → Dsc
  | .table [] _ => .table [] 0
  | d => d
theorem lines_marks {ls : List (List V)} {w : Nat} (h : ∀ l ∈ ls, lineOk w l) : ∀ l ∈ ls.map (fun l => l.map sV), ∀ z ∈ l, markS z = true := fun l hl => by
  obtain ⟨x, hx, rfl⟩ := List.mem_map.mp hl
  exact sV_marks (h x hx).2
theorem words_ok {d : Dsc} (o : DOk d) : ∀ w ∈ wordsD d, wordS w := by
  cases d with
  | row xs => exact fun w hw => .inl (sV_marks o.1 w hw)
  | forest ns => exact fun w hw => nomatch hw
  | table ls w => exact words_lines (lines_marks o.2.2)
theorem words_few {d : Dsc} (o : DOk d) : (wordsD d).length ≤ 200 := by
  cases d with
  | row xs => have := o.2; show (xs.map sV).length ≤ 200; rw [List.length_map]; omega
  | forest ns => exact Nat.zero_le _
  | table ls w =>
    have h := words_many (n := 12) (ls := ls.map fun l => l.map sV) fun l hl => by
      obtain ⟨x, hx, rfl⟩ := List.mem_map.mp hl
      have := (o.2.2 x hx).1
      have := o.1
      rw [List.length_map]
      omega
    have := o.2.1
    rw [List.length_map] at h
    show (wordsT _).length ≤ 200
    omega
theorem kind_len (d : Dsc) : (kindS d).length ≤ 10 := by
  cases d with
  | row _ => exact (show (Str.ofString "row").length ≤ 10 by decide +kernel)
  | forest _ => exact (show (Str.ofString "forest").length ≤ 10 by decide +kernel)
  | table _ _ => exact (show (Str.ofString "table").length ≤ 10 by decide +kernel)
theorem text_len {d : Dsc} (o : DOk d) : (textD d).length ≤ 2000 := by
  have h1 := cat_len (words_ok o) (kindS d)
  have h2 := words_few o
  have h3 := kind_len d
  unfold textD
  omega
theorem norm_same (d : Dsc) : wordsD (normD d) = wordsD d ∧ kindS (normD d) = kindS d := by
  cases d with
  | table ls w => cases ls <;> exact ⟨rfl, rfl⟩
  | _ => exact ⟨rfl, rfl⟩
theorem norm_flat {d : Dsc} (h : flatD d) : flatD (normD d) := by
  cases d with
  | table ls w => cases ls <;> trivial
  | row xs => trivial
  | forest ns => exact h
theorem norm_text (d : Dsc) : textD (normD d) = textD d := by unfold textD; rw [(norm_same d).1, (norm_same d).2]
theorem kind_free (d : Dsc) : freeC 32 (kindS d) := by
  cases d with
  | row _ => exact (show 32 ∉ (Str.ofString "row").cps.toList by decide +kernel)
  | forest _ => exact (show 32 ∉ (Str.ofString "forest").cps.toList by decide +kernel)
  | table _ _ => exact (show 32 ∉ (Str.ofString "table").cps.toList by decide +kernel)
theorem big3000 {n : Nat} (h : n ≤ 3000) : n ≤ sizeLine := Nat.le_trans h (by decide)
theorem split_it {wi : TI} {σ : St} {H : Hp} {G : It → Hp → Prop} (S : It → Hp → Prop) (h : ∀ G' : It → Hp → Prop, (∀ J H1, S J H1 → G' J H1) → wi σ H G') (g : ∀ J H1, S J H1 → G J H1) : wi σ H G := h _ g
theorem Same.none {H H' : Hp} (s : Same H H') {l : Addr} (h : H' l = none) : H l = none := by
  cases e : H l with
  | none => rfl
  | some o => rw [s _ _ e] at h; cases h
theorem lines_back {ls : List (List V)} (h : ∀ l ∈ ls, l.all markV = true) : (ls.map fun l => l.map sV).map (fun l => l.map V.str) = ls := by
  rw [List.map_map]
  conv => rhs; rw [← List.map_id ls]
  exact List.map_congr_left fun l hl => sV_map (h l hl)
theorem put_one {ws : List Str} {w : Str} {i : Nat} {rA : List (List Str)} {m : List Str} (h : ws[i]? = some w) (e : putW [[]] (ws.take i) = rA ++ [m]) :
    putW [[]] (ws.take (i + 1)) = if w = "/" then (rA ++ [m]) ++ [[]] else if w = "-" then rA ++ [m] else rA ++ [m ++ [w]] := by
  rw [List.take_add_one, h]
  show putW [[]] (ws.take i ++ [w]) = _
  rw [putW_app, e]
  show (if w = "/" then (rA ++ [m]) ++ [[]] else if w = "-" then rA ++ [m] else (rA ++ [m]).dropLast ++ [(rA ++ [m]).getLastD [] ++ [w]]) = _
  rw [List.dropLast_concat, show (rA ++ [m]).getLastD [] = m by simp]
theorem sum_le {n : Nat} : ∀ {ws : List Str}, (∀ w ∈ ws, w.length ≤ n) → (ws.map (·.length)).sum ≤ n * ws.length
  | [], _ => Nat.zero_le _
  | w :: ws, h => by
    have := h w List.mem_cons_self
    have := sum_le fun v hv => h v (List.mem_cons_of_mem w hv)
    simp only [List.map_cons, List.sum_cons, List.length_cons, Nat.mul_add]
    omega
theorem mark_str {x : V} (h : markV x = true) : x = .str (sV x) := by
  cases x with
  | str z => rfl
  | _ => exact nomatch (show false = true from h)
theorem cat_dash (t : Str) : t ++ Str.ofString " -" = catW ["-"] t := by
  show _ = t ++ Str.ofString " " ++ Str.ofString "-"
  rw [Str.append_assoc, show Str.ofString " " ++ Str.ofString "-" = Str.ofString " -" by decide +kernel]
theorem cat_slash (t : Str) : t ++ Str.ofString " /" = catW ["/"] t := by
  show _ = t ++ Str.ofString " " ++ Str.ofString "/"
  rw [Str.append_assoc, show Str.ofString " " ++ Str.ofString "/" = Str.ofString " /" by decide +kernel]
theorem ends_gen {B : TS} {D : Ends} {σ : St} {H : Hp} (h : ∀ D0 : Ends, D0.nx = D.nx → B D0 σ H) : B D σ H := h D rfl
theorem form_head {H : Hp} {f : Addr} {d : Dsc} (h : FormAt H f d) : ∃ xs, H f = some (.tup (.str (kindS d) :: xs)) := by
  cases d with
  | row xs => obtain ⟨t, h1, _⟩ := h; exact ⟨_, h1⟩
  | forest ns => obtain ⟨t, ys, h1, _⟩ := h; exact ⟨_, h1⟩
  | table ls w => obtain ⟨t, ts, h1, _⟩ := h; exact ⟨_, h1⟩
theorem row_strs {H : Hp} {x : V} {l : List V} (h : RowAt .tup H x l) (hm : l.all markV = true) : ∃ t, x = .ref t ∧ H t = some (.tup ((l.map sV).map V.str)) := by
  obtain ⟨t, e, ht⟩ := h
  exact ⟨t, e, by rw [sV_map hm]; exact ht⟩
theorem flat_left {d : Dsc} (h : flatD d) (ps : List Int) : flatD (leftD d ps) := by
  cases d with
  | forest ns => exact h
  | row xs => trivial
  | table ls w => trivial
def sp_show_line (K : PySem.W.Frag) : Sp := fun vs H Q _ => ∃ (t : Addr) (zs : List Str), vs = [.ref t] ∧ SqT K H t (zs.map V.str) ∧ (∀ z ∈ zs, markS z = true) ∧ zs.length ≤ 12 ∧ Q (.str (showL zs)) H
def sp_show_nodes : Sp := fun _ _ _ _ => False
def sp_nodes_in : Sp := fun _ _ _ _ => False
def sp_show_thing (ad : Adr) : Sp := fun vs H Q _ => ∃ (p : Addr) (d : Dsc), vs = [.ref p] ∧ ThObj ad H p d ∧ flatD d ∧ ∀ H', Same H H' → Q (.str (textD d)) H'
def sp_lines_in : Sp := fun vs H Q _ => ∃ ls : List (List V), vs = [.str (Str.join " " (wordsT (ls.map fun l => l.map sV)))] ∧ ls.length ≤ 12 ∧ (∀ l ∈ ls, l.length ≤ 12 ∧ l.all markV = true) ∧ ∀ a ys H', Same H H' → H' a = some (.lst ys) → RowsAt .lst H' ys ls → Q (.ref a) H'
def sp_marks_in : Sp := fun vs H Q _ => ∃ xs : List V, vs = [.str (Str.join " " (xs.map sV))] ∧ xs.all markV = true ∧ xs.length ≤ 40 ∧ ∀ a H', Same H H' → H' a = some (.lst xs) → Q (.ref a) H'
def sp_made_of (ad : Adr) : Sp := fun vs H Q _ => ∃ d : Dsc, vs = [.str (kindS d), .str (Str.join " " (wordsD d))] ∧ DOk d ∧ flatD d ∧ ∀ p H', Same H H' → ThObj ad H' p (normD d) → Q (.ref p) H'
def sp_read_thing (ad : Adr) : Sp := fun vs H Q _ => ∃ d : Dsc, vs = [.str (textD d)] ∧ DOk d ∧ flatD d ∧ ∀ p H', Same H H' → ThObj ad H' p (normD d) → Q (.ref p) H'
def sp__law_text : Sp := fun vs H Q _ => ∃ (f : Addr) (d : Dsc), vs = [.ref f] ∧ FormAt H f d ∧ DOk d ∧ flatD d ∧ ∀ H', Same H H' → Q (.str (textD d)) H'
theorem any_leftS {ad : Adr} {H : Hp} {p : Addr} {d : Dsc} {Q : VK} {E : XK} (A : (V → Hp → Prop) → Prop) (h : ThObj ad H p d) (hA : ∀ F : V → Hp → Prop, (∀ (ps : List Int) l H1, Same H H1 → placesOk 0 (manyD d : Nat) ps → H1 l = some (.lst (ps.map V.int)) → F (.ref l) H1) → A F) (k : ∀ ps q H', Same H H' → ThObj ad H' q (leftD d ps) → Q (.ref q) H') :
    ((∃ x y, H p = some (.ins ad.Row x y) ∧ List.lookup (Str.ofString "left") y = none ∧ A fun v H1 => sp_Row_left ad [.ref p, v] H1 Q E) ∨ ∃ x y, H p = some (.ins ad.Forest x y) ∧ List.lookup (Str.ofString "left") y = none ∧ A fun v H1 => sp_Forest_left ad [.ref p, v] H1 Q E) ∨ ∃ x y, H p = some (.ins ad.Table x y) ∧ List.lookup (Str.ofString "left") y = none ∧ A fun v H1 => sp_Table_left ad [.ref p, v] H1 Q E := by
  have inj : ∀ {H1 : Hp} {l a : Addr} {ps qs : List Int}, H1 l = some (.lst (ps.map V.int)) → V.ref l = .ref a → H1 a = some (.lst (qs.map V.int)) → qs = ps := fun hl e g => by
    cases e
    rw [hl] at g
    exact (map_int_inj (HO.lst.inj (Option.some.inj g))).symm
  cases d with
  | row xs =>
    obtain ⟨dx, t, h1, _⟩ := id h
    exact .inl (.inl ⟨dx, _, h1, rfl, hA _ fun ps l H1 s1 hp hl => ⟨p, .ref l, xs, rfl, RowObj.same s1 h, thg2_ints hl, fun a qs e g _ q H' s r => k ps q H' (s1.trans s) (by have := inj hl e g; subst this; exact r), fun nb => absurd ⟨l, ps, rfl, hl, hp⟩ nb⟩⟩)
  | forest ns =>
    obtain ⟨⟨dx, t1, t2, xs, h1, _⟩, o1, o2⟩ := id h
    refine .inl (.inr ⟨dx, _, h1, lookup_no (by decide +kernel) (by decide +kernel), hA _ fun ps l H1 s1 hp hl => ?_⟩)
    have hp' : placesOk 0 (ns.length : Int) ps := hp
    have lps := places_len hp' (by omega)
    exact ⟨p, .ref l, ns, rfl, h.1.same s1, o1, o2, thg2_ints hl, fun a qs e g _ q H' s r => k ps q H' (s1.trans s) (by have := inj hl e g; subst this; exact ⟨r, left_ok o1 hp', by unfold leftN; rw [List.length_map]; omega⟩), fun nb => absurd ⟨l, ps, rfl, hl, hp⟩ nb⟩
  | table ls w =>
    obtain ⟨dx, t1, t2, ts, h1, _⟩ := id h
    have e : ((manyD (.table ls w) : Nat) : Int) = (ls.length : Int) + (w : Int) := by show ((ls.length + w : Nat) : Int) = _; omega
    refine .inr ⟨dx, _, h1, lookup_no3 (by decide +kernel) (by decide +kernel) (by decide +kernel), hA _ fun ps l H1 s1 hp hl => ?_⟩
    rw [e] at hp
    exact ⟨p, .ref l, ls, w, rfl, TabObj.same s1 h, thg2_ints hl, fun a qs e g _ q H' s r => k ps q H' (s1.trans s) (by have := inj hl e g; subst this; exact r), fun nb => absurd ⟨l, ps, rfl, hl, hp⟩ nb⟩
def ArgS (K : PySem.W.Frag) (ad : Adr) (H : Hp) (a p : Addr) (E : XK) (F : V → Hp → Prop) : Prop := sp__law_cell_at K [.ref a, .int 2] H (fun x H1 =>
    ((∃ y z, H1 p = some (.ins ad.Row y z) ∧ List.lookup (Str.ofString "many") z = none ∧ sp_Row_many ad [.ref p] H1 (fun n H2 => sp__law_some [x, n] H2 F E) E) ∨ ∃ y z, H1 p = some (.ins ad.Forest y z) ∧ List.lookup (Str.ofString "many") z = none ∧ sp_many ad [.ref p] H1 (fun n H2 => sp__law_some [x, n] H2 F E) E) ∨ ∃ y z, H1 p = some (.ins ad.Table y z) ∧ List.lookup (Str.ofString "many") z = none ∧ sp_Table_many ad [.ref p] H1 (fun n H2 => sp__law_some [x, n] H2 F E) E) E
theorem argS {K : PySem.W.Frag} {ad : Adr} {H : Hp} {a p : Addr} {d : Dsc} {ns : List Int} {E : XK} (hS : SqL K H a (ns.map V.int)) (h : ThObj ad H p d) : ∀ F : V → Hp → Prop, (∀ (ps : List Int) l H1, Same H H1 → placesOk 0 (manyD d : Nat) ps → H1 l = some (.lst (ps.map V.int)) → F (.ref l) H1) → ArgS K ad H a p E F := fun F k =>
  ⟨a, ns, 2, rfl, hS, any_many h ⟨_, manyD d, rfl, by have := h.ok.many; omega, fun ps l H' s hl hp => k ps l H' s hp hl⟩⟩
section
variable {P : Program} {w : World} {K : PySem.W.Frag} {mg : Str → Option Value} {base : Heap} {ad : Adr}
theorem ok_is_whole {f : Addr} {fd : FuncData} (D : Def K mg "is_whole" s_is_whole ["thing"] f fd) (T : Txt K mg ad) : FnOk P w K mg base CX0 1 f fd ["thing"] sp_is_whole := by
  refine D.F.ok sc_is_whole (fun vs H Q E h => ?_) (fun cdv A outer s H vs Q E hr h => ?_)
  · obtain ⟨v, rfl, _⟩ := h
    rfl
  · obtain ⟨v, rfl, t, k⟩ := h
    obtain ⟨y, ty, _, e2, e3⟩ := t.ty (K := K)
    refine ⟨_, (@pss_one _ _ _ (ps_ret (pe_and (pe_callB call_isiT rfl T.isinstance PyProof.Rows.boot_isinstance (pa_cons (pv 0) (pa_cons (pe_ty rfl T.int PyProof.Rows.boot_int) pa_nil))) (pe_one (pe_not (pe_callB call_isiT rfl T.isinstance PyProof.Rows.boot_isinstance (pa_cons (pv 0) (pa_cons (pe_ty rfl T.bool PyProof.Rows.boot_bool) pa_nil)))))))), ?_⟩
    and_intros
    refine ⟨y, ty, _, e2, ?_⟩
    cases t with
    | non => exact iteF k
    | str x h => exact iteF k
    | lst h => exact iteF k
    | tup h => exact iteF k
    | bl b => exact iteT ⟨y, ty, _, e3, k⟩
    | int i => exact iteT ⟨y, ty, _, e3, k⟩
theorem ok_is_mark {f : Addr} {fd : FuncData} (D : Def K mg "is_mark" s_is_mark ["thing"] f fd) (T : Txt K mg ad) : FnOk P w K mg base CX0 1 f fd ["thing"] sp_is_mark := by
  refine D.F.ok sc_is_mark (fun vs H Q E h => ?_) (fun cdv A outer s H vs Q E hr h => ?_)
  · obtain ⟨v, rfl, _⟩ := h
    rfl
  · obtain ⟨v, rfl, t, k⟩ := h
    obtain ⟨tk_LETTERS, h_LETTERS⟩ := T.g_LETTERS
    obtain ⟨tk_LONGEST_MARK, h_LONGEST_MARK⟩ := T.g_LONGEST_MARK
    obtain ⟨y, ty, e1, _, _⟩ := t.ty (K := K)
    refine ⟨_, (@pss_cons _ _ _ _ _ (ps_if (pt_not (pt_val (pe_callB call_isiT rfl T.isinstance PyProof.Rows.boot_isinstance (pa_cons (pv 0) (pa_cons (pe_ty rfl T.str PyProof.Rows.boot_str) pa_nil)))))
      (@pss_one _ _ _ (ps_ret pe_bl))
      pss_nil)
      (@pss_cons _ _ _ _ _ (ps_if (pt_not (pt_chain op_le op_le pe_int (pe_callB call_len_str rfl T.len PySem.boot_len (pa_cons (pv 0) pa_nil)) (pe_glob (v := .int 8) rfl h_LONGEST_MARK ⟨_, rfl⟩)))
      (@pss_one _ _ _ (ps_ret pe_bl))
      pss_nil)
      (@pss_one _ _ _ (ps_ret (pe_callB (call_all rfl) rfl T.all (by decide +kernel) (pa_cons (pe_comp (own := ["sign"]) (cap := []) (ix := []) rfl (show CompScope ["thing"] (defScope s_is_mark) _ ["sign"] [] [] from ⟨rfl, by decide +kernel, by decide +kernel, by decide +kernel, by decide +kernel, by decide +kernel, by decide +kernel, rfl, by decide +kernel⟩) (pi_str (pv 0)) (fun C s₀ H₀ ex pn => ⟨pg_name (i := 0) (show (["sign"] : List Str).Nodup by decide +kernel) rfl (Or.inl rfl), pifs_nil, (pe_cmpR op_in_str (pv 0) (pe_glob (v := .str LET) rfl h_LETTERS ⟨_, rfl⟩) rfl)⟩)) pa_nil)))))), ?_⟩
    refine ⟨_, rfl, v, "str", y, _, rfl, ty, e1, _, rfl, ?_⟩
    cases t with
    | non => exact iteT (k H (Same.refl H))
    | int i => exact iteT (k H (Same.refl H))
    | bl b => exact iteT (k H (Same.refl H))
    | lst h => exact iteT (k H (Same.refl H))
    | tup h => exact iteT (k H (Same.refl H))
    | str x hx =>
      refine iteF ?_
      have hz : x.length ≤ sizeLine := Nat.le_of_lt (small1000 hx)
      refine ⟨_, rfl, x, rfl, hz, _, _, rfl, rfl, _, rfl, ?_⟩
      have km : ∀ H', Same H H' → Q (.bl (markS x)) H' := k
      refine ite2 (fun h1 => ?_) (fun h1 => ?_)
      · have h1 : 1 ≤ x.length := by have := of_decide_eq_true h1; omega
        refine ⟨_, _, rfl, rfl, _, rfl, ?_⟩
        refine ite2 (fun h2 => ?_) (fun h2 => ?_)
        · have h2 : ¬ x.length ≤ 8 := by simp at h2; omega
          have e : markS x = false := by unfold markS; rw [decide_eq_false h2]; simp
          rw [e] at km
          exact km H (Same.refl H)
        · have h2 : x.length ≤ 8 := by simp at h2; omega
          dsimp only [tNext, tRet, tCB, tCons]
          refine tcomp_str (z := x) (fun R r => ⟨_, rfl, x, rfl, r⟩) (fun i ys H' => H' = H ∧ ∃ bs : List Bool, ys = bs.map V.bl ∧ bs.length = i ∧ bs.all id = (x.cps.toList.take i).all letC) ⟨rfl, [], rfl, rfl, by simp⟩ ?_ ?_
          · rintro i c ys H' R hc ⟨rfl, bs, rfl, hb1, hb2⟩ hR
            refine ⟨_, rfl, _, _, rfl, rfl, ?_, hR _ _ ⟨rfl, bs ++ [letC c], by simp [letC], by simp [hb1], ?_⟩⟩
            · rw [List.length_map, hb1]
              have : i < x.cps.size := (Array.getElem?_eq_some_iff.mp hc).1
              have hx' : x.cps.size = x.length := rfl
              omega
            · rw [all_take_succ (by simpa using hc), ← hb2]
              simp
          · rintro ys H' ⟨rfl, bs, rfl, hb1, hb2⟩
            refine ⟨?_, fun Dd hD => ⟨Dd, bs, rfl, SqL.of upd_same, ?_⟩⟩
            · rw [List.length_map, hb1]; exact hz
            · have e : bs.all id = markS x := by
                rw [hb2, List.take_of_length_le (by simp)]
                unfold markS
                rw [decide_eq_true h1, decide_eq_true h2]
                simp
              rw [e]
              exact km _ fun b o q => by rw [upd_ne (ne_of_none q hD)]; exact q
      · have h1 : ¬ 1 ≤ x.length := by
          have q : (x.length : Int) < 1 := by simpa using h1
          omega
        have e : markS x = false := by unfold markS; rw [decide_eq_false h1]; simp
        rw [e] at km
        exact ⟨_, rfl, iteT (km H (Same.refl H))⟩
theorem ok_check_list {f : Addr} {fd : FuncData} (D : Def K mg "check_list" s_check_list ["thing", "most"] f fd) (T : Txt K mg ad) : FnOk P w K mg base (CX1 P w) 1 f fd ["thing", "most"] (sp_check_list ad) := by
  refine D.F.okX sc_check_list (fun vs H Q E h => ?_) (fun cdv A outer s H vs Q E hr h => ?_)
  · obtain ⟨v, n, rfl, _⟩ := h
    rfl
  · obtain ⟨v, n, rfl, t, kg, kb⟩ := h
    obtain ⟨y, b, ty, e, hb⟩ := t.isList (K := K)
    refine ⟨_, (@pss_cons _ _ _ _ _ (ps_if (pt_not (pt_val (pe_callB call_isiT rfl T.isinstance PyProof.Rows.boot_isinstance (pa_cons (pv 0) (pa_cons (pe_ty rfl T.list PyProof.Rows.boot_list) pa_nil)))))
      (@pss_one _ _ _ (ps_raise T.e_NoThing rfl raises1 rfl (pa_cons pe_str pa_nil)))
      pss_nil)
      (@pss_one _ _ _ (ps_if (pt_cmpR op_gt (pe_callB call_lenL rfl T.len PySem.boot_len (pa_cons (pv 0) pa_nil)) (pv 1) (nomark _))
      (@pss_one _ _ _ (ps_raise T.e_NoThing rfl raises1 rfl (pa_cons pe_str pa_nil)))
      pss_nil))), ?_⟩
    and_intros
    refine ⟨y, ty, b, e, ?_⟩
    have h1 : 1 ≤ sizeLine := by decide
    rcases hb with ⟨rfl, a, xs, rfl, ha⟩ | ⟨rfl, hb⟩
    · refine ite2 (fun z => nomatch z) fun _ => ⟨a, rfl, xs, SqL.of ha, ite2 (fun h => ⟨h1, kb ?_⟩) fun h => kg ⟨a, xs, rfl, ha, by omega⟩⟩
      rintro ⟨a', xs', e', h', l'⟩
      cases e'
      rw [ha] at h'
      cases h'
      omega
    · refine ite2 (fun _ => ⟨h1, kb ?_⟩) fun z => absurd rfl z
      rintro ⟨a', xs', e', h', l'⟩
      exact hb a' xs' e' h'
theorem ok_check_marks {f : Addr} {fd : FuncData} (D : Def K mg "check_marks" s_check_marks ["marks", "most"] f fd) (T : Txt K mg ad) {f_check_list : Addr} {fd_check_list : FuncData} (G_check_list : FnOk P w K mg base (CX1 P w) 1 f_check_list fd_check_list ["thing", "most"] (sp_check_list ad)) {f_is_mark : Addr} {fd_is_mark : FuncData} (G_is_mark : FnOk P w K mg base CX0 1 f_is_mark fd_is_mark ["thing"] sp_is_mark) (D_check_list : Def K mg "check_list" s_check_list ["thing", "most"] f_check_list fd_check_list) (D_is_mark : Def K mg "is_mark" s_is_mark ["thing"] f_is_mark fd_is_mark) : FnOk P w K mg base (CX1 P w) 2 f fd ["marks", "most"] (sp_check_marks ad) := by
  refine D.F.okX sc_check_marks (fun vs H Q E h => ?_) (fun cdv A outer s H vs Q E hr h => ?_)
  · obtain ⟨v, n, rfl, _⟩ := h
    rfl
  · obtain ⟨v, n, rfl, t, kg, kb⟩ := h
    refine ⟨_, (@pss_cons _ _ _ _ _ (ps_expr (pe_call G_check_list (hr.mono (by decide)) rfl D_check_list.mg D_check_list.F.kp D_check_list.b .nil pass1 (pa_cons (pv 0) (pa_cons (pv 1) pa_nil))))
      (@pss_one _ _ _ (ps_for PassesOwn.leaving rfl (pi_list (pv 0)) (pg_name (i := 2) sc_check_marks.nd rfl (Or.inl rfl))
      (@pss_one _ _ _ (ps_if (pt_not (pt_val (pe_call G_is_mark (hr.mono (by decide)) rfl D_is_mark.mg D_is_mark.F.kp D_is_mark.b .nil pass0 (pa_cons (pv 2) pa_nil))))
      (@pss_one _ _ _ (ps_raise T.e_NoThing rfl raises1 rfl (pa_cons pe_str pa_nil)))
      pss_nil))))), ?_⟩
    and_intros
    refine ⟨v, n, rfl, t.1, fun hg => ?_, fun hb => kb (fun ⟨a, xs, e, h, l, _⟩ => hb ⟨a, xs, e, h, l⟩) H (Same.refl H)⟩
    obtain ⟨a, xs, rfl, ha, hl⟩ := hg
    refine ⟨_, rfl, a, rfl, ⟨_, SqL.of ha⟩, for_list (xs := xs) (fun i σ H' => Same H H' ∧ (xs.take i).all markV = true ∧ ∃ o, σ = [some (.ref a), some (.int n), o]) ⟨Same.refl H, by simp, _, rfl⟩ ?_ ?_ ?_⟩
    · rintro i σ H' _ ⟨s1, _, _⟩
      exact SqL.of (s1 _ _ ha)
    · rintro i x σ H' hx ⟨s1, h1, o, rfl⟩
      and_intros
      refine ⟨x, rfl, (t.2 a xs rfl ha x (List.mem_of_getElem? hx)).same s1, fun H2 s2 => ?_⟩
      and_intros
      have h3 : (xs.take (i + 1)).all markV = ((xs.take i).all markV && markV x) := by rw [List.take_add_one, hx]; simp
      refine ite2 (fun h2 => ⟨by decide, kb ?_ H2 (s1.trans s2)⟩) fun h2 => ⟨s1.trans s2, ?_, _, rfl⟩
      · rintro ⟨a', xs', e', h', l', m'⟩
        cases e'
        rw [ha] at h'
        cases h'
        have := List.all_eq_true.mp m' x (List.mem_of_getElem? hx)
        rw [h2] at this
        cases this
      · rw [h3, h1]
        cases hm : markV x
        · exact absurd hm h2
        · rfl
    · rintro σ H' ⟨s1, h1, o, rfl⟩
      rw [List.take_length] at h1
      exact kg ⟨a, xs, rfl, ha, hl, h1⟩ H' s1
theorem ok_check_node {f : Addr} {fd : FuncData} (D : Def K mg "check_node" s_check_node ["node", "deepest"] f fd) (T : Txt K mg ad) {f_is_mark : Addr} {fd_is_mark : FuncData} (G_is_mark : FnOk P w K mg base CX0 1 f_is_mark fd_is_mark ["thing"] sp_is_mark) {f_is_whole : Addr} {fd_is_whole : FuncData} (G_is_whole : FnOk P w K mg base CX0 1 f_is_whole fd_is_whole ["thing"] sp_is_whole) (D_is_mark : Def K mg "is_mark" s_is_mark ["thing"] f_is_mark fd_is_mark) (D_is_whole : Def K mg "is_whole" s_is_whole ["thing"] f_is_whole fd_is_whole) : FnOk P w K mg base (CX1 P w) 2 f fd ["node", "deepest"] (sp_check_node ad) := by
  refine D.F.okX sc_check_node (fun vs H Q E h => ?_) (fun cdv A outer s H vs Q E hr h => ?_)
  · obtain ⟨v, d, rfl, _⟩ := h
    rfl
  · obtain ⟨v, d, rfl, t, kg, kb⟩ := h
    obtain ⟨y, b, ty, e, hb⟩ := t.1.isTup (K := K)
    refine ⟨_, (@pss_cons _ _ _ _ _ (ps_if (PW.pt (pw_or (pt_not (pt_val (pe_callB call_isiT rfl T.isinstance PyProof.Rows.boot_isinstance (pa_cons (pv 0) (pa_cons (pe_ty rfl T.tuple PyProof.Rows.boot_tuple) pa_nil))))) (pw_or1 (pt_cmpR op_ne (pe_callB call_lenT rfl T.len PySem.boot_len (pa_cons (pv 0) pa_nil)) pe_int (nomark _)))))
      (@pss_one _ _ _ (ps_raise T.e_NoThing rfl raises1 rfl (pa_cons pe_str pa_nil)))
      pss_nil)
      (@pss_cons _ _ _ _ _ (ps_if (pt_not (pt_val (pe_call G_is_mark (hr.mono (by decide)) rfl D_is_mark.mg D_is_mark.F.kp D_is_mark.b .nil pass0 (pa_cons (pe_ix ix_tup (pv 0) pe_int (fun _ _ => rfl)) pa_nil))))
      (@pss_one _ _ _ (ps_raise T.e_NoThing rfl raises1 rfl (pa_cons pe_str pa_nil)))
      pss_nil)
      (@pss_one _ _ _ (ps_if (PW.pt (pw_or (pt_not (pt_val (pe_call G_is_whole (hr.mono (by decide)) rfl D_is_whole.mg D_is_whole.F.kp D_is_whole.b .nil pass0 (pa_cons (pe_ix ix_tup (pv 0) pe_int (fun _ _ => rfl)) pa_nil)))) (pw_or1 (pt_not (pt_chain op_le op_le pe_int (pe_ix ix_tup (pv 0) pe_int (fun _ _ => rfl)) (pv 1))))))
      (@pss_one _ _ _ (ps_raise T.e_NoThing rfl raises1 rfl (pa_cons pe_str pa_nil)))
      pss_nil)))), ?_⟩
    and_intros
    refine ⟨y, ty, b, e, ?_⟩
    have h1 : 1 ≤ sizeLine := by decide
    rcases hb with ⟨rfl, a, xs, rfl, ha⟩ | ⟨rfl, hb⟩
    · and_intros
      have no : xs.length ≠ 2 → ∀ n, ¬ NodeAt H (.ref a) n := fun h n ⟨a', e', h'⟩ => by
        cases e'
        rw [ha] at h'
        cases h'
        exact h rfl
      refine ⟨xs, SqT.of ha, ite2 (fun h2 => ⟨h1, kb (fun n hn => absurd hn (no (by omega) n)) H (Same.refl H)⟩) fun h2 => ?_⟩
      obtain ⟨x0, x1, rfl⟩ : ∃ x0 x1, xs = [x0, x1] := by
        match xs, h2 with
        | [], h => simp at h
        | [_], h => simp at h
        | [x0, x1], _ => exact ⟨x0, x1, rfl⟩
        | _ :: _ :: _ :: r, h => simp at h; omega
      have tx : ∀ n, NodeAt H (.ref a) n → x0 = .str n.1 ∧ x1 = .int n.2 := fun n ⟨a', e', h'⟩ => by
        cases e'
        rw [ha] at h'
        simp at h'
        exact h'
      refine ⟨_, SqT.of ha, x0, rfl, x0, rfl, t.2 a _ rfl ha x0 (by simp), fun H1 s1 => ⟨_, rfl, ite2 (fun hm => ⟨h1, kb (fun n hn => ?_) H1 s1⟩) fun hm => ?_⟩⟩
      · obtain ⟨e0, _⟩ := tx n hn
        subst e0
        rintro ⟨m1, _⟩
        exact absurd m1 (by rw [show markS n.1 = false from hm]; decide)
      · refine ⟨_, SqT.of (s1 _ _ ha), x1, rfl, x1, rfl, (t.2 a _ rfl ha x1 (by simp)).same s1, _, rfl, ite2 (fun hw => ⟨h1, kb (fun n hn => ?_) H1 s1⟩) fun hw => ?_⟩
        · obtain ⟨_, e1⟩ := tx n hn
          subst e1
          cases hw
        · obtain ⟨m, e0⟩ : ∃ m, x0 = .str m := by
            cases x0 with
            | str m => exact ⟨m, rfl⟩
            | _ => exact absurd rfl hm
          obtain ⟨k, e1⟩ : ∃ k, x1 = .int k := by
            cases x1 with
            | int k => exact ⟨k, rfl⟩
            | _ => exact absurd rfl hw
          subst e0 e1
          have hm' : markS m = true := by
            cases q : markS m
            · exact absurd q hm
            · rfl
          refine ⟨_, SqT.of (s1 _ _ ha), .int k, rfl, k, rfl, ite2 (fun h0 => ⟨k, rfl, ite2 (fun h3 => ⟨h1, kb (fun n hn => ?_) H1 s1⟩) fun h3 => ?_⟩) fun h0 => ⟨h1, kb (fun n hn => ?_) H1 s1⟩⟩
          · obtain ⟨_, e1⟩ := tx n hn
            cases e1
            rintro ⟨_, _, z⟩
            exact h3 z
          · exact kg (m, k) ⟨a, rfl, ha⟩ hm' h0 (by omega) H1 s1
          · obtain ⟨_, e1⟩ := tx n hn
            cases e1
            rintro ⟨_, z, _⟩
            exact h0 z
    · refine ite2 (fun _ => ⟨h1, kb (fun n hn => ?_) H (Same.refl H)⟩) fun z => absurd rfl z
      obtain ⟨a, e, h⟩ := hn
      exact absurd h (hb a _ e)
theorem ok_check_nodes {f : Addr} {fd : FuncData} (D : Def K mg "check_nodes" s_check_nodes ["nodes"] f fd) (T : Txt K mg ad) {f_check_list : Addr} {fd_check_list : FuncData} (G_check_list : FnOk P w K mg base (CX1 P w) 1 f_check_list fd_check_list ["thing", "most"] (sp_check_list ad)) {f_check_node : Addr} {fd_check_node : FuncData} (G_check_node : FnOk P w K mg base (CX1 P w) 2 f_check_node fd_check_node ["node", "deepest"] (sp_check_node ad)) (D_check_list : Def K mg "check_list" s_check_list ["thing", "most"] f_check_list fd_check_list) (D_check_node : Def K mg "check_node" s_check_node ["node", "deepest"] f_check_node fd_check_node) : FnOk P w K mg base (CX1 P w) 3 f fd ["nodes"] (sp_check_nodes ad) := by
  refine D.F.okX sc_check_nodes (fun vs H Q E h => ?_) (fun cdv A outer s H vs Q E hr h => ?_)
  · obtain ⟨v, rfl, _⟩ := h
    rfl
  · obtain ⟨v, rfl, t, kg, kb⟩ := h
    obtain ⟨tk_MOST_NODES, h_MOST_NODES⟩ := T.g_MOST_NODES
    obtain ⟨tk_DEEPEST, h_DEEPEST⟩ := T.g_DEEPEST
    refine ⟨_, (@pss_cons _ _ _ _ _ (ps_expr (pe_call G_check_list (hr.mono (by decide)) rfl D_check_list.mg D_check_list.F.kp D_check_list.b .nil pass1 (pa_cons (pv 0) (pa_cons (pe_glob (v := .int 40) rfl h_MOST_NODES ⟨_, rfl⟩) pa_nil))))
      (@pss_cons _ _ _ _ _ (ps_set (i := 1) sc_check_nodes.nd rfl (Or.inl rfl) pe_int)
      (@pss_one _ _ _ (ps_for PassesOwn.leaving rfl (pi_list (pv 0)) (pg_name (i := 2) sc_check_nodes.nd rfl (Or.inl rfl))
      (@pss_cons _ _ _ _ _ (ps_expr (pe_call G_check_node (hr.mono (by decide)) rfl D_check_node.mg D_check_node.F.kp D_check_node.b .nil pass1 (pa_cons (pv 2) (pa_cons (pv 1) pa_nil))))
      (@pss_one _ _ _ (ps_set (i := 1) sc_check_nodes.nd rfl (Or.inl rfl) (pe_callB (call_min2 rfl) rfl T.min (by decide +kernel) (pa_cons (pe_op op_add (pe_ix ix_tup (pv 2) pe_int (fun _ _ => rfl)) pe_int) (pa_cons (pe_glob (v := .int 12) rfl h_DEEPEST ⟨_, rfl⟩) pa_nil)))))))))), ?_⟩
    and_intros
    refine ⟨v, 40, rfl, t.1, fun hg => ?_, fun hb => kb (fun ⟨a, xs, ns, e, h, l, _⟩ => hb ⟨a, xs, e, h, l⟩) H (Same.refl H)⟩
    obtain ⟨a, xs, rfl, ha, hl⟩ := hg
    refine ⟨_, rfl, a, rfl, ⟨_, SqL.of ha⟩, for_list (xs := xs) (fun i σ H' => Same H H' ∧ ∃ (ns : List Nd) (o : Option V), NodesAt H (xs.take i) ns ∧ depthOk 0 ns ∧ StIs σ [some (.ref a), some (.int (deepAfter 0 ns)), o]) ⟨Same.refl H, [], none, by simp [NodesAt], trivial, StIs.rfl⟩ ?_ ?_ ?_⟩
    · rintro i σ H' _ ⟨s1, _⟩
      exact SqL.of (s1 _ _ ha)
    · rintro i x σ H' hx ⟨s1, ns, o, hn, hd, rfl⟩
      and_intros
      have tx := t.2 a xs rfl ha x (List.mem_of_getElem? hx)
      have ex : xs.take (i + 1) = xs.take i ++ [x] := by rw [List.take_add_one, hx]; rfl
      refine ⟨x, _, rfl, tx.same s1, fun n hn1 m1 m2 m3 H2 s2 => ?_, fun hb H2 s2 => kb ?_ H2 (s1.trans s2)⟩
      · have hn0 := hn1.back tx.1 s1
        obtain ⟨tt, e, h2⟩ := hn1
        subst e
        and_intros
        refine ⟨_, SqT.of (s2 _ _ h2), _, rfl, _, rfl, s1.trans s2, ns ++ [n], ?_, ?_, some (.ref tt), ?_⟩
        · rw [ex]; exact hn.append ⟨hn0, trivial⟩
        · exact depthOk_append.mpr ⟨hd, m1, m2, m3, trivial⟩
        · have e : deepAfter 0 (ns ++ [n]) = if 12 < n.2 + 1 then 12 else n.2 + 1 := by
            rw [deepAfter_append]
            show min (n.2 + 1) 12 = _
            split <;> omega
          rw [e]
          exact StIs.rfl
      · have e : xs = xs.take i ++ x :: xs.drop (i + 1) := by
          have h := List.take_append_drop (i + 1) xs
          rw [ex, List.append_assoc] at h
          exact h.symm
        rw [e] at ha
        exact notN_mid ha hn fun n hn' => hb n (hn'.same s1)
    · rintro σ H' ⟨s1, ns, o, hn, hd, rfl⟩
      rw [List.take_length] at hn
      exact kg ⟨a, xs, ns, rfl, ha, hl, hn, hd⟩ H' s1
theorem ok_check_lines {f : Addr} {fd : FuncData} (D : Def K mg "check_lines" s_check_lines ["lines"] f fd) (T : Txt K mg ad) {f_check_list : Addr} {fd_check_list : FuncData} (G_check_list : FnOk P w K mg base (CX1 P w) 1 f_check_list fd_check_list ["thing", "most"] (sp_check_list ad)) {f_check_marks : Addr} {fd_check_marks : FuncData} (G_check_marks : FnOk P w K mg base (CX1 P w) 2 f_check_marks fd_check_marks ["marks", "most"] (sp_check_marks ad)) (D_check_list : Def K mg "check_list" s_check_list ["thing", "most"] f_check_list fd_check_list) (D_check_marks : Def K mg "check_marks" s_check_marks ["marks", "most"] f_check_marks fd_check_marks) : FnOk P w K mg base (CX1 P w) 3 f fd ["lines"] (sp_check_lines ad) := by
  refine D.F.okX sc_check_lines (fun vs H Q E h => ?_) (fun cdv A outer s H vs Q E hr h => ?_)
  · obtain ⟨v, rfl, _⟩ := h
    rfl
  · obtain ⟨v, rfl, t, kg, kb⟩ := h
    obtain ⟨tk_MOST_LINES, h_MOST_LINES⟩ := T.g_MOST_LINES
    obtain ⟨tk_MOST_COLUMNS, h_MOST_COLUMNS⟩ := T.g_MOST_COLUMNS
    refine ⟨_, (@pss_cons _ _ _ _ _ (ps_expr (pe_call G_check_list (hr.mono (by decide)) rfl D_check_list.mg D_check_list.F.kp D_check_list.b .nil pass1 (pa_cons (pv 0) (pa_cons (pe_glob (v := .int 12) rfl h_MOST_LINES ⟨_, rfl⟩) pa_nil))))
      (@pss_one _ _ _ (ps_for PassesOwn.leaving rfl (pi_list (pv 0)) (pg_name (i := 1) sc_check_lines.nd rfl (Or.inl rfl))
      (@pss_cons _ _ _ _ _ (ps_expr (pe_call G_check_marks (hr.mono (by decide)) rfl D_check_marks.mg D_check_marks.F.kp D_check_marks.b .nil pass1 (pa_cons (pv 1) (pa_cons (pe_glob (v := .int 12) rfl h_MOST_COLUMNS ⟨_, rfl⟩) pa_nil))))
      (@pss_one _ _ _ (ps_if (pt_cmpR op_ne (pe_callB call_lenL rfl T.len PySem.boot_len (pa_cons (pv 1) pa_nil)) (pe_callB call_lenL rfl T.len PySem.boot_len (pa_cons (pe_ix ix_list (pv 0) pe_int (fun _ _ => rfl)) pa_nil)) (nomark _))
      (@pss_one _ _ _ (ps_raise T.e_NoThing rfl raises1 rfl (pa_cons pe_str pa_nil)))
      pss_nil)))))), ?_⟩
    and_intros
    refine ⟨v, 12, rfl, t.1, fun hg => ?_, fun hb => kb (fun ⟨a, xs, ns, e, h, l, _⟩ => hb ⟨a, xs, e, h, l⟩) H (Same.refl H)⟩
    obtain ⟨a, xs, rfl, ha, hl⟩ := hg
    refine ⟨_, rfl, a, rfl, ⟨_, SqL.of ha⟩, for_list (xs := xs) (fun i σ H' => Same H H' ∧ ∃ (ls : List (List V)) (o : Option V), RowsAt .lst H (xs.take i) ls ∧ tabOk ls ∧ StIs σ [some (.ref a), o]) ⟨Same.refl H, [], none, by simp [RowsAt], ⟨0, Nat.zero_le _, fun _ z => nomatch z⟩, StIs.rfl⟩ ?_ ?_ ?_⟩
    · rintro i σ H' _ ⟨s1, _⟩
      exact SqL.of (s1 _ _ ha)
    · rintro i x σ H' hx ⟨s1, ls, o, hn, hd, rfl⟩
      and_intros
      have xm := List.mem_of_getElem? hx
      have tx := t.2 a xs rfl ha x xm
      have ex : xs.take (i + 1) = xs.take i ++ [x] := by rw [List.take_add_one, hx]; rfl
      refine ⟨x, 12, rfl, tx.same s1, fun hg H2 s2 => ?_, fun hb H2 s2 => kb ?_ H2 (s1.trans s2)⟩
      · obtain ⟨c, ys, rfl, hc, hl2, hm2⟩ := hg
        have hc0 := tx.1.back s1 rfl hc
        have s12 := s1.trans s2
        have hn' : RowsAt .lst H (xs.take (i + 1)) (ls ++ [ys]) := by rw [ex]; exact hn.append ⟨⟨c, rfl, hc0⟩, trivial⟩
        have hi : i < xs.length := (List.getElem?_eq_some_iff.mp hx).1
        have h0 : (xs.take (i + 1))[0]? = some xs[0] := by rw [List.getElem?_take_of_lt (by omega)]; exact List.getElem?_eq_getElem (by omega)
        obtain ⟨y0, ey0, c0, ec0, hc00⟩ := hn'.get h0
        and_intros
        refine ⟨_, SqL.of (s12 _ _ hc0), _, SqL.of (s12 _ _ ha), xs[0], atI_nat (j := 0) (List.getElem?_eq_getElem (by omega)), c0, ec0, _, SqL.of (s12 _ _ hc00), ite2 (fun hne => ?_) fun heq => ?_⟩
        · refine ⟨by decide, kb (notT_two ha (b := xs[0]) (c := .ref c) (List.getElem_mem _) xm ⟨c0, ec0, hc00⟩ ⟨c, rfl, hc0⟩ ?_) H2 s12⟩
          intro z
          exact hne (by rw [z])
        · refine ⟨s12, ls ++ [ys], hn', ?_, some (.ref c), StIs.rfl⟩
          have heq' : ys.length = y0.length := by
            by_cases z : ys.length = y0.length
            · exact z
            · exact absurd (fun q => z (by omega)) heq
          cases ls with
          | nil => exact ⟨ys.length, hl2, fun l h => by rw [List.mem_singleton.mp h]; exact ⟨rfl, hm2⟩⟩
          | cons l0 r =>
            have e0 : l0 = y0 := by simpa using ey0
            subst e0
            obtain ⟨w, hw, hall⟩ := hd
            refine ⟨w, hw, fun l h => ?_⟩
            rcases List.mem_append.mp h with h | h
            · exact hall l h
            · rw [List.mem_singleton.mp h]
              exact ⟨heq'.trans (hall l0 List.mem_cons_self).1, hm2⟩
      · exact notT_mem ha xm fun g => hb (GoodM.same s1 g)
    · rintro σ H' ⟨s1, ls, o, hn, hd, rfl⟩
      rw [List.take_length] at hn
      exact kg ⟨a, xs, ls, rfl, ha, hl, hn, hd⟩ H' s1
theorem ok_check_places {f : Addr} {fd : FuncData} (D : Def K mg "check_places" s_check_places ["places", "many"] f fd) (T : Txt K mg ad) {f_is_whole : Addr} {fd_is_whole : FuncData} (G_is_whole : FnOk P w K mg base CX0 1 f_is_whole fd_is_whole ["thing"] sp_is_whole) (D_is_whole : Def K mg "is_whole" s_is_whole ["thing"] f_is_whole fd_is_whole) : FnOk P w K mg base (CX1 P w) 2 f fd ["places", "many"] (sp_check_places ad) := by
  refine D.F.okX sc_check_places (fun vs H Q E h => ?_) (fun cdv A outer s H vs Q E hr h => ?_)
  · obtain ⟨v, m, rfl, _⟩ := h
    rfl
  · obtain ⟨v, m, rfl, t, kg, kb⟩ := h
    obtain ⟨y, b, ty, e, hb⟩ := t.1.isList (K := K)
    refine ⟨_, (@pss_cons _ _ _ _ _ (ps_if (pt_not (pt_val (pe_callB call_isiT rfl T.isinstance PyProof.Rows.boot_isinstance (pa_cons (pv 0) (pa_cons (pe_ty rfl T.list PyProof.Rows.boot_list) pa_nil)))))
      (@pss_one _ _ _ (ps_raise T.e_NoPlace rfl raises1 rfl (pa_cons pe_str pa_nil)))
      pss_nil)
      (@pss_cons _ _ _ _ _ (ps_set (i := 2) sc_check_places.nd rfl (Or.inl rfl) pe_int)
      (@pss_one _ _ _ (ps_for PassesOwn.leaving rfl (pi_list (pv 0)) (pg_name (i := 3) sc_check_places.nd rfl (Or.inl rfl))
      (@pss_cons _ _ _ _ _ (ps_if (PW.pt (pw_or (pt_not (pt_val (pe_call G_is_whole (hr.mono (by decide)) rfl D_is_whole.mg D_is_whole.F.kp D_is_whole.b .nil pass0 (pa_cons (pv 3) pa_nil)))) (pw_or1 (pt_not (pt_chain op_le op_lt (pv 2) (pv 3) (pv 1))))))
      (@pss_one _ _ _ (ps_raise T.e_NoPlace rfl raises1 rfl (pa_cons pe_str pa_nil)))
      pss_nil)
      (@pss_one _ _ _ (ps_set (i := 2) sc_check_places.nd rfl (Or.inl rfl) (pe_op op_add (pv 3) pe_int)))))))), ?_⟩
    and_intros
    refine ⟨y, ty, b, e, ?_⟩
    have h1 : 1 ≤ sizeLine := by decide
    rcases hb with ⟨rfl, a, xs, rfl, ha⟩ | ⟨rfl, hb⟩
    · and_intros
      refine ⟨_, rfl, a, rfl, ⟨_, SqL.of ha⟩, for_list (xs := xs) (fun i σ H' => Same H H' ∧ ∃ (ps : List Int) (o : Option V), xs.take i = ps.map V.int ∧ placesOk 0 m ps ∧ StIs σ [some (.ref a), some (.int m), some (.int (lowAfter 0 ps)), o]) ⟨Same.refl H, [], none, by simp, trivial, StIs.rfl⟩ ?_ ?_ ?_⟩
      · rintro i σ H' _ ⟨s1, _⟩
        exact SqL.of (s1 _ _ ha)
      · rintro i x σ H' hx ⟨s1, ps, o, hps, hok, rfl⟩
        have tx := t.2 a xs rfl ha x (List.mem_of_getElem? hx)
        have ex : xs = ps.map V.int ++ x :: xs.drop (i + 1) := by
          have h := List.take_append_drop (i + 1) xs
          rw [List.take_add_one, hx, List.append_assoc, hps] at h
          exact h.symm
        have no : (∀ q, x = .int q → ¬ (lowAfter 0 ps ≤ q ∧ q < m)) → ¬ GoodP m H (.ref a) := fun h => notP_mid (by rw [← ex]; exact ha) h
        and_intros
        refine ⟨x, rfl, tx.same s1, _, rfl, ite2 (fun hw => ⟨h1, kb (no fun q e => ?_) H' s1⟩) fun hw => ?_⟩
        · subst e; cases hw
        · obtain ⟨q, rfl⟩ : ∃ q, x = .int q := by
            cases x with
            | int q => exact ⟨q, rfl⟩
            | _ => exact absurd rfl hw
          refine ⟨q, rfl, ite2 (fun h0 => ⟨q, rfl, ite2 (fun h2 => ⟨h1, kb (no fun q' e z => ?_) H' s1⟩) fun h2 => ⟨q, rfl, s1, ps ++ [q], ?_, ?_, some (.int q), ?_⟩⟩) fun h0 => ⟨h1, kb (no fun q' e z => ?_) H' s1⟩⟩
          · cases e; exact h2 z.2
          · rw [List.take_add_one, hx, hps, List.map_append]; rfl
          · exact placesOk_append.mpr ⟨hok, h0, by omega, trivial⟩
          · rw [lowAfter_append]; exact StIs.rfl
          · cases e; exact h0 z.1
      · rintro σ H' ⟨s1, ps, o, hps, hok, rfl⟩
        rw [List.take_length] at hps
        exact kg ⟨a, ps, rfl, by rw [← hps]; exact ha, hok⟩ H' s1
    · and_intros
      refine ⟨h1, kb (fun ⟨a, ps, e, h, _⟩ => hb a _ e h) H (Same.refl H)⟩
theorem ok_marks_at {f : Addr} {fd : FuncData} (D : Def K mg "marks_at" s_marks_at ["marks", "places"] f fd) (T : Txt K mg ad) : FnOk P w K mg base CX0 1 f fd ["marks", "places"] sp_marks_at := by
  refine D.F.ok sc_marks_at (fun vs H Q E h => ?_) (fun cdv A outer s H vs Q E hr h => ?_)
  · obtain ⟨t, a, xs, ps, rfl, _⟩ := h
    rfl
  · obtain ⟨t, a, xs, ps, rfl, ht, ha, hps, hl, k⟩ := h
    refine ⟨_, (@pss_one _ _ _ (ps_ret (pe_comp (own := ["place"]) (cap := ["marks"]) (ix := [0]) rfl (show CompScope ["marks", "places"] (defScope s_marks_at) _ ["place"] ["marks"] [0] from ⟨rfl, by decide +kernel, by decide +kernel, by decide +kernel, by decide +kernel, by decide +kernel, by decide +kernel, rfl, by decide +kernel⟩) (pi_list (pv 1)) (fun C s₀ H₀ ex pn => ⟨pg_name (i := 0) (show (["place", "marks"] : List Str).Nodup by decide +kernel) rfl (Or.inl rfl), pifs_nil, (pe_ix (show IxR _ (rIxT K) from ix_tup) (pv 1) (pv 0) (fun _ _ => rfl))⟩)))), ?_⟩
    and_intros
    refine tcomp_list (a := a) (xs := ps.map V.int) (H1 := H) (fun R rr => ⟨_, rfl, a, rfl, ⟨_, SqL.of ha⟩, rr⟩) (fun i ys H' => H' = H ∧ ys = (ps.take i).map fun p => xs.getD p.toNat .non) ⟨rfl, rfl⟩ (fun i ys H' _ ⟨e, _⟩ => e ▸ SqL.of ha) ?_ ?_
    · rintro i x ys H' R hx ⟨rfl, rfl⟩ hR
      rw [List.getElem?_map] at hx
      obtain ⟨p, ep, rfl⟩ := Option.map_eq_some_iff.mp hx
      obtain ⟨p0, p1⟩ := hps p (List.mem_of_getElem? ep)
      simp only [tYes]
      and_intros
      obtain ⟨pn, rfl⟩ := Int.eq_ofNat_of_zero_le p0
      have hpn : pn < xs.length := by omega
      refine ⟨_, SqT.of ht, xs[pn], atI_nat (List.getElem?_eq_getElem hpn), ?_, hR _ _ ⟨rfl, ?_⟩⟩
      · rw [List.length_map, List.length_take]; exact small1000 (by omega)
      · rw [List.take_add_one, ep, List.map_append]
        congr 1
        simp only [Option.toList, List.map_cons, List.map_nil, Int.toNat_natCast, List.getD_eq_getElem?_getD, List.getElem?_eq_getElem hpn, Option.getD_some]
    · rintro ys H' ⟨rfl, rfl⟩
      rw [show (ps.map V.int).length = ps.length from List.length_map _, List.take_length]
      exact ⟨by rw [List.length_map]; exact Nat.le_of_lt (small1000 (by omega)), k⟩
theorem ok_Thing_init {f : Addr} {fd : FuncData} (F : Fun K "__init__" "Thing.__init__" s_Thing_init f fd) (T : Txt K mg ad) : FnOk P w K mg base CX0 1 f fd ["self", "spot_marks"] (sp_Thing_init ad) := by
  refine F.ok sc_Thing_init (fun vs H Q E h => ?_) (fun cdv A outer s H vs Q E hr h => ?_)
  · obtain ⟨p, dx, a, xs, c, rfl, _⟩ := h
    rfl
  · obtain ⟨p, dx, a, xs, c, rfl, hc, hp, ha, k⟩ := h
    refine ⟨_, (@pss_one _ _ _ (ps_fld (pv 0) (pe_callTy call_tupL rfl T.tuple PyProof.Rows.boot_tuple (pa_cons (pv 1) pa_nil)) rfl)), ?_⟩
    and_intros
    refine ⟨_, SqL.of ha, fun t ht => ?_⟩
    rcases hc with rfl | rfl | rfl
    · refine ⟨ad.Row, dx, [], ?_, T.cl_Row, T.na_Row_spot_marks, by decide, ?_⟩
      · rw [upd_ne (ne_of_none hp ht)]; exact hp
      · exact k t ht
    · refine ⟨ad.Table, dx, [], ?_, T.cl_Table, T.na_Table_spot_marks, by decide, ?_⟩
      · rw [upd_ne (ne_of_none hp ht)]; exact hp
      · exact k t ht
    · refine ⟨ad.Forest, dx, [], ?_, T.cl_Forest, T.na_Forest_spot_marks, by decide, ?_⟩
      · rw [upd_ne (ne_of_none hp ht)]; exact hp
      · exact k t ht
theorem ok_Row_init {f : Addr} {fd : FuncData} (F : Fun K "__init__" "Row.__init__" s_Row_init f fd) (T : Txt K mg ad) {f_check_marks : Addr} {fd_check_marks : FuncData} (G_check_marks : FnOk P w K mg base (CX1 P w) 2 f_check_marks fd_check_marks ["marks", "most"] (sp_check_marks ad)) {f_Thing_init : Addr} {fd_Thing_init : FuncData} (G_Thing_init : FnOk P w K mg base CX0 1 f_Thing_init fd_Thing_init ["self", "spot_marks"] (sp_Thing_init ad)) (D_check_marks : Def K mg "check_marks" s_check_marks ["marks", "most"] f_check_marks fd_check_marks) (B_Thing_init : Binds K fd_Thing_init ["self", "spot_marks"] []) (CM_Thing_init : ClsM K ad.Thing "__init__" f_Thing_init) : FnOk P w K mg base (CX1 P w) 3 f fd ["self", "marks"] (sp_Row_init ad) := by
  refine F.okX sc_Row_init (fun vs H Q E h => ?_) (fun cdv A outer s H vs Q E hr h => ?_)
  · obtain ⟨p, dx, v, rfl, _⟩ := h
    rfl
  · obtain ⟨p, dx, v, rfl, hp, t, kg, kb⟩ := h
    obtain ⟨tk_MOST_IN_ROW, h_MOST_IN_ROW⟩ := T.g_MOST_IN_ROW
    refine ⟨_, (@pss_cons _ _ _ _ _ (ps_expr (pe_call G_check_marks (hr.mono (by decide)) rfl D_check_marks.mg D_check_marks.F.kp D_check_marks.b .nil pass1 (pa_cons (pv 1) (pa_cons (pe_glob (v := .int 40) rfl h_MOST_IN_ROW ⟨_, rfl⟩) pa_nil))))
      (@pss_one _ _ _ (ps_expr (pe_clsm rfl T.c_Thing CM_Thing_init G_Thing_init (hr.mono (by decide)) B_Thing_init .nil pass0 (pa_cons (pv 0) (pa_cons (pv 1) pa_nil)))))), ?_⟩
    and_intros
    refine ⟨v, 40, rfl, t, fun hg H1 s1 => ?_, fun hb H1 s1 => kb hb H1 fun b o _ e => s1 b o e⟩
    obtain ⟨a, xs, rfl, ha, hl, hm⟩ := hg
    refine ⟨p, dx, a, xs, ad.Row, rfl, .inl rfl, s1 _ _ hp, s1 _ _ ha, fun t1 ht => ?_⟩
    refine kg a xs rfl ha hl hm _ ⟨dx, t1, upd_same, ?_, hm, hl⟩ fun b o hb e => ?_
    · rw [upd_ne (Ne.symm (ne_of_none (s1 _ _ hp) ht)), upd_same]
    · rw [upd_ne hb, upd_ne (ne_of_none (s1 _ _ e) ht)]
      exact s1 _ _ e
theorem ok_Row_many {f : Addr} {fd : FuncData} (F : Fun K "many" "Row.many" s_Row_many f fd) (T : Txt K mg ad) : FnOk P w K mg base CX0 1 f fd ["self"] (sp_Row_many ad) := by
  refine F.ok sc_Row_many (fun vs H Q E h => ?_) (fun cdv A outer s H vs Q E hr h => ?_)
  · obtain ⟨p, xs, rfl, _⟩ := h
    rfl
  · obtain ⟨p, xs, rfl, ⟨dx, t, h1, h2, _⟩, k⟩ := h
    refine ⟨_, (@pss_one _ _ _ (ps_ret (pe_callB call_lenT rfl T.len PySem.boot_len (pa_cons (pe_fld (pv 0) rfl) pa_nil)))), ?_⟩
    and_intros
    exact ⟨ad.Row, dx, _, h1, T.cl_Row, T.na_Row_spot_marks, .ref t, rfl, t, rfl, xs, SqT.of h2, k⟩
theorem ok_Row_left {f : Addr} {fd : FuncData} (F : Fun K "left" "Row.left" s_Row_left f fd) (T : Txt K mg ad) {f_check_places : Addr} {fd_check_places : FuncData} (G_check_places : FnOk P w K mg base (CX1 P w) 2 f_check_places fd_check_places ["places", "many"] (sp_check_places ad)) {f_Row_many : Addr} {fd_Row_many : FuncData} (G_Row_many : FnOk P w K mg base CX0 1 f_Row_many fd_Row_many ["self"] (sp_Row_many ad)) {f_Row_init : Addr} {fd_Row_init : FuncData} (G_Row_init : FnOk P w K mg base (CX1 P w) 3 f_Row_init fd_Row_init ["self", "marks"] (sp_Row_init ad)) {f_marks_at : Addr} {fd_marks_at : FuncData} (G_marks_at : FnOk P w K mg base CX0 1 f_marks_at fd_marks_at ["marks", "places"] sp_marks_at) (D_check_places : Def K mg "check_places" s_check_places ["places", "many"] f_check_places fd_check_places) (D_marks_at : Def K mg "marks_at" s_marks_at ["marks", "places"] f_marks_at fd_marks_at) (B_Row_many : Binds K fd_Row_many ["self"] []) (B_Row_init : Binds K fd_Row_init ["self", "marks"] []) (ME_Row_many : Meth K ad.Row "many" f_Row_many) (M_Row : Mk K ad.Row f_Row_init) : FnOk P w K mg base (CX1 P w) 5 f fd ["self", "places"] (sp_Row_left ad) := by
  refine F.okX sc_Row_left (fun vs H Q E h => ?_) (fun cdv A outer s H vs Q E hr h => ?_)
  · obtain ⟨p, v, xs, rfl, _⟩ := h
    rfl
  · obtain ⟨p, v, xs, rfl, hp, t, kg, kb⟩ := h
    refine ⟨_, (@pss_cons _ _ _ _ _ (ps_expr (pe_call G_check_places (hr.mono (by decide)) rfl D_check_places.mg D_check_places.F.kp D_check_places.b .nil pass1 (pa_cons (pv 1) (pa_cons (pe_meth0 (pv 0) T.cl_Row ME_Row_many G_Row_many (hr.mono (by decide)) B_Row_many .nil pass0) pa_nil))))
      (@pss_one _ _ _ (ps_ret (pe_make M_Row G_Row_init (hr.mono (by decide)) rfl T.c_Row B_Row_init .nil pass1 (pa_cons (pe_call G_marks_at (hr.mono (by decide)) rfl D_marks_at.mg D_marks_at.F.kp D_marks_at.b .nil pass0 (pa_cons (pe_fld (pv 0) rfl) (pa_cons (pv 1) pa_nil))) pa_nil))))), ?_⟩
    obtain ⟨dx, t1, h1, h2, h3, h4⟩ := id hp
    and_intros
    refine ⟨dx, _, h1, rfl, p, xs, rfl, hp, v, _, rfl, t, fun hg H1 s1 => ?_, fun hb H1 s1 => kb hb H1 s1⟩
    obtain ⟨a, ps, rfl, ha, hok⟩ := hg
    have lps := places_len hok (by omega)
    refine ⟨ad.Row, dx, _, s1 _ _ h1, T.cl_Row, T.na_Row_spot_marks, .ref t1, rfl, ?_⟩
    refine ⟨t1, a, xs, ps, rfl, s1 _ _ h2, s1 _ _ ha, places_all hok, by omega, fun l hl x6 dx6 hx hdx hne => ?_⟩
    have pm : ∀ i ∈ ps, markV (xs.getD i.toNat .non) = true := fun i hi => by
      obtain ⟨i0, i1⟩ := places_all hok i hi
      have hlt : i.toNat < xs.length := by omega
      rw [List.getD_eq_getElem?_getD, List.getElem?_eq_getElem hlt, Option.getD_some]
      exact List.all_eq_true.mp h3 _ (List.getElem_mem hlt)
    have am : (ps.map fun i => xs.getD i.toNat .non).all markV = true := by
      rw [List.all_eq_true]
      intro x hx
      obtain ⟨i, hi, rfl⟩ := List.mem_map.mp hx
      exact pm i hi
    have lm : (ps.map fun i => xs.getD i.toNat .non).length ≤ 40 := by rw [List.length_map]; omega
    have s12 := s1.upd (o := .lst (ps.map fun i => xs.getD i.toNat .non)) hl
    have fl : (upd H1 l (.lst (ps.map fun i => xs.getD i.toNat .non))) l = some (.lst (ps.map fun i => xs.getD i.toNat .non)) := upd_same
    generalize (upd H1 l (.lst (ps.map fun i => xs.getD i.toNat .non))) = H2 at s12 fl hx hdx ⊢
    have s67 : Same H2 (upd (upd H2 dx6 (.own x6)) x6 (.ins ad.Row dx6 [])) := (Same.put hdx).upd (by rw [upd_ne (Ne.symm hne)]; exact hx)
    have hl6 := s67 l _ fl
    refine ⟨x6, dx6, .ref l, rfl, upd_same, thg2_lst hl6 (thg_mark am), fun a' xs' e h hl' hm' H8 hrow sb => ⟨rfl, ?_⟩, fun hb => absurd ⟨l, _, rfl, hl6, lm, am⟩ hb⟩
    cases e
    rw [hl6] at h
    cases h
    have s68 : Same H2 H8 := fun b o e => sb b o (ne_of_none e hx) (s67 b o e)
    exact kg a ps rfl ha hok x6 H8 (s12.trans s68) hrow
theorem ok_Row_form {f : Addr} {fd : FuncData} (F : Fun K "form" "Row.form" s_Row_form f fd) (T : Txt K mg ad) : FnOk P w K mg base CX0 1 f fd ["self"] (sp_Row_form ad) := by
  refine F.ok sc_Row_form (fun vs H Q E h => ?_) (fun cdv A outer s H vs Q E hr h => ?_)
  · obtain ⟨p, xs, rfl, _⟩ := h
    rfl
  · obtain ⟨p, xs, rfl, ⟨dx, t, h1, h2, _⟩, k⟩ := h
    refine ⟨_, (@pss_one _ _ _ (ps_ret (pe_tup (pa_cons pe_str (pa_cons (pe_fld (pv 0) rfl) pa_nil))))), ?_⟩
    and_intros
    exact ⟨ad.Row, dx, _, h1, T.cl_Row, T.na_Row_spot_marks, .ref t, rfl, by decide, fun l hl => k t l h2 hl⟩
theorem ok_Forest_init {f : Addr} {fd : FuncData} (F : Fun K "__init__" "Forest.__init__" s_Forest_init f fd) (T : Txt K mg ad) {f_check_nodes : Addr} {fd_check_nodes : FuncData} (G_check_nodes : FnOk P w K mg base (CX1 P w) 3 f_check_nodes fd_check_nodes ["nodes"] (sp_check_nodes ad)) {f_Thing_init : Addr} {fd_Thing_init : FuncData} (G_Thing_init : FnOk P w K mg base CX0 1 f_Thing_init fd_Thing_init ["self", "spot_marks"] (sp_Thing_init ad)) (D_check_nodes : Def K mg "check_nodes" s_check_nodes ["nodes"] f_check_nodes fd_check_nodes) (B_Thing_init : Binds K fd_Thing_init ["self", "spot_marks"] []) (CM_Thing_init : ClsM K ad.Thing "__init__" f_Thing_init) : FnOk P w K mg base (CX1 P w) 4 f fd ["self", "nodes"] (sp_Forest_init ad) := by
  refine F.okX sc_Forest_init (fun vs H Q E h => ?_) (fun cdv A outer s H vs Q E hr h => ?_)
  · obtain ⟨p, dx, v, rfl, _⟩ := h
    rfl
  · obtain ⟨p, dx, v, rfl, hp, t, kg, kb⟩ := h
    refine ⟨_, (@pss_cons _ _ _ _ _ (ps_expr (pe_call G_check_nodes (hr.mono (by decide)) rfl D_check_nodes.mg D_check_nodes.F.kp D_check_nodes.b .nil pass1 (pa_cons (pv 1) pa_nil)))
      (@pss_cons _ _ _ _ _ (ps_expr (pe_clsm rfl T.c_Thing CM_Thing_init G_Thing_init (hr.mono (by decide)) B_Thing_init .nil pass0 (pa_cons (pv 0) (pa_cons (pe_comp (own := ["node"]) (cap := []) (ix := []) rfl (show CompScope ["self", "nodes"] (defScope s_Forest_init) _ ["node"] [] [] from ⟨rfl, by decide +kernel, by decide +kernel, by decide +kernel, by decide +kernel, by decide +kernel, by decide +kernel, rfl, by decide +kernel⟩) (pi_list (pv 1)) (fun C s₀ H₀ ex pn => ⟨pg_name (i := 0) (show (["node"] : List Str).Nodup by decide +kernel) rfl (Or.inl rfl), pifs_nil, (pe_ix (show IxR _ (rIxT K) from ix_tup) (pv 0) pe_int (fun _ _ => rfl))⟩)) pa_nil))))
      (@pss_one _ _ _ (ps_fld (pv 0) (pe_callTy call_tupL rfl T.tuple PyProof.Rows.boot_tuple (pa_cons (pv 1) pa_nil)) rfl)))), ?_⟩
    and_intros
    refine ⟨v, rfl, t, fun hg H1 s1 => ?_, fun hb H1 s1 => kb hb H1 fun b o _ e => s1 b o e⟩
    obtain ⟨a, xs, ns, rfl, ha, hl, hn, hd⟩ := hg
    and_intros
    refine tcomp_list (a := a) (xs := xs) (H1 := H1) (fun R r => ⟨_, rfl, a, rfl, ⟨_, SqL.of (s1 _ _ ha)⟩, r⟩) (fun i ys H' => H' = H1 ∧ ys = (ns.take i).map fun n => V.str n.1) ⟨rfl, rfl⟩ (fun i ys H' _ ⟨e, _⟩ => e ▸ SqL.of (s1 _ _ ha)) ?_ ?_
    · rintro i x ys H' R hx ⟨rfl, rfl⟩ hR
      obtain ⟨n, en, hx'⟩ := hn.get hx
      obtain ⟨tt, e, h2⟩ := hx'
      subst e
      simp only [tYes]
      and_intros
      refine ⟨_, SqT.of (s1 _ _ h2), _, rfl, ?_, hR _ _ ⟨rfl, ?_⟩⟩
      · rw [List.length_map, List.length_take]; exact small1000 (by have := hn.length; omega)
      · rw [List.take_add_one, en, List.map_append]; rfl
    · rintro ys H' ⟨rfl, rfl⟩
      have hlen := hn.length
      rw [hlen, List.take_length]
      refine ⟨by rw [List.length_map]; exact Nat.le_of_lt (small1000 (by omega)), fun l hl' => ?_⟩
      have s2 := s1.upd (o := .lst (ns.map fun n => V.str n.1)) hl'
      refine ⟨p, dx, l, _, ad.Forest, rfl, .inr (.inr rfl), s2 _ _ hp, upd_same, fun t1 ht1 => ?_⟩
      have s3 := s2.upd (o := .tup (ns.map fun n => V.str n.1)) ht1
      have sb : ∀ o, SameBut p H (upd (upd (upd H' l (.lst (ns.map fun n => V.str n.1))) t1 (.tup (ns.map fun n => V.str n.1))) p o) := fun o b u hb e => by rw [upd_ne hb]; exact s3 _ _ e
      have nap : a ≠ p := ne_of ha hp (fun z => nomatch z)
      refine ⟨xs, SqL.of (sb _ a _ nap ha), fun t2 ht2 => ⟨ad.Forest, dx, [("spot_marks", .ref t1)], ?_, T.cl_Forest, T.na_Forest_nodes, by show 1 < 1000; decide, ?_⟩⟩
      · rw [upd_ne (ne_of_none upd_same ht2)]; exact upd_same
      · rw [putF2 (by decide +kernel)]
        have n2p : t2 ≠ p := Ne.symm (ne_of_none upd_same ht2)
        have n1p : t1 ≠ p := Ne.symm (ne_of_none (s2 _ _ hp) ht1)
        have t1a : ∀ o, (upd (upd (upd H' l (.lst (ns.map fun n => V.str n.1))) t1 (.tup (ns.map fun n => V.str n.1))) p o) t1 = some (.tup (ns.map fun n => V.str n.1)) := fun o => by rw [upd_ne n1p]; exact upd_same
        have sF : ∀ o, SameBut p H (upd (upd (upd (upd (upd H' l (.lst (ns.map fun n => V.str n.1))) t1 (.tup (ns.map fun n => V.str n.1))) p (.ins ad.Forest dx [("spot_marks", .ref t1)])) t2 (.tup xs)) p o) := fun o b u hb e => by
          rw [upd_ne hb, upd_ne (ne_of_none (sb _ b u hb e) ht2)]
          exact sb _ b u hb e
        refine kg a xs ns rfl ha hl hn hd _ ⟨dx, t1, t2, xs, upd_same, ?_, ?_, ?_⟩ (sF _)
        · rw [upd_ne n1p, upd_ne (ne_of_none (t1a _) ht2)]; exact t1a _
        · rw [upd_ne n2p]; exact upd_same
        · exact hn.tups fun b ys e => sF _ b _ (ne_of e hp (fun z => nomatch z)) e
theorem ok_Forest_many {f : Addr} {fd : FuncData} (F : Fun K "many" "Forest.many" s_Forest_many f fd) (T : Txt K mg ad) : FnOk P w K mg base CX0 1 f fd ["self"] (sp_many ad) := by
  refine F.ok sc_Forest_many (fun vs H Q E h => ?_) (fun cdv A outer s H vs Q E hr h => ?_)
  · obtain ⟨p, ns, rfl, _⟩ := h
    rfl
  · obtain ⟨p, ns, rfl, ⟨dx, t1, t2, xs, h1, h2, h3, h4⟩, k⟩ := h
    refine ⟨_, (@pss_one _ _ _ (ps_ret (pe_callB call_lenT rfl T.len PySem.boot_len (pa_cons (pe_fld (pv 0) rfl) pa_nil)))), ?_⟩
    and_intros
    refine ⟨ad.Forest, dx, _, h1, T.cl_Forest, T.na_Forest_nodes, .ref t2, lookup2 (by decide +kernel), t2, rfl, _, SqT.of h3, ?_⟩
    rw [h4.length]
    exact k
theorem ok_Forest_left {f : Addr} {fd : FuncData} (F : Fun K "left" "Forest.left" s_Forest_left f fd) (T : Txt K mg ad) {f_check_places : Addr} {fd_check_places : FuncData} (G_check_places : FnOk P w K mg base (CX1 P w) 2 f_check_places fd_check_places ["places", "many"] (sp_check_places ad)) {f_Forest_many : Addr} {fd_Forest_many : FuncData} (G_Forest_many : FnOk P w K mg base CX0 1 f_Forest_many fd_Forest_many ["self"] (sp_many ad)) {f_Forest_init : Addr} {fd_Forest_init : FuncData} (G_Forest_init : FnOk P w K mg base (CX1 P w) 4 f_Forest_init fd_Forest_init ["self", "nodes"] (sp_Forest_init ad)) (D_check_places : Def K mg "check_places" s_check_places ["places", "many"] f_check_places fd_check_places) (B_Forest_many : Binds K fd_Forest_many ["self"] []) (B_Forest_init : Binds K fd_Forest_init ["self", "nodes"] []) (ME_Forest_many : Meth K ad.Forest "many" f_Forest_many) (M_Forest : Mk K ad.Forest f_Forest_init) : FnOk P w K mg base (CX1 P w) 6 f fd ["self", "places"] (sp_Forest_left ad) := by
  refine F.okX sc_Forest_left (fun vs H Q E h => ?_) (fun cdv A outer s H vs Q E hr h => ?_)
  · obtain ⟨p, v, ns, rfl, _⟩ := h
    rfl
  · obtain ⟨p, v, ns, rfl, hp, hd, hl, t, kg, kb⟩ := h
    have hu := hr.units
    refine ⟨_, (@pss_cons _ _ _ _ _ (ps_expr (pe_call G_check_places (hr.mono (by decide)) rfl D_check_places.mg D_check_places.F.kp D_check_places.b .nil pass1 (pa_cons (pv 1) (pa_cons (pe_meth0 (pv 0) T.cl_Forest ME_Forest_many G_Forest_many (hr.mono (by decide)) B_Forest_many .nil pass0) pa_nil))))
      (@pss_cons _ _ _ _ _ (ps_set (i := 2) sc_Forest_left.nd rfl (Or.inl rfl) (pe_callTy (call_dictP rfl) rfl T.dict PyProof.Rows.boot_dict (pa_cons (pe_comp (own := ["place"]) (cap := []) (ix := []) rfl (show CompScope ["self", "places", "kept", "rest", "above", "place", "node", "depth"] (defScope s_Forest_left) _ ["place"] [] [] from ⟨rfl, by decide +kernel, by decide +kernel, by decide +kernel, by decide +kernel, by decide +kernel, by decide +kernel, rfl, by decide +kernel⟩) (pi_list (pv 1)) (fun C s₀ H₀ ex pn => ⟨pg_name (i := 0) (show (["place"] : List Str).Nodup by decide +kernel) rfl (Or.inl rfl), pifs_nil, (pe_tup (pa_cons (pv 0) (pa_cons pe_bl pa_nil)))⟩)) pa_nil)))
      (@pss_cons _ _ _ _ _ (ps_set (i := 3) sc_Forest_left.nd rfl (Or.inl rfl) (pe_lst pa_nil))
      (@pss_cons _ _ _ _ _ (ps_set (i := 4) sc_Forest_left.nd rfl (Or.inl rfl) (pe_lst (pa_cons pe_int pa_nil)))
      (@pss_cons _ _ _ _ _ (ps_for PassesOwn.leaving rfl (pi_enumT rfl T.enumerate (pa_cons (pe_fld (pv 0) rfl) pa_nil)) (pg_tup (n := 2) rfl (pgs_cons (pg_name (i := 5) sc_Forest_left.nd rfl (Or.inl rfl)) (pgs_cons (pg_name (i := 6) sc_Forest_left.nd rfl (Or.inl rfl)) pgs_nil)))
      (@pss_cons _ _ _ _ _ (ps_set (i := 4) sc_Forest_left.nd rfl (Or.inl rfl) (pe_slice sl_list (pv 4) po_none (po_some (pe_op op_add (pe_ix ix_tup (pv 6) pe_int (fun _ _ => rfl)) pe_int))))
      (@pss_cons _ _ _ _ _ (ps_set (i := 7) sc_Forest_left.nd rfl (Or.inl rfl) (pe_ix ix_list (pv 4) (pe_un un_neg pe_int) (fun _ _ => rfl)))
      (@pss_one _ _ _ (ps_if (pt_cmp (pc_din (hu1 hu) (pv 5) (pv 2)))
      (@pss_cons _ _ _ _ _ (ps_expr (pe_bm PySem.F.plainAttrs_list PySem.F.slot_list_append PySem.F.type_list_append mt_append (pv 3) (pa_cons (pe_tup (pa_cons (pe_ix ix_tup (pv 6) pe_int (fun _ _ => rfl)) (pa_cons (pv 7) pa_nil))) pa_nil)))
      (@pss_one _ _ _ (ps_expr (pe_bm PySem.F.plainAttrs_list PySem.F.slot_list_append PySem.F.type_list_append mt_append (pv 4) (pa_cons (pe_op op_add (pv 7) pe_int) pa_nil)))))
      (@pss_one _ _ _ (ps_expr (pe_bm PySem.F.plainAttrs_list PySem.F.slot_list_append PySem.F.type_list_append mt_append (pv 4) (pa_cons (pv 7) pa_nil)))))))))
      (@pss_one _ _ _ (ps_ret (pe_make M_Forest G_Forest_init (hr.mono (by decide)) rfl T.c_Forest B_Forest_init .nil pass1 (pa_cons (pv 3) pa_nil))))))))), ?_⟩
    obtain ⟨dx, t1, t2, xs, h1, h2, h3, h4⟩ := id hp
    refine tseq_open fun B hB => ?_
    and_intros
    refine ⟨dx, _, h1, lookup_no (by decide +kernel) (by decide +kernel), p, ns, rfl, hp, v, _, rfl, t, fun hg H1 s1 => ?_, fun hb H1 s1 => kb hb H1 s1⟩
    obtain ⟨a, ps, rfl, ha, hok⟩ := hg
    have lps := places_len hok (by omega)
    subst hB
    refine tseq_open fun B hB => ?_
    and_intros
    refine tcomp_list (a := a) (xs := ps.map V.int) (H1 := H1) (fun R rr => ⟨_, rfl, a, rfl, ⟨_, SqL.of (s1 _ _ ha)⟩, rr⟩) (fun i ys H' => Same H1 H' ∧ RowsAt .tup H' ys ((ps.take i).map fun q => [V.int q, V.bl true])) ⟨Same.refl _, trivial⟩ (fun i ys H' _ ⟨e, _⟩ => SqL.of (e _ _ (s1 _ _ ha))) ?_ ?_
    · rintro i x ys H' R hx ⟨s2, hy⟩ hR
      rw [List.getElem?_map] at hx
      obtain ⟨q, eq, rfl⟩ := Option.map_eq_some_iff.mp hx
      simp only [tYes]
      and_intros
      refine ⟨by decide, fun u hu' => ⟨?_, hR _ _ ⟨s2.upd hu', ?_⟩⟩⟩
      · rw [hy.length, List.length_map, List.length_take]; exact small1000 (by omega)
      · rw [List.take_add_one, eq, List.map_append]
        exact (hy.same (Same.put hu')).append ⟨⟨u, rfl, upd_same⟩, trivial⟩
    · rintro ys H' ⟨s2, hy⟩
      rw [show (ps.map V.int).length = ps.length from List.length_map _, List.take_length] at hy
      have hyl : ys.length = ps.length := by rw [hy.length, List.length_map]
      refine ⟨Nat.le_of_lt (small1000 (by omega)), fun D hD => ?_⟩
      have s3 := s1.trans (s2.upd (o := .lst ys) hD)
      have hy3 := hy.same (Same.put (o := .lst ys) hD)
      have fD : (upd H' D (.lst ys)) D = some (.lst ys) := upd_same
      generalize (upd H' D (.lst ys)) = H3 at s3 hy3 fD ⊢
      refine ⟨D, rfl, ys, SqL.of fD, ps.map (fun q => ((Sum.inl q : Key), V.bl true)), by rw [List.length_map, hyl], by rw [List.length_map]; omega, fun j y pr e1 e2 => ?_, fun d hd1 => ?_⟩
      · obtain ⟨n, e3, u, e4, h5⟩ := hy3.get e1
        rw [List.getElem?_map] at e2 e3
        obtain ⟨q, eq, rfl⟩ := Option.map_eq_some_iff.mp e2
        rw [eq] at e3
        cases e3
        exact ⟨u, e4, h5⟩
      have hin : ∀ j : Int, (valV ((ps.map fun q => ((Sum.inl q : Key), V.bl true)).foldl (fun a p => putK a p.1 p.2) []) (Sum.inl j)).isSome = decide (j ∈ ps) := fun j => by rw [fold_val]; simp [valV]
      generalize ((ps.map fun q => ((Sum.inl q : Key), V.bl true)).foldl (fun a p => putK a p.1 p.2) []) = kvs at hin ⊢
      have s4 := s3.upd (o := .dK kvs) hd1
      have fd4 : (upd H3 d (.dK kvs)) d = some (.dK kvs) := upd_same
      generalize (upd H3 d (.dK kvs)) = H4 at s4 fd4 ⊢
      subst hB
      refine tseq_open fun B hB => ?_
      and_intros
      refine ⟨by decide, fun r1 hr1 => ?_⟩
      subst hB
      refine tseq_open fun B hB => ?_
      and_intros
      refine ⟨by decide, fun a1 ha1 => ?_⟩
      subst hB
      refine tseq_open fun B hB => ?_
      and_intros
      have nr : a1 ≠ r1 := fun z => by rw [z, upd_same] at ha1; cases ha1
      have ha0 : H4 a1 = none := by rw [upd_ne nr] at ha1; exact ha1
      have s40 : Same H4 (upd (upd H4 r1 (.lst [])) a1 (.lst [.int 0])) := (Same.put hr1).upd ha1
      have f1 : (upd (upd H4 r1 (.lst [])) a1 (.lst [.int 0])) r1 = some (.lst []) := by rw [upd_ne (Ne.symm nr)]; exact upd_same
      have f2 : (upd (upd H4 r1 (.lst [])) a1 (.lst [.int 0])) a1 = some (.lst [.int 0]) := upd_same
      generalize (upd (upd H4 r1 (.lst [])) a1 (.lst [.int 0])) = H5 at s40 f1 f2 ⊢
      have s5 := s4.trans s40
      refine ⟨_, rfl, p, ad.Forest, dx, _, .ref t2, rfl, s5 _ _ h1, T.cl_Forest, T.na_Forest_nodes, lookup2 (by decide +kernel), t2, rfl, ⟨_, SqT.of (s5 _ _ h3)⟩, for_enumT (xs := xs) (fun i σ H' => Same H4 H' ∧ ∃ (rs : List V) (ab : Addr) (o5 o6 o7 : Option V), H' r1 = some (.lst rs) ∧ NodesAt H' rs ((below ps i).map (nodeL ns ps)) ∧ H' ab = some (.lst ((cntL ps (way (ns.take i))).map V.int)) ∧ H4 ab = none ∧ ab ≠ r1 ∧ StIs σ [some (.ref p), some (.ref a), some (.ref d), some (.ref r1), some (.ref ab), o5, o6, o7]) ⟨s40, [], a1, none, none, none, f1, ?_, f2, ha0, nr, StIs.rfl⟩ ?_ ?_ ?_⟩
      · rw [below_none (i := 0) hok (by omega)]; trivial
      · rintro i σ H' _ ⟨s6, _⟩
        exact SqT.of (s6 _ _ (s4 _ _ h3))
      · rintro i x σ H' T' hx ⟨s6, rs, ab, o5, o6, o7, hr, hn6, hab, hab0, nab, rfl⟩ hT
        obtain ⟨n, en, tt, ex, ht⟩ := h4.get hx
        subst ex
        obtain ⟨hm, d0, d12⟩ := depth12 hd en
        have hi : i < ns.length := (List.getElem?_eq_some_iff.mp en).1
        have s7 := Same.put (o := .tup [.int i, .ref tt]) hT
        have fT : (upd H' T' (.tup [.int i, .ref tt])) T' = some (.tup [.int i, .ref tt]) := upd_same
        generalize (upd H' T' (.tup [.int i, .ref tt])) = H7 at s7 fT ⊢
        refine ⟨T', _, rfl, SqT.of fT, rfl, ?_⟩
        and_intros
        have eC : cutV ((cntL ps (way (ns.take i))).map V.int) none (some (n.2 + 1)) = (cntL ps ((way (ns.take i)).take n.2.toNat)).map V.int := by
          rw [cut_to (n := n.2.toNat + 1) (by omega), ← List.map_take, cntL_take]
        have s47 := s6.trans s7
        refine ⟨_, SqT.of (s47 _ _ (s4 _ _ ht)), _, rfl, n.2, rfl, _, SqL.of (s7 _ _ hab), fun a2 ha2 => ?_⟩
        rw [eC]
        have eW := way_take en
        have eN : nodeL ns ps (i : Int) = (n.1, ((kept ps ((way (ns.take i)).take n.2.toNat)).length : Int)) := by
          unfold nodeL
          rw [Int.toNat_natCast, anc_of en, List.getD_eq_getElem?_getD, en]
          rfl
        have eS := cntL_snoc ps ((way (ns.take i)).take n.2.toNat) i
        rw [← eW] at eS
        have lW : ((way (ns.take i)).take n.2.toNat).length ≤ i := by rw [List.length_take]; have := way_len (ns := ns) i (by omega); omega
        generalize ((way (ns.take i)).take n.2.toNat) = Wd at eN eS lW ⊢
        have eL := cntL_at ps Wd
        have lC : ((cntL ps Wd).map V.int).length < sizeLine := by rw [List.length_map, cntL_len]; exact small1000 (by omega)
        have lR : rs.length < sizeLine := by
          have e1 := hn6.length
          have e2 : (below ps i).length ≤ ps.length := List.length_filter_le ..
          rw [List.length_map] at e1
          exact small1000 (by omega)
        generalize hcc : ((kept ps Wd).length : Int) = cc at eN eS eL ⊢
        have na2 : r1 ≠ a2 := ne_of_none (s7 _ _ hr) ha2
        have h40 : H4 a2 = none := Same.none s47 ha2
        have s8 := Same.put (o := .lst ((cntL ps Wd).map V.int)) ha2
        have f8 : (upd H7 a2 (.lst ((cntL ps Wd).map V.int))) a2 = some (.lst ((cntL ps Wd).map V.int)) := upd_same
        generalize (upd H7 a2 (.lst ((cntL ps Wd).map V.int))) = H8 at s8 f8 ⊢
        have s48 := s47.trans s8
        refine ⟨_, SqL.of f8, _, eL, _, (show DGet H8 d (V.int (i : Int)) _ from DGet.k (k := Sum.inl (i : Int)) (s48 _ _ fd4)), ?_⟩
        rw [hin]
        by_cases hk : (i : Int) ∈ ps
        · rw [if_pos (decide_eq_true hk)]
          rw [if_pos hk] at eS
          refine ⟨.inl ⟨rfl, _, SqL.of (s8 _ _ (s7 _ _ hr))⟩, _, SqT.of (s48 _ _ (s4 _ _ ht)), _, rfl, by decide, fun t3 ht3 => ?_⟩
          have s9 := Same.put (o := .tup [.str n.1, .int cc]) ht3
          have f9 : (upd H8 t3 (.tup [.str n.1, .int cc])) t3 = some (.tup [.str n.1, .int cc]) := upd_same
          generalize (upd H8 t3 (.tup [.str n.1, .int cc])) = H9 at s9 f9 ⊢
          have g2 := s9 _ _ f8
          have gr := s9 _ _ (s8 _ _ (s7 _ _ hr))
          refine ⟨rs, gr, lR, .inl ⟨rfl, _, SqL.of (by rw [upd_ne (Ne.symm na2)]; exact g2)⟩, cc, rfl, (cntL ps Wd).map V.int, by rw [upd_ne (Ne.symm na2)]; exact g2, lC, fun b o e => ?_, rs ++ [.ref t3], by rw [upd_ne na2]; exact upd_same, ?_, a2, ?_, h40, Ne.symm na2, _, _, _, StIs.rfl⟩
          · rw [upd_ne (ne_of_none e h40), upd_ne (ne_of_none e hr1)]
            exact s9 _ _ (s48 _ _ e)
          · have up : ∀ b ys, H9 b = some (.tup ys) → (upd (upd H9 r1 (.lst (rs ++ [.ref t3]))) a2 (.lst ((cntL ps Wd).map V.int ++ [.int (cc + 1)]))) b = some (.tup ys) := fun b ys e => by
              rw [upd_ne (ne_of e g2 (fun z => nomatch z)), upd_ne (ne_of e gr (fun z => nomatch z))]
              exact e
            rw [below_succ hok, if_pos hk, List.map_append]
            refine NodesAt.append (hn6.tups fun b ys e => up b ys (s9 _ _ (s8 _ _ (s7 _ _ e)))) ⟨⟨t3, rfl, ?_⟩, trivial⟩
            rw [eN]
            exact up _ _ f9
          · rw [eS, List.map_append]
            exact upd_same
        · rw [if_neg (by simp [hk])]
          rw [if_neg hk, Int.add_zero] at eS
          refine ⟨.inl ⟨rfl, _, SqL.of f8⟩, _, f8, lC, fun b o e => ?_, rs, by rw [upd_ne na2]; exact s8 _ _ (s7 _ _ hr), ?_, a2, ?_, h40, Ne.symm na2, _, _, _, StIs.rfl⟩
          · rw [upd_ne (ne_of_none e h40)]
            exact s48 _ _ e
          · rw [below_succ hok, if_neg hk, List.append_nil]
            refine hn6.tups fun b ys e => ?_
            rw [upd_ne (ne_of (s8 _ _ (s7 _ _ e)) f8 (fun z => nomatch z))]
            exact s8 _ _ (s7 _ _ e)
          · rw [eS, List.map_append]
            exact upd_same
      · rintro σ H' ⟨s6, rs, ab, o5, o6, o7, hr, hn6, hab, hab0, nab, rfl⟩
        have ex : xs.length = ns.length := h4.length
        rw [ex, below_all hok] at hn6
        have s46 := s4.trans s6
        have hLl : (leftN ns ps).length = ps.length := List.length_map _
        have hlN : rs.length ≤ 40 := by
          have := hn6.length
          rw [List.length_map] at this
          omega
        have hdN := left_ok hd hok
        have n8 : ∀ n ∈ leftN ns ps, n.1.length ≤ 1000 := fun n h => by have := (mark_all (depthOk_all hdN n h).1).2.1; omega
        dsimp only
        subst hB
        and_intros
        intro x6 dx6 hx hdx hne
        have s67 : Same H' (upd (upd H' dx6 (.own x6)) x6 (.ins ad.Forest dx6 [])) := (Same.put hdx).upd (by rw [upd_ne (Ne.symm hne)]; exact hx)
        have hr7 := s67 _ _ hr
        have hn7 : NodesAt _ rs (leftN ns ps) := hn6.same s67
        refine ⟨x6, dx6, .ref r1, rfl, upd_same, thg4_lst hr7 (hn7.thg3 n8), fun a' xs' ns' e h hl' hm' hd' H8 hfor sb => ⟨rfl, ?_⟩, fun hb => absurd ⟨r1, _, _, rfl, hr7, hlN, hn7, hdN⟩ hb⟩
        cases e
        rw [hr7] at h
        cases h
        have := hm'.uniq hn7
        subst this
        have s68 : Same H' H8 := fun b o e => sb b o (ne_of_none e hx) (s67 b o e)
        exact kg a ps rfl ha hok x6 H8 (s46.trans s68) hfor
theorem ok_Forest_form {f : Addr} {fd : FuncData} (F : Fun K "form" "Forest.form" s_Forest_form f fd) (T : Txt K mg ad) : FnOk P w K mg base CX0 1 f fd ["self"] (sp_form ad) := by
  refine F.ok sc_Forest_form (fun vs H Q E h => ?_) (fun cdv A outer s H vs Q E hr h => ?_)
  · obtain ⟨p, ns, rfl, _⟩ := h
    rfl
  · obtain ⟨p, ns, rfl, ⟨dx, t1, t2, xs, h1, h2, h3, h4⟩, k⟩ := h
    refine ⟨_, (@pss_one _ _ _ (ps_ret (pe_tup (pa_cons pe_str (pa_cons (pe_fld (pv 0) rfl) pa_nil))))), ?_⟩
    and_intros
    refine ⟨ad.Forest, dx, _, h1, T.cl_Forest, T.na_Forest_nodes, .ref t2, lookup2 (by decide +kernel), by decide, fun l hl => k t2 xs l h3 h4 hl⟩
theorem ok_Table_init {f : Addr} {fd : FuncData} (F : Fun K "__init__" "Table.__init__" s_Table_init f fd) (T : Txt K mg ad) {f_check_lines : Addr} {fd_check_lines : FuncData} (G_check_lines : FnOk P w K mg base (CX1 P w) 3 f_check_lines fd_check_lines ["lines"] (sp_check_lines ad)) {f_Thing_init : Addr} {fd_Thing_init : FuncData} (G_Thing_init : FnOk P w K mg base CX0 1 f_Thing_init fd_Thing_init ["self", "spot_marks"] (sp_Thing_init ad)) (D_check_lines : Def K mg "check_lines" s_check_lines ["lines"] f_check_lines fd_check_lines) (B_Thing_init : Binds K fd_Thing_init ["self", "spot_marks"] []) (CM_Thing_init : ClsM K ad.Thing "__init__" f_Thing_init) : FnOk P w K mg base (CX1 P w) 4 f fd ["self", "lines"] (sp_Table_init ad) := by
  refine F.okX sc_Table_init (fun vs H Q E h => ?_) (fun cdv A outer s H vs Q E hr h => ?_)
  · obtain ⟨p, dx, v, rfl, _⟩ := h
    rfl
  · obtain ⟨p, dx, v, rfl, hp, t, kg, kb⟩ := h
    refine ⟨_, (@pss_cons _ _ _ _ _ (ps_expr (pe_call G_check_lines (hr.mono (by decide)) rfl D_check_lines.mg D_check_lines.F.kp D_check_lines.b .nil pass1 (pa_cons (pv 1) pa_nil)))
      (@pss_cons _ _ _ _ _ (ps_set (i := 2) sc_Table_init.nd rfl (Or.inl rfl) (pe_lst pa_nil))
      (@pss_cons _ _ _ _ _ (ps_for PassesOwn.leaving rfl (pi_list (pv 1)) (pg_name (i := 3) sc_Table_init.nd rfl (Or.inl rfl))
      (@pss_one _ _ _ (ps_expr (pe_bm PySem.F.plainAttrs_list PySem.F.slot_list_extend PySem.F.type_list_extend mt_extend (pv 2) (pa_cons (pv 3) pa_nil)))))
      (@pss_cons _ _ _ _ _ (ps_expr (pe_clsm rfl T.c_Thing CM_Thing_init G_Thing_init (hr.mono (by decide)) B_Thing_init .nil pass0 (pa_cons (pv 0) (pa_cons (pv 2) pa_nil))))
      (@pss_cons _ _ _ _ _ (ps_fld (pv 0) (pe_callTy call_tupL rfl T.tuple PyProof.Rows.boot_tuple (pa_cons (pe_comp (own := ["line"]) (cap := []) (ix := []) rfl (show CompScope ["self", "lines", "spot_marks", "line"] (defScope s_Table_init) _ ["line"] [] [] from ⟨rfl, by decide +kernel, by decide +kernel, by decide +kernel, by decide +kernel, by decide +kernel, by decide +kernel, rfl, by decide +kernel⟩) (pi_list (pv 1)) (fun C s₀ H₀ ex pn => ⟨pg_name (i := 0) (show (["line"] : List Str).Nodup by decide +kernel) rfl (Or.inl rfl), pifs_nil, (pe_callTy (show CallR _ (.type "tuple") (rTupL K) from call_tupL) rfl T.tuple PyProof.Rows.boot_tuple (pa_cons (pv 0) pa_nil))⟩)) pa_nil)) rfl)
      (@pss_one _ _ _ (ps_fld (pv 0) (pe_ifExp (pt_truth (pv 1) (fun _ => rfl)) (pe_callB call_lenL rfl T.len PySem.boot_len (pa_cons (pe_ix ix_list (pv 1) pe_int (fun _ _ => rfl)) pa_nil)) pe_int) rfl))))))), ?_⟩
    and_intros
    refine ⟨v, rfl, t, fun hg H1 s1 => ?_, fun hb H1 s1 => kb hb H1 fun b o _ e => s1 b o e⟩
    obtain ⟨a, xs, ls, rfl, ha, hl, hn, hd⟩ := hg
    have hlen := hn.length
    have hmk := tab_marks hd
    have hl12 : ∀ l ∈ ls, l.length ≤ 12 := fun l h => by have := (wideT_all hd l h).1; have := wideT_le hd; omega
    have hfl : ∀ i, (ls.take i).flatten.length ≤ 144 := fun i => by
      have h1 := flat_len (ls := ls.take i) fun l h => hl12 l (List.mem_of_mem_take h)
      have h2 : (ls.take i).length ≤ 12 := by rw [List.length_take]; omega
      omega
    refine ⟨by decide, fun sm hsm => ?_⟩
    have ss := Same.put (o := .lst []) hsm
    refine ⟨_, rfl, a, rfl, ⟨_, SqL.of (ss _ _ (s1 _ _ ha))⟩, for_list (xs := xs) (fun i σ H' => Same H1 H' ∧ H' sm = some (.lst (ls.take i).flatten) ∧ ∃ o, StIs σ [some (.ref p), some (.ref a), some (.ref sm), o]) ⟨ss, upd_same, none, StIs.rfl⟩ ?_ ?_ ?_⟩
    · rintro i σ H' _ ⟨s2, _⟩
      exact SqL.of (s2 _ _ (s1 _ _ ha))
    · rintro i x σ H' hx ⟨s2, hsm2, o, rfl⟩
      obtain ⟨l, el, c, ec, hc⟩ := hn.get hx
      subst ec
      and_intros
      have hl1 := hl12 l (List.mem_of_getElem? el)
      have hl2 := hfl i
      refine ⟨.inl ⟨rfl, _, SqL.of hsm2⟩, _, hsm2, l, s2 _ _ (s1 _ _ hc), Nat.le_of_lt (small1000 (by omega)), fun b o e => ?_, ?_, _, StIs.rfl⟩
      · rw [upd_ne (ne_of_none e hsm)]; exact s2 b o e
      · rw [upd_same, List.take_add_one, el, List.flatten_append]; simp
    · rintro σ H' ⟨s2, hsm2, o, rfl⟩
      rw [hlen, List.take_length] at hsm2
      and_intros
      have s12 := s1.trans s2
      refine ⟨p, dx, sm, _, ad.Table, rfl, .inr (.inl rfl), s12 _ _ hp, hsm2, fun t1 ht1 => ?_⟩
      have n1p : t1 ≠ p := Ne.symm (ne_of_none (s12 _ _ hp) ht1)
      have hp2 : (upd (upd H' t1 (.tup ls.flatten)) p (.ins ad.Table dx [("spot_marks", .ref t1)])) p = some (.ins ad.Table dx [("spot_marks", .ref t1)]) := upd_same
      have h1t : (upd (upd H' t1 (.tup ls.flatten)) p (.ins ad.Table dx [("spot_marks", .ref t1)])) t1 = some (.tup ls.flatten) := by rw [upd_ne n1p]; exact upd_same
      have sb2 : SameBut p H (upd (upd H' t1 (.tup ls.flatten)) p (.ins ad.Table dx [("spot_marks", .ref t1)])) := fun b o hb e => by rw [upd_ne hb]; exact (s12.upd ht1) b o e
      generalize (upd (upd H' t1 (.tup ls.flatten)) p (.ins ad.Table dx [("spot_marks", .ref t1)])) = H2 at hp2 h1t sb2 ⊢
      have ha2 := sb2 a _ (ne_of ha hp (fun z => nomatch z)) ha
      have hn2 : RowsAt .lst H2 xs ls := RowsAt.keep (f := .lst) (fun b ys (e : H b = some (.lst ys)) => sb2 b _ (ne_of e hp (fun z => nomatch z)) e) hn
      refine tcomp_list (a := a) (xs := xs) (H1 := H2) (fun R r => ⟨_, rfl, a, rfl, ⟨_, SqL.of ha2⟩, r⟩) (fun i ys H' => Same H2 H' ∧ RowsAt .tup H' ys (ls.take i)) ⟨Same.refl _, trivial⟩ (fun i ys H' _ ⟨s, _⟩ => SqL.of (s _ _ ha2)) ?_ ?_
      · rintro i x ys H' R hx ⟨s3, hr⟩ hR
        obtain ⟨l, el, c, ec, hc⟩ := hn2.get hx
        subst ec
        simp only [tYes]
        and_intros
        refine ⟨_, SqL.of (s3 _ _ hc), fun q hq => ⟨?_, hR _ _ ⟨s3.upd hq, ?_⟩⟩⟩
        · rw [hr.length, List.length_take]; exact small1000 (by omega)
        · rw [List.take_add_one, el]
          exact (hr.same (Same.put hq)).append ⟨⟨q, rfl, upd_same⟩, trivial⟩
      · rintro ys H' ⟨s3, hr⟩
        rw [hlen, List.take_length] at hr
        refine ⟨?_, fun D hD => ?_⟩
        · rw [hr.length]; exact Nat.le_of_lt (small1000 (by omega))
        and_intros
        refine ⟨_, SqL.of upd_same, fun t2 ht2 => ?_⟩
        have s4 := (s3.upd (o := .lst ys) hD).upd (o := .tup ys) ht2
        have h2t : (upd (upd H' D (.lst ys)) t2 (.tup ys)) t2 = some (.tup ys) := upd_same
        have hr4 := hr.same ((Same.put (o := .lst ys) hD).upd (o := .tup ys) ht2)
        generalize (upd (upd H' D (.lst ys)) t2 (.tup ys)) = H4 at s4 h2t hr4 ⊢
        have hp4 := s4 _ _ hp2
        refine ⟨ad.Table, dx, _, hp4, T.cl_Table, T.na_Table_lines, by show 1 < 1000; decide, ?_⟩
        rw [putF2 (by decide +kernel)]
        have t1p := s4 _ _ h1t
        have n2p : t2 ≠ p := ne_of h2t hp4 (fun z => nomatch z)
        have sx : ∀ o, SameBut p H4 (upd H4 p o) := fun o b u hb e => by rw [upd_ne hb]; exact e
        have ha5 := fun o => sx o a _ (ne_of ha hp (fun z => nomatch z)) (s4 _ _ ha2)
        have hn5 : ∀ o, RowsAt .lst (upd H4 p o) xs ls := fun o => RowsAt.keep (f := .lst) (fun b ys (e : H4 b = some (.lst ys)) => sx o b _ (ne_of e hp4 (fun z => nomatch z)) e) (hn2.same s4)
        have fin : ∀ cw : Int, cw = (wideT ls : Int) → Q .non (upd (upd H4 p (.ins ad.Table dx [("spot_marks", .ref t1), ("lines", .ref t2)])) p (.ins ad.Table dx (putF "columns" (.int cw) [("spot_marks", .ref t1), ("lines", .ref t2)]))) := fun cw e => by
          rw [putF3 (by decide +kernel) (by decide +kernel), upd_upd, e]
          refine kg a xs ls rfl ha hl hn hd _ ⟨dx, t1, t2, ys, upd_same, ?_, ?_, ?_, wideT_le hd, by omega, wideT_all hd⟩ fun b o hb e => ?_
          · rw [upd_ne n1p]; exact t1p
          · rw [upd_ne n2p]; exact h2t
          · exact RowsAt.keep (f := .tup) (fun b zs (e : H4 b = some (.tup zs)) => sx _ b _ (ne_of e hp4 (fun z => nomatch z)) e) hr4
          · rw [upd_ne hb]; exact s4 _ _ (sb2 b o hb e)
        refine ⟨!xs.isEmpty, .inl ⟨xs, SqL.of (ha5 _), rfl⟩, ite2 (fun hne => ?_) fun hne => ?_⟩
        · cases xs with
          | nil => cases hne
          | cons x0 xr =>
            cases ls with
            | nil => exact hn.elim
            | cons l0 lr =>
              obtain ⟨c0, ec0, hc0⟩ := (hn5 (.ins ad.Table dx [("spot_marks", .ref t1), ("lines", .ref t2)])).1
              refine ⟨_, SqL.of (ha5 _), x0, atI_nat (j := 0) rfl, c0, ec0, _, SqL.of hc0, _, _, _, upd_same, T.cl_Table, T.na_Table_columns, by show 2 < 1000; decide, fin _ rfl⟩
        · refine ⟨_, _, _, upd_same, T.cl_Table, T.na_Table_columns, by show 2 < 1000; decide, fin _ ?_⟩
          cases xs with
          | nil =>
            cases ls with
            | nil => rfl
            | cons l0 lr => exact hn.elim
          | cons x0 xr => exact absurd rfl hne
theorem ok_Table_many {f : Addr} {fd : FuncData} (F : Fun K "many" "Table.many" s_Table_many f fd) (T : Txt K mg ad) : FnOk P w K mg base CX0 1 f fd ["self"] (sp_Table_many ad) := by
  refine F.ok sc_Table_many (fun vs H Q E h => ?_) (fun cdv A outer s H vs Q E hr h => ?_)
  · obtain ⟨p, ls, w, rfl, _⟩ := h
    rfl
  · obtain ⟨p, ls, w, rfl, ⟨dx, t1, t2, xs, h1, h2, h3, h4, _⟩, k⟩ := h
    refine ⟨_, (@pss_one _ _ _ (ps_ret (pe_op op_add (pe_callB call_lenT rfl T.len PySem.boot_len (pa_cons (pe_fld (pv 0) rfl) pa_nil)) (pe_fld (pv 0) rfl)))), ?_⟩
    and_intros
    refine ⟨ad.Table, dx, _, h1, T.cl_Table, T.na_Table_lines, .ref t2, lookup3b (by decide +kernel), t2, rfl, _, SqT.of h3, ?_⟩
    refine ⟨ad.Table, dx, _, h1, T.cl_Table, T.na_Table_columns, .int w, lookup3 (by decide +kernel) (by decide +kernel), _, rfl, ?_⟩
    rw [h4.length]
    exact k
theorem ok_Table_left {f : Addr} {fd : FuncData} (F : Fun K "left" "Table.left" s_Table_left f fd) (T : Txt K mg ad) {f_check_places : Addr} {fd_check_places : FuncData} (G_check_places : FnOk P w K mg base (CX1 P w) 2 f_check_places fd_check_places ["places", "many"] (sp_check_places ad)) {f_Table_many : Addr} {fd_Table_many : FuncData} (G_Table_many : FnOk P w K mg base CX0 1 f_Table_many fd_Table_many ["self"] (sp_Table_many ad)) {f_Table_init : Addr} {fd_Table_init : FuncData} (G_Table_init : FnOk P w K mg base (CX1 P w) 4 f_Table_init fd_Table_init ["self", "lines"] (sp_Table_init ad)) {f_marks_at : Addr} {fd_marks_at : FuncData} (G_marks_at : FnOk P w K mg base CX0 1 f_marks_at fd_marks_at ["marks", "places"] sp_marks_at) (D_check_places : Def K mg "check_places" s_check_places ["places", "many"] f_check_places fd_check_places) (D_marks_at : Def K mg "marks_at" s_marks_at ["marks", "places"] f_marks_at fd_marks_at) (B_Table_many : Binds K fd_Table_many ["self"] []) (B_Table_init : Binds K fd_Table_init ["self", "lines"] []) (ME_Table_many : Meth K ad.Table "many" f_Table_many) (M_Table : Mk K ad.Table f_Table_init) : FnOk P w K mg base (CX1 P w) 6 f fd ["self", "places"] (sp_Table_left ad) := by
  refine F.okX sc_Table_left (fun vs H Q E h => ?_) (fun cdv A outer s H vs Q E hr h => ?_)
  · obtain ⟨p, v, ls, w, rfl, _⟩ := h
    rfl
  · obtain ⟨p, v, ls, w, rfl, hp, t, kg, kb⟩ := h
    refine ⟨_, (@pss_cons _ _ _ _ _ (ps_expr (pe_call G_check_places (hr.mono (by decide)) rfl D_check_places.mg D_check_places.F.kp D_check_places.b .nil pass1 (pa_cons (pv 1) (pa_cons (pe_meth0 (pv 0) T.cl_Table ME_Table_many G_Table_many (hr.mono (by decide)) B_Table_many .nil pass0) pa_nil))))
      (@pss_cons _ _ _ _ _ (ps_set (i := 2) sc_Table_left.nd rfl (Or.inr rfl) (pe_callB call_lenT rfl T.len PySem.boot_len (pa_cons (pe_fld (pv 0) rfl) pa_nil)))
      (@pss_cons _ _ _ _ _ (ps_setC (i := 3) rfl sc_Table_left.nd rfl (Or.inl rfl) (show CompScope ["self", "places", "first_column", "lines", "columns", "rest"] (defScope s_Table_left) _ ["place"] ["self", "first_column"] [0, 2] from ⟨rfl, by decide +kernel, by decide +kernel, by decide +kernel, by decide +kernel, by decide +kernel, by decide +kernel, rfl, by decide +kernel⟩) (pi_list (pv 1)) (fun C s₀ H₀ ex pn => ⟨pg_name (i := 0) (show (["place", "self", "first_column"] : List Str).Nodup by decide +kernel) rfl (Or.inl rfl), (pifs_one (pt_cmpR op_lt (pv 0) (pv 2) (nomark _))), (pe_ix (show IxR _ (rIxT K) from ix_tup) (show PE _ _ (tFld K _ _) from pe_fld (pv 1) rfl) (pv 0) (fun _ _ => rfl))⟩))
      (@pss_cons _ _ _ _ _ (ps_set (i := 4) sc_Table_left.nd rfl (Or.inr rfl) (pe_comp (own := ["place"]) (cap := ["first_column"]) (ix := [2]) rfl (show CompScope ["self", "places", "first_column", "lines", "columns", "rest"] (defScope s_Table_left) _ ["place"] ["first_column"] [2] from ⟨rfl, by decide +kernel, by decide +kernel, by decide +kernel, by decide +kernel, by decide +kernel, by decide +kernel, rfl, by decide +kernel⟩) (pi_list (pv 1)) (fun C s₀ H₀ ex pn => ⟨pg_name (i := 0) (show (["place", "first_column"] : List Str).Nodup by decide +kernel) rfl (Or.inl rfl), (pifs_one (pt_cmpR op_ge (pv 0) (pv 1) (nomark _))), (pe_op op_sub (pv 0) (pv 1))⟩)))
      (@pss_cons _ _ _ _ _ (ps_set (i := 5) sc_Table_left.nd rfl (Or.inl rfl) (pe_make M_Table G_Table_init (hr.mono (by decide)) rfl T.c_Table B_Table_init .nil pass1 (pa_cons (pe_comp (own := ["line"]) (cap := ["columns"]) (ix := [4]) rfl (show CompScope ["self", "places", "first_column", "lines", "columns", "rest"] (defScope s_Table_left) _ ["line"] ["columns"] [4] from ⟨rfl, by decide +kernel, by decide +kernel, by decide +kernel, by decide +kernel, by decide +kernel, by decide +kernel, rfl, by decide +kernel⟩) (pi_list (pv 3)) (fun C s₀ H₀ ex pn => ⟨pg_name (i := 0) (show (["line", "columns"] : List Str).Nodup by decide +kernel) rfl (Or.inl rfl), pifs_nil, (pe_call G_marks_at (hr.mono (by decide)) rfl D_marks_at.mg D_marks_at.F.kp D_marks_at.b .nil pass0 (pa_cons (pv 0) (pa_cons (pv 1) pa_nil)))⟩)) pa_nil)))
      (@pss_cons _ _ _ _ _ (ps_fld (pv 5) (pe_callB call_lenL rfl T.len PySem.boot_len (pa_cons (pv 4) pa_nil)) rfl)
      (@pss_one _ _ _ (ps_ret (pv 5))))))))), ?_⟩
    obtain ⟨dx, t1, t2, ts, h1, h2, h3, h4, h5, h6, h7⟩ := id hp
    refine tseq_open fun B hB => ?_
    and_intros
    refine ⟨dx, _, h1, lookup_no3 (by decide +kernel) (by decide +kernel) (by decide +kernel), p, ls, w, rfl, hp, v, _, rfl, t, fun hg H1 s1 => ?_, fun hb H1 s1 => kb hb H1 s1⟩
    obtain ⟨a, ps, rfl, ha, hok⟩ := hg
    have lps := places_len hok (by omega)
    subst hB
    refine tseq_open fun B hB => ?_
    and_intros
    refine ⟨ad.Table, dx, _, s1 _ _ h1, T.cl_Table, T.na_Table_lines, .ref t2, lookup3b (by decide +kernel), t2, rfl, _, SqT.of (s1 _ _ h3), ?_⟩
    rw [h4.length]
    subst hB
    refine tseq_open fun B hB => ?_
    and_intros
    have lts := h4.length
    have h1a := s1 _ _ h1
    have h3a := s1 _ _ h3
    have h4a := h4.same s1
    have haa := s1 _ _ ha
    refine tcomp_list (K := K) (a := a) (xs := ps.map V.int) (H1 := H1) (fun R rr => ⟨_, rfl, a, rfl, ⟨_, SqL.of haa⟩, rr⟩) (fun i ys H' => H' = H1 ∧ RowsAt .tup H1 ys ((linesOf ls.length (ps.take i)).map fun i => ls.getD i.toNat [])) ⟨rfl, trivial⟩ (fun i ys H' _ ⟨e, _⟩ => e ▸ SqL.of haa) ?_ ?_
    · rintro i x ys H' R hx ⟨rfl, hr⟩ hR
      rw [List.getElem?_map] at hx
      obtain ⟨q, eq, rfl⟩ := Option.map_eq_some_iff.mp hx
      obtain ⟨q0, q1⟩ := places_all hok q (List.mem_of_getElem? eq)
      have et : ps.take (i + 1) = ps.take i ++ [q] := by rw [List.take_add_one, eq]; rfl
      and_intros
      refine ite2 (fun hlt => ?_) fun hlt => hR _ _ ⟨rfl, ?_⟩
      · obtain ⟨qn, rfl⟩ := Int.eq_ofNat_of_zero_le q0
        have hqn : qn < ts.length := by omega
        obtain ⟨lq, elq, rq⟩ := h4a.get (List.getElem?_eq_getElem hqn)
        refine ⟨ad.Table, dx, _, h1a, T.cl_Table, T.na_Table_lines, .ref t2, lookup3b (by decide +kernel), t2, rfl, _, SqT.of h3a, _, atI_nat (List.getElem?_eq_getElem hqn), ?_, hR _ _ ⟨rfl, ?_⟩⟩
        · rw [hr.length, List.length_map]
          have := linesOf_len (n := ls.length) (places_take i hok)
          exact small1000 (by omega)
        · rw [et, linesOf_add, if_pos hlt, List.map_append]
          refine hr.append ⟨?_, trivial⟩
          show RowAt .tup _ _ (ls.getD ((qn : Int)).toNat [])
          rw [Int.toNat_natCast, List.getD_eq_getElem?_getD, elq]
          exact rq
      · rw [et, linesOf_add, if_neg hlt, List.append_nil]
        exact hr
    · rintro ys H' ⟨rfl, hr⟩
      rw [show (ps.map V.int).length = ps.length from List.length_map _, List.take_length] at hr
      have l12 := linesOf_len (n := ls.length) hok
      have c12 := colsOf_len (n := ls.length) hok
      refine ⟨by rw [hr.length, List.length_map]; exact Nat.le_of_lt (small1000 (by omega)), fun D hD => ?_⟩
      have s2 := Same.put (o := .lst ys) hD
      have fD : (upd H' D (.lst ys)) D = some (.lst ys) := upd_same
      generalize (upd H' D (.lst ys)) = H2 at s2 fD ⊢
      have hab := s2 _ _ haa
      subst hB
      refine tseq_open fun B hB => ?_
      and_intros
      refine tcomp_list (K := K) (a := a) (xs := ps.map V.int) (H1 := H2) (fun R rr => ⟨_, rfl, a, rfl, ⟨_, SqL.of hab⟩, rr⟩) (fun i zs H' => H' = H2 ∧ zs = (colsOf ls.length (ps.take i)).map V.int) ⟨rfl, rfl⟩ (fun i ys H' _ ⟨e, _⟩ => e ▸ SqL.of hab) ?_ ?_
      · rintro i x zs H' R hx ⟨rfl, rfl⟩ hR
        rw [List.getElem?_map] at hx
        obtain ⟨q, eq, rfl⟩ := Option.map_eq_some_iff.mp hx
        have et : ps.take (i + 1) = ps.take i ++ [q] := by rw [List.take_add_one, eq]; rfl
        and_intros
        refine ite2 (fun hle => ⟨?_, hR _ _ ⟨rfl, ?_⟩⟩) fun hle => hR _ _ ⟨rfl, ?_⟩
        · rw [List.length_map]
          have := colsOf_len (n := ls.length) (places_take i hok)
          exact small1000 (by omega)
        · rw [et, colsOf_add, if_pos hle, List.map_append]; rfl
        · rw [et, colsOf_add, if_neg hle, List.append_nil]
      · rintro zs H' ⟨rfl, rfl⟩
        rw [show (ps.map V.int).length = ps.length from List.length_map _, List.take_length]
        refine ⟨by rw [List.length_map]; exact Nat.le_of_lt (small1000 (by omega)), fun D2 hD2 => ?_⟩
        have s3 := Same.put (o := .lst ((colsOf ls.length ps).map V.int)) hD2
        have fD2 : (upd H' D2 (.lst ((colsOf ls.length ps).map V.int))) D2 = some (.lst ((colsOf ls.length ps).map V.int)) := upd_same
        generalize (upd H' D2 (.lst ((colsOf ls.length ps).map V.int))) = H3 at s3 fD2 ⊢
        have fD3 := s3 _ _ fD
        have hr3 := hr.same (s2.trans s3)
        have llen := hr.length
        rw [List.length_map] at llen
        subst hB
        refine tseq_open fun B hB => ?_
        and_intros
        refine tcomp_list (K := K) (a := D) (xs := ys) (H1 := H3) (fun R rr => ⟨_, rfl, D, rfl, ⟨_, SqL.of fD3⟩, rr⟩) (fun i zs H' => Same H3 H' ∧ RowsAt .lst H' zs ((leftT ls ps).take i)) ⟨Same.refl _, trivial⟩ (fun i ys H' _ ⟨s, _⟩ => SqL.of (s _ _ fD3)) ?_ ?_
        · rintro i x zs H' R hx ⟨s4, hz⟩ hR
          obtain ⟨li, eli, ti, eti, hti⟩ := hr3.get hx
          rw [List.getElem?_map] at eli
          obtain ⟨q, eq, rfl⟩ := Option.map_eq_some_iff.mp eli
          obtain ⟨q0, q1⟩ := linesOf_all hok q (List.mem_of_getElem? eq)
          subst eti
          simp only [tYes]
          and_intros
          have hqn : q.toNat < ls.length := by omega
          have elq : ls.getD q.toNat [] = ls[q.toNat] := by rw [List.getD_eq_getElem?_getD, List.getElem?_eq_getElem hqn]; rfl
          have hlq := h7 _ (List.getElem_mem hqn)
          refine ⟨ti, D2, _, colsOf ls.length ps, rfl, s4 _ _ hti, s4 _ _ fD2, fun j hj => ?_, by omega, fun l hl => ⟨?_, hR _ _ ⟨s4.upd hl, ?_⟩⟩⟩
          · have := colsOf_all hok j hj
            rw [elq, hlq.1]
            exact this
          · rw [hz.length, List.length_take]; exact small1000 (by have : (leftT ls ps).length = (linesOf ls.length ps).length := List.length_map _
                                                                  omega)
          · have e2 : (leftT ls ps)[i]? = some ((colsOf ls.length ps).map fun j => (ls.getD q.toNat []).getD j.toNat .non) := by
              unfold leftT
              rw [List.getElem?_map, eq]
              rfl
            rw [List.take_add_one, e2]
            exact (hz.same (Same.put hl)).append ⟨⟨l, rfl, upd_same⟩, trivial⟩
        · rintro zs H' ⟨s4, hz⟩
          have lT : (leftT ls ps).length = (linesOf ls.length ps).length := List.length_map _
          rw [show ys.length = (leftT ls ps).length by omega, List.take_length] at hz
          have hzl := hz.length
          refine ⟨Nat.le_of_lt (small1000 (by omega)), fun D3 hD3 x6 dx6 hx hdx hne => ?_⟩
          have okT : ∀ l ∈ leftT ls ps, lineOk (colsOf ls.length ps).length l := fun l hl => by
            obtain ⟨q, hq, rfl⟩ := List.mem_map.mp hl
            obtain ⟨q0, q1⟩ := linesOf_all hok q hq
            have hqn : q.toNat < ls.length := by omega
            have elq : ls.getD q.toNat [] = ls[q.toNat] := by rw [List.getD_eq_getElem?_getD, List.getElem?_eq_getElem hqn]; rfl
            have hlq := h7 _ (List.getElem_mem hqn)
            refine ⟨List.length_map _, ?_⟩
            rw [List.all_eq_true]
            intro x hx
            obtain ⟨j, hj, rfl⟩ := List.mem_map.mp hx
            obtain ⟨j0, j1⟩ := colsOf_all hok j hj
            have hjn : j.toNat < (ls[q.toNat]).length := by rw [hlq.1]; omega
            rw [elq, List.getD_eq_getElem?_getD, List.getElem?_eq_getElem hjn, Option.getD_some]
            exact List.all_eq_true.mp hlq.2 _ (List.getElem_mem hjn)
          have tT : tabOk (leftT ls ps) := ⟨_, by omega, okT⟩
          have sA := (((s1.trans s2).trans s3).trans s4).upd (o := .lst zs) hD3
          have f3 : (upd H' D3 (.lst zs)) D3 = some (.lst zs) := upd_same
          have hz3 := hz.same (Same.put (o := .lst zs) hD3)
          have fC := (s4.upd (o := .lst zs) hD3) _ _ fD2
          generalize (upd H' D3 (.lst zs)) = H5 at sA f3 hz3 fC hx hdx ⊢
          have s67 : Same H5 (upd (upd H5 dx6 (.own x6)) x6 (.ins ad.Table dx6 [])) := (Same.put hdx).upd (by rw [upd_ne (Ne.symm hne)]; exact hx)
          have hl6 := s67 D3 _ f3
          have hz6 := hz3.same s67
          refine ⟨x6, dx6, .ref D3, rfl, upd_same, thg5_lst hl6 (hz6.thg2 fun l hl => (okT l hl).2), fun a' xs' ls' e h hl' hm' hd' H8 hrow sb => ⟨rfl, ?_⟩, fun hb => absurd ⟨D3, _, _, rfl, hl6, by omega, hz6, tT⟩ hb⟩
          cases e
          rw [hl6] at h
          cases h
          rw [hm'.uniq hz6] at hrow
          have s68 : Same H5 H8 := fun b o e => sb b o (ne_of_none e hx) (s67 b o e)
          obtain ⟨dx8, u1, u2, us, g1, g2, g3, g4, g5, g6, g7⟩ := hrow
          subst hB
          and_intros
          refine ⟨_, SqL.of (s68 _ _ fC), _, _, _, g1, T.cl_Table, T.na_Table_columns, by show 3 < 1000; decide, ?_⟩
          rw [putF3c (by decide +kernel) (by decide +kernel), List.length_map]
          have nu : ∀ b o, H8 b = some o → (∀ c d e, o ≠ HO.ins c d e) → b ≠ x6 := fun b o e h => ne_of e g1 (h _ _ _)
          refine kg a ps rfl ha hok x6 _ (fun b o e => ?_) ⟨dx8, u1, u2, us, upd_same, ?_, ?_, ?_, by omega, by omega, okT⟩
          · rw [upd_ne (ne_of_none (sA _ _ e) hx)]; exact s68 _ _ (sA _ _ e)
          · rw [upd_ne (nu _ _ g2 fun _ _ _ z => nomatch z)]; exact g2
          · rw [upd_ne (nu _ _ g3 fun _ _ _ z => nomatch z)]; exact g3
          · exact RowsAt.keep (f := .tup) (fun b zs (e : H8 b = some (.tup zs)) => by rw [upd_ne (nu _ _ e fun _ _ _ z => nomatch z)]; exact e) g4
theorem ok_Table_form {f : Addr} {fd : FuncData} (F : Fun K "form" "Table.form" s_Table_form f fd) (T : Txt K mg ad) : FnOk P w K mg base CX0 1 f fd ["self"] (sp_Table_form ad) := by
  refine F.ok sc_Table_form (fun vs H Q E h => ?_) (fun cdv A outer s H vs Q E hr h => ?_)
  · obtain ⟨p, ls, w, rfl, _⟩ := h
    rfl
  · obtain ⟨p, ls, w, rfl, ⟨dx, t1, t2, xs, h1, h2, h3, h4, _⟩, k⟩ := h
    refine ⟨_, (@pss_one _ _ _ (ps_ret (pe_tup (pa_cons pe_str (pa_cons (pe_fld (pv 0) rfl) (pa_cons (pe_fld (pv 0) rfl) pa_nil)))))), ?_⟩
    and_intros
    refine ⟨ad.Table, dx, _, h1, T.cl_Table, T.na_Table_columns, .int w, lookup3 (by decide +kernel) (by decide +kernel), ?_⟩
    exact ⟨ad.Table, dx, _, h1, T.cl_Table, T.na_Table_lines, .ref t2, lookup3b (by decide +kernel), by decide, fun l hl => k t2 xs l h3 h4 hl⟩
theorem ok_show_line {f : Addr} {fd : FuncData} (D : Def K mg "show_line" s_show_line ["line"] f fd) (T : Txt K mg ad) : FnOk P w K mg base CX0 1 f fd ["line"] (sp_show_line K) := by
  refine D.F.ok sc_show_line (fun vs H Q E h => ?_) (fun cdv A outer s H vs Q E hr h => ?_)
  · obtain ⟨t, zs, rfl, _⟩ := h
    rfl
  · obtain ⟨t, zs, rfl, ht, hz, hl, k⟩ := h
    refine ⟨_, (@pss_one _ _ _ (ps_ret (pe_ifExp (pt_truth (pv 0) (fun _ => rfl)) (pe_bm PySem.F.plainAttrs_str PySem.F.slot_str_join PySem.F.type_str_join mt_join pe_str (pa_cons (pv 0) pa_nil)) pe_str))), ?_⟩
    and_intros
    refine ⟨!(zs.map V.str).isEmpty, .inr (.inl ⟨_, ht, rfl⟩), ?_⟩
    cases zs with
    | nil => exact k
    | cons z r =>
      rw [if_pos (show (!(List.map V.str (z :: r)).isEmpty) = true from rfl)]
      have wk : ∀ w ∈ z :: r, wordS w := fun w hw => .inl (hz w hw)
      have := sum_len wk
      exact ⟨rfl, z :: r, .inr ht, by decide +kernel, by omega, k⟩
theorem ok_show_nodes {f : Addr} {fd : FuncData} (D : Def K mg "show_nodes" s_show_nodes ["nodes"] f fd) (T : Txt K mg ad) : FnOk P w K mg base CX0 1 f fd ["nodes"] sp_show_nodes := by
  exact D.F.ok sc_show_nodes (fun vs H Q E h => h.elim) (fun cdv A outer s H vs Q E hr h => h.elim)
theorem ok_show_thing {f : Addr} {fd : FuncData} (D : Def K mg "show_thing" s_show_thing ["thing"] f fd) (T : Txt K mg ad) {f_Row_form : Addr} {fd_Row_form : FuncData} (G_Row_form : FnOk P w K mg base CX0 1 f_Row_form fd_Row_form ["self"] (sp_Row_form ad)) {f_Forest_form : Addr} {fd_Forest_form : FuncData} (G_Forest_form : FnOk P w K mg base CX0 1 f_Forest_form fd_Forest_form ["self"] (sp_form ad)) {f_Table_form : Addr} {fd_Table_form : FuncData} (G_Table_form : FnOk P w K mg base CX0 1 f_Table_form fd_Table_form ["self"] (sp_Table_form ad)) {f_show_nodes : Addr} {fd_show_nodes : FuncData} (G_show_nodes : FnOk P w K mg base CX0 1 f_show_nodes fd_show_nodes ["nodes"] sp_show_nodes) {f_show_line : Addr} {fd_show_line : FuncData} (G_show_line : FnOk P w K mg base CX0 1 f_show_line fd_show_line ["line"] (sp_show_line K)) (D_show_nodes : Def K mg "show_nodes" s_show_nodes ["nodes"] f_show_nodes fd_show_nodes) (D_show_line : Def K mg "show_line" s_show_line ["line"] f_show_line fd_show_line) (B_Row_form : Binds K fd_Row_form ["self"] []) (B_Forest_form : Binds K fd_Forest_form ["self"] []) (B_Table_form : Binds K fd_Table_form ["self"] []) (ME_Row_form : Meth K ad.Row "form" f_Row_form) (ME_Forest_form : Meth K ad.Forest "form" f_Forest_form) (ME_Table_form : Meth K ad.Table "form" f_Table_form) : FnOk P w K mg base CX0 2 f fd ["thing"] (sp_show_thing ad) := by
  refine D.F.ok sc_show_thing (fun vs H Q E h => ?_) (fun cdv A outer s H vs Q E hr h => ?_)
  · obtain ⟨p, d, rfl, _⟩ := h
    rfl
  · obtain ⟨p, d, rfl, hT, fl, k⟩ := h
    refine ⟨_, (@pss_cons _ _ _ _ _ (ps_set (i := 1) sc_show_thing.nd rfl (Or.inl rfl) (pe_either (pe_either (pe_meth0 (pv 0) T.cl_Row ME_Row_form G_Row_form (hr.mono (by decide)) B_Row_form .nil pass0) (pe_meth0 (pv 0) T.cl_Forest ME_Forest_form G_Forest_form (hr.mono (by decide)) B_Forest_form .nil pass0)) (pe_meth0 (pv 0) T.cl_Table ME_Table_form G_Table_form (hr.mono (by decide)) B_Table_form .nil pass0)))
      (@pss_cons _ _ _ _ _ (ps_set (i := 2) sc_show_thing.nd rfl (Or.inl rfl) (pe_ix ix_tup (pv 1) pe_int (fun _ _ => rfl)))
      (@pss_cons _ _ _ _ _ (ps_if (pt_cmpR op_eq (pv 2) pe_str (nomark _))
      (@pss_one _ _ _ (ps_set (i := 3) sc_show_thing.nd rfl (Or.inl rfl) (pe_bm PySem.F.plainAttrs_str PySem.F.slot_str_join PySem.F.type_str_join mt_join pe_str (pa_cons (pe_ix ix_tup (pv 1) pe_int (fun _ _ => rfl)) pa_nil))))
      (@pss_one _ _ _ (ps_if (pt_cmpR op_eq (pv 2) pe_str (nomark _))
      (@pss_one _ _ _ (ps_set (i := 3) sc_show_thing.nd rfl (Or.inl rfl) (pe_call G_show_nodes (hr.mono (by decide)) rfl D_show_nodes.mg D_show_nodes.F.kp D_show_nodes.b .nil pass0 (pa_cons (pe_ix ix_tup (pv 1) pe_int (fun _ _ => rfl)) pa_nil))))
      (@pss_one _ _ _ (ps_set (i := 3) sc_show_thing.nd rfl (Or.inl rfl) (pe_bm PySem.F.plainAttrs_str PySem.F.slot_str_join PySem.F.type_str_join mt_join pe_str (pa_cons (pe_comp (own := ["line"]) (cap := []) (ix := []) rfl (show CompScope ["thing", "form", "kind", "inside"] (defScope s_show_thing) _ ["line"] [] [] from ⟨rfl, by decide +kernel, by decide +kernel, by decide +kernel, by decide +kernel, by decide +kernel, by decide +kernel, rfl, by decide +kernel⟩) (pi_tup (pe_ix ix_tup (pv 1) pe_int (fun _ _ => rfl))) (fun C s₀ H₀ ex pn => ⟨pg_name (i := 0) (show (["line"] : List Str).Nodup by decide +kernel) rfl (Or.inl rfl), pifs_nil, (pe_call G_show_line (hr.mono (by decide)) rfl D_show_line.mg D_show_line.F.kp D_show_line.b .nil pass0 (pa_cons (pv 0) pa_nil))⟩)) pa_nil)))))))
      (@pss_one _ _ _ (ps_ret (pe_ifExp (pt_truth (pv 3) (fun _ => rfl)) (pe_op op_add_str (pe_op op_add_str (pv 2) pe_str) (pv 3)) (pv 2))))))), ?_⟩
    have dO := hT.ok
    have wk := words_ok dO
    have wf := words_few dO
    have lj := join_len wk
    have lk := kind_len d
    refine tseq_open fun B hB => ?_
    and_intros
    refine any_form hT fun f H1 s1 hf => ?_
    subst hB
    refine tseq_open fun B hB => ?_
    and_intros
    obtain ⟨xs0, hx0⟩ := form_head hf
    refine ⟨_, SqT.of hx0, _, (show atI _ ((0 : Nat) : Int) = _ from atI_nat rfl), ?_⟩
    clear hx0
    subst hB
    refine tseq_open fun B hB => ?_
    have fin : ∀ H2, Same H H2 → B ({ nx := fun _ H' => Q .non H', rt := Q } : Ends) [some (.ref p), some (.ref f), some (.str (kindS d)), some (.str (Str.join " " (wordsD d)))] H2 := fun H2 s2 => by
      subst hB
      and_intros
      have q := k H2 s2
      unfold textD at q
      by_cases hw : wordsD d = []
      · rw [hw] at q ⊢
        refine ⟨false, ⟨by decide, rfl⟩, ?_⟩
        rw [if_neg (by decide)]
        exact q
      · have l1 := join_ne wk hw
        refine ⟨true, ⟨big3000 (by omega), (bne_iff_ne.mpr (by omega)).symm⟩, ?_⟩
        rw [if_pos rfl]
        obtain ⟨w0, r0, e⟩ := List.exists_cons_of_ne_nil hw
        rw [e, catW_join, ← e] at q
        have b1 : (Str.ofString " ").length = 1 := by decide +kernel
        exact ⟨big3000 (by omega), big3000 (by rw [Str.length_append]; omega), q⟩
    and_intros
    cases d with
    | forest ns => exact fl.elim
    | row xs =>
      rw [if_pos (show kindS (.row xs) = Str.ofString "row" from rfl)]
      obtain ⟨t, h1, h2⟩ := hf
      have sl := sum_len wk
      refine ⟨rfl, _, SqT.of h1, _, rfl, t, rfl, xs.map sV, .inr ?_, by decide +kernel, ?_, fin H1 s1⟩
      · rw [sV_map dO.1]
        exact SqT.of h2
      · show ((wordsD (.row xs)).map fun x => x.length).sum + (wordsD (.row xs)).length ≤ _
        omega
    | table ls w =>
      rw [if_neg (show ¬ kindS (.table ls w) = Str.ofString "row" from (by decide +kernel : ¬ Str.ofString "table" = Str.ofString "row")), if_neg (show ¬ kindS (.table ls w) = Str.ofString "forest" from (by decide +kernel : ¬ Str.ofString "table" = Str.ofString "forest"))]
      obtain ⟨t, ts, h1, h2, h3⟩ := hf
      have lts := h3.length
      have l12 := dO.2.1
      refine ⟨rfl, ?_⟩
      refine tcomp_tup (K := K) (a := t) (xs := ts) (H1 := H1) (fun R r => by and_intros; exact ⟨_, SqT.of h1, _, rfl, t, rfl, ⟨_, SqT.of h2⟩, r⟩) (fun i ys H' => H' = H1 ∧ ys = (((ls.map fun l => l.map sV).take i).map showL).map V.str) ⟨rfl, rfl⟩ (fun i ys H' _ ⟨e, _⟩ => e ▸ SqT.of h2) ?_ ?_
      · rintro i x ys H' R hx ⟨rfl, rfl⟩ hR
        have hi := (List.getElem?_eq_some_iff.mp hx).1
        obtain ⟨l, hl, hrow⟩ := h3.get hx
        have lo := dO.2.2 l (List.mem_of_getElem? hl)
        obtain ⟨t', rfl, ht'⟩ := row_strs hrow lo.2
        have w12 := dO.1
        simp only [tYes]
        and_intros
        refine ⟨t', l.map sV, rfl, SqT.of ht', sV_marks lo.2, by rw [List.length_map]; have := lo.1; omega, small1000 (by rw [List.length_map, List.length_map, List.length_take]; omega), hR _ _ ⟨rfl, ?_⟩⟩
        rw [List.take_add_one, List.getElem?_map, hl, List.map_append, List.map_append]
        rfl
      · rintro ys H' ⟨rfl, rfl⟩
        rw [show ts.length = (ls.map fun l => l.map sV).length by rw [List.length_map]; exact lts, List.take_length]
        have lm : (ls.map fun l => l.map sV).length = ls.length := List.length_map _
        have hm := lines_marks dO.2.2
        have bnd := sum_le (n := 200) (ws := (ls.map fun l => l.map sV).map showL) fun w hw => by
          obtain ⟨l, hl, rfl⟩ := List.mem_map.mp hw
          have h1 := join_len (words_line (hm l hl))
          obtain ⟨x, hx, rfl⟩ := List.mem_map.mp hl
          have h2 : (wordsL (x.map sV)).length ≤ 13 := by
            have := (dO.2.2 x hx).1
            have := dO.1
            cases x with
            | nil => exact (show 1 ≤ 13 by decide)
            | cons y r => show ((y :: r).map sV).length ≤ 13; rw [List.length_map]; omega
          show (Str.join " " (wordsL (x.map sV))).length ≤ 200
          omega
        rw [List.length_map, lm] at bnd
        refine ⟨Nat.le_of_lt (small1000 (by rw [List.length_map, List.length_map]; omega)), fun L hL => ?_⟩
        have e : Str.join " / " ((ls.map fun l => l.map sV).map showL) = Str.join " " (wordsD (.table ls w)) := by
          by_cases h0 : ls = []
          · subst h0; rfl
          · exact showT_join fun z => h0 (List.map_eq_nil_iff.mp z)
        refine ⟨L, rfl, _, .inl (SqL.of upd_same), by decide +kernel, by rw [List.length_map, lm]; omega, ?_⟩
        rw [e]
        exact fin _ (s1.upd hL)
theorem ok_nodes_in {f : Addr} {fd : FuncData} (D : Def K mg "nodes_in" s_nodes_in ["text"] f fd) (T : Txt K mg ad) : FnOk P w K mg base CX0 1 f fd ["text"] sp_nodes_in := by
  exact D.F.ok sc_nodes_in (fun vs H Q E h => h.elim) (fun cdv A outer s H vs Q E hr h => h.elim)
theorem ok_lines_in {f : Addr} {fd : FuncData} (D : Def K mg "lines_in" s_lines_in ["text"] f fd) (T : Txt K mg ad) : FnOk P w K mg base CX0 1 f fd ["text"] sp_lines_in := by
  refine D.F.ok sc_lines_in (fun vs H Q E h => ?_) (fun cdv A outer s H vs Q E hr h => ?_)
  · obtain ⟨ls, rfl, _⟩ := h
    rfl
  · obtain ⟨ls, rfl, hl, hm, k⟩ := h
    refine ⟨_, (@pss_cons _ _ _ _ _ (ps_if (pt_cmpR op_eq (pv 0) pe_str (nomark _))
      (@pss_one _ _ _ (ps_ret (pe_lst pa_nil)))
      pss_nil)
      (@pss_cons _ _ _ _ _ (ps_set (i := 1) sc_lines_in.nd rfl (Or.inl rfl) (pe_lst (pa_cons (pe_lst pa_nil) pa_nil)))
      (@pss_cons _ _ _ _ _ (ps_for PassesOwn.never rfl (pi_list (pe_bm PySem.F.plainAttrs_str PySem.F.slot_str_split PySem.F.type_str_split mt_split (pv 0) (pa_cons pe_str pa_nil))) (pg_name (i := 2) sc_lines_in.nd rfl (Or.inl rfl))
      (@pss_one _ _ _ (ps_if (pt_cmpR op_eq (pv 2) pe_str (nomark _))
      (@pss_one _ _ _ (ps_expr (pe_bm PySem.F.plainAttrs_list PySem.F.slot_list_append PySem.F.type_list_append mt_append (pv 1) (pa_cons (pe_lst pa_nil) pa_nil))))
      (@pss_one _ _ _ (ps_if (pt_cmpR op_ne (pv 2) pe_str (nomark _))
      (@pss_one _ _ _ (ps_expr (pe_bm PySem.F.plainAttrs_list PySem.F.slot_list_append PySem.F.type_list_append mt_append (pe_ix ix_list (pv 1) (pe_un un_neg pe_int) (fun _ _ => rfl)) (pa_cons (pv 2) pa_nil))))
      pss_nil)))))
      (@pss_one _ _ _ (ps_ret (pv 1)))))), ?_⟩
    have wk : ∀ w ∈ wordsT (ls.map fun l => l.map sV), wordS w := words_lines fun l hl => by
      obtain ⟨x, hx, rfl⟩ := List.mem_map.mp hl
      exact sV_marks (hm x hx).2
    have wf := words_many (n := 12) (ls := ls.map fun l => l.map sV) fun l hl => by
      obtain ⟨x, hx, rfl⟩ := List.mem_map.mp hl
      rw [List.length_map]
      exact (hm x hx).1
    rw [List.length_map] at wf
    have lj := join_len wk
    have bk := lines_back fun l h => (hm l h).2
    have nw : ∀ l ∈ ls.map (fun l => l.map sV), ∀ w ∈ l, w ≠ ("/" : Str) ∧ w ≠ ("-" : Str) := fun l hl w hw => by
      obtain ⟨x, hx, rfl⟩ := List.mem_map.mp hl
      exact mark_no (sV_marks (hm x hx).2 w hw)
    refine tseq_open fun B hB => ?_
    and_intros
    by_cases h0 : ls = []
    · subst h0
      rw [if_pos (show Str.join " " (wordsT (List.map (fun l => List.map sV l) [])) = Str.ofString "" by decide +kernel)]
      exact ⟨by decide, fun a ha => k a [] _ (Same.put ha) upd_same trivial⟩
    have hm0 : ls.map (fun l => l.map sV) ≠ [] := fun e => h0 (List.map_eq_nil_iff.mp e)
    have hw0 := wordsT_ne hm0
    have pa0 : putW ([] ++ [[]]) _ = _ := putW_all [] hm0 nw
    rw [List.nil_append, List.nil_append] at pa0
    generalize wordsT (ls.map fun l => l.map sV) = ws at *
    rw [if_neg (fun e => by have := join_ne wk hw0; rw [e] at this; exact absurd this (by decide +kernel))]
    subst hB
    refine tseq_open fun B hB => ?_
    and_intros
    refine ⟨by decide, fun e0 he0 => ⟨by decide, fun l0 hl0 => ?_⟩⟩
    have se := Same.put (o := .lst []) he0
    have fe : (upd H e0 (.lst [])) e0 = some (.lst []) := upd_same
    generalize (upd H e0 (.lst [])) = H1 at se fe hl0 ⊢
    have hl0H := Same.none se hl0
    have nel : e0 ≠ l0 := ne_of_none fe hl0
    have sl := Same.put (o := .lst [.ref e0]) hl0
    have fl0 : (upd H1 l0 (.lst [.ref e0])) l0 = some (.lst [.ref e0]) := upd_same
    have fe2 := sl _ _ fe
    generalize (upd H1 l0 (.lst [.ref e0])) = H2 at sl fl0 fe2 ⊢
    have s2 := se.trans sl
    subst hB
    refine tseq_open fun B hB => ?_
    refine (show tFor _ _ _ _ _ _ from ?_)
    refine (show iList _ _ _ _ _ from ?_)
    refine split_it (fun J H3 => ∃ lw, J = Itl K lw ∧ H2 lw = none ∧ Same H2 H3 ∧ H3 lw = some (.lst (ws.map V.str))) (fun G hG => ?_) ?_
    · and_intros
      refine ⟨rfl, by decide +kernel, big3000 (by omega), fun lw hlw => ?_⟩
      rw [join_split' wk hw0]
      exact ⟨⟨_, SqL.of upd_same⟩, hG _ _ ⟨lw, rfl, hlw, Same.put hlw, upd_same⟩⟩
    rintro _ H3 ⟨lw, rfl, nlw, s3, hlw⟩
    have s03 := s2.trans s3
    have lwl : lw ≠ l0 := fun e => by rw [e, fl0] at nlw; cases nlw
    refine for_list (xs := ws.map V.str) (fun i σ H' => Same H H' ∧ H' lw = some (.lst (ws.map V.str)) ∧ ∃ (A : List V) (b : Addr) (rA : List (List Str)) (m : List Str), putW [[]] (ws.take i) = rA ++ [m] ∧ H' l0 = some (.lst (A ++ [.ref b])) ∧ RowsAt .lst H' A (rA.map fun l => l.map V.str) ∧ H' b = some (.lst (m.map V.str)) ∧ NotIn b A ∧ (∀ c, V.ref c ∈ A ++ [.ref b] → H c = none ∧ c ≠ l0 ∧ c ≠ lw) ∧ rA.length ≤ i ∧ m.length ≤ i ∧ ∃ o2 : Option V, StIs σ [some (.str (Str.join " " ws)), some (.ref l0), o2]) ⟨s03, hlw, [], e0, [], [], rfl, s3 _ _ fl0, trivial, s3 _ _ fe2, fun c z => (nomatch z), fun c z => ?_, Nat.le_refl _, Nat.le_refl _, none, StIs.rfl⟩ (fun i σ H' _ ⟨_, e, _⟩ => SqL.of e) ?_ ?_
    · cases List.mem_singleton.mp z
      exact ⟨he0, nel, fun e => by rw [← e, fe2] at nlw; cases nlw⟩
    · rintro i x σ H' hx ⟨s4, hw4, A, b, rA, m, ep, h4, hr, hb, nb, nw4, l1, l2, o2, rfl⟩
      obtain ⟨w, hwi, rfl⟩ : ∃ w, ws[i]? = some w ∧ V.str w = x := by
        rw [List.getElem?_map] at hx
        exact Option.map_eq_some_iff.mp hx
      have hi := (List.getElem?_eq_some_iff.mp hwi).1
      have po := put_one hwi ep
      have lr := hr.length
      rw [List.length_map] at lr
      and_intros
      refine ite2 (fun e => ?_) fun n1 => ite2 (fun n2 => ?_) fun n2 => ?_
      · subst e
        rw [if_pos rfl] at po
        refine ⟨.inl ⟨rfl, _, SqL.of h4⟩, by decide, fun e1 he1 => ?_⟩
        have s5 := Same.put (o := .lst []) he1
        have f5 : (upd H' e1 (.lst [])) e1 = some (.lst []) := upd_same
        have he1H := Same.none s4 he1
        have e1l : l0 ≠ e1 := ne_of_none h4 he1
        have e1w : lw ≠ e1 := ne_of_none hw4 he1
        have inA : ∀ c, V.ref c ∈ A ++ [.ref b] → c ≠ e1 := fun c hc => by
          rcases List.mem_append.mp hc with hc | hc
          · obtain ⟨n, _, t, e, ht⟩ := hr.mem hc
            cases e
            exact ne_of_none ht he1
          · cases List.mem_singleton.mp hc
            exact ne_of_none hb he1
        generalize (upd H' e1 (.lst [])) = H5 at s5 f5 ⊢
        refine ⟨_, s5 _ _ h4, small1000 (by rw [List.length_append, List.length_singleton]; omega), same_ne (s4.trans s5) hl0H, by rw [upd_ne lwl]; exact s5 _ _ hw4, A ++ [.ref b], e1, rA ++ [m], [], po, upd_same, ?_, by rw [upd_ne (Ne.symm e1l)]; exact f5, fun c hc => inA c hc, fun c hc => ?_, by rw [List.length_append]; exact Nat.succ_le_succ l1, Nat.zero_le _, _, StIs.rfl⟩
        · have hb2 : RowsAt .lst H5 [.ref b] [m.map V.str] := ⟨⟨b, rfl, s5 _ _ hb⟩, trivial⟩
          rw [List.map_append]
          exact ((hr.same s5).append hb2).updl fun c hc => (nw4 c hc).2.1
        · rcases List.mem_append.mp hc with hc | hc
          · exact nw4 c hc
          · cases List.mem_singleton.mp hc
            exact ⟨he1H, Ne.symm e1l, Ne.symm e1w⟩
      · rw [if_neg n1, if_neg n2] at po
        obtain ⟨hbH, hbl, hbw⟩ := nw4 b (List.mem_append_right _ List.mem_cons_self)
        have am : atI (A ++ [V.ref b]) (-1) = some (.ref b) := by
          have ixm : ixN (A ++ [V.ref b]).length (-1) = some A.length := by
            rw [List.length_append, List.length_singleton]
            unfold ixN
            rw [if_neg (by decide), if_pos (by omega), show (-1 + ((A.length + 1 : Nat) : Int)).toNat = A.length by omega]
          unfold atI
          rw [ixm]
          show (A ++ [V.ref b])[A.length]? = _
          rw [List.getElem?_append_right (Nat.le_refl _), Nat.sub_self]
          rfl
        exact ⟨_, SqL.of h4, _, am, .inl ⟨rfl, _, SqL.of hb⟩, b, rfl, _, hb, small1000 (by rw [List.length_map]; omega), same_ne s4 hbH, by rw [upd_ne (Ne.symm hbw)]; exact hw4, A, b, rA, m ++ [w], po, by rw [upd_ne (Ne.symm hbl)]; exact h4, hr.updl nb, by rw [upd_same, List.map_append]; rfl, nb, nw4, by omega, by rw [List.length_append, List.length_singleton]; omega, _, StIs.rfl⟩
      · rw [if_neg n1, if_pos (Classical.byContradiction n2)] at po
        exact ⟨s4, hw4, A, b, rA, m, po, h4, hr, hb, nb, nw4, by omega, by omega, _, StIs.rfl⟩
    · rintro σ H' ⟨s4, hw4, A, b, rA, m, ep, h4, hr, hb, nb, nw4, l1, l2, o2, rfl⟩
      rw [List.length_map, List.take_length, pa0] at ep
      dsimp only
      subst hB
      and_intros
      refine k l0 (A ++ [.ref b]) H' s4 h4 ?_
      have hb2 : RowsAt .lst H' [.ref b] [m.map V.str] := ⟨⟨b, rfl, hb⟩, trivial⟩
      rw [← bk, ep, List.map_append]
      exact hr.append hb2
theorem ok_marks_in {f : Addr} {fd : FuncData} (D : Def K mg "marks_in" s_marks_in ["text"] f fd) (T : Txt K mg ad) : FnOk P w K mg base CX0 1 f fd ["text"] sp_marks_in := by
  refine D.F.ok sc_marks_in (fun vs H Q E h => ?_) (fun cdv A outer s H vs Q E hr h => ?_)
  · obtain ⟨xs, rfl, _⟩ := h
    rfl
  · obtain ⟨xs, rfl, hm, hl, k⟩ := h
    refine ⟨_, (@pss_one _ _ _ (ps_ret (pe_ifExp (pt_truth (pv 0) (fun _ => rfl)) (pe_bm PySem.F.plainAttrs_str PySem.F.slot_str_split PySem.F.type_str_split mt_split (pv 0) (pa_cons pe_str pa_nil)) (pe_lst pa_nil)))), ?_⟩
    and_intros
    have wk : ∀ w ∈ xs.map sV, wordS w := fun w hw => .inl (sV_marks hm w hw)
    have lj := join_len wk
    rw [List.length_map] at lj
    by_cases hx : xs = []
    · subst hx
      refine ⟨false, ⟨by decide, rfl⟩, ?_⟩
      rw [if_neg (by decide)]
      exact ⟨by decide, fun a ha => k a _ (Same.put ha) upd_same⟩
    · have hne : xs.map sV ≠ [] := fun e => hx (List.map_eq_nil_iff.mp e)
      have l1 := join_ne wk hne
      refine ⟨true, ⟨big3000 (by omega), ?_⟩, ?_⟩
      · exact (bne_iff_ne.mpr (by omega)).symm
      rw [if_pos rfl]
      refine ⟨rfl, by decide +kernel, big3000 (by omega), fun a ha => ?_⟩
      have q := k a (upd H a (.lst xs)) (Same.put ha) upd_same
      rw [join_split' wk hne, sV_map hm]
      exact q
theorem ok_made_of {f : Addr} {fd : FuncData} (D : Def K mg "made_of" s_made_of ["kind", "inside"] f fd) (T : Txt K mg ad) {f_Row_init : Addr} {fd_Row_init : FuncData} (G_Row_init : FnOk P w K mg base (CX1 P w) 3 f_Row_init fd_Row_init ["self", "marks"] (sp_Row_init ad)) {f_marks_in : Addr} {fd_marks_in : FuncData} (G_marks_in : FnOk P w K mg base CX0 1 f_marks_in fd_marks_in ["text"] sp_marks_in) {f_Forest_init : Addr} {fd_Forest_init : FuncData} (G_Forest_init : FnOk P w K mg base (CX1 P w) 4 f_Forest_init fd_Forest_init ["self", "nodes"] (sp_Forest_init ad)) {f_nodes_in : Addr} {fd_nodes_in : FuncData} (G_nodes_in : FnOk P w K mg base CX0 1 f_nodes_in fd_nodes_in ["text"] sp_nodes_in) {f_Table_init : Addr} {fd_Table_init : FuncData} (G_Table_init : FnOk P w K mg base (CX1 P w) 4 f_Table_init fd_Table_init ["self", "lines"] (sp_Table_init ad)) {f_lines_in : Addr} {fd_lines_in : FuncData} (G_lines_in : FnOk P w K mg base CX0 1 f_lines_in fd_lines_in ["text"] sp_lines_in) (D_marks_in : Def K mg "marks_in" s_marks_in ["text"] f_marks_in fd_marks_in) (D_nodes_in : Def K mg "nodes_in" s_nodes_in ["text"] f_nodes_in fd_nodes_in) (D_lines_in : Def K mg "lines_in" s_lines_in ["text"] f_lines_in fd_lines_in) (B_Row_init : Binds K fd_Row_init ["self", "marks"] []) (B_Forest_init : Binds K fd_Forest_init ["self", "nodes"] []) (B_Table_init : Binds K fd_Table_init ["self", "lines"] []) (M_Row : Mk K ad.Row f_Row_init) (M_Forest : Mk K ad.Forest f_Forest_init) (M_Table : Mk K ad.Table f_Table_init) : FnOk P w K mg base (CX1 P w) 6 f fd ["kind", "inside"] (sp_made_of ad) := by
  refine D.F.okX sc_made_of (fun vs H Q E h => ?_) (fun cdv A outer s H vs Q E hr h => ?_)
  · obtain ⟨d, rfl, _⟩ := h
    rfl
  · obtain ⟨d, rfl, dO, fl, k⟩ := h
    refine ⟨_, (@pss_cons _ _ _ _ _ (ps_if (pt_cmpR op_eq (pv 0) pe_str (nomark _))
      (@pss_one _ _ _ (ps_ret (pe_make M_Row G_Row_init (hr.mono (by decide)) rfl T.c_Row B_Row_init .nil pass1 (pa_cons (pe_call G_marks_in (hr.mono (by decide)) rfl D_marks_in.mg D_marks_in.F.kp D_marks_in.b .nil pass0 (pa_cons (pv 1) pa_nil)) pa_nil))))
      pss_nil)
      (@pss_cons _ _ _ _ _ (ps_if (pt_cmpR op_eq (pv 0) pe_str (nomark _))
      (@pss_one _ _ _ (ps_ret (pe_make M_Forest G_Forest_init (hr.mono (by decide)) rfl T.c_Forest B_Forest_init .nil pass1 (pa_cons (pe_call G_nodes_in (hr.mono (by decide)) rfl D_nodes_in.mg D_nodes_in.F.kp D_nodes_in.b .nil pass0 (pa_cons (pv 1) pa_nil)) pa_nil))))
      pss_nil)
      (@pss_cons _ _ _ _ _ (ps_if (pt_cmpR op_eq (pv 0) pe_str (nomark _))
      (@pss_one _ _ _ (ps_ret (pe_make M_Table G_Table_init (hr.mono (by decide)) rfl T.c_Table B_Table_init .nil pass1 (pa_cons (pe_call G_lines_in (hr.mono (by decide)) rfl D_lines_in.mg D_lines_in.F.kp D_lines_in.b .nil pass0 (pa_cons (pv 1) pa_nil)) pa_nil))))
      pss_nil)
      (@pss_one _ _ _ (ps_raise T.e_NoText rfl raises1 rfl (pa_cons pe_str pa_nil)))))), ?_⟩
    refine tseq_open fun B hB => ?_
    and_intros
    cases d with
    | forest ns => exact fl.elim
    | row xs =>
      rw [if_pos (show kindS (.row xs) = Str.ofString "row" from rfl)]
      refine ⟨xs, rfl, dO.1, dO.2, fun l H3 s3 f3 x dx hx hdx hne => ?_⟩
      have s67 : Same H3 (upd (upd H3 dx (.own x)) x (.ins ad.Row dx [])) := (Same.put hdx).upd (by rw [upd_ne (Ne.symm hne)]; exact hx)
      refine ⟨x, dx, .ref l, rfl, upd_same, thg2_lst (s67 _ _ f3) (thg_mark dO.1), fun a' xs' e h _ _ H8 hrow sb => ⟨rfl, ?_⟩, fun hb => absurd ⟨l, _, rfl, s67 _ _ f3, dO.2, dO.1⟩ hb⟩
      cases e
      rw [s67 _ _ f3] at h
      cases h
      exact k x H8 (s3.trans fun b o e => sb b o (ne_of_none e hx) (s67 b o e)) hrow
    | table ls w =>
      rw [if_neg (show ¬ kindS (.table ls w) = Str.ofString "row" from (by decide +kernel : ¬ Str.ofString "table" = Str.ofString "row"))]
      subst hB
      refine tseq_open fun B hB => ?_
      and_intros
      rw [if_neg (show ¬ kindS (.table ls w) = Str.ofString "forest" from (by decide +kernel : ¬ Str.ofString "table" = Str.ofString "forest"))]
      subst hB
      refine tseq_open fun B hB => ?_
      and_intros
      rw [if_pos (show kindS (.table ls w) = Str.ofString "table" from rfl)]
      have w12 := dO.1
      refine ⟨ls, rfl, dO.2.1, fun l hl => ⟨by have := (dO.2.2 l hl).1; omega, (dO.2.2 l hl).2⟩, fun l3 xs H3 s3 hl3 hr3 x dx hx hdx hne => ?_⟩
      have s67 : Same H3 (upd (upd H3 dx (.own x)) x (.ins ad.Table dx [])) := (Same.put hdx).upd (by rw [upd_ne (Ne.symm hne)]; exact hx)
      have hr7 := hr3.same s67
      have hxl : xs.length ≤ 12 := by rw [hr3.length]; exact dO.2.1
      have hmk : ∀ l ∈ ls, l.all markV = true := fun l hl => (dO.2.2 l hl).2
      have htb : ∃ w, w ≤ 12 ∧ ∀ l ∈ ls, lineOk w l := ⟨w, w12, dO.2.2⟩
      refine ⟨x, dx, .ref l3, rfl, upd_same, ⟨.lst (s67 _ _ hl3), fun a' xs' e h y hy => ?_⟩, fun a' xs' ls' e h _ hm' _ H8 htab sb => ⟨rfl, ?_⟩, fun hb => absurd ⟨l3, _, _, rfl, s67 _ _ hl3, hxl, hr7, htb⟩ hb⟩
      · cases e
        rw [s67 _ _ hl3] at h
        cases h
        exact hr7.thg2 hmk y hy
      cases e
      rw [s67 _ _ hl3] at h
      cases h
      have := hm'.uniq hr7
      subst this
      refine k x H8 (s3.trans fun b o e => sb b o (ne_of_none e hx) (s67 b o e)) ?_
      cases ls' with
      | nil => exact htab
      | cons y r =>
        have : wideT (y :: r) = w := (dO.2.2 y List.mem_cons_self).1
        rw [this] at htab
        exact htab
theorem ok_read_thing {f : Addr} {fd : FuncData} (D : Def K mg "read_thing" s_read_thing ["text"] f fd) (T : Txt K mg ad) {f_made_of : Addr} {fd_made_of : FuncData} (G_made_of : FnOk P w K mg base (CX1 P w) 6 f_made_of fd_made_of ["kind", "inside"] (sp_made_of ad)) {f_show_thing : Addr} {fd_show_thing : FuncData} (G_show_thing : FnOk P w K mg base CX0 2 f_show_thing fd_show_thing ["thing"] (sp_show_thing ad)) (D_made_of : Def K mg "made_of" s_made_of ["kind", "inside"] f_made_of fd_made_of) (D_show_thing : Def K mg "show_thing" s_show_thing ["thing"] f_show_thing fd_show_thing) : FnOk P w K mg base (CX1 P w) 7 f fd ["text"] (sp_read_thing ad) := by
  refine D.F.okX sc_read_thing (fun vs H Q E h => ?_) (fun cdv A outer s H vs Q E hr h => ?_)
  · obtain ⟨d, rfl, _⟩ := h
    rfl
  · obtain ⟨d, rfl, dO, fl, k⟩ := h
    refine ⟨_, (@pss_cons _ _ _ _ _ (ps_if (pt_not (pt_val (pe_callB call_isiT rfl T.isinstance PyProof.Rows.boot_isinstance (pa_cons (pv 0) (pa_cons (pe_ty rfl T.str PyProof.Rows.boot_str) pa_nil)))))
      (@pss_one _ _ _ (ps_raise T.e_NoText rfl raises1 rfl (pa_cons pe_str pa_nil)))
      pss_nil)
      (@pss_cons _ _ _ _ _ (ps_set (i := 1) sc_read_thing.nd rfl (Or.inl rfl) (pe_bm PySem.F.plainAttrs_str PySem.F.slot_str_partition PySem.F.type_str_partition mt_partition (pv 0) (pa_cons pe_str pa_nil)))
      (@pss_cons _ _ _ _ _ (ps_tryQ (@pss_one _ _ _ (ps_set (i := 2) sc_read_thing.nd rfl (Or.inl rfl) (pe_call G_made_of (hr.mono (by decide)) rfl D_made_of.mg D_made_of.F.kp D_made_of.b .nil passE (pa_cons (pe_ix (show IxR _ (rIxT K) from ix_tup) (pv 1) pe_int (fun _ _ => rfl)) (pa_cons (pe_ix (show IxR _ (rIxT K) from ix_tup) (pv 1) pe_int (fun _ _ => rfl)) pa_nil))))))
      (@pss_cons _ _ _ _ _ (ps_if (pt_cmpR op_ne (pe_call G_show_thing (hr.mono (by decide)) rfl D_show_thing.mg D_show_thing.F.kp D_show_thing.b .nil pass0 (pa_cons (pv 2) pa_nil)) (pv 0) (nomark _))
      (@pss_one _ _ _ (ps_raise T.e_NoText rfl raises1 rfl (pa_cons pe_str pa_nil)))
      pss_nil)
      (@pss_one _ _ _ (ps_ret (pv 2))))))), ?_⟩
    have tl := text_len dO
    refine tseq_open fun B hB => ?_
    and_intros
    refine ⟨_, .str _, true, rfl, ?_⟩
    rw [if_neg (by decide)]
    subst hB
    refine tseq_open fun B hB => ?_
    and_intros
    refine ⟨rfl, by decide +kernel, big3000 (by omega), fun l hl => ?_⟩
    have sl := Same.put (o := .tup [.str (Txt.partition (textD d) (Str.ofString " ")).1, .str (Txt.partition (textD d) (Str.ofString " ")).2.1, .str (Txt.partition (textD d) (Str.ofString " ")).2.2]) hl
    have cut := cat_cut (ws := wordsD d) (kind_free d)
    rw [show (catW (wordsD d) (kindS d)) = textD d from rfl] at cut
    have fl0 : (upd H l (.tup [.str (Txt.partition (textD d) (Str.ofString " ")).1, .str (Txt.partition (textD d) (Str.ofString " ")).2.1, .str (Txt.partition (textD d) (Str.ofString " ")).2.2])) l = some (.tup [.str (Txt.partition (textD d) (Str.ofString " ")).1, .str (Txt.partition (textD d) (Str.ofString " ")).2.1, .str (Txt.partition (textD d) (Str.ofString " ")).2.2]) := upd_same
    generalize (upd H l (.tup [.str (Txt.partition (textD d) (Str.ofString " ")).1, .str (Txt.partition (textD d) (Str.ofString " ")).2.1, .str (Txt.partition (textD d) (Str.ofString " ")).2.2])) = H1 at sl fl0 ⊢
    rw [cut.1, cut.2] at fl0
    subst hB
    refine tseq_open fun B hB => ?_
    and_intros
    refine ⟨_, SqT.of fl0, _, rfl, _, SqT.of fl0, _, rfl, d, rfl, dO, fl, fun p H2 s2 hT => ?_⟩
    subst hB
    refine tseq_open fun B hB => ?_
    and_intros
    refine ⟨p, normD d, rfl, hT, norm_flat fl, fun H3 s3 => ?_⟩
    rw [norm_text]
    dsimp only
    refine ⟨rfl, ?_⟩
    rw [if_neg (fun h => h rfl)]
    subst hB
    and_intros
    exact k p H3 ((sl.trans s2).trans s3) (hT.same s3)
theorem ok__law_cell_at {f : Addr} {fd : FuncData} (D : Def K mg "_law_cell_at" s__law_cell_at ["_law_script", "_law_k"] f fd) (T : Txt K mg ad) : FnOk P w K mg base CX0 1 f fd ["_law_script", "_law_k"] (sp__law_cell_at K) := by
  refine D.F.ok sc__law_cell_at (fun vs H Q E h => ?_) (fun cdv A outer s H vs Q E hr h => ?_)
  · obtain ⟨a, ns, k, rfl, _⟩ := h
    rfl
  · obtain ⟨a, ns, k, rfl, hS, q⟩ := h
    refine ⟨_, (@pss_cons _ _ _ _ _ (ps_if (pt_cmpR op_lt (pv 1) (pe_callB call_lenL rfl T.len PySem.boot_len (pa_cons (pv 0) pa_nil)) (nomark _))
      (@pss_one _ _ _ (ps_ret (pe_ix ix_list (pv 0) (pv 1) (fun _ _ => rfl))))
      pss_nil)
      (@pss_one _ _ _ (ps_ret pe_int))), ?_⟩
    and_intros
    refine ⟨_, hS, ite2 (fun h1 => ?_) (fun h1 => ?_)⟩
    · have h1 : k < ns.length := by rw [List.length_map] at h1; omega
      have e : cellF ns k = ns[k] := by unfold cellF; rw [List.getD_eq_getElem?_getD, List.getElem?_eq_getElem h1]; rfl
      rw [e] at q
      exact ⟨_, hS, _, atI_nat (by rw [List.getElem?_map, List.getElem?_eq_getElem h1]; rfl), q⟩
    · have h1 : ns.length ≤ k := by rw [List.length_map] at h1; omega
      have e : cellF ns k = 0 := by unfold cellF; rw [List.getD_eq_getElem?_getD, List.getElem?_eq_none h1]; rfl
      rw [e] at q
      exact q
theorem ok__law_mix {f : Addr} {fd : FuncData} (D : Def K mg "_law_mix" s__law_mix ["_law_seed", "_law_k"] f fd) (T : Txt K mg ad) : FnOk P w K mg base CX0 1 f fd ["_law_seed", "_law_k"] sp__law_mix := by
  refine D.F.ok sc__law_mix (fun vs H Q E h => ?_) (fun cdv A outer s H vs Q E hr h => ?_)
  · obtain ⟨a, k, rfl, _⟩ := h
    rfl
  · obtain ⟨a, k, rfl, h0, h1, q⟩ := h
    refine ⟨_, (@pss_cons _ _ _ _ _ (ps_set (i := 2) sc__law_mix.nd rfl (Or.inl rfl) (pe_op op_mod (pe_op op_mul (pe_op op_add (pe_op op_add (pe_op op_add (pe_op op_mod (pv 0) (pe_op op_pow pe_int pe_int)) (pe_op op_mul pe_int (pv 1))) (pe_op op_mul (pe_op op_mul (pv 1) (pv 1)) (pv 1))) pe_int) pe_int) pe_int))
      (@pss_one _ _ _ (ps_ret (pe_op op_mod (pe_op op_mul (pv 2) pe_int) pe_int)))), ?_⟩
    and_intros
    exact ⟨⟨by decide, by decide, by decide⟩, by decide, .inl ⟨by decide, by decide⟩, .inl ⟨by omega, by omega⟩, .inr ⟨by omega, by omega⟩, .inr ⟨by decide, by decide⟩, .inr ⟨by decide, by decide⟩, q⟩
theorem ok__law_how_many {f : Addr} {fd : FuncData} (D : Def K mg "_law_how_many" s__law_how_many ["_law_number"] f fd) (T : Txt K mg ad) : FnOk P w K mg base CX0 1 f fd ["_law_number"] sp__law_how_many := by
  refine D.F.ok sc__law_how_many (fun vs H Q E h => ?_) (fun cdv A outer s H vs Q E hr h => ?_)
  · obtain ⟨n, rfl, _⟩ := h
    rfl
  · obtain ⟨n, rfl, q⟩ := h
    refine ⟨_, (@pss_cons _ _ _ _ _ (ps_if (pt_cmpR op_eq (pe_op op_mod (pe_op op_fdiv (pv 0) pe_int) pe_int) pe_int (nomark _))
      (@pss_one _ _ _ (ps_ret (pe_op op_add pe_int (pe_op op_mod (pe_op op_fdiv (pv 0) pe_int) pe_int))))
      pss_nil)
      (@pss_one _ _ _ (ps_ret (pe_op op_add pe_int (pe_op op_mod (pv 0) pe_int))))), ?_⟩
    and_intros
    refine ite2 (fun _ => q _ ?_ ?_) (fun _ => q _ ?_ ?_) <;> omega
theorem ok__law_marks {f : Addr} {fd : FuncData} (D : Def K mg "_law_marks" s__law_marks ["_law_cell", "_law_many"] f fd) (T : Txt K mg ad) : FnOk P w K mg base CX0 1 f fd ["_law_cell", "_law_many"] sp__law_marks := by
  refine D.F.ok sc__law_marks (fun vs H Q E h => ?_) (fun cdv A outer s H vs Q E hr h => ?_)
  · obtain ⟨c, n, rfl, _⟩ := h
    rfl
  · obtain ⟨c, n, rfl, h0, h1, k⟩ := h
    have fin : ∀ b < 8, ∀ a ≤ b, (Txt.slice (Txt.slice ("marksof" : Str) none (some ((b : Nat) : Int))) none (some ((a : Nat) : Int))).length + (Txt.slice (Txt.slice ("marksof" : Str) none (some ((b : Nat) : Int))) (some ((a : Nat) : Int)) none).length = b ∧
        (Txt.slice (Txt.slice ("marksof" : Str) none (some ((b : Nat) : Int))) none (some ((a : Nat) : Int))).cps.toList.all (fun x => decide (x ∈ LET.cps.toList)) = true ∧ (Txt.slice (Txt.slice ("marksof" : Str) none (some ((b : Nat) : Int))) (some ((a : Nat) : Int)) none).cps.toList.all (fun x => decide (x ∈ LET.cps.toList)) = true ∧
        (Txt.slice ("marksof" : Str) none (some ((b : Nat) : Int))).length = b := by decide +kernel
    obtain ⟨b, hb⟩ := Int.eq_ofNat_of_zero_le (Int.emod_nonneg c (show (8 : Int) ≠ 0 by decide))
    have hb8 : b < 8 := by have := Int.emod_lt_of_pos c (show (0 : Int) < 8 by decide); omega
    refine ⟨_, (@pss_cons _ _ _ _ _ (ps_set (i := 2) sc__law_marks.nd rfl (Or.inr rfl) pe_str)
      (@pss_cons _ _ _ _ _ (ps_set (i := 3) sc__law_marks.nd rfl (Or.inr rfl) (pe_slice sl_str pe_str po_none (po_some (pe_op op_mod (pv 0) pe_int))))
      (@pss_cons _ _ _ _ _ (ps_set (i := 4) sc__law_marks.nd rfl (Or.inr rfl) (pe_op op_mod (pe_op op_fdiv (pv 0) pe_int) (pe_op op_add (pe_callB call_len_str rfl T.len PySem.boot_len (pa_cons (pv 3) pa_nil)) pe_int)))
      (@pss_cons _ _ _ _ _ (ps_set (i := 5) sc__law_marks.nd rfl (Or.inr rfl) (pe_op op_mod (pe_op op_fdiv (pv 0) pe_int) pe_int))
      (@pss_cons _ _ _ _ _ (ps_set (i := 6) sc__law_marks.nd rfl (Or.inr rfl) (pe_op op_add pe_int (pe_op op_mod (pe_op op_fdiv (pv 0) pe_int) pe_int)))
      (@pss_cons _ _ _ _ _ (ps_if (pt_cmpR op_gt (pv 1) pe_int (nomark _))
      (@pss_one _ _ _ (ps_set (i := 6) sc__law_marks.nd rfl (Or.inr rfl) pe_int))
      pss_nil)
      (@pss_one _ _ _ (ps_ret (pe_comp (own := ["_law_k"]) (cap := ["_law_base", "_law_letters", "_law_at", "_law_first", "_law_step"]) (ix := [3, 2, 4, 5, 6]) rfl (show CompScope ["_law_cell", "_law_many", "_law_letters", "_law_base", "_law_at", "_law_first", "_law_step"] (defScope s__law_marks) _ ["_law_k"] ["_law_base", "_law_letters", "_law_at", "_law_first", "_law_step"] [3, 2, 4, 5, 6] from ⟨rfl, by decide +kernel, by decide +kernel, by decide +kernel, by decide +kernel, by decide +kernel, by decide +kernel, rfl, by decide +kernel⟩) (pi_range1 rfl T.range (pa_cons (pv 1) pa_nil)) (fun C s₀ H₀ ex pn => ⟨pg_name (i := 0) (show (["_law_k", "_law_base", "_law_letters", "_law_at", "_law_first", "_law_step"] : List Str).Nodup by decide +kernel) rfl (Or.inl rfl), pifs_nil, (pe_op op_add_str (pe_op op_add_str (pe_slice sl_str (pv 1) po_none (po_some (pv 3))) (pe_ix ix_str (pv 2) (pe_op op_mod (pe_op op_add (pv 4) (pe_op op_mul (pv 0) (pv 5))) pe_int) (fun _ _ => rfl))) (pe_slice sl_str (pv 1) (po_some (pv 3)) po_none))⟩)))))))))), ?_⟩
    and_intros
    rw [hb]
    generalize hB : Txt.slice ("marksof" : Str) none (some ((b : Nat) : Int)) = B
    have lB : B.length = b := by rw [← hB]; exact (fin b hb8 0 (Nat.zero_le _)).2.2.2
    have finB := fin b hb8
    rw [hB] at finB
    obtain ⟨a, ha⟩ := Int.eq_ofNat_of_zero_le (Int.emod_nonneg (c / 8) (show (B.length : Int) + 1 ≠ 0 by omega))
    have ha8 : a ≤ b := by have := Int.emod_lt_of_pos (c / 8) (show (0 : Int) < (B.length : Int) + 1 by omega); omega
    rw [ha]
    obtain ⟨f1, f2, f3, _⟩ := finB a ha8
    have hsz : ∀ {z : Str}, z.length ≤ 1000 → z.length ≤ sizeLine := fun h => Nat.le_of_lt (small1000 h)
    have mk : ∀ x : Nat, x ∈ LET.cps.toList → markS (Txt.slice B none (some (a : Int)) ++ ⟨#[x]⟩ ++ Txt.slice B (some (a : Int)) none) = true := fun x hx => by
      refine mark_of ?_ ?_ fun y hy => letC_iff.mpr ?_
      · rw [Str.length_append, Str.length_append, one_len]; omega
      · rw [Str.length_append, Str.length_append, one_len]; omega
      · have hy' : y ∈ (Txt.slice B none (some (a : Int))).cps.toList ∨ y = x ∨ y ∈ (Txt.slice B (some (a : Int)) none).cps.toList := by
          rw [app_list, app_list, List.mem_append, List.mem_append] at hy
          rcases hy with (h | h) | h
          · exact .inl h
          · exact .inr (.inl (by simpa using h))
          · exact .inr (.inr h)
        rcases hy' with h | h | h
        · exact of_decide_eq_true (List.all_eq_true.mp f2 y h)
        · rw [h]; exact hx
        · exact of_decide_eq_true (List.all_eq_true.mp f3 y h)
    refine ⟨hsz (by decide +kernel), hsz (by omega), by omega, ite2 (fun _ => ?_) fun _ => ?_⟩
    all_goals
      refine tcomp_range (lo := 0) (n := n.toNat) (H1 := H) (fun R r => ⟨_, rfl, n, rfl, by omega, by omega, r⟩) (fun i ys H' => H' = H ∧ ∃ zs : List Str, ys = zs.map V.str ∧ zs.length = i ∧ ∀ z ∈ zs, markS z = true) ⟨rfl, [], rfl, rfl, fun _ z => nomatch z⟩ ?_ ?_
      · rintro i ys H' R hi ⟨rfl, zs, rfl, hm, hz⟩ hR
        have go := fun j : Int => at_str (z := LET) (i := j) (m := 26) (by decide) (by decide +kernel)
        simp only [tYes]
        and_intros
        refine ⟨hsz (by omega), .inl ⟨by omega, by omega⟩, hsz (by decide +kernel), ?_⟩
        obtain ⟨x, hx, ex⟩ := go _
        refine ⟨x, ex, ?_, hsz (by omega), ?_, ?_, hR _ _ ⟨rfl, zs ++ [_], by rw [List.map_append]; rfl, by rw [List.length_append, hm]; rfl, fun z hz' => ?_⟩⟩
        · rw [one_len]; exact Nat.le_of_lt (small1000 (by omega))
        · rw [Str.length_append, one_len]; exact Nat.le_of_lt (small1000 (by omega))
        · rw [List.length_map, hm]; exact small1000 (by omega)
        · rcases List.mem_append.mp hz' with h | h
          · exact hz z h
          · rw [List.mem_singleton.mp h]; exact mk x hx
      · rintro ys H' ⟨rfl, zs, rfl, hm, hz⟩
        refine ⟨?_, fun l hl => k zs l _ hm hz (Same.put hl) upd_same⟩
        rw [List.length_map, hm]
        exact Nat.le_of_lt (small1000 (by omega))
theorem ok__law_pick {f : Addr} {fd : FuncData} (D : Def K mg "_law_pick" s__law_pick ["_law_cell", "_law_marks_here"] f fd) (T : Txt K mg ad) : FnOk P w K mg base CX0 1 f fd ["_law_cell", "_law_marks_here"] sp__law_pick := by
  refine D.F.ok sc__law_pick (fun vs H Q E h => ?_) (fun cdv A outer s H vs Q E hr h => ?_)
  · obtain ⟨c, a, zs, rfl, _⟩ := h
    rfl
  · obtain ⟨c, a, zs, rfl, ha, hz, q⟩ := h
    have go : ∀ i : Int, ∃ z ∈ zs, atI (zs.map V.str) (i % (zs.map V.str).length) = some (.str z) := fun i => by
      obtain ⟨v, hv, _, e⟩ := atI_mod (xs := zs.map V.str) (i := i) (m := (zs.map V.str).length) (by rw [List.length_map]; omega) (Int.le_refl _)
      obtain ⟨z, hz, rfl⟩ := List.mem_map.mp hv
      exact ⟨z, hz, e⟩
    have hp : (0 : Int) < (zs.map V.str).length := by rw [List.length_map]; omega
    refine ⟨_, (@pss_cons _ _ _ _ _ (ps_if (pt_cmpR op_gt (pe_callB call_lenL rfl T.len PySem.boot_len (pa_cons (pv 1) pa_nil)) pe_int (nomark _))
      (@pss_one _ _ _ (ps_ret (pe_ix ix_list (pv 1) (pe_op op_mod (pe_op op_add (pe_op op_mul pe_int (pv 0)) (pe_op op_fdiv (pv 0) pe_int)) (pe_callB call_lenL rfl T.len PySem.boot_len (pa_cons (pv 1) pa_nil))) (fun _ _ => rfl))))
      pss_nil)
      (@pss_one _ _ _ (ps_ret (pe_ix ix_list (pv 1) (pe_op op_mod (pe_op op_mod (pv 0) pe_int) (pe_callB call_lenL rfl T.len PySem.boot_len (pa_cons (pv 1) pa_nil))) (fun _ _ => rfl))))), ?_⟩
    and_intros
    refine ⟨_, SqL.of ha, ite2 (fun _ => ?_) fun _ => ?_⟩
    · obtain ⟨z, hm, e⟩ := go (5 * c + c / 7)
      exact ⟨.inl ⟨by decide, by decide⟩, _, SqL.of ha, hp, _, SqL.of ha, _, e, q z hm⟩
    · obtain ⟨z, hm, e⟩ := go (c % 7)
      exact ⟨_, SqL.of ha, hp, _, SqL.of ha, _, e, q z hm⟩
theorem ok__law_cells {f : Addr} {fd : FuncData} (D : Def K mg "_law_cells" s__law_cells ["_law_script", "_law_begin", "_law_seed", "_law_many"] f fd) (T : Txt K mg ad) {f__law_mix : Addr} {fd__law_mix : FuncData} (G__law_mix : FnOk P w K mg base CX0 1 f__law_mix fd__law_mix ["_law_seed", "_law_k"] sp__law_mix) (D__law_mix : Def K mg "_law_mix" s__law_mix ["_law_seed", "_law_k"] f__law_mix fd__law_mix) : FnOk P w K mg base CX0 2 f fd ["_law_script", "_law_begin", "_law_seed", "_law_many"] (sp__law_cells K) := by
  refine D.F.ok sc__law_cells (fun vs H Q E h => ?_) (fun cdv A outer s H vs Q E hr h => ?_)
  · obtain ⟨a, ns, b, sd, rfl, _⟩ := h
    rfl
  · obtain ⟨a, ns, b, sd, rfl, h0, hS, k⟩ := h
    refine ⟨_, (@pss_cons _ _ _ _ _ (ps_if (pt_cmpR op_eq (pe_op op_mod (pv 2) pe_int) pe_int (nomark _))
      (@pss_cons _ _ _ _ _ (ps_set (i := 4) sc__law_cells.nd rfl (Or.inl rfl) (pe_lst pa_nil))
      (@pss_cons _ _ _ _ _ (ps_set (i := 5) sc__law_cells.nd rfl (Or.inl rfl) (pe_op op_fdiv (pv 2) pe_int))
      (@pss_cons _ _ _ _ _ (ps_for PassesOwn.never rfl (pi_range1 rfl T.range (pa_cons (pe_op op_mod (pe_op op_fdiv (pv 2) pe_int) pe_int) pa_nil)) (pg_name (i := 6) sc__law_cells.nd rfl (Or.inl rfl))
      (@pss_cons _ _ _ _ _ (ps_expr (pe_bm PySem.F.plainAttrs_list PySem.F.slot_list_append PySem.F.type_list_append mt_append (pv 4) (pa_cons (pe_op op_mod (pv 5) pe_int) pa_nil)))
      (@pss_one _ _ _ (ps_set (i := 5) sc__law_cells.nd rfl (Or.inl rfl) (pe_op op_fdiv (pv 5) pe_int)))))
      (@pss_one _ _ _ (ps_ret (pv 4))))))
      pss_nil)
      (@pss_cons _ _ _ _ _ (ps_if (pt_cmpR op_ne (pe_op op_mod (pe_op op_fdiv (pv 2) pe_int) pe_int) pe_int (nomark _))
      (@pss_one _ _ _ (ps_ret (pe_slice sl_list (pv 0) (po_some (pv 1)) (po_some (pe_op op_add (pv 1) pe_int)))))
      pss_nil)
      (@pss_one _ _ _ (ps_ret (pe_comp (own := ["_law_k"]) (cap := ["_law_seed"]) (ix := [2]) rfl (show CompScope ["_law_script", "_law_begin", "_law_seed", "_law_many", "_law_cells_here", "_law_rest", "_law_k"] (defScope s__law_cells) _ ["_law_k"] ["_law_seed"] [2] from ⟨rfl, by decide +kernel, by decide +kernel, by decide +kernel, by decide +kernel, by decide +kernel, by decide +kernel, rfl, by decide +kernel⟩) (pi_range1 rfl T.range (pa_cons (pe_op op_mod (pe_op op_fdiv (pv 2) pe_int) (pe_op op_add (pv 3) pe_int)) pa_nil)) (fun C s₀ H₀ ex pn => ⟨pg_name (i := 0) (show (["_law_k", "_law_seed"] : List Str).Nodup by decide +kernel) rfl (Or.inl rfl), pifs_nil, (pe_call G__law_mix (hr.mono (by decide)) rfl D__law_mix.mg D__law_mix.F.kp D__law_mix.b .nil pass0 (pa_cons (pe_op op_fdiv (pv 1) pe_int) (pa_cons (pv 0) pa_nil)))⟩)))))), ?_⟩
    and_intros
    refine ite2 (fun _ => ⟨by decide, fun l hl => ?_⟩) fun _ => ite2 (fun _ => ?_) fun _ => ?_
    · have s0 : Same H (upd H l (.lst [])) := Same.put hl
      refine ⟨_, rfl, _, _, rfl, rfl, ⟨by decide, by decide⟩, _, _, rfl, rfl, by show (0 : Int) < 11; decide, _, rfl, by omega, by omega, for_range (n := (sd / 2 % 11).toNat) (fun i σ H' => ∃ (ms : List Int) (rest : Int) (o : Option V), H' = upd H l (.lst (ms.map V.int)) ∧ ms.length = i ∧ StIs σ [some (.ref a), some (.int b), some (.int sd), some (.int 40), some (.ref l), some (.int rest), o]) ⟨[], _, none, rfl, rfl, StIs.rfl⟩ ?_ ?_⟩
      · rintro i σ H' hi ⟨ms, rest, o, rfl, hm, rfl⟩
        and_intros
        refine ⟨.inl ⟨rfl, _, SqL.of upd_same⟩, _, upd_same, ?_, ms ++ [rest % 182], ?_, ?_, rest / 182, _, StIs.rfl⟩
        · rw [List.length_map]; exact small1000 (by omega)
        · rw [upd_upd, List.map_append]; rfl
        · rw [List.length_append, hm]; rfl
      · rintro σ H' ⟨ms, rest, o, rfl, hm, rfl⟩
        and_intros
        exact k ms l _ (by omega) (Same.put hl) upd_same
    · refine ⟨_, hS, fun l hl => ?_⟩
      have e1 : cutV (ns.map V.int) (some b) (some (b + 10)) = ((ns.drop (HT.sIx (ns.map V.int).length 0 (some b))).take (HT.sIx (ns.map V.int).length (ns.map V.int).length (some (b + 10)) - HT.sIx (ns.map V.int).length 0 (some b))).map V.int := by
        unfold cutV
        rw [List.map_take, List.map_drop]
      rw [e1]
      refine k _ l _ ?_ (Same.put hl) upd_same
      obtain ⟨bn, rfl⟩ := Int.eq_ofNat_of_zero_le h0
      have e2 : ((bn : Int) + 10) = ((bn + 10 : Nat) : Int) := by omega
      rw [e2, HT.sIx_nat, HT.sIx_nat, List.length_take]
      omega
    · refine tcomp_range (lo := 0) (n := (sd / 10 % (40 + 1)).toNat) (H1 := H) (fun R r => ?_) (fun i ys H' => H' = H ∧ ∃ ms : List Int, ys = ms.map V.int ∧ ms.length = i) ⟨rfl, [], rfl, rfl⟩ ?_ ?_
      · and_intros
        exact ⟨by omega, by omega, by omega, r⟩
      · rintro i ys H' R hi ⟨rfl, ms, rfl, hm⟩ hR
        refine ⟨_, rfl, _, _, rfl, rfl, ⟨by decide, by decide⟩, _, rfl, sd / 10, 0 + i, rfl, by omega, by omega, ?_, hR _ _ ⟨rfl, ms ++ [mixF (sd / 10) (0 + i)], by simp, by simp [hm]⟩⟩
        rw [List.length_map, hm]
        exact small1000 (by omega)
      · rintro ys H' ⟨rfl, ms, rfl, hm⟩
        refine ⟨?_, fun l hl => k ms l _ (by omega) (Same.put hl) upd_same⟩
        rw [List.length_map, hm]
        exact Nat.le_of_lt (small1000 (by omega))
theorem ok__law_lines {f : Addr} {fd : FuncData} (D : Def K mg "_law_lines" s__law_lines ["_law_cells_here", "_law_marks_here", "_law_wide"] f fd) (T : Txt K mg ad) {f__law_pick : Addr} {fd__law_pick : FuncData} (G__law_pick : FnOk P w K mg base CX0 1 f__law_pick fd__law_pick ["_law_cell", "_law_marks_here"] sp__law_pick) (D__law_pick : Def K mg "_law_pick" s__law_pick ["_law_cell", "_law_marks_here"] f__law_pick fd__law_pick) : FnOk P w K mg base CX0 2 f fd ["_law_cells_here", "_law_marks_here", "_law_wide"] sp__law_lines := by
  refine D.F.ok sc__law_lines (fun vs H Q E h => ?_) (fun cdv A outer s H vs Q E hr h => ?_)
  · obtain ⟨c, m, ms, zs, w, rfl, _⟩ := h
    rfl
  · obtain ⟨c, m, ms, zs, w, rfl, hc, hm, hw, hl, hz0, hz, k⟩ := h
    refine ⟨_, (@pss_cons _ _ _ _ _ (ps_set (i := 3) sc__law_lines.nd rfl (Or.inl rfl) (pe_lst pa_nil))
      (@pss_cons _ _ _ _ _ (ps_for PassesOwn.never rfl (pi_range3 rfl T.range (pa_cons pe_int (pa_cons (pe_op op_add (pe_op op_sub (pe_callB call_lenL rfl T.len PySem.boot_len (pa_cons (pv 0) pa_nil)) (pv 2)) pe_int) (pa_cons (pe_callB (call_max2 rfl) rfl T.max (by decide +kernel) (pa_cons pe_int (pa_cons (pv 2) pa_nil))) pa_nil)))) (pg_name (i := 4) sc__law_lines.nd rfl (Or.inl rfl))
      (@pss_one _ _ _ (ps_if (pt_cmpR op_lt (pe_callB call_lenL rfl T.len PySem.boot_len (pa_cons (pv 3) pa_nil)) pe_int (nomark _))
      (@pss_one _ _ _ (ps_expr (pe_bm PySem.F.plainAttrs_list PySem.F.slot_list_append PySem.F.type_list_append mt_append (pv 3) (pa_cons (pe_comp (own := ["_law_cell"]) (cap := ["_law_marks_here"]) (ix := [1]) rfl (show CompScope ["_law_cells_here", "_law_marks_here", "_law_wide", "_law_lines_here", "_law_k"] (defScope s__law_lines) _ ["_law_cell"] ["_law_marks_here"] [1] from ⟨rfl, by decide +kernel, by decide +kernel, by decide +kernel, by decide +kernel, by decide +kernel, by decide +kernel, rfl, by decide +kernel⟩) (pi_list (pe_slice sl_list (pv 0) (po_some (pv 4)) (po_some (pe_op op_add (pv 4) (pv 2))))) (fun C s₀ H₀ ex pn => ⟨pg_name (i := 0) (show (["_law_cell", "_law_marks_here"] : List Str).Nodup by decide +kernel) rfl (Or.inl rfl), pifs_nil, (pe_call G__law_pick (hr.mono (by decide)) rfl D__law_pick.mg D__law_pick.F.kp D__law_pick.b .nil pass0 (pa_cons (pv 0) (pa_cons (pv 1) pa_nil)))⟩)) pa_nil))))
      pss_nil)))
      (@pss_one _ _ _ (ps_ret (pv 3))))), ?_⟩
    and_intros
    refine ⟨by decide, fun l hl1 => ?_⟩
    have s0 := Same.put (o := .lst []) hl1
    have lM : (ms.map V.int).length = ms.length := List.length_map _
    refine ⟨_, rfl, c, _, rfl, SqL.of (s0 _ _ hc), _, rfl, _, _, rfl, rfl, _, _, rfl, rfl, _, rfl, 1, w, rfl, _, _, rfl, ⟨by omega, by omega, by split <;> omega, by split <;> omega⟩, fun n hn => for_range3 (fun i σ H' => Same H H' ∧ ∃ xs ls, H' l = some (.lst xs) ∧ RowsAt .lst H' xs ls ∧ NotIn l xs ∧ ls.length ≤ 12 ∧ (∀ x ∈ ls, lineOk w x) ∧ ∃ o, StIs σ [some (.ref c), some (.ref m), some (.int w), some (.ref l), o]) ⟨s0, [], [], upd_same, trivial, NotIn.nil, Nat.zero_le _, (fun _ z => nomatch z), none, StIs.rfl⟩ ?_ ?_⟩
    · rintro i σ H' hi ⟨s1, xs, ls, hl2, hr1, hni, h12, hok, o, rfl⟩
      have hi2 := hn i hi
      have hk0 : 0 ≤ 0 + (i : Int) * (if (w : Int) > 1 then (w : Int) else 1) := by
        have : 0 ≤ (i : Int) * (if (w : Int) > 1 then (w : Int) else 1) := Int.mul_nonneg (by omega) (by split <;> omega)
        omega
      have hkw : 0 + (i : Int) * (if (w : Int) > 1 then (w : Int) else 1) + w ≤ ms.length := by rw [lM] at hi2; omega
      generalize (0 + (i : Int) * (if (w : Int) > 1 then (w : Int) else 1)) = kx at hk0 hkw ⊢
      obtain ⟨kn, rfl⟩ := Int.eq_ofNat_of_zero_le hk0
      obtain ⟨cs, ecs, lcs⟩ := cut_len (ms := ms) (a := kn) (w := w) (by omega)
      have lx := hr1.length
      and_intros
      refine ⟨_, SqL.of hl2, ite2 (fun h => ⟨.inl ⟨rfl, _, SqL.of hl2⟩, ?_⟩) fun h => ⟨s1, xs, hl2, ls, hr1, hni, h12, hok, _, StIs.rfl⟩⟩
      refine tcomp_listN (K := K) (xs := cs.map V.int) (fun a H1 => H' a = none ∧ H1 = upd H' a (.lst (cs.map V.int))) (fun R r => ?_) (fun a H1 ⟨ha, e⟩ => ⟨fun i ys H2 => H2 = H1 ∧ ∃ ws : List Str, ys = ws.map V.str ∧ ws.length = i ∧ ∀ z ∈ ws, markS z = true, ⟨rfl, [], rfl, rfl, fun _ z => nomatch z⟩, ?_, ?_, ?_⟩)
      · and_intros
        refine ⟨_, SqL.of (s1 _ _ hc), fun a ha => ?_⟩
        rw [ecs]
        exact ⟨⟨_, SqL.of upd_same⟩, r a _ ⟨ha, rfl⟩⟩
      · rintro j ys H2 _ ⟨rfl, _⟩
        rw [e]
        exact SqL.of upd_same
      · rintro j x ys H2 R hx ⟨rfl, ws, rfl, hwl, hws⟩ hR
        have hj : j < cs.length := by have := (List.getElem?_eq_some_iff.mp hx).1; rw [List.length_map] at this; exact this
        obtain ⟨q, _, rfl⟩ := List.mem_map.mp (List.mem_of_getElem? hx)
        simp only [tYes]
        and_intros
        refine ⟨q, m, zs, rfl, by rw [e]; exact (s1.upd ha) _ _ hm, hz0, fun z hz1 => ⟨by rw [List.length_map, hwl]; exact small1000 (by omega), hR _ _ ⟨rfl, ws ++ [z], by rw [List.map_append]; rfl, by rw [List.length_append, hwl]; rfl, fun y hy => ?_⟩⟩⟩
        rcases List.mem_append.mp hy with h | h
        · exact hws y h
        · rw [List.mem_singleton.mp h]; exact hz z hz1
      · rintro ys H2 ⟨rfl, ws, rfl, hwl, hws⟩
        rw [List.length_map] at hwl
        refine ⟨by rw [List.length_map]; exact Nat.le_of_lt (small1000 (by omega)), fun D hD => ?_⟩
        have sA : Same H' H2 := by rw [e]; exact Same.put ha
        have sD := sA.upd (o := .lst (ws.map V.str)) hD
        have hl3 := sD _ _ hl2
        have nD : D ≠ l := Ne.symm (ne_of_none (sA _ _ hl2) hD)
        refine ⟨_, hl3, small1000 (by omega), fun b o e => ?_, _, upd_same, ls ++ [ws.map V.str], ?_, hni.add nD, ?_, ?_, _, StIs.rfl⟩
        · rw [upd_ne (ne_of_none e hl1)]; exact sD _ _ (s1 b o e)
        · exact ((hr1.same sD).updl hni).append ⟨⟨D, rfl, by rw [upd_ne nD]; exact upd_same⟩, trivial⟩
        · rw [List.length_append, List.length_singleton]; omega
        · intro x hx
          rcases List.mem_append.mp hx with h | h
          · exact hok x h
          · rw [List.mem_singleton.mp h]
            exact ⟨by rw [List.length_map]; omega, all_marks hws⟩
    · rintro σ H' ⟨s1, xs, ls, hl2, hr1, hni, h12, hok, o, rfl⟩
      and_intros
      exact k ls xs l H' s1 hl2 hr1 h12 ⟨w, hw, hok⟩
theorem ok__law_some {f : Addr} {fd : FuncData} (D : Def K mg "_law_some" s__law_some ["_law_cell", "_law_many"] f fd) (T : Txt K mg ad) {f__law_mix : Addr} {fd__law_mix : FuncData} (G__law_mix : FnOk P w K mg base CX0 1 f__law_mix fd__law_mix ["_law_seed", "_law_k"] sp__law_mix) (D__law_mix : Def K mg "_law_mix" s__law_mix ["_law_seed", "_law_k"] f__law_mix fd__law_mix) : FnOk P w K mg base CX0 2 f fd ["_law_cell", "_law_many"] sp__law_some := by
  refine D.F.ok sc__law_some (fun vs H Q E h => ?_) (fun cdv A outer s H vs Q E hr h => ?_)
  · obtain ⟨c, n, rfl, _⟩ := h
    rfl
  · obtain ⟨c, n, rfl, hn, k⟩ := h
    refine ⟨_, (@pss_cons _ _ _ _ _ (ps_set (i := 2) sc__law_some.nd rfl (Or.inl rfl) (pe_lst pa_nil))
      (@pss_cons _ _ _ _ _ (ps_set (i := 3) sc__law_some.nd rfl (Or.inl rfl) (pe_op op_fdiv (pv 0) pe_int))
      (@pss_cons _ _ _ _ _ (ps_set (i := 4) sc__law_some.nd rfl (Or.inl rfl) (pe_op op_mod (pe_op op_fdiv (pv 0) pe_int) pe_int))
      (@pss_cons _ _ _ _ _ (ps_for PassesOwn.never rfl (pi_range1 rfl T.range (pa_cons (pv 1) pa_nil)) (pg_name (i := 5) sc__law_some.nd rfl (Or.inl rfl))
      (@pss_cons _ _ _ _ _ (ps_set (i := 6) sc__law_some.nd rfl (Or.inl rfl) (pe_cmpR op_eq (pe_op op_mod (pv 3) pe_int) pe_int (nomark _)))
      (@pss_cons _ _ _ _ _ (ps_set (i := 3) sc__law_some.nd rfl (Or.inl rfl) (pe_op op_fdiv (pv 3) pe_int))
      (@pss_cons _ _ _ _ _ (ps_if (pt_cmpR op_eq (pe_op op_mod (pv 0) pe_int) pe_int (nomark _))
      (@pss_cons _ _ _ _ _ (ps_set (i := 6) sc__law_some.nd rfl (Or.inl rfl) (pe_cmpR op_gt (pe_op op_mod (pe_call G__law_mix (hr.mono (by decide)) rfl D__law_mix.mg D__law_mix.F.kp D__law_mix.b .nil pass0 (pa_cons (pe_op op_fdiv (pv 0) pe_int) (pa_cons (pv 5) pa_nil))) pe_int) pe_int (nomark _)))
      (@pss_cons _ _ _ _ _ (ps_if (pt_cmpR op_eq (pv 4) pe_int (nomark _))
      (@pss_one _ _ _ (ps_set (i := 6) sc__law_some.nd rfl (Or.inl rfl) (pe_cmpR op_eq (pe_op op_mod (pe_call G__law_mix (hr.mono (by decide)) rfl D__law_mix.mg D__law_mix.F.kp D__law_mix.b .nil pass0 (pa_cons (pe_op op_fdiv (pv 0) pe_int) (pa_cons (pv 5) pa_nil))) pe_int) pe_int (nomark _))))
      pss_nil)
      (@pss_cons _ _ _ _ _ (ps_if (pt_cmpR op_eq (pv 4) pe_int (nomark _))
      (@pss_one _ _ _ (ps_set (i := 6) sc__law_some.nd rfl (Or.inl rfl) (pe_cmpR op_ne (pv 5) (pe_op op_mod (pe_op op_fdiv (pv 0) pe_int) (pv 1)) (nomark _))))
      pss_nil)
      (@pss_one _ _ _ (ps_if (pt_cmpR op_eq (pv 4) pe_int (nomark _))
      (@pss_one _ _ _ (ps_set (i := 6) sc__law_some.nd rfl (Or.inl rfl) (pe_cmpR op_eq (pe_op op_mod (pe_op op_fdiv (pv 0) pe_int) pe_int) pe_int (nomark _))))
      pss_nil)))))
      pss_nil)
      (@pss_one _ _ _ (ps_if (pt_val (pv 6))
      (@pss_one _ _ _ (ps_expr (pe_bm PySem.F.plainAttrs_list PySem.F.slot_list_append PySem.F.type_list_append mt_append (pv 2) (pa_cons (pv 5) pa_nil))))
      pss_nil))))))
      (@pss_one _ _ _ (ps_ret (pv 2))))))), ?_⟩
    and_intros
    refine ⟨by decide, fun l hl => ⟨_, rfl, n, rfl, by omega, by omega, ?_⟩⟩
    rw [Int.toNat_natCast]
    refine for_range (n := n) (fun i σ H' => ∃ (ps : List Int) (rest : Int) (o5 o6 : Option V), H' = upd H l (.lst (ps.map V.int)) ∧ placesOk 0 n ps ∧ lowAfter 0 ps ≤ i ∧ StIs σ [some (.int c), some (.int n), some (.ref l), some (.int rest), some (.int (c / 2 % 4)), o5, o6]) ⟨[], _, none, none, rfl, trivial, Int.le_refl _, StIs.rfl⟩ ?_ ?_
    · rintro i σ H' hi ⟨ps, rest, o5, o6, rfl, hok, hlo, rfl⟩
      and_intros
      have lps := places_len hok (by omega)
      repeat' (first
        | refine ite2 (fun _ => ?_) fun _ => ?_
        | refine ⟨c / 8, 0 + i, rfl, by omega, by omega, _, rfl, ?_⟩
        | refine ⟨show (0 : Int) < n by omega, ?_⟩
        | exact ⟨.inl ⟨rfl, _, SqL.of upd_same⟩, _, upd_same, by rw [List.length_map]; exact small1000 (by omega), ps ++ [0 + (i : Int)], by rw [upd_upd, List.map_append]; rfl, placesOk_append.mpr ⟨hok, by omega, by omega, trivial⟩, by rw [lowAfter_append]; show (0 + (i : Int)) + 1 ≤ _; omega, _, _, _, StIs.rfl⟩
        | exact ⟨ps, rfl, hok, by omega, _, _, _, StIs.rfl⟩)
    · rintro σ H' ⟨ps, rest, o5, o6, rfl, hok, hlo, rfl⟩
      and_intros
      exact k ps l _ (Same.put hl) upd_same hok
theorem ok__law_table_by {f : Addr} {fd : FuncData} (D : Def K mg "_law_table_by" s__law_table_by ["_law_script", "_law_begin", "_law_marks_here"] f fd) (T : Txt K mg ad) {f__law_cell_at : Addr} {fd__law_cell_at : FuncData} (G__law_cell_at : FnOk P w K mg base CX0 1 f__law_cell_at fd__law_cell_at ["_law_script", "_law_k"] (sp__law_cell_at K)) {f__law_pick : Addr} {fd__law_pick : FuncData} (G__law_pick : FnOk P w K mg base CX0 1 f__law_pick fd__law_pick ["_law_cell", "_law_marks_here"] sp__law_pick) {f__law_lines : Addr} {fd__law_lines : FuncData} (G__law_lines : FnOk P w K mg base CX0 2 f__law_lines fd__law_lines ["_law_cells_here", "_law_marks_here", "_law_wide"] sp__law_lines) {f__law_mix : Addr} {fd__law_mix : FuncData} (G__law_mix : FnOk P w K mg base CX0 1 f__law_mix fd__law_mix ["_law_seed", "_law_k"] sp__law_mix) (D__law_cell_at : Def K mg "_law_cell_at" s__law_cell_at ["_law_script", "_law_k"] f__law_cell_at fd__law_cell_at) (D__law_pick : Def K mg "_law_pick" s__law_pick ["_law_cell", "_law_marks_here"] f__law_pick fd__law_pick) (D__law_lines : Def K mg "_law_lines" s__law_lines ["_law_cells_here", "_law_marks_here", "_law_wide"] f__law_lines fd__law_lines) (D__law_mix : Def K mg "_law_mix" s__law_mix ["_law_seed", "_law_k"] f__law_mix fd__law_mix) : FnOk P w K mg base CX0 3 f fd ["_law_script", "_law_begin", "_law_marks_here"] (sp__law_table_by K) := by
  refine D.F.ok sc__law_table_by (fun vs H Q E h => ?_) (fun cdv A outer s H vs Q E hr h => ?_)
  · obtain ⟨a, m, ns, b, zs, rfl, _⟩ := h
    rfl
  · obtain ⟨a, m, ns, b, zs, rfl, hS, hl, hm, hz0, hz, k⟩ := h
    refine ⟨_, (@pss_cons _ _ _ _ _ (ps_set (i := 3) sc__law_table_by.nd rfl (Or.inr rfl) (pe_call G__law_cell_at (hr.mono (by decide)) rfl D__law_cell_at.mg D__law_cell_at.F.kp D__law_cell_at.b .nil pass0 (pa_cons (pv 0) (pa_cons (pv 1) pa_nil))))
      (@pss_cons _ _ _ _ _ (ps_if (pt_cmpR op_eq (pe_op op_mod (pv 3) pe_int) pe_int (nomark _))
      (@pss_cons _ _ _ _ _ (ps_set (i := 4) sc__law_table_by.nd rfl (Or.inl rfl) (pe_lst pa_nil))
      (@pss_cons _ _ _ _ _ (ps_set (i := 5) sc__law_table_by.nd rfl (Or.inl rfl) (pe_op op_fdiv (pv 3) pe_int))
      (@pss_cons _ _ _ _ _ (ps_for PassesOwn.never rfl (pi_range1 rfl T.range (pa_cons (pe_op op_mod (pe_op op_fdiv (pv 3) pe_int) pe_int) pa_nil)) (pg_name (i := 6) sc__law_table_by.nd rfl (Or.inl rfl))
      (@pss_cons _ _ _ _ _ (ps_set (i := 7) sc__law_table_by.nd rfl (Or.inl rfl) (pe_lst pa_nil))
      (@pss_cons _ _ _ _ _ (ps_for PassesOwn.never rfl (pi_range1 rfl T.range (pa_cons (pe_op op_mod (pe_op op_fdiv (pv 3) pe_int) pe_int) pa_nil)) (pg_name (i := 8) sc__law_table_by.nd rfl (Or.inl rfl))
      (@pss_cons _ _ _ _ _ (ps_expr (pe_bm PySem.F.plainAttrs_list PySem.F.slot_list_append PySem.F.type_list_append mt_append (pv 7) (pa_cons (pe_call G__law_pick (hr.mono (by decide)) rfl D__law_pick.mg D__law_pick.F.kp D__law_pick.b .nil pass0 (pa_cons (pe_op op_mod (pv 5) pe_int) (pa_cons (pv 2) pa_nil))) pa_nil)))
      (@pss_one _ _ _ (ps_set (i := 5) sc__law_table_by.nd rfl (Or.inl rfl) (pe_op op_fdiv (pv 5) pe_int)))))
      (@pss_one _ _ _ (ps_expr (pe_bm PySem.F.plainAttrs_list PySem.F.slot_list_append PySem.F.type_list_append mt_append (pv 4) (pa_cons (pv 7) pa_nil)))))))
      (@pss_one _ _ _ (ps_ret (pv 4))))))
      pss_nil)
      (@pss_cons _ _ _ _ _ (ps_set (i := 3) sc__law_table_by.nd rfl (Or.inr rfl) (pe_op op_fdiv (pv 3) pe_int))
      (@pss_cons _ _ _ _ _ (ps_set (i := 9) sc__law_table_by.nd rfl (Or.inl rfl) (pe_op op_add pe_int (pe_op op_mod (pe_op op_fdiv (pv 3) pe_int) pe_int)))
      (@pss_cons _ _ _ _ _ (ps_if (pt_cmpR op_eq (pe_op op_mod (pv 3) pe_int) pe_int (nomark _))
      (@pss_cons _ _ _ _ _ (ps_set (i := 9) sc__law_table_by.nd rfl (Or.inl rfl) (pe_op op_add pe_int (pe_op op_mod (pe_op op_fdiv (pv 3) pe_int) pe_int)))
      (@pss_one _ _ _ (ps_ret (pe_call G__law_lines (hr.mono (by decide)) rfl D__law_lines.mg D__law_lines.F.kp D__law_lines.b .nil pass0 (pa_cons (pe_comp (own := ["_law_k"]) (cap := ["_law_seed"]) (ix := [3]) rfl (show CompScope ["_law_script", "_law_begin", "_law_marks_here", "_law_seed", "_law_lines_here", "_law_rest", "_law_k", "_law_line", "_law_j", "_law_wide"] (defScope s__law_table_by) _ ["_law_k"] ["_law_seed"] [3] from ⟨rfl, by decide +kernel, by decide +kernel, by decide +kernel, by decide +kernel, by decide +kernel, by decide +kernel, rfl, by decide +kernel⟩) (pi_range1 rfl T.range (pa_cons (pe_op op_mul (pv 9) (pe_op op_mod (pe_op op_fdiv (pv 3) pe_int) pe_int)) pa_nil)) (fun C s₀ H₀ ex pn => ⟨pg_name (i := 0) (show (["_law_k", "_law_seed"] : List Str).Nodup by decide +kernel) rfl (Or.inl rfl), pifs_nil, (pe_call G__law_mix (hr.mono (by decide)) rfl D__law_mix.mg D__law_mix.F.kp D__law_mix.b .nil pass0 (pa_cons (pe_op op_fdiv (pv 1) pe_int) (pa_cons (pv 0) pa_nil)))⟩)) (pa_cons (pv 2) (pa_cons (pv 9) pa_nil)))))))
      pss_nil)
      (@pss_cons _ _ _ _ _ (ps_if (PW.pt (pw_and (pt_cmpR op_eq (pe_op op_mod (pv 3) pe_int) pe_int (nomark _)) (pw_and1 (pt_cmpR op_eq (pe_op op_mod (pe_op op_fdiv (pv 3) pe_int) pe_int) pe_int (nomark _)))))
      (@pss_one _ _ _ (ps_ret (pe_comp (own := ["_law_k"]) (cap := []) (ix := []) rfl (show CompScope ["_law_script", "_law_begin", "_law_marks_here", "_law_seed", "_law_lines_here", "_law_rest", "_law_k", "_law_line", "_law_j", "_law_wide"] (defScope s__law_table_by) _ ["_law_k"] [] [] from ⟨rfl, by decide +kernel, by decide +kernel, by decide +kernel, by decide +kernel, by decide +kernel, by decide +kernel, rfl, by decide +kernel⟩) (pi_range1 rfl T.range (pa_cons (pe_op op_mod (pe_op op_fdiv (pv 3) pe_int) pe_int) pa_nil)) (fun C s₀ H₀ ex pn => ⟨pg_name (i := 0) (show (["_law_k"] : List Str).Nodup by decide +kernel) rfl (Or.inl rfl), pifs_nil, (pe_lst pa_nil)⟩))))
      pss_nil)
      (@pss_one _ _ _ (ps_ret (pe_call G__law_lines (hr.mono (by decide)) rfl D__law_lines.mg D__law_lines.F.kp D__law_lines.b .nil pass0 (pa_cons (pe_slice sl_list (pv 0) (po_some (pe_op op_add (pv 1) pe_int)) (po_some (pe_op op_add (pv 1) pe_int))) (pa_cons (pv 2) (pa_cons (pv 9) pa_nil)))))))))))), ?_⟩
    refine tseq_open fun B hB => ?_
    and_intros
    refine ⟨a, ns, b, rfl, hS, ?_⟩
    generalize cellF ns b = sd
    subst hB
    refine tseq_open fun B hB => ?_
    and_intros
    refine ite2 (fun _ => ?_) fun _ => ?_
    · refine ⟨by decide, fun l hl1 => ?_⟩
      have s0 := Same.put (o := .lst []) hl1
      have w0 := Int.emod_nonneg (sd / 10) (show (5 : Int) ≠ 0 by decide)
      have w5 := Int.emod_lt_of_pos (sd / 10) (show (0 : Int) < 5 by decide)
      have v0 := Int.emod_nonneg (sd / 2) (show (5 : Int) ≠ 0 by decide)
      have v5 := Int.emod_lt_of_pos (sd / 2) (show (0 : Int) < 5 by decide)
      refine ⟨_, rfl, _, _, rfl, rfl, ⟨by decide, by decide⟩, _, _, rfl, rfl, by show (0 : Int) < 5; decide, _, rfl, by omega, by omega, for_range (n := (sd / 2 % 5).toNat) (fun i σ H' => Same H H' ∧ ∃ (xs : List V) (ls : List (List V)) (rest : Int) (o6 o7 o8 : Option V), H' l = some (.lst xs) ∧ RowsAt .lst H' xs ls ∧ NotIn l xs ∧ ls.length = i ∧ (∀ x ∈ ls, lineOk (sd / 10 % 5).toNat x) ∧ StIs σ [some (.ref a), some (.int b), some (.ref m), some (.int sd), some (.ref l), some (.int rest), o6, o7, o8, none]) ⟨s0, [], [], _, none, none, none, upd_same, trivial, NotIn.nil, rfl, (fun _ z => nomatch z), StIs.rfl⟩ ?_ ?_⟩
      · rintro i σ H' hi ⟨s1, xs, ls, rest, o6, o7, o8, hl2, hr1, hni, hli, hok, rfl⟩
        have lx := hr1.length
        refine tseq_open fun B hB => ?_
        and_intros
        refine ⟨by decide, fun q hq => ?_⟩
        have nq : q ≠ l := Ne.symm (ne_of_none hl2 hq)
        subst hB
        refine tseq_open fun B hB => ?_
        refine ⟨_, rfl, _, _, rfl, rfl, ⟨by decide, by decide⟩, _, _, rfl, rfl, by show (0 : Int) < 5; decide, _, rfl, by omega, by omega, for_range (n := (sd / 10 % 5).toNat) (fun j σ H2 => ∃ (ws : List Str) (rest : Int) (o8 : Option V), H2 = upd H' q (.lst (ws.map V.str)) ∧ ws.length = j ∧ (∀ z ∈ ws, markS z = true) ∧ StIs σ [some (.ref a), some (.int b), some (.ref m), some (.int sd), some (.ref l), some (.int rest), some (.int (0 + i)), some (.ref q), o8, none]) ⟨[], _, _, rfl, rfl, (fun _ z => nomatch z), StIs.rfl⟩ ?_ ?_⟩
        · rintro j σ H2 hj ⟨ws, rest, o8, rfl, hwl, hws, rfl⟩
          and_intros
          refine ⟨.inl ⟨rfl, _, SqL.of upd_same⟩, _, m, zs, rfl, (Same.put hq) _ _ (s1 _ _ hm), hz0, fun z hz1 => ⟨_, upd_same, by rw [List.length_map]; exact small1000 (by omega), ws ++ [z], by rw [upd_upd, List.map_append]; rfl, by rw [List.length_append, hwl]; rfl, fun y hy => ?_, _, _, StIs.rfl⟩⟩
          rcases List.mem_append.mp hy with h | h
          · exact hws y h
          · rw [List.mem_singleton.mp h]; exact hz z hz1
        · rintro σ H2 ⟨ws, rest, o8, rfl, hwl, hws, rfl⟩
          subst hB
          and_intros
          have sq := Same.put (o := .lst (ws.map V.str)) hq
          refine ⟨.inl ⟨rfl, _, SqL.of (sq _ _ hl2)⟩, xs, sq _ _ hl2, small1000 (by omega), fun b o e => ?_, _, upd_same, ls ++ [ws.map V.str], ?_, hni.add nq, ?_, ?_, _, _, _, _, StIs.rfl⟩
          · rw [upd_ne (ne_of_none e hl1)]; exact sq _ _ (s1 b o e)
          · exact ((hr1.same sq).updl hni).append ⟨⟨q, rfl, by rw [upd_ne nq]; exact upd_same⟩, trivial⟩
          · rw [List.length_append, hli]; rfl
          · intro x hx
            rcases List.mem_append.mp hx with h | h
            · exact hok x h
            · rw [List.mem_singleton.mp h]
              exact ⟨by rw [List.length_map]; exact hwl, all_marks hws⟩
      · rintro σ H' ⟨s1, xs, ls, rest, o6, o7, o8, hl2, hr1, hni, hli, hok, rfl⟩
        and_intros
        exact k ls xs l H' s1 hl2 hr1 (by omega) ⟨_, by omega, hok⟩
    · subst hB
      refine tseq_open fun B hB => ?_
      and_intros
      subst hB
      refine tseq_open fun B hB => ?_
      and_intros
      generalize (sd / 2) = sd
      subst hB
      refine tseq_open fun B hB => ?_
      and_intros
      refine ite2 (fun _ => ?_) fun _ => ?_
      · obtain ⟨wn, hwn⟩ := Int.eq_ofNat_of_zero_le (show 0 ≤ 1 + sd / 5 % 12 by have := Int.emod_nonneg (sd / 5) (show (12 : Int) ≠ 0 by decide); omega)
        obtain ⟨un, hun⟩ := Int.eq_ofNat_of_zero_le (Int.emod_nonneg (sd / 60) (show (13 : Int) ≠ 0 by decide))
        have hw13 := Int.emod_lt_of_pos (sd / 5) (show (0 : Int) < 12 by decide)
        have hu13 := Int.emod_lt_of_pos (sd / 60) (show (0 : Int) < 13 by decide)
        rw [hwn]
        have hwu : wn * un ≤ 12 * 12 := Nat.mul_le_mul (by omega) (by omega)
        have ewu : (wn : Int) * (un : Int) = ((wn * un : Nat) : Int) := by rw [Int.natCast_mul]
        refine tcomp_range (lo := 0) (n := wn * un) (H1 := H) (fun R r => ?_) (fun i ys H' => H' = H ∧ ∃ ms : List Int, ys = ms.map V.int ∧ ms.length = i) ⟨rfl, [], rfl, rfl⟩ ?_ ?_
        · and_intros
          rw [hun, ewu]
          exact ⟨.inl ⟨by omega, by omega⟩, by omega, by omega, r⟩
        · rintro i ys H' R hi ⟨rfl, ms, rfl, hm'⟩ hR
          simp only [tYes]
          and_intros
          refine ⟨sd / 60, 0 + i, rfl, by omega, by omega, ?_, hR _ _ ⟨rfl, ms ++ [mixF (sd / 60) (0 + i)], by simp, by simp [hm']⟩⟩
          rw [List.length_map, hm']
          exact small1000 (by omega)
        · rintro ys H' ⟨rfl, ms, rfl, hm'⟩
          exact ⟨by rw [List.length_map, hm']; exact Nat.le_of_lt (small1000 (by omega)), fun l hl' => ⟨l, m, ms, zs, wn, rfl, upd_same, (Same.put hl') _ _ hm, by omega, by omega, hz0, hz, fun ls xs l2 H2 s2 => k ls xs l2 H2 ((Same.put hl').trans s2)⟩⟩
      · have nul : tComp ["_law_k"] [] (iRng1 (tCons (tOp (rI (fun x j => 0 < j) fun i j => V.int (i % j)) (tOp (rI CDiv fun i j => V.int (i / j)) (tVar 3) (tC (V.int 20))) (tC (V.int 5))) tNil)) (gName 0) tYes (tLst tNil) [some (V.ref a), some (V.int b), some (V.ref m), some (V.int sd), none, none, none, none, none, some (V.int (1 + sd / 5 % 4))] H Q := by
          have h13 := Int.emod_lt_of_pos (sd / 20) (show (0 : Int) < 5 by decide)
          have h00 := Int.emod_nonneg (sd / 20) (show (5 : Int) ≠ 0 by decide)
          refine tcomp_range (lo := 0) (n := (sd / 20 % 5).toNat) (H1 := H) (fun R r => ?_) (fun i ys H' => Same H H' ∧ RowsAt .lst H' ys (List.replicate i [])) ⟨Same.refl H, trivial⟩ ?_ ?_
          · and_intros
            exact ⟨by omega, by omega, r⟩
          · rintro i ys H' R hi ⟨s1, h1⟩ hR
            simp only [tYes]
            and_intros
            have hy : ys.length = i := by rw [h1.length, List.length_replicate]
            refine ⟨by decide, fun p hp => ⟨small1000 (by omega), hR _ _ ⟨s1.upd hp, ?_⟩⟩⟩
            rw [List.replicate_succ']
            exact (h1.same (Same.put hp)).append ⟨⟨p, rfl, upd_same⟩, trivial⟩
          · rintro ys H' ⟨s1, h1⟩
            have hy : ys.length = (sd / 20 % 5).toNat := by rw [h1.length, List.length_replicate]
            refine ⟨Nat.le_of_lt (small1000 (by omega)), fun D hD => k _ ys D _ (s1.upd hD) upd_same (h1.same (Same.put hD)) (by rw [List.length_replicate]; omega) ⟨0, Nat.zero_le _, fun l hl' => ?_⟩⟩
            rw [List.eq_of_mem_replicate hl']
            exact ⟨rfl, rfl⟩
        subst hB
        and_intros
        have lin : ∃ x, SqL K H a x ∧ ∀ p, H p = none → sp__law_lines [V.ref p, V.ref m, V.int (1 + sd / 5 % 4)] (upd H p (.lst (cutV x (some ((b : Int) + 1)) (some ((b : Int) + 13))))) Q E0 := by
          obtain ⟨wn, hwn⟩ := Int.eq_ofNat_of_zero_le (show 0 ≤ 1 + sd / 5 % 4 by have := Int.emod_nonneg (sd / 5) (show (4 : Int) ≠ 0 by decide); omega)
          have hw5 := Int.emod_lt_of_pos (sd / 5) (show (0 : Int) < 4 by decide)
          rw [hwn]
          obtain ⟨ms, ems, lms⟩ := cut_some (ns := ns) (lo := some ((b : Int) + 1)) (hi := some ((b : Int) + 13))
          refine ⟨_, hS, fun p hp => ?_⟩
          rw [ems]
          exact ⟨p, m, ms, zs, wn, rfl, upd_same, (Same.put hp) _ _ hm, by omega, by omega, hz0, hz, fun ls xs l2 H2 s2 => k ls xs l2 H2 ((Same.put hp).trans s2)⟩
        exact ite2 (fun _ => ite2 (fun _ => nul) fun _ => lin) fun _ => lin
theorem ok__law_text {f : Addr} {fd : FuncData} (D : Def K mg "_law_text" s__law_text ["_law_form"] f fd) (T : Txt K mg ad) : FnOk P w K mg base CX0 1 f fd ["_law_form"] sp__law_text := by
  refine D.F.ok sc__law_text (fun vs H Q E h => ?_) (fun cdv A outer s H vs Q E hr h => ?_)
  · obtain ⟨f, d, rfl, _⟩ := h
    rfl
  · obtain ⟨f, d, rfl, hf, dO, fl, k⟩ := h
    refine ⟨_, (@pss_cons _ _ _ _ _ (ps_set (i := 1) sc__law_text.nd rfl (Or.inl rfl) (pe_ix ix_tup (pv 0) pe_int (fun _ _ => rfl)))
      (@pss_cons _ _ _ _ _ (ps_if (pt_cmpR op_eq (pe_ix ix_tup (pv 0) pe_int (fun _ _ => rfl)) pe_str (nomark _))
      (@pss_cons _ _ _ _ _ (ps_for PassesOwn.never rfl (pi_tup (pe_ix ix_tup (pv 0) pe_int (fun _ _ => rfl))) (pg_name (i := 2) sc__law_text.nd rfl (Or.inl rfl))
      (@pss_one _ _ _ (ps_set (i := 1) sc__law_text.nd rfl (Or.inl rfl) (pe_op op_add_str (pe_op op_add_str (pv 1) pe_str) (pv 2)))))
      (@pss_one _ _ _ (ps_ret (pv 1))))
      pss_nil)
      (@pss_cons _ _ _ _ _ (ps_for PassesOwn.never rfl (pi_range1 rfl T.range (pa_cons (pe_callB call_lenT rfl T.len PySem.boot_len (pa_cons (pe_ix ix_tup (pv 0) pe_int (fun _ _ => rfl)) pa_nil)) pa_nil)) (pg_name (i := 3) sc__law_text.nd rfl (Or.inl rfl))
      (@pss_cons _ _ _ _ _ (ps_if (pt_cmpR op_gt (pv 3) pe_int (nomark _))
      (@pss_one _ _ _ (ps_set (i := 1) sc__law_text.nd rfl (Or.inl rfl) (pe_op op_add_str (pv 1) pe_str)))
      pss_nil)
      (@pss_cons _ _ _ _ _ (ps_for PassesOwn.never rfl (pi_tup (pe_ix ix_tup (pe_ix ix_tup (pv 0) pe_int (fun _ _ => rfl)) (pv 3) (fun _ _ => rfl))) (pg_name (i := 2) sc__law_text.nd rfl (Or.inl rfl))
      (@pss_one _ _ _ (ps_set (i := 1) sc__law_text.nd rfl (Or.inl rfl) (pe_op op_add_str (pe_op op_add_str (pv 1) pe_str) (pv 2)))))
      (@pss_one _ _ _ (ps_if (pt_cmpR op_eq (pe_callB call_lenT rfl T.len PySem.boot_len (pa_cons (pe_ix ix_tup (pe_ix ix_tup (pv 0) pe_int (fun _ _ => rfl)) (pv 3) (fun _ _ => rfl)) pa_nil)) pe_int (nomark _))
      (@pss_one _ _ _ (ps_set (i := 1) sc__law_text.nd rfl (Or.inl rfl) (pe_op op_add_str (pv 1) pe_str)))
      pss_nil)))))
      (@pss_one _ _ _ (ps_ret (pv 1)))))), ?_⟩
    have wk := words_ok dO
    have wf := words_few dO
    have lk := kind_len d
    have b1 : (Str.ofString " ").length = 1 := by decide +kernel
    refine tseq_open fun B hB => ?_
    and_intros
    obtain ⟨xs0, hx0⟩ := form_head hf
    refine ⟨_, SqT.of hx0, _, (show atI _ ((0 : Nat) : Int) = _ from atI_nat rfl), ?_⟩
    subst hB
    refine tseq_open fun B hB => ?_
    and_intros
    refine ⟨_, SqT.of hx0, _, (show atI _ ((0 : Nat) : Int) = _ from atI_nat rfl), ?_⟩
    clear hx0
    cases d with
    | forest ns => exact fl.elim
    | row xs =>
      refine ⟨rfl, ?_⟩
      rw [if_pos (show V.str (kindS (.row xs)) = V.str (Str.ofString "row") from rfl)]
      obtain ⟨t, h1, h2⟩ := hf
      have lx : xs.length ≤ 40 := dO.2
      have hm := sV_marks dO.1
      refine ⟨_, rfl, f, _, _, .ref t, rfl, rfl, SqT.of h1, rfl, t, rfl, ⟨_, SqT.of h2⟩, for_tup (xs := xs) (fun i σ H' => H' = H ∧ ∃ o2 : Option V, StIs σ [some (.ref f), some (.str (catW ((xs.map sV).take i) "row")), o2, none]) ⟨rfl, none, StIs.rfl⟩ (fun i σ H' _ ⟨e, _⟩ => e ▸ SqT.of h2) ?_ ?_⟩
      · rintro i x σ H' hx ⟨rfl, o2, rfl⟩
        have hi := (List.getElem?_eq_some_iff.mp hx).1
        have hz : (xs.map sV)[i]? = some (sV x) := by rw [List.getElem?_map, hx]; rfl
        have hw := wk (sV x) (List.mem_of_getElem? hz)
        have hx' := mark_str (List.all_eq_true.mp dO.1 x (List.mem_of_getElem? hx))
        have lw := word_len hw
        have lc := cat_len (ws := (xs.map sV).take i) (fun w hw => wk w (List.mem_of_mem_take hw)) (Str.ofString "row")
        rw [List.length_take, List.length_map] at lc
        have lr : (Str.ofString "row").length = 3 := by decide +kernel
        rw [hx', List.take_add_one, hz]
        and_intros
        refine ⟨big3000 (by omega), big3000 (by rw [Str.length_append]; omega), ?_⟩
        rw [catW_app]
        exact ⟨_, StIs.rfl⟩
      · rintro σ H' ⟨rfl, o2, rfl⟩
        rw [show xs.length = (xs.map sV).length from (List.length_map _).symm, List.take_length]
        and_intros
        exact k H' (Same.refl _)
    | table ls w =>
      refine ⟨rfl, ?_⟩
      rw [if_neg (fun e => absurd (V.str.inj e) (by show ¬ Str.ofString "table" = Str.ofString "row"; decide +kernel))]
      obtain ⟨t, ts, h1, h2, h3⟩ := hf
      have lts := h3.length
      have l12 := dO.2.1
      have w12 := dO.1
      have hm := lines_marks dO.2.2
      have lm : (ls.map fun l => l.map sV).length = ls.length := List.length_map _
      have lt : (Str.ofString "table").length = 5 := by decide +kernel
      subst hB
      refine tseq_open fun B hB => ?_
      refine (show tFor _ _ _ _ _ _ from ?_)
      refine (show iRng1 _ _ _ _ from ?_)
      refine split_it (fun J H1 => H1 = H ∧ J = Itr 0 ls.length) (fun G hG => ?_) ?_
      · and_intros
        refine ⟨_, SqT.of h1, _, rfl, t, rfl, _, SqT.of h2, by omega, by omega, ?_⟩
        rw [lts, Int.toNat_natCast]
        exact hG _ _ ⟨rfl, rfl⟩
      rintro _ H1 ⟨rfl, rfl⟩
      refine for_range (n := ls.length) (fun i σ H' => H' = H1 ∧ ∃ o2 o3 : Option V, StIs σ [some (.ref f), some (.str (catW (wordsT ((ls.map fun l => l.map sV).take i)) "table")), o2, o3]) ⟨rfl, none, none, StIs.rfl⟩ ?_ ?_
      · rintro i σ H' hi ⟨rfl, o2, o3, rfl⟩
        obtain ⟨l, hl⟩ : ∃ l, ls[i]? = some l := ⟨_, List.getElem?_eq_getElem hi⟩
        have lo := dO.2.2 l (List.mem_of_getElem? hl)
        have hlm := sV_marks lo.2
        have hl' : (ls.map fun l => l.map sV)[i]? = some (l.map sV) := by rw [List.getElem?_map, hl]; rfl
        obtain ⟨x0, hx0⟩ : ∃ x, ts[i]? = some x := ⟨_, List.getElem?_eq_getElem (by omega)⟩
        obtain ⟨l2, hl2, hrow⟩ := h3.get hx0
        rw [hl] at hl2
        cases hl2
        obtain ⟨tr, ex0, htr⟩ := hrow
        subst ex0
        have a0 : atI ts (i : Int) = some (.ref tr) := atI_nat hx0
        have wl := words_line hlm
        have wt : ∀ w ∈ wordsT ((ls.map fun l => l.map sV).take i), wordS w := words_lines fun l hl => hm l (List.mem_of_mem_take hl)
        have wn := words_many (n := 12) (ls := (ls.map fun l => l.map sV).take i) fun l hl => by
          obtain ⟨x, hx, rfl⟩ := List.mem_map.mp (List.mem_of_mem_take hl)
          have := (dO.2.2 x hx).1
          rw [List.length_map]
          omega
        rw [List.length_take, lm] at wn
        have ei : (0 : Int) + (i : Int) = (i : Int) := Int.zero_add _
        have et : wordsT ((ls.map fun l => l.map sV).take (i + 1)) = wordsT ((ls.map fun l => l.map sV).take i) ++ (if 0 < i then [("/" : Str)] else []) ++ wordsL (l.map sV) := by
          rw [List.take_add_one, hl']
          by_cases h0 : 0 < i
          · rw [if_pos h0]
            show wordsT (_ ++ [l.map sV]) = _
            rw [wordsT_snoc _ (fun e => by have := congrArg List.length e; rw [List.length_take, lm, List.length_nil] at this; omega), List.append_assoc]
            rfl
          · rw [if_neg h0, show i = 0 by omega, List.take_zero, List.append_nil]
            rfl
        refine tseq_open fun B2 hB2 => ?_
        refine ends_gen fun D0 hD0 => ?_
        have rest : ∀ pre : List Str, (∀ w ∈ pre, wordS w) → pre.length ≤ 200 → wordsT ((ls.map fun l => l.map sV).take (i + 1)) = pre ++ wordsL (l.map sV) → B2 D0 [some (.ref f), some (.str (catW pre "table")), o2, some (.int (i : Int))] H' := fun pre hpre lpre epre => by
          subst hB2
          refine tseq_open fun B2 hB2 => ?_
          refine (show tFor _ _ _ _ _ _ from ?_)
          refine (show iTup _ _ _ _ _ from ?_)
          refine split_it (fun J H1 => H1 = H' ∧ J = Itt K tr) (fun G hG => ?_) ?_
          · and_intros
            exact ⟨_, SqT.of h1, _, rfl, t, rfl, _, SqT.of h2, _, a0, tr, rfl, ⟨_, SqT.of htr⟩, hG _ _ ⟨rfl, rfl⟩⟩
          rintro _ H2 ⟨rfl, rfl⟩
          refine for_tup (xs := l) (fun j σ H3 => H3 = H2 ∧ ∃ o2 : Option V, StIs σ [some (.ref f), some (.str (catW (pre ++ (l.map sV).take j) "table")), o2, some (.int (i : Int))]) ⟨rfl, o2, by rw [List.take_zero, List.append_nil]; exact StIs.rfl⟩ (fun j σ H3 _ ⟨e, _⟩ => e ▸ SqT.of htr) ?_ ?_
          · rintro j x σ H3 hx ⟨rfl, o2, rfl⟩
            have hj := (List.getElem?_eq_some_iff.mp hx).1
            have hz : (l.map sV)[j]? = some (sV x) := by rw [List.getElem?_map, hx]; rfl
            have hx' := mark_str (List.all_eq_true.mp lo.2 x (List.mem_of_getElem? hx))
            have lw := word_len (.inl (hlm _ (List.mem_of_getElem? hz)))
            have lc := cat_len (ws := pre ++ (l.map sV).take j) (fun w hw => (List.mem_append.mp hw).elim (hpre w) fun h => .inl (hlm w (List.mem_of_mem_take h))) (Str.ofString "table")
            rw [List.length_append, List.length_take, List.length_map] at lc
            have l1 := lo.1
            rw [hx', List.take_add_one, hz]
            and_intros
            refine ⟨big3000 (by omega), big3000 (by rw [Str.length_append]; omega), ?_⟩
            rw [← List.append_assoc, catW_app (pre ++ _)]
            exact ⟨_, StIs.rfl⟩
          · rintro σ H3 ⟨rfl, o2, rfl⟩
            rw [show l.length = (l.map sV).length from (List.length_map _).symm, List.take_length]
            have lc := cat_len hpre (Str.ofString "table")
            dsimp only
            subst hB2
            and_intros
            refine ⟨_, SqT.of h1, _, rfl, t, rfl, _, SqT.of h2, _, a0, tr, rfl, _, SqT.of htr, ?_⟩
            rw [hD0]
            dsimp only
            rw [epre]
            cases l with
            | nil =>
              rw [if_pos (show (([] : List V).length : Int) = 0 from rfl), List.map_nil, List.append_nil, cat_dash]
              refine ⟨big3000 (by rw [show (Str.ofString " -").length = 2 by decide +kernel]; omega), rfl, ?_⟩
              show ∃ o2 o3, StIs _ [_, some (V.str (catW (pre ++ [("-" : Str)]) _)), o2, o3]
              rw [catW_app]
              exact ⟨_, _, StIs.rfl⟩
            | cons y r =>
              rw [if_neg (by rw [List.length_cons]; omega)]
              exact ⟨rfl, _, _, StIs.rfl⟩
        and_intros
        rw [ei]
        refine ite2 (fun h0 => ?_) fun h0 => ?_
        · have lc := cat_len wt (Str.ofString "table")
          refine ⟨big3000 (by rw [show (Str.ofString " /").length = 2 by decide +kernel]; omega), ?_⟩
          have q := rest (wordsT ((ls.map fun l => l.map sV).take i) ++ [("/" : Str)]) (fun w hw => (List.mem_append.mp hw).elim (wt w) fun h => by rw [List.mem_singleton.mp h]; exact .inr (.inl rfl)) (by rw [List.length_append, List.length_singleton]; omega) (by rw [et, if_pos (by omega)])
          rw [catW_app] at q
          rw [cat_slash]
          exact q
        · exact rest _ wt (by omega) (by rw [et, if_neg (by omega), List.append_nil])
      · rintro σ H' ⟨rfl, o2, o3, rfl⟩
        rw [← lm, List.take_length]
        dsimp only
        subst hB
        and_intros
        exact k H' (Same.refl _)
theorem ok_law {f : Addr} {fd : FuncData} (D : Def K mg "law" s_law ["_law_script"] f fd) (T : Txt K mg ad) {f__law_cell_at : Addr} {fd__law_cell_at : FuncData} (G__law_cell_at : FnOk P w K mg base CX0 1 f__law_cell_at fd__law_cell_at ["_law_script", "_law_k"] (sp__law_cell_at K)) {f__law_marks : Addr} {fd__law_marks : FuncData} (G__law_marks : FnOk P w K mg base CX0 1 f__law_marks fd__law_marks ["_law_cell", "_law_many"] sp__law_marks) {f__law_how_many : Addr} {fd__law_how_many : FuncData} (G__law_how_many : FnOk P w K mg base CX0 1 f__law_how_many fd__law_how_many ["_law_number"] sp__law_how_many) {f_Row_init : Addr} {fd_Row_init : FuncData} (G_Row_init : FnOk P w K mg base (CX1 P w) 3 f_Row_init fd_Row_init ["self", "marks"] (sp_Row_init ad)) {f__law_cells : Addr} {fd__law_cells : FuncData} (G__law_cells : FnOk P w K mg base CX0 2 f__law_cells fd__law_cells ["_law_script", "_law_begin", "_law_seed", "_law_many"] (sp__law_cells K)) {f__law_pick : Addr} {fd__law_pick : FuncData} (G__law_pick : FnOk P w K mg base CX0 1 f__law_pick fd__law_pick ["_law_cell", "_law_marks_here"] sp__law_pick) {f_Table_init : Addr} {fd_Table_init : FuncData} (G_Table_init : FnOk P w K mg base (CX1 P w) 4 f_Table_init fd_Table_init ["self", "lines"] (sp_Table_init ad)) {f__law_table_by : Addr} {fd__law_table_by : FuncData} (G__law_table_by : FnOk P w K mg base CX0 3 f__law_table_by fd__law_table_by ["_law_script", "_law_begin", "_law_marks_here"] (sp__law_table_by K)) {f_Row_left : Addr} {fd_Row_left : FuncData} (G_Row_left : FnOk P w K mg base (CX1 P w) 5 f_Row_left fd_Row_left ["self", "places"] (sp_Row_left ad)) {f__law_some : Addr} {fd__law_some : FuncData} (G__law_some : FnOk P w K mg base CX0 2 f__law_some fd__law_some ["_law_cell", "_law_many"] sp__law_some) {f_Row_many : Addr} {fd_Row_many : FuncData} (G_Row_many : FnOk P w K mg base CX0 1 f_Row_many fd_Row_many ["self"] (sp_Row_many ad)) {f_Forest_many : Addr} {fd_Forest_many : FuncData} (G_Forest_many : FnOk P w K mg base CX0 1 f_Forest_many fd_Forest_many ["self"] (sp_many ad)) {f_Table_many : Addr} {fd_Table_many : FuncData} (G_Table_many : FnOk P w K mg base CX0 1 f_Table_many fd_Table_many ["self"] (sp_Table_many ad)) {f_Forest_left : Addr} {fd_Forest_left : FuncData} (G_Forest_left : FnOk P w K mg base (CX1 P w) 6 f_Forest_left fd_Forest_left ["self", "places"] (sp_Forest_left ad)) {f_Table_left : Addr} {fd_Table_left : FuncData} (G_Table_left : FnOk P w K mg base (CX1 P w) 6 f_Table_left fd_Table_left ["self", "places"] (sp_Table_left ad)) {f_Row_form : Addr} {fd_Row_form : FuncData} (G_Row_form : FnOk P w K mg base CX0 1 f_Row_form fd_Row_form ["self"] (sp_Row_form ad)) {f_Forest_form : Addr} {fd_Forest_form : FuncData} (G_Forest_form : FnOk P w K mg base CX0 1 f_Forest_form fd_Forest_form ["self"] (sp_form ad)) {f_Table_form : Addr} {fd_Table_form : FuncData} (G_Table_form : FnOk P w K mg base CX0 1 f_Table_form fd_Table_form ["self"] (sp_Table_form ad)) {f_show_thing : Addr} {fd_show_thing : FuncData} (G_show_thing : FnOk P w K mg base CX0 2 f_show_thing fd_show_thing ["thing"] (sp_show_thing ad)) {f__law_text : Addr} {fd__law_text : FuncData} (G__law_text : FnOk P w K mg base CX0 1 f__law_text fd__law_text ["_law_form"] sp__law_text) {f_read_thing : Addr} {fd_read_thing : FuncData} (G_read_thing : FnOk P w K mg base (CX1 P w) 7 f_read_thing fd_read_thing ["text"] (sp_read_thing ad)) (D__law_cell_at : Def K mg "_law_cell_at" s__law_cell_at ["_law_script", "_law_k"] f__law_cell_at fd__law_cell_at) (D__law_marks : Def K mg "_law_marks" s__law_marks ["_law_cell", "_law_many"] f__law_marks fd__law_marks) (D__law_how_many : Def K mg "_law_how_many" s__law_how_many ["_law_number"] f__law_how_many fd__law_how_many) (D__law_cells : Def K mg "_law_cells" s__law_cells ["_law_script", "_law_begin", "_law_seed", "_law_many"] f__law_cells fd__law_cells) (D__law_pick : Def K mg "_law_pick" s__law_pick ["_law_cell", "_law_marks_here"] f__law_pick fd__law_pick) (D__law_table_by : Def K mg "_law_table_by" s__law_table_by ["_law_script", "_law_begin", "_law_marks_here"] f__law_table_by fd__law_table_by) (D__law_some : Def K mg "_law_some" s__law_some ["_law_cell", "_law_many"] f__law_some fd__law_some) (D_show_thing : Def K mg "show_thing" s_show_thing ["thing"] f_show_thing fd_show_thing) (D__law_text : Def K mg "_law_text" s__law_text ["_law_form"] f__law_text fd__law_text) (D_read_thing : Def K mg "read_thing" s_read_thing ["text"] f_read_thing fd_read_thing) (B_Row_init : Binds K fd_Row_init ["self", "marks"] []) (B_Table_init : Binds K fd_Table_init ["self", "lines"] []) (B_Row_left : Binds K fd_Row_left ["self", "places"] []) (B_Row_many : Binds K fd_Row_many ["self"] []) (B_Forest_many : Binds K fd_Forest_many ["self"] []) (B_Table_many : Binds K fd_Table_many ["self"] []) (B_Forest_left : Binds K fd_Forest_left ["self", "places"] []) (B_Table_left : Binds K fd_Table_left ["self", "places"] []) (B_Row_form : Binds K fd_Row_form ["self"] []) (B_Forest_form : Binds K fd_Forest_form ["self"] []) (B_Table_form : Binds K fd_Table_form ["self"] []) (ME_Row_left : Meth K ad.Row "left" f_Row_left) (ME_Row_many : Meth K ad.Row "many" f_Row_many) (ME_Forest_many : Meth K ad.Forest "many" f_Forest_many) (ME_Table_many : Meth K ad.Table "many" f_Table_many) (ME_Forest_left : Meth K ad.Forest "left" f_Forest_left) (ME_Table_left : Meth K ad.Table "left" f_Table_left) (ME_Row_form : Meth K ad.Row "form" f_Row_form) (ME_Forest_form : Meth K ad.Forest "form" f_Forest_form) (ME_Table_form : Meth K ad.Table "form" f_Table_form) (M_Row : Mk K ad.Row f_Row_init) (M_Table : Mk K ad.Table f_Table_init) : FnOk P w K mg base CX0 8 f fd ["_law_script"] (sp_law K) := by
  refine D.F.ok sc_law (fun vs H Q E h => ?_) (fun cdv A outer s H vs Q E hr h => ?_)
  · obtain ⟨a, ns, rfl, _⟩ := h
    rfl
  · obtain ⟨a, ns, rfl, hS, hn, k⟩ := h
    have hu := hr.units
    refine ⟨_, (@pss_cons _ _ _ _ _ (ps_set (i := 1) sc_law.nd rfl (Or.inl rfl) (pe_call G__law_cell_at (hr.mono (by decide)) rfl D__law_cell_at.mg D__law_cell_at.F.kp D__law_cell_at.b .nil pass0 (pa_cons (pv 0) (pa_cons pe_int pa_nil))))
      (@pss_cons _ _ _ _ _ (ps_set (i := 2) sc_law.nd rfl (Or.inr rfl) (pe_call G__law_marks (hr.mono (by decide)) rfl D__law_marks.mg D__law_marks.F.kp D__law_marks.b .nil pass0 (pa_cons (pe_call G__law_cell_at (hr.mono (by decide)) rfl D__law_cell_at.mg D__law_cell_at.F.kp D__law_cell_at.b .nil pass0 (pa_cons (pv 0) (pa_cons pe_int pa_nil))) (pa_cons (pe_call G__law_how_many (hr.mono (by decide)) rfl D__law_how_many.mg D__law_how_many.F.kp D__law_how_many.b .nil pass0 (pa_cons (pe_op op_fdiv (pv 1) pe_int) pa_nil)) pa_nil))))
      (@pss_cons _ _ _ _ _ (ps_if (pt_cmpR op_eq (pe_op op_mod (pe_op op_fdiv (pv 1) pe_int) pe_int) pe_int (nomark _))
      (@pss_one _ _ _ (ps_set (i := 2) sc_law.nd rfl (Or.inr rfl) (pe_slice sl_list (pe_lst (pa_cons pe_str (pa_cons pe_str (pa_cons pe_str (pa_cons pe_str (pa_cons pe_str (pa_cons pe_str pa_nil))))))) po_none (po_some (pe_callB call_lenL rfl T.len PySem.boot_len (pa_cons (pv 2) pa_nil))))))
      pss_nil)
      (@pss_cons _ _ _ _ _ (ps_if (pt_cmpR op_eq (pe_op op_mod (pv 1) pe_int) pe_int (nomark _))
      (@pss_one _ _ _ (ps_set (i := 3) sc_law.nd rfl (Or.inl rfl) (pe_make M_Row G_Row_init (hr.mono (by decide)) rfl T.c_Row B_Row_init .nil passE (pa_cons (pe_comp (own := ["_law_cell"]) (cap := ["_law_marks_here"]) (ix := [2]) rfl (show CompScope ["_law_script", "_law_seed", "_law_marks_here", "_law_one", "_law_form", "_law_text_here", "_law_found"] (defScope s_law) _ ["_law_cell"] ["_law_marks_here"] [2] from ⟨rfl, by decide +kernel, by decide +kernel, by decide +kernel, by decide +kernel, by decide +kernel, by decide +kernel, rfl, by decide +kernel⟩) (pi_list (pe_call G__law_cells (hr.mono (by decide)) rfl D__law_cells.mg D__law_cells.F.kp D__law_cells.b .nil pass0 (pa_cons (pv 0) (pa_cons pe_int (pa_cons (pe_call G__law_cell_at (hr.mono (by decide)) rfl D__law_cell_at.mg D__law_cell_at.F.kp D__law_cell_at.b .nil pass0 (pa_cons (pv 0) (pa_cons pe_int pa_nil))) (pa_cons pe_int pa_nil)))))) (fun C s₀ H₀ ex pn => ⟨pg_name (i := 0) (show (["_law_cell", "_law_marks_here"] : List Str).Nodup by decide +kernel) rfl (Or.inl rfl), pifs_nil, (pe_call G__law_pick (hr.mono (by decide)) rfl D__law_pick.mg D__law_pick.F.kp D__law_pick.b .nil pass0 (pa_cons (pv 0) (pa_cons (pv 1) pa_nil)))⟩)) pa_nil))))
      (@pss_one _ _ _ (ps_set (i := 3) sc_law.nd rfl (Or.inl rfl) (pe_make M_Table G_Table_init (hr.mono (by decide)) rfl T.c_Table B_Table_init .nil passE (pa_cons (pe_call G__law_table_by (hr.mono (by decide)) rfl D__law_table_by.mg D__law_table_by.F.kp D__law_table_by.b .nil pass0 (pa_cons (pv 0) (pa_cons pe_int (pa_cons (pv 2) pa_nil)))) pa_nil)))))
      (@pss_cons _ _ _ _ _ (ps_if (pt_cmpR op_eq (pe_op op_mod (pe_op op_fdiv (pv 1) pe_int) pe_int) pe_int (nomark _))
      (@pss_one _ _ _ (ps_set (i := 3) sc_law.nd rfl (Or.inl rfl) (pe_either (pe_either (pe_meth (pv 3) T.cl_Row ME_Row_left G_Row_left (hr.mono (by decide)) B_Row_left .nil passE (pa_cons (pe_call G__law_some (hr.mono (by decide)) rfl D__law_some.mg D__law_some.F.kp D__law_some.b .nil pass0 (pa_cons (pe_call G__law_cell_at (hr.mono (by decide)) rfl D__law_cell_at.mg D__law_cell_at.F.kp D__law_cell_at.b .nil pass0 (pa_cons (pv 0) (pa_cons pe_int pa_nil))) (pa_cons (pe_either (pe_either (pe_meth0 (pv 3) T.cl_Row ME_Row_many G_Row_many (hr.mono (by decide)) B_Row_many .nil pass0) (pe_meth0 (pv 3) T.cl_Forest ME_Forest_many G_Forest_many (hr.mono (by decide)) B_Forest_many .nil pass0)) (pe_meth0 (pv 3) T.cl_Table ME_Table_many G_Table_many (hr.mono (by decide)) B_Table_many .nil pass0)) pa_nil))) pa_nil)) (pe_meth (pv 3) T.cl_Forest ME_Forest_left G_Forest_left (hr.mono (by decide)) B_Forest_left .nil passE (pa_cons (pe_call G__law_some (hr.mono (by decide)) rfl D__law_some.mg D__law_some.F.kp D__law_some.b .nil pass0 (pa_cons (pe_call G__law_cell_at (hr.mono (by decide)) rfl D__law_cell_at.mg D__law_cell_at.F.kp D__law_cell_at.b .nil pass0 (pa_cons (pv 0) (pa_cons pe_int pa_nil))) (pa_cons (pe_either (pe_either (pe_meth0 (pv 3) T.cl_Row ME_Row_many G_Row_many (hr.mono (by decide)) B_Row_many .nil pass0) (pe_meth0 (pv 3) T.cl_Forest ME_Forest_many G_Forest_many (hr.mono (by decide)) B_Forest_many .nil pass0)) (pe_meth0 (pv 3) T.cl_Table ME_Table_many G_Table_many (hr.mono (by decide)) B_Table_many .nil pass0)) pa_nil))) pa_nil))) (pe_meth (pv 3) T.cl_Table ME_Table_left G_Table_left (hr.mono (by decide)) B_Table_left .nil passE (pa_cons (pe_call G__law_some (hr.mono (by decide)) rfl D__law_some.mg D__law_some.F.kp D__law_some.b .nil pass0 (pa_cons (pe_call G__law_cell_at (hr.mono (by decide)) rfl D__law_cell_at.mg D__law_cell_at.F.kp D__law_cell_at.b .nil pass0 (pa_cons (pv 0) (pa_cons pe_int pa_nil))) (pa_cons (pe_either (pe_either (pe_meth0 (pv 3) T.cl_Row ME_Row_many G_Row_many (hr.mono (by decide)) B_Row_many .nil pass0) (pe_meth0 (pv 3) T.cl_Forest ME_Forest_many G_Forest_many (hr.mono (by decide)) B_Forest_many .nil pass0)) (pe_meth0 (pv 3) T.cl_Table ME_Table_many G_Table_many (hr.mono (by decide)) B_Table_many .nil pass0)) pa_nil))) pa_nil)))))
      pss_nil)
      (@pss_cons _ _ _ _ _ (ps_set (i := 4) sc_law.nd rfl (Or.inl rfl) (pe_either (pe_either (pe_meth0 (pv 3) T.cl_Row ME_Row_form G_Row_form (hr.mono (by decide)) B_Row_form .nil pass0) (pe_meth0 (pv 3) T.cl_Forest ME_Forest_form G_Forest_form (hr.mono (by decide)) B_Forest_form .nil pass0)) (pe_meth0 (pv 3) T.cl_Table ME_Table_form G_Table_form (hr.mono (by decide)) B_Table_form .nil pass0)))
      (@pss_cons _ _ _ _ _ (ps_set (i := 5) sc_law.nd rfl (Or.inl rfl) (pe_call G_show_thing (hr.mono (by decide)) rfl D_show_thing.mg D_show_thing.F.kp D_show_thing.b .nil pass0 (pa_cons (pv 3) pa_nil)))
      (@pss_cons _ _ _ _ _ (ps_if (PW.pt (pw_or (pt_not (pt_val (pe_callB call_isiT rfl T.isinstance PyProof.Rows.boot_isinstance (pa_cons (pv 5) (pa_cons (pe_ty rfl T.str PyProof.Rows.boot_str) pa_nil))))) (pw_or1 (pt_cmpR op_ne (pv 5) (pe_call G__law_text (hr.mono (by decide)) rfl D__law_text.mg D__law_text.F.kp D__law_text.b .nil pass0 (pa_cons (pv 4) pa_nil)) (nomark _)))))
      (@pss_one _ _ _ (ps_ret pe_bl))
      pss_nil)
      (@pss_cons _ _ _ _ _ (ps_set (i := 6) sc_law.nd rfl (Or.inl rfl) (pe_call G_read_thing (hr.mono (by decide)) rfl D_read_thing.mg D_read_thing.F.kp D_read_thing.b .nil passE (pa_cons (pv 5) pa_nil)))
      (@pss_cons _ _ _ _ _ (ps_if (PW.pt (pw_and (pt_cmpR op_eq (pe_ix ix_tup (pv 4) pe_int (fun _ _ => rfl)) pe_str (nomark _)) (pw_and1 (pt_cmpR op_eq (pe_callB call_lenT rfl T.len PySem.boot_len (pa_cons (pe_ix ix_tup (pv 4) pe_int (fun _ _ => rfl)) pa_nil)) pe_int (nomark _)))))
      (@pss_one _ _ _ (ps_ret (pe_and (pe_cmpR (op_eqD hu) (pe_either (pe_either (pe_meth0 (pv 6) T.cl_Row ME_Row_form G_Row_form (hr.mono (by decide)) B_Row_form .nil pass0) (pe_meth0 (pv 6) T.cl_Forest ME_Forest_form G_Forest_form (hr.mono (by decide)) B_Forest_form .nil pass0)) (pe_meth0 (pv 6) T.cl_Table ME_Table_form G_Table_form (hr.mono (by decide)) B_Table_form .nil pass0)) (pe_tup (pa_cons pe_str (pa_cons pe_int (pa_cons (pe_tup pa_nil) pa_nil)))) (nomark _)) (pe_one (pe_cmpR (op_eqD hu) (pe_either (pe_either (pe_meth0 (pv 3) T.cl_Row ME_Row_form G_Row_form (hr.mono (by decide)) B_Row_form .nil pass0) (pe_meth0 (pv 3) T.cl_Forest ME_Forest_form G_Forest_form (hr.mono (by decide)) B_Forest_form .nil pass0)) (pe_meth0 (pv 3) T.cl_Table ME_Table_form G_Table_form (hr.mono (by decide)) B_Table_form .nil pass0)) (pv 4) (nomark _))))))
      pss_nil)
      (@pss_one _ _ _ (ps_ret (pe_and (pe_cmpR (op_eqD hu) (pe_either (pe_either (pe_meth0 (pv 6) T.cl_Row ME_Row_form G_Row_form (hr.mono (by decide)) B_Row_form .nil pass0) (pe_meth0 (pv 6) T.cl_Forest ME_Forest_form G_Forest_form (hr.mono (by decide)) B_Forest_form .nil pass0)) (pe_meth0 (pv 6) T.cl_Table ME_Table_form G_Table_form (hr.mono (by decide)) B_Table_form .nil pass0)) (pv 4) (nomark _)) (pe_and (pe_cmpR op_eq (pe_either (pe_either (pe_meth0 (pv 6) T.cl_Row ME_Row_many G_Row_many (hr.mono (by decide)) B_Row_many .nil pass0) (pe_meth0 (pv 6) T.cl_Forest ME_Forest_many G_Forest_many (hr.mono (by decide)) B_Forest_many .nil pass0)) (pe_meth0 (pv 6) T.cl_Table ME_Table_many G_Table_many (hr.mono (by decide)) B_Table_many .nil pass0)) (pe_either (pe_either (pe_meth0 (pv 3) T.cl_Row ME_Row_many G_Row_many (hr.mono (by decide)) B_Row_many .nil pass0) (pe_meth0 (pv 3) T.cl_Forest ME_Forest_many G_Forest_many (hr.mono (by decide)) B_Forest_many .nil pass0)) (pe_meth0 (pv 3) T.cl_Table ME_Table_many G_Table_many (hr.mono (by decide)) B_Table_many .nil pass0)) (nomark _)) (pe_one (pe_cmpR op_eq (pe_call G_show_thing (hr.mono (by decide)) rfl D_show_thing.mg D_show_thing.F.kp D_show_thing.b .nil pass0 (pa_cons (pv 6) pa_nil)) (pv 5) (nomark _))))))))))))))))), ?_⟩
    refine tseq_open fun B hB => ?_
    and_intros
    refine ⟨a, ns, 0, rfl, hS, ?_⟩
    generalize cellF ns 0 = sd
    subst hB
    refine tseq_open fun B hB => ?_
    and_intros
    refine ⟨a, ns, 1, rfl, hS, _, rfl, fun m m1 m25 => ⟨_, m, rfl, by omega, m25, fun zs l1 H1 hzl hzm s1 hl1 => ?_⟩⟩
    subst hB
    refine tseq_open fun B hB => ?_
    have hz0 : 0 < zs.length := by omega
    have main : ∀ (H2 : Hp) (l2 : Addr) (ws : List Str), Same H H2 → H2 l2 = some (.lst (ws.map V.str)) → 0 < ws.length → (∀ z ∈ ws, markS z = true) → B ({ nx := fun _ H' => Q .non H', rt := Q } : Ends) [some (.ref a), some (.int sd), some (.ref l2), none, none, none, none] H2 := fun H2 l2 ws s2 hl2 hw0 hwm => by
      have S2 := hS.same s2
      subst hB
      refine tseq_open fun B hB => ?_
      have made : ∀ p d H3, Same H2 H3 → ThObj ad H3 p d → flatD d → B ({ nx := fun _ H' => Q .non H', rt := Q } : Ends) [some (.ref a), some (.int sd), some (.ref l2), some (.ref p), none, none, none] H3 := fun p d H3 s3 hT hf => by
        have S3 := S2.same s3
        subst hB
        refine tseq_open fun B hB => ?_
        have tail : ∀ q e H4, ThObj ad H4 q e → flatD e → B ({ nx := fun _ H' => Q .non H', rt := Q } : Ends) [some (.ref a), some (.int sd), some (.ref l2), some (.ref q), none, none, none] H4 := fun q e H4 hQ fe => by
          have eO := hQ.ok
          subst hB
          refine tseq_open fun B hB => ?_
          and_intros
          refine any_form hQ fun f H5 s5 hf5 => ?_
          subst hB
          refine tseq_open fun B hB => ?_
          and_intros
          refine ⟨q, e, rfl, hQ.same s5, fe, fun H6 s6 => ?_⟩
          subst hB
          refine tseq_open fun B hB => ?_
          and_intros
          refine ⟨_, .str _, true, rfl, ?_⟩
          rw [if_neg (by decide)]
          refine ⟨f, e, rfl, hf5.same s6, eO, fe, fun H7 s7 => ?_⟩
          dsimp only
          refine ⟨rfl, ?_⟩
          rw [if_neg (fun h => h rfl)]
          subst hB
          refine tseq_open fun B hB => ?_
          and_intros
          refine ⟨e, rfl, eO, fe, fun r H8 s8 hR => ?_⟩
          have s58 := (s6.trans s7).trans s8
          have hf8 := hf5.same s58
          have hQ8 := hQ.same (s5.trans s58)
          subst hB
          refine tseq_open fun B hB => ?_
          have last : normD e = e → B ({ nx := fun _ H' => Q .non H', rt := Q } : Ends) [some (.ref a), some (.int sd), some (.ref l2), some (.ref q), some (.ref f), some (.str (textD e)), some (.ref r)] H8 := fun en => by
            rw [en] at hR
            subst hB
            and_intros
            refine any_form hR fun g H9 s9 hg => ?_
            refine ⟨_, _, hg.dat eO, (hf8.same s9).dat eO, shaped_dat eO, shaped_dat eO, ?_⟩
            rw [eqv_dat eO]
            refine ⟨true, rfl, ?_⟩
            rw [if_pos rfl]
            refine any_many (hR.same s9) ?_
            refine any_many (hQ8.same s9) ?_
            refine ⟨rfl, ?_⟩
            rw [if_pos rfl]
            refine ⟨r, e, rfl, hR.same s9, fe, fun HA sA => ?_⟩
            dsimp only
            refine ⟨rfl, ?_⟩
            rw [decide_eq_true rfl]
            exact k _
          and_intros
          obtain ⟨xs0, hx0⟩ := form_head hf8
          refine ⟨_, SqT.of hx0, _, (show atI _ ((0 : Nat) : Int) = _ from atI_nat rfl), ?_⟩
          clear hx0
          refine ⟨rfl, ?_⟩
          cases e with
          | forest ns => exact fe.elim
          | row xs =>
            rw [if_neg (fun z => absurd (V.str.inj z) (by show ¬ Str.ofString "row" = Str.ofString "table"; decide +kernel))]
            exact last rfl
          | table ls w =>
            rw [if_pos (show V.str (kindS (.table ls w)) = V.str (Str.ofString "table") from rfl)]
            obtain ⟨t, ts, h1, h2, h3⟩ := id hf8
            have lts := h3.length
            refine ⟨_, SqT.of h1, _, rfl, t, rfl, _, SqT.of h2, ?_⟩
            cases ls with
            | cons y r =>
              rw [if_neg (by rw [lts, List.length_cons]; omega)]
              exact last rfl
            | nil =>
              rw [if_pos (by rw [lts]; rfl)]
              have oN : DOk (.table [] 0) := ⟨by decide, by decide, fun _ z => nomatch z⟩
              refine any_form hR fun g H9 s9 hg => ⟨by decide, fun pe hpe => ⟨by decide, fun p2 hp2 => ?_⟩⟩
              have hg' : FormAt H9 g (.table [] 0) := hg
              have sA := Same.put (o := .tup []) hpe
              have fA : (upd H9 pe (.tup [])) pe = some (.tup []) := upd_same
              generalize (upd H9 pe (.tup [])) = HA at sA fA hp2 ⊢
              have sB := Same.put (o := .tup [.str (Str.ofString "table"), .int 0, .ref pe]) hp2
              have fB : (upd HA p2 (.tup [.str (Str.ofString "table"), .int 0, .ref pe])) p2 = some (.tup [.str (Str.ofString "table"), .int 0, .ref pe]) := upd_same
              generalize (upd HA p2 (.tup [.str (Str.ofString "table"), .int 0, .ref pe])) = HB at sB fB ⊢
              have hp : FormAt HB p2 (.table [] 0) := ⟨pe, [], fB, sB _ _ fA, trivial⟩
              refine ⟨_, _, (hg'.same (sA.trans sB)).dat oN, hp.dat oN, shaped_dat oN, shaped_dat oN, ?_⟩
              rw [eqv_dat oN]
              refine ⟨true, rfl, ?_⟩
              rw [if_pos rfl]
              have s8B := (s9.trans sA).trans sB
              refine any_form (hQ8.same s8B) fun g2 HC sC hg2 => ?_
              refine ⟨_, _, hg2.dat eO, (hf8.same (s8B.trans sC)).dat eO, shaped_dat eO, shaped_dat eO, ?_⟩
              rw [eqv_dat eO]
              exact k _
        and_intros
        refine ite2 (fun _ => ?_) fun _ => tail p d H3 hT hf
        refine any_leftS (ArgS K ad H3 a p E0) hT (argS S3 hT) fun ps q H4 s4 hQ => tail q _ H4 hQ (flat_left hf ps)
      and_intros
      refine ite2 (fun _ => ?_) fun _ => ?_
      · refine tcomp_listM (K := K) (fun xs b H3 => ∃ ms : List Int, xs = ms.map V.int ∧ ms.length ≤ 40 ∧ Same H2 H3 ∧ H3 b = some (.lst xs)) (fun R r => ?_) (fun xs b H3 ⟨ms, exs, hms, s3, hb⟩ => ⟨fun i ys H' => H' = H3 ∧ ys.length = i ∧ ys.all markV = true, ⟨rfl, rfl, rfl⟩, ?_, ?_, ?_⟩)
        · and_intros
          exact ⟨a, ns, 3, rfl, S2, a, ns, 4, _, rfl, by decide, S2, fun ms l H' hms s hl => ⟨l, rfl, ⟨_, SqL.of hl⟩, r _ l H' ⟨ms, rfl, hms, s, hl⟩⟩⟩
        · rintro j ys H' _ ⟨rfl, _⟩
          exact SqL.of hb
        · rintro j x ys H' R hx ⟨rfl, hy, hm1⟩ hR
          have hi := (List.getElem?_eq_some_iff.mp hx).1
          rw [exs, List.length_map] at hi
          rw [exs] at hx
          obtain ⟨j', _, rfl⟩ := List.mem_map.mp (List.mem_of_getElem? hx)
          simp only [tYes]
          and_intros
          refine ⟨j', l2, ws, rfl, s3 _ _ hl2, hw0, fun z hz1 => ⟨small1000 (by omega), hR _ _ ⟨rfl, by rw [List.length_append, hy]; rfl, ?_⟩⟩⟩
          rw [List.all_append, hm1]
          show (true && (markS z && true)) = true
          rw [hwm z hz1]
          rfl
        · rintro ys H' ⟨rfl, hy, hm1⟩
          rw [exs, List.length_map] at hy
          refine ⟨Nat.le_of_lt (small1000 (by omega)), fun l hl' x dx hx hdx hne => ?_⟩
          have s4 := Same.put (o := .lst ys) hl'
          have f3 : (upd H' l (.lst ys)) l = some (.lst ys) := upd_same
          generalize (upd H' l (.lst ys)) = H4 at s4 f3 hx hdx ⊢
          have s67 : Same H4 (upd (upd H4 dx (.own x)) x (.ins ad.Row dx [])) := (Same.put hdx).upd (by rw [upd_ne (Ne.symm hne)]; exact hx)
          refine ⟨x, dx, .ref l, rfl, upd_same, thg2_lst (s67 _ _ f3) (thg_mark hm1), fun a' xs' e h _ _ H8 hrow sb => ⟨rfl, ?_⟩, fun hb => absurd ⟨l, _, rfl, s67 _ _ f3, by omega, hm1⟩ hb⟩
          cases e
          rw [s67 _ _ f3] at h
          cases h
          exact made x (.row ys) H8 ((s3.trans s4).trans fun b o e => sb b o (ne_of_none e hx) (s67 b o e)) hrow trivial
      · refine ⟨a, l2, ns, 3, ws, rfl, S2, hn, hl2, hw0, hwm, fun ls xs l3 H3 s3 hl3 hr3 hls htb x dx hx hdx hne => ?_⟩
        have s67 : Same H3 (upd (upd H3 dx (.own x)) x (.ins ad.Table dx [])) := (Same.put hdx).upd (by rw [upd_ne (Ne.symm hne)]; exact hx)
        have hr7 := hr3.same s67
        have hxl : xs.length ≤ 12 := by rw [hr3.length]; exact hls
        have hmk : ∀ l ∈ ls, l.all markV = true := fun l hl => let ⟨_, _, h⟩ := htb; (h l hl).2
        refine ⟨x, dx, .ref l3, rfl, upd_same, ⟨.lst (s67 _ _ hl3), fun a' xs' e h y hy => ?_⟩, fun a' xs' ls' e h _ hm' _ H8 htab sb => ⟨rfl, ?_⟩, fun hb => absurd ⟨l3, _, _, rfl, s67 _ _ hl3, hxl, hr7, htb⟩ hb⟩
        · cases e
          rw [s67 _ _ hl3] at h
          cases h
          exact hr7.thg2 hmk y hy
        cases e
        rw [s67 _ _ hl3] at h
        cases h
        have := hm'.uniq hr7
        subst this
        exact made x (.table ls' (wideT ls')) H8 (s3.trans fun b o e => sb b o (ne_of_none e hx) (s67 b o e)) htab trivial
    and_intros
    refine ite2 (fun _ => ?_) fun _ => main H1 l1 zs s1 hl1 hz0 hzm
    refine ⟨by decide, fun p hp => ?_⟩
    have s2 := Same.put (o := .lst [V.str (Str.ofString "row"), V.str (Str.ofString "table"), V.str (Str.ofString "forest"), V.str (Str.ofString "not"), V.str (Str.ofString "many"), V.str (Str.ofString "has")]) hp
    have f2 : (upd H1 p (.lst [V.str (Str.ofString "row"), V.str (Str.ofString "table"), V.str (Str.ofString "forest"), V.str (Str.ofString "not"), V.str (Str.ofString "many"), V.str (Str.ofString "has")])) p = some (.lst [V.str (Str.ofString "row"), V.str (Str.ofString "table"), V.str (Str.ofString "forest"), V.str (Str.ofString "not"), V.str (Str.ofString "many"), V.str (Str.ofString "has")]) := upd_same
    generalize (upd H1 p (.lst [V.str (Str.ofString "row"), V.str (Str.ofString "table"), V.str (Str.ofString "forest"), V.str (Str.ofString "not"), V.str (Str.ofString "many"), V.str (Str.ofString "has")])) = H2 at s2 f2 ⊢
    refine ⟨_, SqL.of (s2 _ _ hl1), _, SqL.of f2, fun l2 hl2 => ?_⟩
    rw [List.length_map, cut_to rfl]
    refine main _ l2 ((["row", "table", "forest", "not", "many", "has"] : List Str).take zs.length) ((s1.trans s2).upd hl2) (by rw [upd_same, List.map_take]; rfl) (by rw [List.length_take]; show 0 < min zs.length 6; omega) fun z hz => ?_
    exact List.all_eq_true.mp (show ((["row", "table", "forest", "not", "many", "has"] : List Str).all markS) = true by decide +kernel) z (List.mem_of_mem_take hz)
end
theorem all_mk {l : PySem.W.OpenLaw} {w : World} {K : PySem.W.Frag} {h : Heap} {mg : Str → Option Value} {fa C_ShrinkError C_NoThing C_NoPlace C_NoText C_Thing C_Row C_Forest C_Table f_is_whole f_is_mark f_check_list f_check_marks f_check_node f_check_nodes f_check_lines f_check_places f_marks_at f_Thing_init f_Row_init f_Row_many f_Row_left f_Row_form f_Forest_init f_Forest_many f_Forest_left f_Forest_form f_Table_init f_Table_many f_Table_left f_Table_form f_show_line f_show_nodes f_show_thing f_nodes_in f_lines_in f_marks_in f_made_of f_read_thing f__law_cell_at f__law_mix f__law_how_many f__law_marks f__law_pick f__law_cells f__law_lines f__law_some f__law_table_by f__law_text f_law : Addr} (X : K.In h) (G : h.Ns mainGlobals mg) (hfa : mg "law" = some (.ref fa))
    {od_is_whole an_is_whole od_is_mark an_is_mark od_check_list an_check_list od_check_marks an_check_marks od_check_node an_check_node od_check_nodes an_check_nodes od_check_lines an_check_lines od_check_places an_check_places od_marks_at an_marks_at od_Thing_init an_Thing_init od_Row_init an_Row_init od_Row_many an_Row_many od_Row_left an_Row_left od_Row_form an_Row_form od_Forest_init an_Forest_init od_Forest_many an_Forest_many od_Forest_left an_Forest_left od_Forest_form an_Forest_form od_Table_init an_Table_init od_Table_many an_Table_many od_Table_left an_Table_left od_Table_form an_Table_form od_show_line an_show_line od_show_nodes an_show_nodes od_show_thing an_show_thing od_nodes_in an_nodes_in od_lines_in an_lines_in od_marks_in an_marks_in od_made_of an_made_of od_read_thing an_read_thing od__law_cell_at an__law_cell_at od__law_mix an__law_mix od__law_how_many an__law_how_many od__law_marks an__law_marks od__law_pick an__law_pick od__law_cells an__law_cells od__law_lines an__law_lines od__law_some an__law_some od__law_table_by an__law_table_by od__law_text an__law_text od_law an_law : Option Addr} {sl_is_whole sl_is_mark sl_check_list sl_check_marks sl_check_node sl_check_nodes sl_check_lines sl_check_places sl_marks_at sl_Thing_init sl_Row_init sl_Row_many sl_Row_left sl_Row_form sl_Forest_init sl_Forest_many sl_Forest_left sl_Forest_form sl_Table_init sl_Table_many sl_Table_left sl_Table_form sl_show_line sl_show_nodes sl_show_thing sl_nodes_in sl_lines_in sl_marks_in sl_made_of sl_read_thing sl__law_cell_at sl__law_mix sl__law_how_many sl__law_marks sl__law_pick sl__law_cells sl__law_lines sl__law_some sl__law_table_by sl__law_text sl_law : Array (Option Value)} {oc_is_whole kV_is_whole dc_is_whole pm_is_whole cd_is_whole ct_is_whole oc_is_mark kV_is_mark dc_is_mark pm_is_mark cd_is_mark ct_is_mark oc_check_list kV_check_list dc_check_list pm_check_list cd_check_list ct_check_list oc_check_marks kV_check_marks dc_check_marks pm_check_marks cd_check_marks ct_check_marks oc_check_node kV_check_node dc_check_node pm_check_node cd_check_node ct_check_node oc_check_nodes kV_check_nodes dc_check_nodes pm_check_nodes cd_check_nodes ct_check_nodes oc_check_lines kV_check_lines dc_check_lines pm_check_lines cd_check_lines ct_check_lines oc_check_places kV_check_places dc_check_places pm_check_places cd_check_places ct_check_places oc_marks_at kV_marks_at dc_marks_at pm_marks_at cd_marks_at ct_marks_at oc_Thing_init kV_Thing_init dc_Thing_init pm_Thing_init cd_Thing_init ct_Thing_init oc_Row_init kV_Row_init dc_Row_init pm_Row_init cd_Row_init ct_Row_init oc_Row_many kV_Row_many dc_Row_many pm_Row_many cd_Row_many ct_Row_many oc_Row_left kV_Row_left dc_Row_left pm_Row_left cd_Row_left ct_Row_left oc_Row_form kV_Row_form dc_Row_form pm_Row_form cd_Row_form ct_Row_form oc_Forest_init kV_Forest_init dc_Forest_init pm_Forest_init cd_Forest_init ct_Forest_init oc_Forest_many kV_Forest_many dc_Forest_many pm_Forest_many cd_Forest_many ct_Forest_many oc_Forest_left kV_Forest_left dc_Forest_left pm_Forest_left cd_Forest_left ct_Forest_left oc_Forest_form kV_Forest_form dc_Forest_form pm_Forest_form cd_Forest_form ct_Forest_form oc_Table_init kV_Table_init dc_Table_init pm_Table_init cd_Table_init ct_Table_init oc_Table_many kV_Table_many dc_Table_many pm_Table_many cd_Table_many ct_Table_many oc_Table_left kV_Table_left dc_Table_left pm_Table_left cd_Table_left ct_Table_left oc_Table_form kV_Table_form dc_Table_form pm_Table_form cd_Table_form ct_Table_form oc_show_line kV_show_line dc_show_line pm_show_line cd_show_line ct_show_line oc_show_nodes kV_show_nodes dc_show_nodes pm_show_nodes cd_show_nodes ct_show_nodes oc_show_thing kV_show_thing dc_show_thing pm_show_thing cd_show_thing ct_show_thing oc_nodes_in kV_nodes_in dc_nodes_in pm_nodes_in cd_nodes_in ct_nodes_in oc_lines_in kV_lines_in dc_lines_in pm_lines_in cd_lines_in ct_lines_in oc_marks_in kV_marks_in dc_marks_in pm_marks_in cd_marks_in ct_marks_in oc_made_of kV_made_of dc_made_of pm_made_of cd_made_of ct_made_of oc_read_thing kV_read_thing dc_read_thing pm_read_thing cd_read_thing ct_read_thing oc__law_cell_at kV__law_cell_at dc__law_cell_at pm__law_cell_at cd__law_cell_at ct__law_cell_at oc__law_mix kV__law_mix dc__law_mix pm__law_mix cd__law_mix ct__law_mix oc__law_how_many kV__law_how_many dc__law_how_many pm__law_how_many cd__law_how_many ct__law_how_many oc__law_marks kV__law_marks dc__law_marks pm__law_marks cd__law_marks ct__law_marks oc__law_pick kV__law_pick dc__law_pick pm__law_pick cd__law_pick ct__law_pick oc__law_cells kV__law_cells dc__law_cells pm__law_cells cd__law_cells ct__law_cells oc__law_lines kV__law_lines dc__law_lines pm__law_lines cd__law_lines ct__law_lines oc__law_some kV__law_some dc__law_some pm__law_some cd__law_some ct__law_some oc__law_table_by kV__law_table_by dc__law_table_by pm__law_table_by cd__law_table_by ct__law_table_by oc__law_text kV__law_text dc__law_text pm__law_text cd__law_text ct__law_text oc_law kV_law dc_law pm_law cd_law ct_law : Value} {tk_LETTERS tk_LONGEST_MARK tk_MOST_IN_ROW tk_MOST_NODES tk_DEEPEST tk_MOST_LINES tk_MOST_COLUMNS : Tok} {cd_NoPlace cd_NoText cd_NoThing : ClassData}
    (a_ShrinkError : PySem.W.nsIn K mainGlobals "ShrinkError" = some (some (.ref C_ShrinkError)))
    (a_NoThing : PySem.W.nsIn K mainGlobals "NoThing" = some (some (.ref C_NoThing)))
    (a_NoPlace : PySem.W.nsIn K mainGlobals "NoPlace" = some (some (.ref C_NoPlace)))
    (a_NoText : PySem.W.nsIn K mainGlobals "NoText" = some (some (.ref C_NoText)))
    (a_Thing : PySem.W.nsIn K mainGlobals "Thing" = some (some (.ref C_Thing)))
    (a_Row : PySem.W.nsIn K mainGlobals "Row" = some (some (.ref C_Row)))
    (a_Forest : PySem.W.nsIn K mainGlobals "Forest" = some (some (.ref C_Forest)))
    (a_Table : PySem.W.nsIn K mainGlobals "Table" = some (some (.ref C_Table)))
    (a_is_whole : PySem.W.nsIn K mainGlobals "is_whole" = some (some (.ref f_is_whole)))
    (l_is_whole : K.lookup f_is_whole = some ⟨oc_is_whole, od_is_whole, .func (PySem.W.fnOf "is_whole" "is_whole" (defArgs s_is_whole) (defBody s_is_whole) (defScope s_is_whole) .none kV_is_whole dc_is_whole pm_is_whole an_is_whole cd_is_whole ct_is_whole), sl_is_whole⟩)
    (c_is_whole : PySem.W.codeIn K cd_is_whole "is_whole" = true)
    (k_is_whole : PySem.W.keepIn K (.ref f_is_whole) = true)
    (a_is_mark : PySem.W.nsIn K mainGlobals "is_mark" = some (some (.ref f_is_mark)))
    (l_is_mark : K.lookup f_is_mark = some ⟨oc_is_mark, od_is_mark, .func (PySem.W.fnOf "is_mark" "is_mark" (defArgs s_is_mark) (defBody s_is_mark) (defScope s_is_mark) .none kV_is_mark dc_is_mark pm_is_mark an_is_mark cd_is_mark ct_is_mark), sl_is_mark⟩)
    (c_is_mark : PySem.W.codeIn K cd_is_mark "is_mark" = true)
    (k_is_mark : PySem.W.keepIn K (.ref f_is_mark) = true)
    (a_check_list : PySem.W.nsIn K mainGlobals "check_list" = some (some (.ref f_check_list)))
    (l_check_list : K.lookup f_check_list = some ⟨oc_check_list, od_check_list, .func (PySem.W.fnOf "check_list" "check_list" (defArgs s_check_list) (defBody s_check_list) (defScope s_check_list) .none kV_check_list dc_check_list pm_check_list an_check_list cd_check_list ct_check_list), sl_check_list⟩)
    (c_check_list : PySem.W.codeIn K cd_check_list "check_list" = true)
    (k_check_list : PySem.W.keepIn K (.ref f_check_list) = true)
    (a_check_marks : PySem.W.nsIn K mainGlobals "check_marks" = some (some (.ref f_check_marks)))
    (l_check_marks : K.lookup f_check_marks = some ⟨oc_check_marks, od_check_marks, .func (PySem.W.fnOf "check_marks" "check_marks" (defArgs s_check_marks) (defBody s_check_marks) (defScope s_check_marks) .none kV_check_marks dc_check_marks pm_check_marks an_check_marks cd_check_marks ct_check_marks), sl_check_marks⟩)
    (c_check_marks : PySem.W.codeIn K cd_check_marks "check_marks" = true)
    (k_check_marks : PySem.W.keepIn K (.ref f_check_marks) = true)
    (a_check_node : PySem.W.nsIn K mainGlobals "check_node" = some (some (.ref f_check_node)))
    (l_check_node : K.lookup f_check_node = some ⟨oc_check_node, od_check_node, .func (PySem.W.fnOf "check_node" "check_node" (defArgs s_check_node) (defBody s_check_node) (defScope s_check_node) .none kV_check_node dc_check_node pm_check_node an_check_node cd_check_node ct_check_node), sl_check_node⟩)
    (c_check_node : PySem.W.codeIn K cd_check_node "check_node" = true)
    (k_check_node : PySem.W.keepIn K (.ref f_check_node) = true)
    (a_check_nodes : PySem.W.nsIn K mainGlobals "check_nodes" = some (some (.ref f_check_nodes)))
    (l_check_nodes : K.lookup f_check_nodes = some ⟨oc_check_nodes, od_check_nodes, .func (PySem.W.fnOf "check_nodes" "check_nodes" (defArgs s_check_nodes) (defBody s_check_nodes) (defScope s_check_nodes) .none kV_check_nodes dc_check_nodes pm_check_nodes an_check_nodes cd_check_nodes ct_check_nodes), sl_check_nodes⟩)
    (c_check_nodes : PySem.W.codeIn K cd_check_nodes "check_nodes" = true)
    (k_check_nodes : PySem.W.keepIn K (.ref f_check_nodes) = true)
    (a_check_lines : PySem.W.nsIn K mainGlobals "check_lines" = some (some (.ref f_check_lines)))
    (l_check_lines : K.lookup f_check_lines = some ⟨oc_check_lines, od_check_lines, .func (PySem.W.fnOf "check_lines" "check_lines" (defArgs s_check_lines) (defBody s_check_lines) (defScope s_check_lines) .none kV_check_lines dc_check_lines pm_check_lines an_check_lines cd_check_lines ct_check_lines), sl_check_lines⟩)
    (c_check_lines : PySem.W.codeIn K cd_check_lines "check_lines" = true)
    (k_check_lines : PySem.W.keepIn K (.ref f_check_lines) = true)
    (a_check_places : PySem.W.nsIn K mainGlobals "check_places" = some (some (.ref f_check_places)))
    (l_check_places : K.lookup f_check_places = some ⟨oc_check_places, od_check_places, .func (PySem.W.fnOf "check_places" "check_places" (defArgs s_check_places) (defBody s_check_places) (defScope s_check_places) .none kV_check_places dc_check_places pm_check_places an_check_places cd_check_places ct_check_places), sl_check_places⟩)
    (c_check_places : PySem.W.codeIn K cd_check_places "check_places" = true)
    (k_check_places : PySem.W.keepIn K (.ref f_check_places) = true)
    (a_marks_at : PySem.W.nsIn K mainGlobals "marks_at" = some (some (.ref f_marks_at)))
    (l_marks_at : K.lookup f_marks_at = some ⟨oc_marks_at, od_marks_at, .func (PySem.W.fnOf "marks_at" "marks_at" (defArgs s_marks_at) (defBody s_marks_at) (defScope s_marks_at) .none kV_marks_at dc_marks_at pm_marks_at an_marks_at cd_marks_at ct_marks_at), sl_marks_at⟩)
    (c_marks_at : PySem.W.codeIn K cd_marks_at "marks_at" = true)
    (k_marks_at : PySem.W.keepIn K (.ref f_marks_at) = true)
    (a_Thing_init : PySem.W.findCls K (.ref C_Thing) (.type "type") "__init__" = some (.val (.ref f_Thing_init)))
    (l_Thing_init : K.lookup f_Thing_init = some ⟨oc_Thing_init, od_Thing_init, .func (PySem.W.fnOf "__init__" "Thing.__init__" (defArgs s_Thing_init) (defBody s_Thing_init) (defScope s_Thing_init) .none kV_Thing_init dc_Thing_init pm_Thing_init an_Thing_init cd_Thing_init ct_Thing_init), sl_Thing_init⟩)
    (c_Thing_init : PySem.W.codeIn K cd_Thing_init "Thing.__init__" = true)
    (k_Thing_init : PySem.W.keepIn K (.ref f_Thing_init) = true)
    (n_Thing_init : PySem.W.isFn K (.ref f_Thing_init) = true)
    (l_Row_init : K.lookup f_Row_init = some ⟨oc_Row_init, od_Row_init, .func (PySem.W.fnOf "__init__" "Row.__init__" (defArgs s_Row_init) (defBody s_Row_init) (defScope s_Row_init) .none kV_Row_init dc_Row_init pm_Row_init an_Row_init cd_Row_init ct_Row_init), sl_Row_init⟩)
    (c_Row_init : PySem.W.codeIn K cd_Row_init "Row.__init__" = true)
    (k_Row_init : PySem.W.keepIn K (.ref f_Row_init) = true)
    (n_Row_init : PySem.W.isFn K (.ref f_Row_init) = true)
    (i_Row_many : PySem.W.findIn K (.ref C_Row) "many" = some (some (.ref f_Row_many)))
    (l_Row_many : K.lookup f_Row_many = some ⟨oc_Row_many, od_Row_many, .func (PySem.W.fnOf "many" "Row.many" (defArgs s_Row_many) (defBody s_Row_many) (defScope s_Row_many) .none kV_Row_many dc_Row_many pm_Row_many an_Row_many cd_Row_many ct_Row_many), sl_Row_many⟩)
    (c_Row_many : PySem.W.codeIn K cd_Row_many "Row.many" = true)
    (k_Row_many : PySem.W.keepIn K (.ref f_Row_many) = true)
    (n_Row_many : PySem.W.isFn K (.ref f_Row_many) = true)
    (i_Row_left : PySem.W.findIn K (.ref C_Row) "left" = some (some (.ref f_Row_left)))
    (l_Row_left : K.lookup f_Row_left = some ⟨oc_Row_left, od_Row_left, .func (PySem.W.fnOf "left" "Row.left" (defArgs s_Row_left) (defBody s_Row_left) (defScope s_Row_left) .none kV_Row_left dc_Row_left pm_Row_left an_Row_left cd_Row_left ct_Row_left), sl_Row_left⟩)
    (c_Row_left : PySem.W.codeIn K cd_Row_left "Row.left" = true)
    (k_Row_left : PySem.W.keepIn K (.ref f_Row_left) = true)
    (n_Row_left : PySem.W.isFn K (.ref f_Row_left) = true)
    (i_Row_form : PySem.W.findIn K (.ref C_Row) "form" = some (some (.ref f_Row_form)))
    (l_Row_form : K.lookup f_Row_form = some ⟨oc_Row_form, od_Row_form, .func (PySem.W.fnOf "form" "Row.form" (defArgs s_Row_form) (defBody s_Row_form) (defScope s_Row_form) .none kV_Row_form dc_Row_form pm_Row_form an_Row_form cd_Row_form ct_Row_form), sl_Row_form⟩)
    (c_Row_form : PySem.W.codeIn K cd_Row_form "Row.form" = true)
    (k_Row_form : PySem.W.keepIn K (.ref f_Row_form) = true)
    (n_Row_form : PySem.W.isFn K (.ref f_Row_form) = true)
    (l_Forest_init : K.lookup f_Forest_init = some ⟨oc_Forest_init, od_Forest_init, .func (PySem.W.fnOf "__init__" "Forest.__init__" (defArgs s_Forest_init) (defBody s_Forest_init) (defScope s_Forest_init) .none kV_Forest_init dc_Forest_init pm_Forest_init an_Forest_init cd_Forest_init ct_Forest_init), sl_Forest_init⟩)
    (c_Forest_init : PySem.W.codeIn K cd_Forest_init "Forest.__init__" = true)
    (k_Forest_init : PySem.W.keepIn K (.ref f_Forest_init) = true)
    (n_Forest_init : PySem.W.isFn K (.ref f_Forest_init) = true)
    (i_Forest_many : PySem.W.findIn K (.ref C_Forest) "many" = some (some (.ref f_Forest_many)))
    (l_Forest_many : K.lookup f_Forest_many = some ⟨oc_Forest_many, od_Forest_many, .func (PySem.W.fnOf "many" "Forest.many" (defArgs s_Forest_many) (defBody s_Forest_many) (defScope s_Forest_many) .none kV_Forest_many dc_Forest_many pm_Forest_many an_Forest_many cd_Forest_many ct_Forest_many), sl_Forest_many⟩)
    (c_Forest_many : PySem.W.codeIn K cd_Forest_many "Forest.many" = true)
    (k_Forest_many : PySem.W.keepIn K (.ref f_Forest_many) = true)
    (n_Forest_many : PySem.W.isFn K (.ref f_Forest_many) = true)
    (i_Forest_left : PySem.W.findIn K (.ref C_Forest) "left" = some (some (.ref f_Forest_left)))
    (l_Forest_left : K.lookup f_Forest_left = some ⟨oc_Forest_left, od_Forest_left, .func (PySem.W.fnOf "left" "Forest.left" (defArgs s_Forest_left) (defBody s_Forest_left) (defScope s_Forest_left) .none kV_Forest_left dc_Forest_left pm_Forest_left an_Forest_left cd_Forest_left ct_Forest_left), sl_Forest_left⟩)
    (c_Forest_left : PySem.W.codeIn K cd_Forest_left "Forest.left" = true)
    (k_Forest_left : PySem.W.keepIn K (.ref f_Forest_left) = true)
    (n_Forest_left : PySem.W.isFn K (.ref f_Forest_left) = true)
    (i_Forest_form : PySem.W.findIn K (.ref C_Forest) "form" = some (some (.ref f_Forest_form)))
    (l_Forest_form : K.lookup f_Forest_form = some ⟨oc_Forest_form, od_Forest_form, .func (PySem.W.fnOf "form" "Forest.form" (defArgs s_Forest_form) (defBody s_Forest_form) (defScope s_Forest_form) .none kV_Forest_form dc_Forest_form pm_Forest_form an_Forest_form cd_Forest_form ct_Forest_form), sl_Forest_form⟩)
    (c_Forest_form : PySem.W.codeIn K cd_Forest_form "Forest.form" = true)
    (k_Forest_form : PySem.W.keepIn K (.ref f_Forest_form) = true)
    (n_Forest_form : PySem.W.isFn K (.ref f_Forest_form) = true)
    (l_Table_init : K.lookup f_Table_init = some ⟨oc_Table_init, od_Table_init, .func (PySem.W.fnOf "__init__" "Table.__init__" (defArgs s_Table_init) (defBody s_Table_init) (defScope s_Table_init) .none kV_Table_init dc_Table_init pm_Table_init an_Table_init cd_Table_init ct_Table_init), sl_Table_init⟩)
    (c_Table_init : PySem.W.codeIn K cd_Table_init "Table.__init__" = true)
    (k_Table_init : PySem.W.keepIn K (.ref f_Table_init) = true)
    (n_Table_init : PySem.W.isFn K (.ref f_Table_init) = true)
    (i_Table_many : PySem.W.findIn K (.ref C_Table) "many" = some (some (.ref f_Table_many)))
    (l_Table_many : K.lookup f_Table_many = some ⟨oc_Table_many, od_Table_many, .func (PySem.W.fnOf "many" "Table.many" (defArgs s_Table_many) (defBody s_Table_many) (defScope s_Table_many) .none kV_Table_many dc_Table_many pm_Table_many an_Table_many cd_Table_many ct_Table_many), sl_Table_many⟩)
    (c_Table_many : PySem.W.codeIn K cd_Table_many "Table.many" = true)
    (k_Table_many : PySem.W.keepIn K (.ref f_Table_many) = true)
    (n_Table_many : PySem.W.isFn K (.ref f_Table_many) = true)
    (i_Table_left : PySem.W.findIn K (.ref C_Table) "left" = some (some (.ref f_Table_left)))
    (l_Table_left : K.lookup f_Table_left = some ⟨oc_Table_left, od_Table_left, .func (PySem.W.fnOf "left" "Table.left" (defArgs s_Table_left) (defBody s_Table_left) (defScope s_Table_left) .none kV_Table_left dc_Table_left pm_Table_left an_Table_left cd_Table_left ct_Table_left), sl_Table_left⟩)
    (c_Table_left : PySem.W.codeIn K cd_Table_left "Table.left" = true)
    (k_Table_left : PySem.W.keepIn K (.ref f_Table_left) = true)
    (n_Table_left : PySem.W.isFn K (.ref f_Table_left) = true)
    (i_Table_form : PySem.W.findIn K (.ref C_Table) "form" = some (some (.ref f_Table_form)))
    (l_Table_form : K.lookup f_Table_form = some ⟨oc_Table_form, od_Table_form, .func (PySem.W.fnOf "form" "Table.form" (defArgs s_Table_form) (defBody s_Table_form) (defScope s_Table_form) .none kV_Table_form dc_Table_form pm_Table_form an_Table_form cd_Table_form ct_Table_form), sl_Table_form⟩)
    (c_Table_form : PySem.W.codeIn K cd_Table_form "Table.form" = true)
    (k_Table_form : PySem.W.keepIn K (.ref f_Table_form) = true)
    (n_Table_form : PySem.W.isFn K (.ref f_Table_form) = true)
    (a_show_line : PySem.W.nsIn K mainGlobals "show_line" = some (some (.ref f_show_line)))
    (l_show_line : K.lookup f_show_line = some ⟨oc_show_line, od_show_line, .func (PySem.W.fnOf "show_line" "show_line" (defArgs s_show_line) (defBody s_show_line) (defScope s_show_line) .none kV_show_line dc_show_line pm_show_line an_show_line cd_show_line ct_show_line), sl_show_line⟩)
    (c_show_line : PySem.W.codeIn K cd_show_line "show_line" = true)
    (k_show_line : PySem.W.keepIn K (.ref f_show_line) = true)
    (a_show_nodes : PySem.W.nsIn K mainGlobals "show_nodes" = some (some (.ref f_show_nodes)))
    (l_show_nodes : K.lookup f_show_nodes = some ⟨oc_show_nodes, od_show_nodes, .func (PySem.W.fnOf "show_nodes" "show_nodes" (defArgs s_show_nodes) (defBody s_show_nodes) (defScope s_show_nodes) .none kV_show_nodes dc_show_nodes pm_show_nodes an_show_nodes cd_show_nodes ct_show_nodes), sl_show_nodes⟩)
    (c_show_nodes : PySem.W.codeIn K cd_show_nodes "show_nodes" = true)
    (k_show_nodes : PySem.W.keepIn K (.ref f_show_nodes) = true)
    (a_show_thing : PySem.W.nsIn K mainGlobals "show_thing" = some (some (.ref f_show_thing)))
    (l_show_thing : K.lookup f_show_thing = some ⟨oc_show_thing, od_show_thing, .func (PySem.W.fnOf "show_thing" "show_thing" (defArgs s_show_thing) (defBody s_show_thing) (defScope s_show_thing) .none kV_show_thing dc_show_thing pm_show_thing an_show_thing cd_show_thing ct_show_thing), sl_show_thing⟩)
    (c_show_thing : PySem.W.codeIn K cd_show_thing "show_thing" = true)
    (k_show_thing : PySem.W.keepIn K (.ref f_show_thing) = true)
    (a_nodes_in : PySem.W.nsIn K mainGlobals "nodes_in" = some (some (.ref f_nodes_in)))
    (l_nodes_in : K.lookup f_nodes_in = some ⟨oc_nodes_in, od_nodes_in, .func (PySem.W.fnOf "nodes_in" "nodes_in" (defArgs s_nodes_in) (defBody s_nodes_in) (defScope s_nodes_in) .none kV_nodes_in dc_nodes_in pm_nodes_in an_nodes_in cd_nodes_in ct_nodes_in), sl_nodes_in⟩)
    (c_nodes_in : PySem.W.codeIn K cd_nodes_in "nodes_in" = true)
    (k_nodes_in : PySem.W.keepIn K (.ref f_nodes_in) = true)
    (a_lines_in : PySem.W.nsIn K mainGlobals "lines_in" = some (some (.ref f_lines_in)))
    (l_lines_in : K.lookup f_lines_in = some ⟨oc_lines_in, od_lines_in, .func (PySem.W.fnOf "lines_in" "lines_in" (defArgs s_lines_in) (defBody s_lines_in) (defScope s_lines_in) .none kV_lines_in dc_lines_in pm_lines_in an_lines_in cd_lines_in ct_lines_in), sl_lines_in⟩)
    (c_lines_in : PySem.W.codeIn K cd_lines_in "lines_in" = true)
    (k_lines_in : PySem.W.keepIn K (.ref f_lines_in) = true)
    (a_marks_in : PySem.W.nsIn K mainGlobals "marks_in" = some (some (.ref f_marks_in)))
    (l_marks_in : K.lookup f_marks_in = some ⟨oc_marks_in, od_marks_in, .func (PySem.W.fnOf "marks_in" "marks_in" (defArgs s_marks_in) (defBody s_marks_in) (defScope s_marks_in) .none kV_marks_in dc_marks_in pm_marks_in an_marks_in cd_marks_in ct_marks_in), sl_marks_in⟩)
    (c_marks_in : PySem.W.codeIn K cd_marks_in "marks_in" = true)
    (k_marks_in : PySem.W.keepIn K (.ref f_marks_in) = true)
    (a_made_of : PySem.W.nsIn K mainGlobals "made_of" = some (some (.ref f_made_of)))
    (l_made_of : K.lookup f_made_of = some ⟨oc_made_of, od_made_of, .func (PySem.W.fnOf "made_of" "made_of" (defArgs s_made_of) (defBody s_made_of) (defScope s_made_of) .none kV_made_of dc_made_of pm_made_of an_made_of cd_made_of ct_made_of), sl_made_of⟩)
    (c_made_of : PySem.W.codeIn K cd_made_of "made_of" = true)
    (k_made_of : PySem.W.keepIn K (.ref f_made_of) = true)
    (a_read_thing : PySem.W.nsIn K mainGlobals "read_thing" = some (some (.ref f_read_thing)))
    (l_read_thing : K.lookup f_read_thing = some ⟨oc_read_thing, od_read_thing, .func (PySem.W.fnOf "read_thing" "read_thing" (defArgs s_read_thing) (defBody s_read_thing) (defScope s_read_thing) .none kV_read_thing dc_read_thing pm_read_thing an_read_thing cd_read_thing ct_read_thing), sl_read_thing⟩)
    (c_read_thing : PySem.W.codeIn K cd_read_thing "read_thing" = true)
    (k_read_thing : PySem.W.keepIn K (.ref f_read_thing) = true)
    (a__law_cell_at : PySem.W.nsIn K mainGlobals "_law_cell_at" = some (some (.ref f__law_cell_at)))
    (l__law_cell_at : K.lookup f__law_cell_at = some ⟨oc__law_cell_at, od__law_cell_at, .func (PySem.W.fnOf "_law_cell_at" "_law_cell_at" (defArgs s__law_cell_at) (defBody s__law_cell_at) (defScope s__law_cell_at) .none kV__law_cell_at dc__law_cell_at pm__law_cell_at an__law_cell_at cd__law_cell_at ct__law_cell_at), sl__law_cell_at⟩)
    (c__law_cell_at : PySem.W.codeIn K cd__law_cell_at "_law_cell_at" = true)
    (k__law_cell_at : PySem.W.keepIn K (.ref f__law_cell_at) = true)
    (a__law_mix : PySem.W.nsIn K mainGlobals "_law_mix" = some (some (.ref f__law_mix)))
    (l__law_mix : K.lookup f__law_mix = some ⟨oc__law_mix, od__law_mix, .func (PySem.W.fnOf "_law_mix" "_law_mix" (defArgs s__law_mix) (defBody s__law_mix) (defScope s__law_mix) .none kV__law_mix dc__law_mix pm__law_mix an__law_mix cd__law_mix ct__law_mix), sl__law_mix⟩)
    (c__law_mix : PySem.W.codeIn K cd__law_mix "_law_mix" = true)
    (k__law_mix : PySem.W.keepIn K (.ref f__law_mix) = true)
    (a__law_how_many : PySem.W.nsIn K mainGlobals "_law_how_many" = some (some (.ref f__law_how_many)))
    (l__law_how_many : K.lookup f__law_how_many = some ⟨oc__law_how_many, od__law_how_many, .func (PySem.W.fnOf "_law_how_many" "_law_how_many" (defArgs s__law_how_many) (defBody s__law_how_many) (defScope s__law_how_many) .none kV__law_how_many dc__law_how_many pm__law_how_many an__law_how_many cd__law_how_many ct__law_how_many), sl__law_how_many⟩)
    (c__law_how_many : PySem.W.codeIn K cd__law_how_many "_law_how_many" = true)
    (k__law_how_many : PySem.W.keepIn K (.ref f__law_how_many) = true)
    (a__law_marks : PySem.W.nsIn K mainGlobals "_law_marks" = some (some (.ref f__law_marks)))
    (l__law_marks : K.lookup f__law_marks = some ⟨oc__law_marks, od__law_marks, .func (PySem.W.fnOf "_law_marks" "_law_marks" (defArgs s__law_marks) (defBody s__law_marks) (defScope s__law_marks) .none kV__law_marks dc__law_marks pm__law_marks an__law_marks cd__law_marks ct__law_marks), sl__law_marks⟩)
    (c__law_marks : PySem.W.codeIn K cd__law_marks "_law_marks" = true)
    (k__law_marks : PySem.W.keepIn K (.ref f__law_marks) = true)
    (a__law_pick : PySem.W.nsIn K mainGlobals "_law_pick" = some (some (.ref f__law_pick)))
    (l__law_pick : K.lookup f__law_pick = some ⟨oc__law_pick, od__law_pick, .func (PySem.W.fnOf "_law_pick" "_law_pick" (defArgs s__law_pick) (defBody s__law_pick) (defScope s__law_pick) .none kV__law_pick dc__law_pick pm__law_pick an__law_pick cd__law_pick ct__law_pick), sl__law_pick⟩)
    (c__law_pick : PySem.W.codeIn K cd__law_pick "_law_pick" = true)
    (k__law_pick : PySem.W.keepIn K (.ref f__law_pick) = true)
    (a__law_cells : PySem.W.nsIn K mainGlobals "_law_cells" = some (some (.ref f__law_cells)))
    (l__law_cells : K.lookup f__law_cells = some ⟨oc__law_cells, od__law_cells, .func (PySem.W.fnOf "_law_cells" "_law_cells" (defArgs s__law_cells) (defBody s__law_cells) (defScope s__law_cells) .none kV__law_cells dc__law_cells pm__law_cells an__law_cells cd__law_cells ct__law_cells), sl__law_cells⟩)
    (c__law_cells : PySem.W.codeIn K cd__law_cells "_law_cells" = true)
    (k__law_cells : PySem.W.keepIn K (.ref f__law_cells) = true)
    (a__law_lines : PySem.W.nsIn K mainGlobals "_law_lines" = some (some (.ref f__law_lines)))
    (l__law_lines : K.lookup f__law_lines = some ⟨oc__law_lines, od__law_lines, .func (PySem.W.fnOf "_law_lines" "_law_lines" (defArgs s__law_lines) (defBody s__law_lines) (defScope s__law_lines) .none kV__law_lines dc__law_lines pm__law_lines an__law_lines cd__law_lines ct__law_lines), sl__law_lines⟩)
    (c__law_lines : PySem.W.codeIn K cd__law_lines "_law_lines" = true)
    (k__law_lines : PySem.W.keepIn K (.ref f__law_lines) = true)
    (a__law_some : PySem.W.nsIn K mainGlobals "_law_some" = some (some (.ref f__law_some)))
    (l__law_some : K.lookup f__law_some = some ⟨oc__law_some, od__law_some, .func (PySem.W.fnOf "_law_some" "_law_some" (defArgs s__law_some) (defBody s__law_some) (defScope s__law_some) .none kV__law_some dc__law_some pm__law_some an__law_some cd__law_some ct__law_some), sl__law_some⟩)
    (c__law_some : PySem.W.codeIn K cd__law_some "_law_some" = true)
    (k__law_some : PySem.W.keepIn K (.ref f__law_some) = true)
    (a__law_table_by : PySem.W.nsIn K mainGlobals "_law_table_by" = some (some (.ref f__law_table_by)))
    (l__law_table_by : K.lookup f__law_table_by = some ⟨oc__law_table_by, od__law_table_by, .func (PySem.W.fnOf "_law_table_by" "_law_table_by" (defArgs s__law_table_by) (defBody s__law_table_by) (defScope s__law_table_by) .none kV__law_table_by dc__law_table_by pm__law_table_by an__law_table_by cd__law_table_by ct__law_table_by), sl__law_table_by⟩)
    (c__law_table_by : PySem.W.codeIn K cd__law_table_by "_law_table_by" = true)
    (k__law_table_by : PySem.W.keepIn K (.ref f__law_table_by) = true)
    (a__law_text : PySem.W.nsIn K mainGlobals "_law_text" = some (some (.ref f__law_text)))
    (l__law_text : K.lookup f__law_text = some ⟨oc__law_text, od__law_text, .func (PySem.W.fnOf "_law_text" "_law_text" (defArgs s__law_text) (defBody s__law_text) (defScope s__law_text) .none kV__law_text dc__law_text pm__law_text an__law_text cd__law_text ct__law_text), sl__law_text⟩)
    (c__law_text : PySem.W.codeIn K cd__law_text "_law_text" = true)
    (k__law_text : PySem.W.keepIn K (.ref f__law_text) = true)
    (a_law : PySem.W.nsIn K mainGlobals "law" = some (some (.ref f_law)))
    (l_law : K.lookup f_law = some ⟨oc_law, od_law, .func (PySem.W.fnOf "law" "law" (defArgs s_law) (defBody s_law) (defScope s_law) .none kV_law dc_law pm_law an_law cd_law ct_law), sl_law⟩)
    (c_law : PySem.W.codeIn K cd_law "law" = true)
    (k_law : PySem.W.keepIn K (.ref f_law) = true)
    (z_all : PySem.W.nsIn K mainGlobals "all" = some none)
    (z_bool : PySem.W.nsIn K mainGlobals "bool" = some none)
    (z_dict : PySem.W.nsIn K mainGlobals "dict" = some none)
    (z_enumerate : PySem.W.nsIn K mainGlobals "enumerate" = some none)
    (z_int : PySem.W.nsIn K mainGlobals "int" = some none)
    (z_isinstance : PySem.W.nsIn K mainGlobals "isinstance" = some none)
    (z_len : PySem.W.nsIn K mainGlobals "len" = some none)
    (z_list : PySem.W.nsIn K mainGlobals "list" = some none)
    (z_max : PySem.W.nsIn K mainGlobals "max" = some none)
    (z_min : PySem.W.nsIn K mainGlobals "min" = some none)
    (z_range : PySem.W.nsIn K mainGlobals "range" = some none)
    (z_str : PySem.W.nsIn K mainGlobals "str" = some none)
    (z_tuple : PySem.W.nsIn K mainGlobals "tuple" = some none)
    (g_LETTERS : PySem.W.nsIn K mainGlobals "LETTERS" = some (some (.str LET tk_LETTERS)))
    (g_LONGEST_MARK : PySem.W.nsIn K mainGlobals "LONGEST_MARK" = some (some (.int 8 tk_LONGEST_MARK)))
    (g_MOST_IN_ROW : PySem.W.nsIn K mainGlobals "MOST_IN_ROW" = some (some (.int 40 tk_MOST_IN_ROW)))
    (g_MOST_NODES : PySem.W.nsIn K mainGlobals "MOST_NODES" = some (some (.int 40 tk_MOST_NODES)))
    (g_DEEPEST : PySem.W.nsIn K mainGlobals "DEEPEST" = some (some (.int 12 tk_DEEPEST)))
    (g_MOST_LINES : PySem.W.nsIn K mainGlobals "MOST_LINES" = some (some (.int 12 tk_MOST_LINES)))
    (g_MOST_COLUMNS : PySem.W.nsIn K mainGlobals "MOST_COLUMNS" = some (some (.int 12 tk_MOST_COLUMNS)))
    (x1_NoPlace : PySem.W.excIn K C_NoPlace [.type "ValueError", .type "Exception", .type "BaseException", .type "object"] "ValueError.__new__" = true)
    (x2_NoPlace : PySem.W.findIn K (.ref C_NoPlace) "__getattribute__" = some (some (.builtin "BaseException.__getattribute__")))
    (x3_NoPlace : PySem.W.findIn K (.ref C_NoPlace) "__getattr__" = some none)
    (x4_NoPlace : PySem.W.findIn K (.ref C_NoPlace) "__class__" = some (some (.builtin "object.__class__")))
    (x5_NoPlace : PySem.W.mroIn K C_NoPlace (.type "object") = some true)
    (x6_NoPlace : PySem.W.subIn K (.ref C_NoPlace) (.type "BaseException") = some true)
    (x7_NoPlace : PySem.W.clsIn K C_NoPlace = some cd_NoPlace)
    (x1_NoText : PySem.W.excIn K C_NoText [.type "ValueError", .type "Exception", .type "BaseException", .type "object"] "ValueError.__new__" = true)
    (x2_NoText : PySem.W.findIn K (.ref C_NoText) "__getattribute__" = some (some (.builtin "BaseException.__getattribute__")))
    (x3_NoText : PySem.W.findIn K (.ref C_NoText) "__getattr__" = some none)
    (x4_NoText : PySem.W.findIn K (.ref C_NoText) "__class__" = some (some (.builtin "object.__class__")))
    (x5_NoText : PySem.W.mroIn K C_NoText (.type "object") = some true)
    (x6_NoText : PySem.W.subIn K (.ref C_NoText) (.type "BaseException") = some true)
    (x7_NoText : PySem.W.clsIn K C_NoText = some cd_NoText)
    (x1_NoThing : PySem.W.excIn K C_NoThing [.type "ValueError", .type "Exception", .type "BaseException", .type "object"] "ValueError.__new__" = true)
    (x2_NoThing : PySem.W.findIn K (.ref C_NoThing) "__getattribute__" = some (some (.builtin "BaseException.__getattribute__")))
    (x3_NoThing : PySem.W.findIn K (.ref C_NoThing) "__getattr__" = some none)
    (x4_NoThing : PySem.W.findIn K (.ref C_NoThing) "__class__" = some (some (.builtin "object.__class__")))
    (x5_NoThing : PySem.W.mroIn K C_NoThing (.type "object") = some true)
    (x6_NoThing : PySem.W.subIn K (.ref C_NoThing) (.type "BaseException") = some true)
    (x7_NoThing : PySem.W.clsIn K C_NoThing = some cd_NoThing)
    (r1_Forest : PySem.W.plainGet K C_Forest Str.empty = true)
    (r2_Forest : PySem.W.hasDictIn K C_Forest = true)
    (r3_Forest : PySem.W.plainOver K C_Forest = true)
    (r4_Forest : PySem.W.findIn K (.ref C_Forest) "__setattr__" = some (some (.builtin "object.__setattr__")))
    (n_Forest_nodes : PySem.W.findIn K (.ref C_Forest) "nodes" = some none)
    (n_Forest_spot_marks : PySem.W.findIn K (.ref C_Forest) "spot_marks" = some none)
    (r6_Forest : PySem.W.findIn K (.ref C_Forest) "__class__" = some (some (.builtin "object.__class__")))
    (r9_Forest : PySem.W.mroIn K C_Forest (.type "object") = some true)
    (r1_Row : PySem.W.plainGet K C_Row Str.empty = true)
    (r2_Row : PySem.W.hasDictIn K C_Row = true)
    (r3_Row : PySem.W.plainOver K C_Row = true)
    (r4_Row : PySem.W.findIn K (.ref C_Row) "__setattr__" = some (some (.builtin "object.__setattr__")))
    (n_Row_spot_marks : PySem.W.findIn K (.ref C_Row) "spot_marks" = some none)
    (r6_Row : PySem.W.findIn K (.ref C_Row) "__class__" = some (some (.builtin "object.__class__")))
    (r9_Row : PySem.W.mroIn K C_Row (.type "object") = some true)
    (r1_Table : PySem.W.plainGet K C_Table Str.empty = true)
    (r2_Table : PySem.W.hasDictIn K C_Table = true)
    (r3_Table : PySem.W.plainOver K C_Table = true)
    (r4_Table : PySem.W.findIn K (.ref C_Table) "__setattr__" = some (some (.builtin "object.__setattr__")))
    (n_Table_columns : PySem.W.findIn K (.ref C_Table) "columns" = some none)
    (n_Table_lines : PySem.W.findIn K (.ref C_Table) "lines" = some none)
    (n_Table_spot_marks : PySem.W.findIn K (.ref C_Table) "spot_marks" = some none)
    (r6_Table : PySem.W.findIn K (.ref C_Table) "__class__" = some (some (.builtin "object.__class__")))
    (r9_Table : PySem.W.mroIn K C_Table (.type "object") = some true)
    (r7 : PySem.W.specialIn K (.builtin "object.__class__") "__get__" = some (some (.builtin "getset_descriptor.__get__")))
    (r8 : PySem.W.takesIn K (.builtin "object.__class__") = some true)
    (mi_Forest : PySem.W.findIn K (.ref C_Forest) "__init__" = some (some (.ref f_Forest_init)))
    (m1_Forest : PySem.W.makesIn K C_Forest = true)
    (m2_Forest : PySem.W.keepIn K (.ref C_Forest) = true)
    (mi_Row : PySem.W.findIn K (.ref C_Row) "__init__" = some (some (.ref f_Row_init)))
    (m1_Row : PySem.W.makesIn K C_Row = true)
    (m2_Row : PySem.W.keepIn K (.ref C_Row) = true)
    (mi_Table : PySem.W.findIn K (.ref C_Table) "__init__" = some (some (.ref f_Table_init)))
    (m1_Table : PySem.W.makesIn K C_Table = true)
    (m2_Table : PySem.W.keepIn K (.ref C_Table) = true)
    (th1_Thing : PySem.W.specialIn K (.ref C_Thing) "__getattribute__" = some (some (.builtin "type.__getattribute__")))
    (th2_Thing : PySem.W.readsIn K C_Thing (.type "type") = true) :
    ∃ fd : FuncData, (∀ (s : Shared) (v : Value), BindsTo s fd ⟨[v], []⟩ [("_law_script", v)]) ∧ ∀ base : Heap, K.In base → base.Ns mainGlobals mg → FnOk l.prog w K mg base CX0 8 fa fd ["_law_script"] (sp_law K) := by
  have e := hfa.symm.trans (PySem.W.mg_of X G a_law)
  cases e
  have T : Txt K mg ⟨C_ShrinkError, C_NoThing, C_NoPlace, C_NoText, C_Thing, C_Row, C_Forest, C_Table⟩ := ⟨PySem.W.mg_none_of X G z_all, PySem.W.mg_none_of X G z_bool, PySem.W.mg_none_of X G z_dict, PySem.W.mg_none_of X G z_enumerate, PySem.W.mg_none_of X G z_int, PySem.W.mg_none_of X G z_isinstance, PySem.W.mg_none_of X G z_len, PySem.W.mg_none_of X G z_list, PySem.W.mg_none_of X G z_max, PySem.W.mg_none_of X G z_min, PySem.W.mg_none_of X G z_range, PySem.W.mg_none_of X G z_str, PySem.W.mg_none_of X G z_tuple, PySem.W.mg_of X G a_ShrinkError, PySem.W.mg_of X G a_NoThing, PySem.W.mg_of X G a_NoPlace, PySem.W.mg_of X G a_NoText, PySem.W.mg_of X G a_Thing, PySem.W.mg_of X G a_Row, PySem.W.mg_of X G a_Forest, PySem.W.mg_of X G a_Table, ⟨_, PySem.W.mg_of X G g_LETTERS⟩, ⟨_, PySem.W.mg_of X G g_LONGEST_MARK⟩, ⟨_, PySem.W.mg_of X G g_MOST_IN_ROW⟩, ⟨_, PySem.W.mg_of X G g_MOST_NODES⟩, ⟨_, PySem.W.mg_of X G g_DEEPEST⟩, ⟨_, PySem.W.mg_of X G g_MOST_LINES⟩, ⟨_, PySem.W.mg_of X G g_MOST_COLUMNS⟩, ⟨PySem.W.mg_of X G a_NoPlace, a_NoPlace, x1_NoPlace⟩, ⟨x2_NoPlace, x3_NoPlace, x4_NoPlace, x5_NoPlace, x6_NoPlace, by rw [x7_NoPlace]; rfl⟩, ⟨PySem.W.mg_of X G a_NoText, a_NoText, x1_NoText⟩, ⟨x2_NoText, x3_NoText, x4_NoText, x5_NoText, x6_NoText, by rw [x7_NoText]; rfl⟩, ⟨PySem.W.mg_of X G a_NoThing, a_NoThing, x1_NoThing⟩, ⟨x2_NoThing, x3_NoThing, x4_NoThing, x5_NoThing, x6_NoThing, by rw [x7_NoThing]; rfl⟩, ⟨r1_Forest, r2_Forest, r3_Forest, r4_Forest⟩, n_Forest_nodes, n_Forest_spot_marks, r6_Forest, r9_Forest, ⟨r1_Row, r2_Row, r3_Row, r4_Row⟩, n_Row_spot_marks, r6_Row, r9_Row, ⟨r1_Table, r2_Table, r3_Table, r4_Table⟩, n_Table_columns, n_Table_lines, n_Table_spot_marks, r6_Table, r9_Table, r7, r8⟩
  have F_is_whole := fun_mk (st := s_is_whole) l_is_whole c_is_whole k_is_whole
  have D_is_whole : Def K mg "is_whole" s_is_whole ["thing"] f_is_whole _ := ⟨F_is_whole, PySem.W.mg_of X G a_is_whole, F_is_whole.binds (ps := ["thing"]) fun _ _ _ _ _ _ us hl => match us, hl with | [_], _ => rfl⟩
  have F_is_mark := fun_mk (st := s_is_mark) l_is_mark c_is_mark k_is_mark
  have D_is_mark : Def K mg "is_mark" s_is_mark ["thing"] f_is_mark _ := ⟨F_is_mark, PySem.W.mg_of X G a_is_mark, F_is_mark.binds (ps := ["thing"]) fun _ _ _ _ _ _ us hl => match us, hl with | [_], _ => rfl⟩
  have F_check_list := fun_mk (st := s_check_list) l_check_list c_check_list k_check_list
  have D_check_list : Def K mg "check_list" s_check_list ["thing", "most"] f_check_list _ := ⟨F_check_list, PySem.W.mg_of X G a_check_list, F_check_list.binds (ps := ["thing", "most"]) fun _ _ _ _ _ _ us hl => match us, hl with | [_, _], _ => rfl⟩
  have F_check_marks := fun_mk (st := s_check_marks) l_check_marks c_check_marks k_check_marks
  have D_check_marks : Def K mg "check_marks" s_check_marks ["marks", "most"] f_check_marks _ := ⟨F_check_marks, PySem.W.mg_of X G a_check_marks, F_check_marks.binds (ps := ["marks", "most"]) fun _ _ _ _ _ _ us hl => match us, hl with | [_, _], _ => rfl⟩
  have F_check_node := fun_mk (st := s_check_node) l_check_node c_check_node k_check_node
  have D_check_node : Def K mg "check_node" s_check_node ["node", "deepest"] f_check_node _ := ⟨F_check_node, PySem.W.mg_of X G a_check_node, F_check_node.binds (ps := ["node", "deepest"]) fun _ _ _ _ _ _ us hl => match us, hl with | [_, _], _ => rfl⟩
  have F_check_nodes := fun_mk (st := s_check_nodes) l_check_nodes c_check_nodes k_check_nodes
  have D_check_nodes : Def K mg "check_nodes" s_check_nodes ["nodes"] f_check_nodes _ := ⟨F_check_nodes, PySem.W.mg_of X G a_check_nodes, F_check_nodes.binds (ps := ["nodes"]) fun _ _ _ _ _ _ us hl => match us, hl with | [_], _ => rfl⟩
  have F_check_lines := fun_mk (st := s_check_lines) l_check_lines c_check_lines k_check_lines
  have D_check_lines : Def K mg "check_lines" s_check_lines ["lines"] f_check_lines _ := ⟨F_check_lines, PySem.W.mg_of X G a_check_lines, F_check_lines.binds (ps := ["lines"]) fun _ _ _ _ _ _ us hl => match us, hl with | [_], _ => rfl⟩
  have F_check_places := fun_mk (st := s_check_places) l_check_places c_check_places k_check_places
  have D_check_places : Def K mg "check_places" s_check_places ["places", "many"] f_check_places _ := ⟨F_check_places, PySem.W.mg_of X G a_check_places, F_check_places.binds (ps := ["places", "many"]) fun _ _ _ _ _ _ us hl => match us, hl with | [_, _], _ => rfl⟩
  have F_marks_at := fun_mk (st := s_marks_at) l_marks_at c_marks_at k_marks_at
  have D_marks_at : Def K mg "marks_at" s_marks_at ["marks", "places"] f_marks_at _ := ⟨F_marks_at, PySem.W.mg_of X G a_marks_at, F_marks_at.binds (ps := ["marks", "places"]) fun _ _ _ _ _ _ us hl => match us, hl with | [_, _], _ => rfl⟩
  have F_Thing_init := fun_mk (st := s_Thing_init) l_Thing_init c_Thing_init k_Thing_init
  have B_Thing_init : Binds K _ ["self", "spot_marks"] [] := F_Thing_init.binds (ps := ["self", "spot_marks"]) fun _ _ _ _ _ _ us hl => match us, hl with | [_, _], _ => rfl
  have F_Row_init := fun_mk (st := s_Row_init) l_Row_init c_Row_init k_Row_init
  have B_Row_init : Binds K _ ["self", "marks"] [] := F_Row_init.binds (ps := ["self", "marks"]) fun _ _ _ _ _ _ us hl => match us, hl with | [_, _], _ => rfl
  have F_Row_many := fun_mk (st := s_Row_many) l_Row_many c_Row_many k_Row_many
  have B_Row_many : Binds K _ ["self"] [] := F_Row_many.binds (ps := ["self"]) fun _ _ _ _ _ _ us hl => match us, hl with | [_], _ => rfl
  have F_Row_left := fun_mk (st := s_Row_left) l_Row_left c_Row_left k_Row_left
  have B_Row_left : Binds K _ ["self", "places"] [] := F_Row_left.binds (ps := ["self", "places"]) fun _ _ _ _ _ _ us hl => match us, hl with | [_, _], _ => rfl
  have F_Row_form := fun_mk (st := s_Row_form) l_Row_form c_Row_form k_Row_form
  have B_Row_form : Binds K _ ["self"] [] := F_Row_form.binds (ps := ["self"]) fun _ _ _ _ _ _ us hl => match us, hl with | [_], _ => rfl
  have F_Forest_init := fun_mk (st := s_Forest_init) l_Forest_init c_Forest_init k_Forest_init
  have B_Forest_init : Binds K _ ["self", "nodes"] [] := F_Forest_init.binds (ps := ["self", "nodes"]) fun _ _ _ _ _ _ us hl => match us, hl with | [_, _], _ => rfl
  have F_Forest_many := fun_mk (st := s_Forest_many) l_Forest_many c_Forest_many k_Forest_many
  have B_Forest_many : Binds K _ ["self"] [] := F_Forest_many.binds (ps := ["self"]) fun _ _ _ _ _ _ us hl => match us, hl with | [_], _ => rfl
  have F_Forest_left := fun_mk (st := s_Forest_left) l_Forest_left c_Forest_left k_Forest_left
  have B_Forest_left : Binds K _ ["self", "places"] [] := F_Forest_left.binds (ps := ["self", "places"]) fun _ _ _ _ _ _ us hl => match us, hl with | [_, _], _ => rfl
  have F_Forest_form := fun_mk (st := s_Forest_form) l_Forest_form c_Forest_form k_Forest_form
  have B_Forest_form : Binds K _ ["self"] [] := F_Forest_form.binds (ps := ["self"]) fun _ _ _ _ _ _ us hl => match us, hl with | [_], _ => rfl
  have F_Table_init := fun_mk (st := s_Table_init) l_Table_init c_Table_init k_Table_init
  have B_Table_init : Binds K _ ["self", "lines"] [] := F_Table_init.binds (ps := ["self", "lines"]) fun _ _ _ _ _ _ us hl => match us, hl with | [_, _], _ => rfl
  have F_Table_many := fun_mk (st := s_Table_many) l_Table_many c_Table_many k_Table_many
  have B_Table_many : Binds K _ ["self"] [] := F_Table_many.binds (ps := ["self"]) fun _ _ _ _ _ _ us hl => match us, hl with | [_], _ => rfl
  have F_Table_left := fun_mk (st := s_Table_left) l_Table_left c_Table_left k_Table_left
  have B_Table_left : Binds K _ ["self", "places"] [] := F_Table_left.binds (ps := ["self", "places"]) fun _ _ _ _ _ _ us hl => match us, hl with | [_, _], _ => rfl
  have F_Table_form := fun_mk (st := s_Table_form) l_Table_form c_Table_form k_Table_form
  have B_Table_form : Binds K _ ["self"] [] := F_Table_form.binds (ps := ["self"]) fun _ _ _ _ _ _ us hl => match us, hl with | [_], _ => rfl
  have F_show_line := fun_mk (st := s_show_line) l_show_line c_show_line k_show_line
  have D_show_line : Def K mg "show_line" s_show_line ["line"] f_show_line _ := ⟨F_show_line, PySem.W.mg_of X G a_show_line, F_show_line.binds (ps := ["line"]) fun _ _ _ _ _ _ us hl => match us, hl with | [_], _ => rfl⟩
  have F_show_nodes := fun_mk (st := s_show_nodes) l_show_nodes c_show_nodes k_show_nodes
  have D_show_nodes : Def K mg "show_nodes" s_show_nodes ["nodes"] f_show_nodes _ := ⟨F_show_nodes, PySem.W.mg_of X G a_show_nodes, F_show_nodes.binds (ps := ["nodes"]) fun _ _ _ _ _ _ us hl => match us, hl with | [_], _ => rfl⟩
  have F_show_thing := fun_mk (st := s_show_thing) l_show_thing c_show_thing k_show_thing
  have D_show_thing : Def K mg "show_thing" s_show_thing ["thing"] f_show_thing _ := ⟨F_show_thing, PySem.W.mg_of X G a_show_thing, F_show_thing.binds (ps := ["thing"]) fun _ _ _ _ _ _ us hl => match us, hl with | [_], _ => rfl⟩
  have F_nodes_in := fun_mk (st := s_nodes_in) l_nodes_in c_nodes_in k_nodes_in
  have D_nodes_in : Def K mg "nodes_in" s_nodes_in ["text"] f_nodes_in _ := ⟨F_nodes_in, PySem.W.mg_of X G a_nodes_in, F_nodes_in.binds (ps := ["text"]) fun _ _ _ _ _ _ us hl => match us, hl with | [_], _ => rfl⟩
  have F_lines_in := fun_mk (st := s_lines_in) l_lines_in c_lines_in k_lines_in
  have D_lines_in : Def K mg "lines_in" s_lines_in ["text"] f_lines_in _ := ⟨F_lines_in, PySem.W.mg_of X G a_lines_in, F_lines_in.binds (ps := ["text"]) fun _ _ _ _ _ _ us hl => match us, hl with | [_], _ => rfl⟩
  have F_marks_in := fun_mk (st := s_marks_in) l_marks_in c_marks_in k_marks_in
  have D_marks_in : Def K mg "marks_in" s_marks_in ["text"] f_marks_in _ := ⟨F_marks_in, PySem.W.mg_of X G a_marks_in, F_marks_in.binds (ps := ["text"]) fun _ _ _ _ _ _ us hl => match us, hl with | [_], _ => rfl⟩
  have F_made_of := fun_mk (st := s_made_of) l_made_of c_made_of k_made_of
  have D_made_of : Def K mg "made_of" s_made_of ["kind", "inside"] f_made_of _ := ⟨F_made_of, PySem.W.mg_of X G a_made_of, F_made_of.binds (ps := ["kind", "inside"]) fun _ _ _ _ _ _ us hl => match us, hl with | [_, _], _ => rfl⟩
  have F_read_thing := fun_mk (st := s_read_thing) l_read_thing c_read_thing k_read_thing
  have D_read_thing : Def K mg "read_thing" s_read_thing ["text"] f_read_thing _ := ⟨F_read_thing, PySem.W.mg_of X G a_read_thing, F_read_thing.binds (ps := ["text"]) fun _ _ _ _ _ _ us hl => match us, hl with | [_], _ => rfl⟩
  have F__law_cell_at := fun_mk (st := s__law_cell_at) l__law_cell_at c__law_cell_at k__law_cell_at
  have D__law_cell_at : Def K mg "_law_cell_at" s__law_cell_at ["_law_script", "_law_k"] f__law_cell_at _ := ⟨F__law_cell_at, PySem.W.mg_of X G a__law_cell_at, F__law_cell_at.binds (ps := ["_law_script", "_law_k"]) fun _ _ _ _ _ _ us hl => match us, hl with | [_, _], _ => rfl⟩
  have F__law_mix := fun_mk (st := s__law_mix) l__law_mix c__law_mix k__law_mix
  have D__law_mix : Def K mg "_law_mix" s__law_mix ["_law_seed", "_law_k"] f__law_mix _ := ⟨F__law_mix, PySem.W.mg_of X G a__law_mix, F__law_mix.binds (ps := ["_law_seed", "_law_k"]) fun _ _ _ _ _ _ us hl => match us, hl with | [_, _], _ => rfl⟩
  have F__law_how_many := fun_mk (st := s__law_how_many) l__law_how_many c__law_how_many k__law_how_many
  have D__law_how_many : Def K mg "_law_how_many" s__law_how_many ["_law_number"] f__law_how_many _ := ⟨F__law_how_many, PySem.W.mg_of X G a__law_how_many, F__law_how_many.binds (ps := ["_law_number"]) fun _ _ _ _ _ _ us hl => match us, hl with | [_], _ => rfl⟩
  have F__law_marks := fun_mk (st := s__law_marks) l__law_marks c__law_marks k__law_marks
  have D__law_marks : Def K mg "_law_marks" s__law_marks ["_law_cell", "_law_many"] f__law_marks _ := ⟨F__law_marks, PySem.W.mg_of X G a__law_marks, F__law_marks.binds (ps := ["_law_cell", "_law_many"]) fun _ _ _ _ _ _ us hl => match us, hl with | [_, _], _ => rfl⟩
  have F__law_pick := fun_mk (st := s__law_pick) l__law_pick c__law_pick k__law_pick
  have D__law_pick : Def K mg "_law_pick" s__law_pick ["_law_cell", "_law_marks_here"] f__law_pick _ := ⟨F__law_pick, PySem.W.mg_of X G a__law_pick, F__law_pick.binds (ps := ["_law_cell", "_law_marks_here"]) fun _ _ _ _ _ _ us hl => match us, hl with | [_, _], _ => rfl⟩
  have F__law_cells := fun_mk (st := s__law_cells) l__law_cells c__law_cells k__law_cells
  have D__law_cells : Def K mg "_law_cells" s__law_cells ["_law_script", "_law_begin", "_law_seed", "_law_many"] f__law_cells _ := ⟨F__law_cells, PySem.W.mg_of X G a__law_cells, F__law_cells.binds (ps := ["_law_script", "_law_begin", "_law_seed", "_law_many"]) fun _ _ _ _ _ _ us hl => match us, hl with | [_, _, _, _], _ => rfl⟩
  have F__law_lines := fun_mk (st := s__law_lines) l__law_lines c__law_lines k__law_lines
  have D__law_lines : Def K mg "_law_lines" s__law_lines ["_law_cells_here", "_law_marks_here", "_law_wide"] f__law_lines _ := ⟨F__law_lines, PySem.W.mg_of X G a__law_lines, F__law_lines.binds (ps := ["_law_cells_here", "_law_marks_here", "_law_wide"]) fun _ _ _ _ _ _ us hl => match us, hl with | [_, _, _], _ => rfl⟩
  have F__law_some := fun_mk (st := s__law_some) l__law_some c__law_some k__law_some
  have D__law_some : Def K mg "_law_some" s__law_some ["_law_cell", "_law_many"] f__law_some _ := ⟨F__law_some, PySem.W.mg_of X G a__law_some, F__law_some.binds (ps := ["_law_cell", "_law_many"]) fun _ _ _ _ _ _ us hl => match us, hl with | [_, _], _ => rfl⟩
  have F__law_table_by := fun_mk (st := s__law_table_by) l__law_table_by c__law_table_by k__law_table_by
  have D__law_table_by : Def K mg "_law_table_by" s__law_table_by ["_law_script", "_law_begin", "_law_marks_here"] f__law_table_by _ := ⟨F__law_table_by, PySem.W.mg_of X G a__law_table_by, F__law_table_by.binds (ps := ["_law_script", "_law_begin", "_law_marks_here"]) fun _ _ _ _ _ _ us hl => match us, hl with | [_, _, _], _ => rfl⟩
  have F__law_text := fun_mk (st := s__law_text) l__law_text c__law_text k__law_text
  have D__law_text : Def K mg "_law_text" s__law_text ["_law_form"] f__law_text _ := ⟨F__law_text, PySem.W.mg_of X G a__law_text, F__law_text.binds (ps := ["_law_form"]) fun _ _ _ _ _ _ us hl => match us, hl with | [_], _ => rfl⟩
  have F_law := fun_mk (st := s_law) l_law c_law k_law
  have D_law : Def K mg "law" s_law ["_law_script"] fa _ := ⟨F_law, PySem.W.mg_of X G a_law, F_law.binds (ps := ["_law_script"]) fun _ _ _ _ _ _ us hl => match us, hl with | [_], _ => rfl⟩
  have M_Forest : Mk K C_Forest f_Forest_init := ⟨m1_Forest, mi_Forest, n_Forest_init, m2_Forest⟩
  have M_Row : Mk K C_Row f_Row_init := ⟨m1_Row, mi_Row, n_Row_init, m2_Row⟩
  have M_Table : Mk K C_Table f_Table_init := ⟨m1_Table, mi_Table, n_Table_init, m2_Table⟩
  have CM_Thing_init : ClsM K C_Thing "__init__" f_Thing_init := ⟨th1_Thing, th2_Thing, a_Thing_init, k_Thing_init⟩
  have ME_Row_many : Meth K C_Row "many" f_Row_many := ⟨i_Row_many, n_Row_many, k_Row_many⟩
  have ME_Forest_many : Meth K C_Forest "many" f_Forest_many := ⟨i_Forest_many, n_Forest_many, k_Forest_many⟩
  have ME_Table_many : Meth K C_Table "many" f_Table_many := ⟨i_Table_many, n_Table_many, k_Table_many⟩
  have ME_Row_form : Meth K C_Row "form" f_Row_form := ⟨i_Row_form, n_Row_form, k_Row_form⟩
  have ME_Forest_form : Meth K C_Forest "form" f_Forest_form := ⟨i_Forest_form, n_Forest_form, k_Forest_form⟩
  have ME_Table_form : Meth K C_Table "form" f_Table_form := ⟨i_Table_form, n_Table_form, k_Table_form⟩
  have ME_Row_left : Meth K C_Row "left" f_Row_left := ⟨i_Row_left, n_Row_left, k_Row_left⟩
  have ME_Forest_left : Meth K C_Forest "left" f_Forest_left := ⟨i_Forest_left, n_Forest_left, k_Forest_left⟩
  have ME_Table_left : Meth K C_Table "left" f_Table_left := ⟨i_Table_left, n_Table_left, k_Table_left⟩
  refine ⟨PySem.W.fnOf "law" "law" (defArgs s_law) (defBody s_law) (defScope s_law) .none kV_law dc_law pm_law an_law cd_law ct_law, fun s v => .of_eq rfl, fun base _ _ => ?_⟩
  have G_is_whole : FnOk l.prog w K mg base CX0 1 f_is_whole _ ["thing"] sp_is_whole := ok_is_whole D_is_whole T
  have G_is_mark : FnOk l.prog w K mg base CX0 1 f_is_mark _ ["thing"] sp_is_mark := ok_is_mark D_is_mark T
  have G_check_list : FnOk l.prog w K mg base (CX1 l.prog w) 1 f_check_list _ ["thing", "most"] (sp_check_list ⟨C_ShrinkError, C_NoThing, C_NoPlace, C_NoText, C_Thing, C_Row, C_Forest, C_Table⟩) := ok_check_list D_check_list T
  have G_check_marks : FnOk l.prog w K mg base (CX1 l.prog w) 2 f_check_marks _ ["marks", "most"] (sp_check_marks ⟨C_ShrinkError, C_NoThing, C_NoPlace, C_NoText, C_Thing, C_Row, C_Forest, C_Table⟩) := ok_check_marks D_check_marks T G_check_list G_is_mark D_check_list D_is_mark
  have G_check_node : FnOk l.prog w K mg base (CX1 l.prog w) 2 f_check_node _ ["node", "deepest"] (sp_check_node ⟨C_ShrinkError, C_NoThing, C_NoPlace, C_NoText, C_Thing, C_Row, C_Forest, C_Table⟩) := ok_check_node D_check_node T G_is_mark G_is_whole D_is_mark D_is_whole
  have G_check_nodes : FnOk l.prog w K mg base (CX1 l.prog w) 3 f_check_nodes _ ["nodes"] (sp_check_nodes ⟨C_ShrinkError, C_NoThing, C_NoPlace, C_NoText, C_Thing, C_Row, C_Forest, C_Table⟩) := ok_check_nodes D_check_nodes T G_check_list G_check_node D_check_list D_check_node
  have G_check_lines : FnOk l.prog w K mg base (CX1 l.prog w) 3 f_check_lines _ ["lines"] (sp_check_lines ⟨C_ShrinkError, C_NoThing, C_NoPlace, C_NoText, C_Thing, C_Row, C_Forest, C_Table⟩) := ok_check_lines D_check_lines T G_check_list G_check_marks D_check_list D_check_marks
  have G_check_places : FnOk l.prog w K mg base (CX1 l.prog w) 2 f_check_places _ ["places", "many"] (sp_check_places ⟨C_ShrinkError, C_NoThing, C_NoPlace, C_NoText, C_Thing, C_Row, C_Forest, C_Table⟩) := ok_check_places D_check_places T G_is_whole D_is_whole
  have G_marks_at : FnOk l.prog w K mg base CX0 1 f_marks_at _ ["marks", "places"] sp_marks_at := ok_marks_at D_marks_at T
  have G_Thing_init : FnOk l.prog w K mg base CX0 1 f_Thing_init _ ["self", "spot_marks"] (sp_Thing_init ⟨C_ShrinkError, C_NoThing, C_NoPlace, C_NoText, C_Thing, C_Row, C_Forest, C_Table⟩) := ok_Thing_init F_Thing_init T
  have G_Row_init : FnOk l.prog w K mg base (CX1 l.prog w) 3 f_Row_init _ ["self", "marks"] (sp_Row_init ⟨C_ShrinkError, C_NoThing, C_NoPlace, C_NoText, C_Thing, C_Row, C_Forest, C_Table⟩) := ok_Row_init F_Row_init T G_check_marks G_Thing_init D_check_marks B_Thing_init CM_Thing_init
  have G_Row_many : FnOk l.prog w K mg base CX0 1 f_Row_many _ ["self"] (sp_Row_many ⟨C_ShrinkError, C_NoThing, C_NoPlace, C_NoText, C_Thing, C_Row, C_Forest, C_Table⟩) := ok_Row_many F_Row_many T
  have G_Row_left : FnOk l.prog w K mg base (CX1 l.prog w) 5 f_Row_left _ ["self", "places"] (sp_Row_left ⟨C_ShrinkError, C_NoThing, C_NoPlace, C_NoText, C_Thing, C_Row, C_Forest, C_Table⟩) := ok_Row_left F_Row_left T G_check_places G_Row_many G_Row_init G_marks_at D_check_places D_marks_at B_Row_many B_Row_init ME_Row_many M_Row
  have G_Row_form : FnOk l.prog w K mg base CX0 1 f_Row_form _ ["self"] (sp_Row_form ⟨C_ShrinkError, C_NoThing, C_NoPlace, C_NoText, C_Thing, C_Row, C_Forest, C_Table⟩) := ok_Row_form F_Row_form T
  have G_Forest_init : FnOk l.prog w K mg base (CX1 l.prog w) 4 f_Forest_init _ ["self", "nodes"] (sp_Forest_init ⟨C_ShrinkError, C_NoThing, C_NoPlace, C_NoText, C_Thing, C_Row, C_Forest, C_Table⟩) := ok_Forest_init F_Forest_init T G_check_nodes G_Thing_init D_check_nodes B_Thing_init CM_Thing_init
  have G_Forest_many : FnOk l.prog w K mg base CX0 1 f_Forest_many _ ["self"] (sp_many ⟨C_ShrinkError, C_NoThing, C_NoPlace, C_NoText, C_Thing, C_Row, C_Forest, C_Table⟩) := ok_Forest_many F_Forest_many T
  have G_Forest_left : FnOk l.prog w K mg base (CX1 l.prog w) 6 f_Forest_left _ ["self", "places"] (sp_Forest_left ⟨C_ShrinkError, C_NoThing, C_NoPlace, C_NoText, C_Thing, C_Row, C_Forest, C_Table⟩) := ok_Forest_left F_Forest_left T G_check_places G_Forest_many G_Forest_init D_check_places B_Forest_many B_Forest_init ME_Forest_many M_Forest
  have G_Forest_form : FnOk l.prog w K mg base CX0 1 f_Forest_form _ ["self"] (sp_form ⟨C_ShrinkError, C_NoThing, C_NoPlace, C_NoText, C_Thing, C_Row, C_Forest, C_Table⟩) := ok_Forest_form F_Forest_form T
  have G_Table_init : FnOk l.prog w K mg base (CX1 l.prog w) 4 f_Table_init _ ["self", "lines"] (sp_Table_init ⟨C_ShrinkError, C_NoThing, C_NoPlace, C_NoText, C_Thing, C_Row, C_Forest, C_Table⟩) := ok_Table_init F_Table_init T G_check_lines G_Thing_init D_check_lines B_Thing_init CM_Thing_init
  have G_Table_many : FnOk l.prog w K mg base CX0 1 f_Table_many _ ["self"] (sp_Table_many ⟨C_ShrinkError, C_NoThing, C_NoPlace, C_NoText, C_Thing, C_Row, C_Forest, C_Table⟩) := ok_Table_many F_Table_many T
  have G_Table_left : FnOk l.prog w K mg base (CX1 l.prog w) 6 f_Table_left _ ["self", "places"] (sp_Table_left ⟨C_ShrinkError, C_NoThing, C_NoPlace, C_NoText, C_Thing, C_Row, C_Forest, C_Table⟩) := ok_Table_left F_Table_left T G_check_places G_Table_many G_Table_init G_marks_at D_check_places D_marks_at B_Table_many B_Table_init ME_Table_many M_Table
  have G_Table_form : FnOk l.prog w K mg base CX0 1 f_Table_form _ ["self"] (sp_Table_form ⟨C_ShrinkError, C_NoThing, C_NoPlace, C_NoText, C_Thing, C_Row, C_Forest, C_Table⟩) := ok_Table_form F_Table_form T
  have G_show_line : FnOk l.prog w K mg base CX0 1 f_show_line _ ["line"] (sp_show_line K) := ok_show_line D_show_line T
  have G_show_nodes : FnOk l.prog w K mg base CX0 1 f_show_nodes _ ["nodes"] sp_show_nodes := ok_show_nodes D_show_nodes T
  have G_show_thing : FnOk l.prog w K mg base CX0 2 f_show_thing _ ["thing"] (sp_show_thing ⟨C_ShrinkError, C_NoThing, C_NoPlace, C_NoText, C_Thing, C_Row, C_Forest, C_Table⟩) := ok_show_thing D_show_thing T G_Row_form G_Forest_form G_Table_form G_show_nodes G_show_line D_show_nodes D_show_line B_Row_form B_Forest_form B_Table_form ME_Row_form ME_Forest_form ME_Table_form
  have G_nodes_in : FnOk l.prog w K mg base CX0 1 f_nodes_in _ ["text"] sp_nodes_in := ok_nodes_in D_nodes_in T
  have G_lines_in : FnOk l.prog w K mg base CX0 1 f_lines_in _ ["text"] sp_lines_in := ok_lines_in D_lines_in T
  have G_marks_in : FnOk l.prog w K mg base CX0 1 f_marks_in _ ["text"] sp_marks_in := ok_marks_in D_marks_in T
  have G_made_of : FnOk l.prog w K mg base (CX1 l.prog w) 6 f_made_of _ ["kind", "inside"] (sp_made_of ⟨C_ShrinkError, C_NoThing, C_NoPlace, C_NoText, C_Thing, C_Row, C_Forest, C_Table⟩) := ok_made_of D_made_of T G_Row_init G_marks_in G_Forest_init G_nodes_in G_Table_init G_lines_in D_marks_in D_nodes_in D_lines_in B_Row_init B_Forest_init B_Table_init M_Row M_Forest M_Table
  have G_read_thing : FnOk l.prog w K mg base (CX1 l.prog w) 7 f_read_thing _ ["text"] (sp_read_thing ⟨C_ShrinkError, C_NoThing, C_NoPlace, C_NoText, C_Thing, C_Row, C_Forest, C_Table⟩) := ok_read_thing D_read_thing T G_made_of G_show_thing D_made_of D_show_thing
  have G__law_cell_at : FnOk l.prog w K mg base CX0 1 f__law_cell_at _ ["_law_script", "_law_k"] (sp__law_cell_at K) := ok__law_cell_at D__law_cell_at T
  have G__law_mix : FnOk l.prog w K mg base CX0 1 f__law_mix _ ["_law_seed", "_law_k"] sp__law_mix := ok__law_mix D__law_mix T
  have G__law_how_many : FnOk l.prog w K mg base CX0 1 f__law_how_many _ ["_law_number"] sp__law_how_many := ok__law_how_many D__law_how_many T
  have G__law_marks : FnOk l.prog w K mg base CX0 1 f__law_marks _ ["_law_cell", "_law_many"] sp__law_marks := ok__law_marks D__law_marks T
  have G__law_pick : FnOk l.prog w K mg base CX0 1 f__law_pick _ ["_law_cell", "_law_marks_here"] sp__law_pick := ok__law_pick D__law_pick T
  have G__law_cells : FnOk l.prog w K mg base CX0 2 f__law_cells _ ["_law_script", "_law_begin", "_law_seed", "_law_many"] (sp__law_cells K) := ok__law_cells D__law_cells T G__law_mix D__law_mix
  have G__law_lines : FnOk l.prog w K mg base CX0 2 f__law_lines _ ["_law_cells_here", "_law_marks_here", "_law_wide"] sp__law_lines := ok__law_lines D__law_lines T G__law_pick D__law_pick
  have G__law_some : FnOk l.prog w K mg base CX0 2 f__law_some _ ["_law_cell", "_law_many"] sp__law_some := ok__law_some D__law_some T G__law_mix D__law_mix
  have G__law_table_by : FnOk l.prog w K mg base CX0 3 f__law_table_by _ ["_law_script", "_law_begin", "_law_marks_here"] (sp__law_table_by K) := ok__law_table_by D__law_table_by T G__law_cell_at G__law_pick G__law_lines G__law_mix D__law_cell_at D__law_pick D__law_lines D__law_mix
  have G__law_text : FnOk l.prog w K mg base CX0 1 f__law_text _ ["_law_form"] sp__law_text := ok__law_text D__law_text T
  exact ok_law D_law T G__law_cell_at G__law_marks G__law_how_many G_Row_init G__law_cells G__law_pick G_Table_init G__law_table_by G_Row_left G__law_some G_Row_many G_Forest_many G_Table_many G_Forest_left G_Table_left G_Row_form G_Forest_form G_Table_form G_show_thing G__law_text G_read_thing D__law_cell_at D__law_marks D__law_how_many D__law_cells D__law_pick D__law_table_by D__law_some D_show_thing D__law_text D_read_thing B_Row_init B_Table_init B_Row_left B_Row_many B_Forest_many B_Table_many B_Forest_left B_Table_left B_Row_form B_Forest_form B_Table_form ME_Row_left ME_Row_many ME_Forest_many ME_Table_many ME_Forest_left ME_Table_left ME_Row_form ME_Forest_form ME_Table_form M_Row M_Table
theorem walk {l : PySem.W.OpenLaw} {q : Program} {loose : List Str} {XP : (Str → Option Value) → Heap → Prop} {YP : World → Heap → Prop} {d : DefRec} {K : Params → PySem.W.Frag} (hn : l.most = some 63) (hdf : d.params.defaults = [])
    (hY : ∀ (w : World) (h : Heap), YP w h → (K w.params).In h)
    (F : ∀ (w : World) (mg : Str → Option Value) (fa : Addr) (h : Heap), (K w.params).In h → h.Ns mainGlobals mg → mg d.name = some (.ref fa) →
      ∃ fd : FuncData, (∀ (s : Shared) (u : Value), BindsTo s fd ⟨[u], []⟩ [("_law_script", u)]) ∧ ∀ base : Heap, (K w.params).In base → base.Ns mainGlobals mg → FnOk l.prog w (K w.params) mg base CX0 8 fa fd ["_law_script"] (sp_law (K w.params))) :
    PySem.W.WalkO q loose XP YP l.row.toRowW d [] (fun f vs => PySem.call f vs) :=
  L2.walk_of (n := 63) (k := 8) (x := "_law_script") (CX := fun _ => CX0) (sp := fun w => sp_law (K w.params)) hn (by decide) hdf ⟨rfl, by decide, by decide⟩ hY F (fun _ _ a ns hl _ hS => ⟨a, ns, rfl, hS, hl, fun _ => rfl⟩) fun _ _ _ _ _ z => z
end K34
def PySem.W.Fast.tw4744250516867050861 : Nat := 0
def PySem.W.Fast.tw5739652983529668870 : Nat := 0
def PySem.W.Fast.tw1309112412898977196 : Nat := 0
def PySem.W.Fast.tw14336582941955431691 : Nat := 0
def PySem.W.Fast.tw7197929376628285375 : Nat := 0
def PySem.W.Fast.tw10486575245804487660 : Nat := 0
def PySem.W.Fast.tw4089086812471023651 : Nat := 0
def PySem.W.Fast.tw2884440521081413941 : Nat := 0
def PySem.W.Fast.tw5071851678785652682 : Nat := 0
def PySem.W.Fast.tw14099946921204314502 : Nat := 0
def PySem.W.Fast.tw7252413314228559775 : Nat := 0
def PySem.W.Fast.tw4829465502731166050 : Nat := 0
def PySem.W.Fast.tw5521538078328953833 : Nat := 0
def PySem.W.Fast.tw8703115424186873322 : Nat := 0
def PySem.W.Fast.tw3772970443994309873 : Nat := 0
def PySem.W.Fast.tw16532572323847963128 : Nat := 0
def PySem.W.Fast.tw12550535991168350262 : Nat := 0
def PySem.W.Fast.tw4596437632425073565 : Nat := 0
def PySem.W.Fast.tw3888641471776899236 : Nat := 0
def PySem.W.Fast.tw2474650765529950865 : Nat := 0
def PySem.W.Fast.tw15389111916022174370 : Nat := 0
def PySem.W.Fast.tw6929311599672620136 : Nat := 0
def PySem.W.Fast.tw12414329560191184429 : Nat := 0
def PySem.W.Fast.tw13706192197625817396 : Nat := 0
def PySem.W.Fast.tw10817746470425801763 : Nat := 0
def PySem.W.Fast.tw17956166733678841235 : Nat := 0
def PySem.W.Fast.tw3288871401326901844 : Nat := 0
def PySem.W.Fast.tw1388426677714439290 : Nat := 0
open PySem PySem.W PyProof.Rows
set_option maxRecDepth 100000 in
set_option maxHeartbeats 0 in
theorem PySem.Challenge.cw_shrinkhouse_k34_rows_and_tables_as_texts_holds : PySem.Challenge.rw_shrinkhouse_k34_rows_and_tables_as_texts.Holds := by
  w_on; o_law; k_head; (case hw => w_witness2)
  k_fill
  refine K34.walk (l := PySem.Challenge.rw_shrinkhouse_k34_rows_and_tables_as_texts) rfl rfl (fun w h Y => PySem.W.kIn_of Y) ?F
  case F =>
    intro w mg fa h KX G hmg
    refine' K34.all_mk KX G hmg ?a_ShrinkError ?a_NoThing ?a_NoPlace ?a_NoText ?a_Thing ?a_Row ?a_Forest ?a_Table ?a_is_whole ?l_is_whole ?c_is_whole ?k_is_whole ?a_is_mark ?l_is_mark ?c_is_mark ?k_is_mark ?a_check_list ?l_check_list ?c_check_list ?k_check_list ?a_check_marks ?l_check_marks ?c_check_marks ?k_check_marks ?a_check_node ?l_check_node ?c_check_node ?k_check_node ?a_check_nodes ?l_check_nodes ?c_check_nodes ?k_check_nodes ?a_check_lines ?l_check_lines ?c_check_lines ?k_check_lines ?a_check_places ?l_check_places ?c_check_places ?k_check_places ?a_marks_at ?l_marks_at ?c_marks_at ?k_marks_at ?a_Thing_init ?l_Thing_init ?c_Thing_init ?k_Thing_init ?n_Thing_init ?l_Row_init ?c_Row_init ?k_Row_init ?n_Row_init ?i_Row_many ?l_Row_many ?c_Row_many ?k_Row_many ?n_Row_many ?i_Row_left ?l_Row_left ?c_Row_left ?k_Row_left ?n_Row_left ?i_Row_form ?l_Row_form ?c_Row_form ?k_Row_form ?n_Row_form ?l_Forest_init ?c_Forest_init ?k_Forest_init ?n_Forest_init ?i_Forest_many ?l_Forest_many ?c_Forest_many ?k_Forest_many ?n_Forest_many ?i_Forest_left ?l_Forest_left ?c_Forest_left ?k_Forest_left ?n_Forest_left ?i_Forest_form ?l_Forest_form ?c_Forest_form ?k_Forest_form ?n_Forest_form ?l_Table_init ?c_Table_init ?k_Table_init ?n_Table_init ?i_Table_many ?l_Table_many ?c_Table_many ?k_Table_many ?n_Table_many ?i_Table_left ?l_Table_left ?c_Table_left ?k_Table_left ?n_Table_left ?i_Table_form ?l_Table_form ?c_Table_form ?k_Table_form ?n_Table_form ?a_show_line ?l_show_line ?c_show_line ?k_show_line ?a_show_nodes ?l_show_nodes ?c_show_nodes ?k_show_nodes ?a_show_thing ?l_show_thing ?c_show_thing ?k_show_thing ?a_nodes_in ?l_nodes_in ?c_nodes_in ?k_nodes_in ?a_lines_in ?l_lines_in ?c_lines_in ?k_lines_in ?a_marks_in ?l_marks_in ?c_marks_in ?k_marks_in ?a_made_of ?l_made_of ?c_made_of ?k_made_of ?a_read_thing ?l_read_thing ?c_read_thing ?k_read_thing ?a__law_cell_at ?l__law_cell_at ?c__law_cell_at ?k__law_cell_at ?a__law_mix ?l__law_mix ?c__law_mix ?k__law_mix ?a__law_how_many ?l__law_how_many ?c__law_how_many ?k__law_how_many ?a__law_marks ?l__law_marks ?c__law_marks ?k__law_marks ?a__law_pick ?l__law_pick ?c__law_pick ?k__law_pick ?a__law_cells ?l__law_cells ?c__law_cells ?k__law_cells ?a__law_lines ?l__law_lines ?c__law_lines ?k__law_lines ?a__law_some ?l__law_some ?c__law_some ?k__law_some ?a__law_table_by ?l__law_table_by ?c__law_table_by ?k__law_table_by ?a__law_text ?l__law_text ?c__law_text ?k__law_text ?a_law ?l_law ?c_law ?k_law ?z_all ?z_bool ?z_dict ?z_enumerate ?z_int ?z_isinstance ?z_len ?z_list ?z_max ?z_min ?z_range ?z_str ?z_tuple ?g_LETTERS ?g_LONGEST_MARK ?g_MOST_IN_ROW ?g_MOST_NODES ?g_DEEPEST ?g_MOST_LINES ?g_MOST_COLUMNS ?x1_NoPlace ?x2_NoPlace ?x3_NoPlace ?x4_NoPlace ?x5_NoPlace ?x6_NoPlace ?x7_NoPlace ?x1_NoText ?x2_NoText ?x3_NoText ?x4_NoText ?x5_NoText ?x6_NoText ?x7_NoText ?x1_NoThing ?x2_NoThing ?x3_NoThing ?x4_NoThing ?x5_NoThing ?x6_NoThing ?x7_NoThing ?r1_Forest ?r2_Forest ?r3_Forest ?r4_Forest ?n_Forest_nodes ?n_Forest_spot_marks ?r6_Forest ?r9_Forest ?r1_Row ?r2_Row ?r3_Row ?r4_Row ?n_Row_spot_marks ?r6_Row ?r9_Row ?r1_Table ?r2_Table ?r3_Table ?r4_Table ?n_Table_columns ?n_Table_lines ?n_Table_spot_marks ?r6_Table ?r9_Table ?r7 ?r8 ?mi_Forest ?m1_Forest ?m2_Forest ?mi_Row ?m1_Row ?m2_Row ?mi_Table ?m1_Table ?m2_Table ?th1_Thing ?th2_Thing
    (case a_ShrinkError => k_is)
    (case a_NoThing => k_is)
    (case a_NoPlace => k_is)
    (case a_NoText => k_is)
    (case a_Thing => k_is)
    (case a_Row => k_is)
    (case a_Forest => k_is)
    (case a_Table => k_is)
    (case a_is_whole => k_is)
    (case a_is_mark => k_is)
    (case a_check_list => k_is)
    (case a_check_marks => k_is)
    (case a_check_node => k_is)
    (case a_check_nodes => k_is)
    (case a_check_lines => k_is)
    (case a_check_places => k_is)
    (case a_marks_at => k_is)
    (case a_Thing_init => k_is)
    (case a_show_line => k_is)
    (case a_show_nodes => k_is)
    (case a_show_thing => k_is)
    (case a_nodes_in => k_is)
    (case a_lines_in => k_is)
    (case a_marks_in => k_is)
    (case a_made_of => k_is)
    (case a_read_thing => k_is)
    (case a__law_cell_at => k_is)
    (case a__law_mix => k_is)
    (case a__law_how_many => k_is)
    (case a__law_marks => k_is)
    (case a__law_pick => k_is)
    (case a__law_cells => k_is)
    (case a__law_lines => k_is)
    (case a__law_some => k_is)
    (case a__law_table_by => k_is)
    (case a__law_text => k_is)
    (case a_law => k_is)
    (case mi_Forest => k_is)
    (case mi_Row => k_is)
    (case mi_Table => k_is)
    (case l_is_whole => k_is)
    (case c_is_whole => k_is)
    (case k_is_whole => k_is)
    (case l_is_mark => k_is)
    (case c_is_mark => k_is)
    (case k_is_mark => k_is)
    (case l_check_list => k_is)
    (case c_check_list => k_is)
    (case k_check_list => k_is)
    (case l_check_marks => k_is)
    (case c_check_marks => k_is)
    (case k_check_marks => k_is)
    (case l_check_node => k_is)
    (case c_check_node => k_is)
    (case k_check_node => k_is)
    (case l_check_nodes => k_is)
    (case c_check_nodes => k_is)
    (case k_check_nodes => k_is)
    (case l_check_lines => k_is)
    (case c_check_lines => k_is)
    (case k_check_lines => k_is)
    (case l_check_places => k_is)
    (case c_check_places => k_is)
    (case k_check_places => k_is)
    (case l_marks_at => k_is)
    (case c_marks_at => k_is)
    (case k_marks_at => k_is)
    (case l_Thing_init => k_is)
    (case c_Thing_init => k_is)
    (case k_Thing_init => k_is)
    (case n_Thing_init => k_is)
    (case l_Row_init => k_is)
    (case c_Row_init => k_is)
    (case k_Row_init => k_is)
    (case n_Row_init => k_is)
    (case i_Row_many => k_is)
    (case l_Row_many => k_is)
    (case c_Row_many => k_is)
    (case k_Row_many => k_is)
    (case n_Row_many => k_is)
    (case i_Row_left => k_is)
    (case l_Row_left => k_is)
    (case c_Row_left => k_is)
    (case k_Row_left => k_is)
    (case n_Row_left => k_is)
    (case i_Row_form => k_is)
    (case l_Row_form => k_is)
    (case c_Row_form => k_is)
    (case k_Row_form => k_is)
    (case n_Row_form => k_is)
    (case l_Forest_init => k_is)
    (case c_Forest_init => k_is)
    (case k_Forest_init => k_is)
    (case n_Forest_init => k_is)
    (case i_Forest_many => k_is)
    (case l_Forest_many => k_is)
    (case c_Forest_many => k_is)
    (case k_Forest_many => k_is)
    (case n_Forest_many => k_is)
    (case i_Forest_left => k_is)
    (case l_Forest_left => k_is)
    (case c_Forest_left => k_is)
    (case k_Forest_left => k_is)
    (case n_Forest_left => k_is)
    (case i_Forest_form => k_is)
    (case l_Forest_form => k_is)
    (case c_Forest_form => k_is)
    (case k_Forest_form => k_is)
    (case n_Forest_form => k_is)
    (case l_Table_init => k_is)
    (case c_Table_init => k_is)
    (case k_Table_init => k_is)
    (case n_Table_init => k_is)
    (case i_Table_many => k_is)
    (case l_Table_many => k_is)
    (case c_Table_many => k_is)
    (case k_Table_many => k_is)
    (case n_Table_many => k_is)
    (case i_Table_left => k_is)
    (case l_Table_left => k_is)
    (case c_Table_left => k_is)
    (case k_Table_left => k_is)
    (case n_Table_left => k_is)
    (case i_Table_form => k_is)
    (case l_Table_form => k_is)
    (case c_Table_form => k_is)
    (case k_Table_form => k_is)
    (case n_Table_form => k_is)
    (case l_show_line => k_is)
    (case c_show_line => k_is)
    (case k_show_line => k_is)
    (case l_show_nodes => k_is)
    (case c_show_nodes => k_is)
    (case k_show_nodes => k_is)
    (case l_show_thing => k_is)
    (case c_show_thing => k_is)
    (case k_show_thing => k_is)
    (case l_nodes_in => k_is)
    (case c_nodes_in => k_is)
    (case k_nodes_in => k_is)
    (case l_lines_in => k_is)
    (case c_lines_in => k_is)
    (case k_lines_in => k_is)
    (case l_marks_in => k_is)
    (case c_marks_in => k_is)
    (case k_marks_in => k_is)
    (case l_made_of => k_is)
    (case c_made_of => k_is)
    (case k_made_of => k_is)
    (case l_read_thing => k_is)
    (case c_read_thing => k_is)
    (case k_read_thing => k_is)
    (case l__law_cell_at => k_is)
    (case c__law_cell_at => k_is)
    (case k__law_cell_at => k_is)
    (case l__law_mix => k_is)
    (case c__law_mix => k_is)
    (case k__law_mix => k_is)
    (case l__law_how_many => k_is)
    (case c__law_how_many => k_is)
    (case k__law_how_many => k_is)
    (case l__law_marks => k_is)
    (case c__law_marks => k_is)
    (case k__law_marks => k_is)
    (case l__law_pick => k_is)
    (case c__law_pick => k_is)
    (case k__law_pick => k_is)
    (case l__law_cells => k_is)
    (case c__law_cells => k_is)
    (case k__law_cells => k_is)
    (case l__law_lines => k_is)
    (case c__law_lines => k_is)
    (case k__law_lines => k_is)
    (case l__law_some => k_is)
    (case c__law_some => k_is)
    (case k__law_some => k_is)
    (case l__law_table_by => k_is)
    (case c__law_table_by => k_is)
    (case k__law_table_by => k_is)
    (case l__law_text => k_is)
    (case c__law_text => k_is)
    (case k__law_text => k_is)
    (case l_law => k_is)
    (case c_law => k_is)
    (case k_law => k_is)
    (case z_all => k_is)
    (case z_bool => k_is)
    (case z_dict => k_is)
    (case z_enumerate => k_is)
    (case z_int => k_is)
    (case z_isinstance => k_is)
    (case z_len => k_is)
    (case z_list => k_is)
    (case z_max => k_is)
    (case z_min => k_is)
    (case z_range => k_is)
    (case z_str => k_is)
    (case z_tuple => k_is)
    (case g_LETTERS => k_is)
    (case g_LONGEST_MARK => k_is)
    (case g_MOST_IN_ROW => k_is)
    (case g_MOST_NODES => k_is)
    (case g_DEEPEST => k_is)
    (case g_MOST_LINES => k_is)
    (case g_MOST_COLUMNS => k_is)
    (case x1_NoPlace => k_exc)
    (case x2_NoPlace => k_is)
    (case x3_NoPlace => k_is)
    (case x4_NoPlace => k_is)
    (case x5_NoPlace => k_is)
    (case x6_NoPlace => k_is)
    (case x7_NoPlace => k_is)
    (case x1_NoText => k_exc)
    (case x2_NoText => k_is)
    (case x3_NoText => k_is)
    (case x4_NoText => k_is)
    (case x5_NoText => k_is)
    (case x6_NoText => k_is)
    (case x7_NoText => k_is)
    (case x1_NoThing => k_exc)
    (case x2_NoThing => k_is)
    (case x3_NoThing => k_is)
    (case x4_NoThing => k_is)
    (case x5_NoThing => k_is)
    (case x6_NoThing => k_is)
    (case x7_NoThing => k_is)
    (case r1_Forest => k_is)
    (case r2_Forest => k_is)
    (case r3_Forest => k_is)
    (case r4_Forest => k_is)
    (case n_Forest_nodes => k_is)
    (case n_Forest_spot_marks => k_is)
    (case r6_Forest => k_is)
    (case r9_Forest => k_is)
    (case r1_Row => k_is)
    (case r2_Row => k_is)
    (case r3_Row => k_is)
    (case r4_Row => k_is)
    (case n_Row_spot_marks => k_is)
    (case r6_Row => k_is)
    (case r9_Row => k_is)
    (case r1_Table => k_is)
    (case r2_Table => k_is)
    (case r3_Table => k_is)
    (case r4_Table => k_is)
    (case n_Table_columns => k_is)
    (case n_Table_lines => k_is)
    (case n_Table_spot_marks => k_is)
    (case r6_Table => k_is)
    (case r9_Table => k_is)
    (case r7 => k_is)
    (case r8 => k_is)
    (case m1_Forest => k_is)
    (case m2_Forest => k_is)
    (case m1_Row => k_is)
    (case m2_Row => k_is)
    (case m1_Table => k_is)
    (case m2_Table => k_is)
    (case th1_Thing => k_is)
    (case th2_Thing => k_is)
#print axioms PySem.Challenge.cw_shrinkhouse_k34_rows_and_tables_as_texts_holds
